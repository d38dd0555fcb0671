/-
  Steps of the proof (texts laid together, blanks left out): TgJ, TgK, TgL, TgM, TgO, TgS.
-/
import Derived.Test.YtfkhljmiehdgmaaGreatDoorTaAJ
import Derived.Shelf.Strings.SlTrimAscii
namespace Go.Proofs.YtfkhljmiehdgmaaGreatDoor
open Go.RowKit
set_option maxRecDepth 100000 in
set_option maxHeartbeats 3200000 in
theorem qr2 (w:World) (B g:Nat) (t:List UInt8) (c:Pl.Ct) (vp vo:Value) (h:CtAt w B g t c vp vo) (k:Nat) (n op cl:List UInt8) (a:Nat) (hk:k=3∨k=4) (h6:c.opened.length<6) (hn:c.parts.length≤4000) :
  Calls Tryz.prog 152 #[.pointer (some ⟨g,0,none⟩),qdl ⟨k,0,n,op,cl⟩,.int .i64 a] w fun e w'=>e=.returned (.int .i64 (0:Nat))∧CtTo w w' B g t { c with parts:=c.parts++[⟨k,a,n,0⟩],opened:=c.opened++[c.parts.length] }:=by
 obtain⟨i0,hi,hz0,hz1,hz2⟩:=info_parts qkk
 obtain⟨i1,hj,hy0,hy1,hy2⟩:=info_parts q1j
 obtain⟨ao,cap,hvo⟩:=qes h.opened
 obtain⟨ap,capp,hvp⟩:=qes h.parts
 have b3:=h.two 3 _ rfl
 have b4:=h.two 4 _ rfl
 have f4:=h.two' 4
 have b3':∀ o o' o'',(((w.alloc o).alloc o').alloc o'').cell? ⟨g,3,none⟩=some vp:=fun o o' o''=>(((h.alloc o).alloc o').alloc o'').cell 3 _ rfl
 have b4':∀ o o' o'',(((w.alloc o).alloc o').alloc o'').cell? ⟨g,4,none⟩=some vo:=fun o o' o''=>(((h.alloc o).alloc o').alloc o'').cell 4 _ rfl
 have hBle:B≤w.heap.size:=by have:=h.lt; have:=h.le; omega
 have c6:¬(c.opened.length:Int)=6:=by omega
 subst hvo hvp
 have H:=(show Hid _ from h)
 clear h
 unfold qdl bs
 generalize hN:c.parts.length=N at *
 generalize hM:c.opened.length=M at *
 rcases hk with rfl | rfl
 all_goals
  go_enter Tryz.func152,Tryz.ntmps152
  go_wp2_with fail
  go_region_law (refine qbl rfl (.tmp 49) (.tmp 55) 36 rfl B 3 i1 (.int .i64 0) 1 8 Tryz.underlying36 hj hy0 hy1 hy2 rfl (by decide) (.slice ao M cap) M _ (by simp[Act.eval]) (World.ownsRow.alloc (World.ownsRow.alloc (World.ownsRow.alloc (hM▸H.out.opened) _) _) _) ⟨_,0,none⟩ 1 1 [.int .i64 N] (by simp[Act.eval]) rfl (qgd _ _ _) (by simp[Value.oneCell']) (by unfold maxLen; omega) (by omega) (by simp; omega) ?_; intro v' w' hown hgr hloc; obtain⟨g',cap',rfl,_,_⟩:=qao hown (by omega); obtain⟨q4,r4⟩:=H.out.ahead ((((Below.refl _ _).alloc (Nat.le_refl _) _).alloc (by simp) _).alloc (by simp<;>omega) _).drew (.inr rfl) hgr 4 _ rfl)
  all_goals
   subst hN hM
   obtain⟨hP1,hP2,hP3⟩:=H.out.pushAt ((((Below.refl _ _).alloc (Nat.le_refl _) _).alloc (by simp) _).alloc (by simp<;>omega) _).drew c.parts.length hown hgr
   have kb:=hP3 (w.heap.size+1) _ ((heap_alloc_old _ _ (by simp)).trans (qz1 (w.alloc _) _ _ (by simp))) (by omega)
   clear hP3 hown hgr hloc b3 b4 b3' b4' f4 H q4 r4
   generalize w'.setCell ⟨g,4,none⟩ (.slice (some ⟨g',0,none⟩) (c.opened.length+1) cap')=W2 at hP1 hP2 kb ⊢
   have k0:=qaa kb 0 _ rfl
   have k1:=qaa kb 1 _ rfl
   have k2:=qaa kb 2 _ rfl
   have k3:=qaa kb 3 _ rfl
   have b3:=hP1.cell 3 _ rfl
   have f3:=hP1.thaw 3
   have b3':∀ o,(W2.alloc o).cell? ⟨g,3,none⟩=some (.slice ap c.parts.length capp):=fun o=>(hP1.alloc o).cell 3 _ rfl
   have hB2:B≤W2.heap.size:=by have:=hP2.below.size; omega
   have H2:=(show Hid _ from hP1)
   have HC:=(show Hid _ from hP2)
   clear hP1 hP2 kb
   go_wp2_with fail
   go_region_law (refine qbl rfl (.tmp 119) (.tmp 121) 168 rfl B 229 i0 (.agg #[.int .i64 0,.int .i64 0,.string ⟨#[]⟩,.int .i64 0]) 4 40 Tryz.underlying168 hi hz0 hz1 hz2 qi0 (by decide) (.slice ap c.parts.length capp) c.parts.length _ (by simp[Act.eval]) (World.ownsRow.alloc H2.out.parts _) ⟨_,0,none⟩ 1 1 [_,.int .i64 a,.string ⟨n.toArray⟩,.int .i64 0] (by simp[Act.eval]) rfl (qgd _ _ _) (by simp[Value.oneCell']) (by unfold maxLen; omega) (by omega) (by simp; omega) ?_; intro v2 w3 hown2 hgr2 hloc2; obtain⟨g3,cap3,rfl,_,_⟩:=qao hown2 (by omega); obtain⟨q3,r3⟩:=CtAt.ahead H2.out ((Below.refl _ _).alloc (Nat.le_refl _) _).drew (.inl rfl) hgr2 3 _ rfl)
   all_goals
    go_wp2_with fail
    go_ret
    exact⟨rfl,CtTo.after HC.out (CtAt.moreTo H2.out ((Below.refl _ _).alloc (Nat.le_refl _) _).drew ⟨_,a,n,0⟩ hown2 hgr2)⟩
theorem CtAt.mated {w:World} {B g gp N capp:Nat} {t:List UInt8} {c:Pl.Ct} {vo:Value} (h:CtAt w B g t c (.slice (some ⟨gp,0,none⟩) N capp) vo) (m n:Nat) (hm:m<c.parts.length) :
  CtAt (w.setCell ⟨gp,m*4+3,none⟩ (.int .i64 n)) B g t { c with parts:=Pl.qbm c.parts m n } (.slice (some ⟨gp,0,none⟩) N capp) vo∧Cur B g w (w.setCell ⟨gp,m*4+3,none⟩ (.int .i64 n)):=by
 have hset:∀ k,k≠gp→(w.setCell ⟨gp,m*4+3,none⟩ (.int .i64 n)).heap[k]?=w.heap[k]?:=fun k hk=>Below.heap_setCell _ _ _ _ hk
 obtain⟨cur,hc⟩:=qae h.parts gp rfl
 have hle:=(h.parts.lt gp rfl).1
 refine⟨⟨(hset g (qaf h.blk hc qej)).trans h.blk,?_,?_,h.le⟩,?_,?_⟩
 ·have hs:(Pl.qbm c.parts m n).length=c.parts.length:=Pl.qjo _ _ _
  have hN:N=c.parts.length:=by
   rcases h.parts.2 with ⟨h0,_⟩ | ⟨g',cap',cur',hv,_⟩
   ·cases h0
   ·injection hv
  subst hN
  show World.ownsRow _ _ _ _ _ (Pl.qbm c.parts m n).length (qbq (Pl.qbm c.parts m n))
  rw[hs,← qli _ _ _ hm]
  exact(h.parts.stored (m*4+3) (.int .i64 n)).1
 ·refine qah h.opened fun k hk=>hset k ?_
  obtain⟨cur',hc'⟩:=qae h.opened k hk
  exact fun e=>qaf hc hc' qjk e.symm
 ·exact(Below.refl _ _).setCell (p:=⟨gp,m*4+3,none⟩) hle _
 ·intro k cs ty fz hk h1 h2 h3
  exact hset k (qaf hk hc h2)
theorem CtAt.popped {w:World} {B g go capo:Nat} {t:List UInt8} {c:Pl.Ct} {vp:Value} {M:Nat} (h:CtAt w B g t c vp (.slice (some ⟨go,0,none⟩) M capo)) (k:Nat) (hk:c.opened.length=k+1) :
  CtAt (w.setCell ⟨g,4,none⟩ (.slice (some ⟨go,0,none⟩) k capo)) B g t { c with opened:=c.opened.dropLast } vp (.slice (some ⟨go,0,none⟩) k capo)∧Cur B g w (w.setCell ⟨g,4,none⟩ (.slice (some ⟨go,0,none⟩) k capo)):=by
 have hset:∀ k',k'≠g→(w.setCell ⟨g,4,none⟩ (.slice (some ⟨go,0,none⟩) k capo)).heap[k']?=w.heap[k']?:=fun k' hk'=>Below.heap_setCell _ _ _ _ hk'
 have hM:M=c.opened.length:=by
  rcases h.opened.2 with ⟨h0,_⟩ | ⟨g',cap',cur',hv,_⟩
  ·cases h0
  ·injection hv
 subst hM
 have ht:=qll h.opened k (by omega)
 have e1:(qeb c.opened).take (k*1)=qeb c.opened.dropLast:=by
  rw[Nat.mul_one,List.dropLast_eq_take,show c.opened.length - 1=k by omega]; simp[qeb]
 have e2:c.opened.dropLast.length=k:=by simp; omega
 rw[e1]at ht
 refine⟨⟨?_,?_,?_,h.le⟩,?_,fun k' cs ty fz hk' h1 _ _=>hset k' h1⟩
 ·rw[heap_setCell_same _ _ _ _ _ _ h.blk]; rfl
 ·refine qah h.parts fun k' hk'=>hset k' ?_
  obtain⟨cur',hc'⟩:=qae h.parts k' hk'
  exact fun e=>qaf h.blk hc' qej e.symm
 ·show World.ownsRow _ _ _ _ _ c.opened.dropLast.length (qeb c.opened.dropLast)
  rw[e2]
  refine qah ht fun k' hk'=>hset k' ?_
  obtain⟨cur',hc'⟩:=qae ht k' hk'
  exact fun e=>qaf h.blk hc' qf5 e.symm
 ·exact(Below.refl _ _).setCell (p:=⟨g,4,none⟩) h.le _
theorem qt4 {a b:List UInt8} (h:a≠b):((⟨a.toArray⟩:ByteArray).toList==(⟨b.toArray⟩:ByteArray).toList)=false:=by
 rw[Lib.toList_data,Lib.toList_data]
 exact beq_eq_false_iff_ne.2 (by simpa using h)
set_option maxRecDepth 100000 in
set_option maxHeartbeats 3200000 in
theorem qqj (w:World) (B g:Nat) (t:List UInt8) (c:Pl.Ct) (vp vo:Value) (h:CtAt w B g t c vp vo) (n op cl:List UInt8) (a k m:Nat) (hk:c.opened.length=k+1) (hm:c.opened[k]?=some m) (p:Pl.Pt) (hp:c.parts[m]?=some p) (hne:p.text≠n) (h6:c.opened.length≤6) :
  Calls Tryz.prog 152 #[.pointer (some ⟨g,0,none⟩),qdl ⟨5,0,n,op,cl⟩,.int .i64 a] w fun e w'=>e=.returned (.int .i64 (6:Nat))∧CtTo w w' B g t c:=by
 have hml:m<c.parts.length:=(List.getElem?_eq_some_iff.1 hp).1
 obtain⟨go,capo,hvo,_,_⟩:=qao h.opened (by omega)
 obtain⟨gp,capp,hvp,_,_⟩:=qao h.parts (by omega)
 subst hvo hvp
 have b3:=h.two 3 _ rfl
 have b4:=h.two 4 _ rfl
 have q4:∀ o o',((w.alloc o).alloc o').cell? ⟨go,k,none⟩=some (.int .i64 m):=fun o o'=>qb9 ((h.alloc o).alloc o').opened k _ (qjs _ _ _ hm)
 have q2:∀ o o',((w.alloc o).alloc o').cell? ⟨gp,m*4+2,none⟩=some (.string ⟨p.text.toArray⟩):=fun o o'=>qb9 ((h.alloc o).alloc o').parts _ _ (qdz _ _ _ hp 2 _ rfl)
 have w1:IntKind.i64.wrap (k:Int)=k:=qhi k (by omega)
 have d1:(m:Int)<(c.parts.length:Int):=by omega
 have e1:=qt4 hne
 have H:=(show Hid _ from h)
 rw[hk]at b4
 clear h hp hm
 unfold qdl bs
 generalize (⟨p.text.toArray⟩:ByteArray)=X at q2 e1
 generalize (⟨n.toArray⟩:ByteArray)=Y at e1 ⊢
 generalize hN:c.parts.length=N at b3 d1
 clear hN hml h6 hne
 go_enter Tryz.func152,Tryz.ntmps152
 go_wp2_with fail
 go_region
 all_goals
  go_wp2_with fail
  go_ret
  exact⟨rfl,H.out.to (((Below.refl _ _).alloc (Nat.le_refl _) _).alloc (by simp) _).drew⟩
set_option maxRecDepth 100000 in
set_option maxHeartbeats 6400000 in
theorem q2y (w:World) (B g:Nat) (t:List UInt8) (c:Pl.Ct) (vp vo:Value) (h:CtAt w B g t c vp vo) (n op cl:List UInt8) (a k m:Nat) (hk:c.opened.length=k+1) (hm:c.opened[k]?=some m) (p:Pl.Pt) (hp:c.parts[m]?=some p) (hne:p.text=n) (h6:c.opened.length≤6) (hn:c.parts.length≤4000) :
  Calls Tryz.prog 152 #[.pointer (some ⟨g,0,none⟩),qdl ⟨5,0,n,op,cl⟩,.int .i64 a] w fun e w'=>e=.returned (.int .i64 (0:Nat))∧CtTo w w' B g t { c with parts:=Pl.qbm c.parts m c.parts.length++[⟨5,a,n,m⟩],opened:=c.opened.dropLast }:=by
 obtain⟨i0,hi,hz0,hz1,hz2⟩:=info_parts qkk
 have hml:m<c.parts.length:=(List.getElem?_eq_some_iff.1 hp).1
 obtain⟨go,capo,hvo,_,_⟩:=qao h.opened (by omega)
 obtain⟨gp,capp,hvp,_,_⟩:=qao h.parts (by omega)
 subst hvo hvp hne
 have b3:=h.two 3 _ rfl
 have b4:=h.two 4 _ rfl
 have q4:∀ o o',((w.alloc o).alloc o').cell? ⟨go,k,none⟩=some (.int .i64 m):=fun o o'=>qb9 ((h.alloc o).alloc o').opened k _ (qjs _ _ _ hm)
 have q2:∀ o o',((w.alloc o).alloc o').cell? ⟨gp,m*4+2,none⟩=some (.string ⟨p.text.toArray⟩):=fun o o'=>qb9 ((h.alloc o).alloc o').parts _ _ (qdz _ _ _ hp 2 _ rfl)
 have q3:∀ o o',((w.alloc o).alloc o').cell? ⟨gp,m*4+3,none⟩=some (.int .i64 p.mate):=fun o o'=>qb9 ((h.alloc o).alloc o').parts _ _ (qdz _ _ _ hp 3 _ rfl)
 have fq3:∀ o o',((w.alloc o).alloc o').frozen? ⟨gp,m*4+3,none⟩=false:=fun o o'=>World.ownsRow.frozenAt ((h.alloc o).alloc o').parts _
 have w1:IntKind.i64.wrap (k:Int)=k:=qhi k (by omega)
 have d1:(m:Int)<(c.parts.length:Int):=by omega
 have hBle:B≤w.heap.size:=by have:=h.lt; have:=h.le; omega
 have hgl:g<w.heap.size:=h.lt
 have hcap:k+1≤capo:=by
  rcases h.opened.2 with ⟨h0,_⟩ | ⟨g',cap',cur',hv,_,_,hc,_⟩
  ·cases h0
  ·injection hv with _ _ e; omega
 obtain⟨h1,C1⟩:=h.mated m c.parts.length hml
 obtain⟨h3,C3⟩:=h1.popped k hk
 have s4:=h1.two 4 _ rfl
 have fs4:=h1.two' 4
 have s3:=h3.two 3 _ rfl
 have fs3:=h3.two' 3
 have s3':∀ o o' o'',(((((w.setCell ⟨gp,m*4+3,none⟩ (.int .i64 c.parts.length)).setCell ⟨g,4,none⟩ (.slice (some ⟨go,0,none⟩) k capo)).alloc o).alloc o').alloc o'').cell? ⟨g,3,none⟩=some (.slice (some ⟨gp,0,none⟩) c.parts.length capp):=fun o o' o''=>(((h3.alloc o).alloc o').alloc o'').cell 3 _ rfl
 have hl:(Pl.qbm c.parts m c.parts.length).length=c.parts.length:=Pl.qjo _ _ _
 have hB3:B≤((w.setCell ⟨gp,m*4+3,none⟩ (.int .i64 c.parts.length)).setCell ⟨g,4,none⟩ (.slice (some ⟨go,0,none⟩) k capo)).heap.size:=by simp; exact hBle
 have H3:=(show Hid _ from h3)
 have HR:Hid (World.ownsRow ((w.setCell ⟨gp,m*4+3,none⟩ (.int .i64 c.parts.length)).setCell ⟨g,4,none⟩ (.slice (some ⟨go,0,none⟩) k capo)) B 229 4 (.slice (some ⟨gp,0,none⟩) c.parts.length capp) c.parts.length (qbq (Pl.qbm c.parts m c.parts.length))):=by
  have:=h3.parts
  change World.ownsRow _ _ _ _ _ (Pl.qbm c.parts m c.parts.length).length (qbq (Pl.qbm c.parts m c.parts.length))at this
  rw[hl]at this
  exact this
 have HC:=(show Hid _ from C1.trans C3)
 rw[hk]at b4
 have s4':∀ o o',(((w.setCell ⟨gp,m*4+3,none⟩ (.int .i64 c.parts.length)).alloc o).alloc o').cell? ⟨g,4,none⟩=some (.slice (some ⟨go,0,none⟩) (k+1) capo):=fun o o'=>by rw[← hk]; exact s4 o o'
 have d2:(k:Int)≤(capo:Int):=by omega
 clear h hp hm hk h1 h3 C1 C3 s4
 unfold qdl bs
 go_enter Tryz.func152,Tryz.ntmps152
 go_wp2_with fail
 go_region
 all_goals
  go_wp2_with fail
  go_region
  all_goals
   go_wp2_with fail
   go_region_law (refine qbl rfl (.tmp 119) (.tmp 121) 168 rfl B 229 i0 (.agg #[.int .i64 0,.int .i64 0,.string ⟨#[]⟩,.int .i64 0]) 4 40 Tryz.underlying168 hi hz0 hz1 hz2 qi0 (by decide) (.slice (some ⟨gp,0,none⟩) c.parts.length capp) c.parts.length _ (by simp[Act.eval]) (World.ownsRow.alloc (World.ownsRow.alloc (World.ownsRow.alloc HR.out _) _) _) ⟨_,0,none⟩ 1 1 [.int .i64 5,.int .i64 a,.string ⟨p.text.toArray⟩,.int .i64 m] (by simp[Act.eval]) rfl (qgd _ _ _) (by simp[Value.oneCell']) (by unfold maxLen; omega) (by omega) (by simp; omega) ?_; intro v' w' hown hgr hloc; obtain⟨g',cap',rfl,_,_⟩:=qao hown (by omega); obtain⟨q5,r5⟩:=CtAt.ahead H3.out ((((Below.refl _ _).alloc (Nat.le_refl _) _).alloc (by simp) _).alloc (by simp<;>omega) _).drew.drew.drew (.inl rfl) hgr 3 _ rfl)
   all_goals
    go_wp2_with fail
    go_ret
    have hown':World.ownsRow w' B 229 4 (.slice (some ⟨g',0,none⟩) (c.parts.length+1) cap') ((Pl.qbm c.parts m c.parts.length).length+1) (qbq (Pl.qbm c.parts m c.parts.length)++qcl ⟨5,a,p.text,m⟩):=by rw[hl]; exact hown
    exact⟨rfl,CtTo.after HC.out (CtAt.moreTo H3.out ((((Below.refl _ _).alloc (Nat.le_refl _) _).alloc (by simp) _).alloc (by simp<;>omega) _).drew.drew.drew ⟨5,a,p.text,m⟩ hown' hgr)⟩
theorem q2z (w:World) (B g:Nat) (t:List UInt8) (c:Pl.Ct) (vp vo:Value) (h:CtAt w B g t c vp vo) (one:Pl.Tg) (ho:Pl.TgOk one) (a:Nat) (hn:c.parts.length≤4000) (h6:c.opened.length≤6) (hO:∀ m∈c.opened,m<c.parts.length) :
  Calls Tryz.prog 152 #[.pointer (some ⟨g,0,none⟩),qdl one,.int .i64 a] w fun e w'=>e=.returned (.int .i64 (c.take one a).1)∧CtTo w w' B g t (c.take one a).2:=by
 by_cases hs:one.slip≠0
 ·exact qz4 w B g t c vp vo h one a hs
 obtain⟨kind,slip,n,op,cl⟩:=one
 obtain rfl:slip=0:=by simpa using hs
 have hk:=ho.kind
 simp only at hk
 rcases(show kind=2∨kind=6∨kind=3∨kind=4∨kind=5∨kind=7∨kind=8 by omega)with rfl | rfl | rfl | rfl | rfl | rfl | rfl
 ·exact qr3 w B g t c vp vo h 2 n op cl a (.inl rfl) hn
 ·exact qr3 w B g t c vp vo h 6 n op cl a (.inr rfl) hn
 ·by_cases hf:c.opened.length=6
  ·have e:c.take ⟨3,0,n,op,cl⟩ a=(8,c):=by simp[Pl.Ct.take,hf]
   rw[e]; exact qr4 w B g t c vp vo h 3 n op cl a (.inl rfl) hf
  ·have e:c.take ⟨3,0,n,op,cl⟩ a=(0,{ c with parts:=c.parts++[⟨3,a,n,0⟩],opened:=c.opened++[c.parts.length] }):=by simp[Pl.Ct.take,hf]
   rw[e]; exact qr2 w B g t c vp vo h 3 n op cl a (.inl rfl) (by omega) hn
 ·by_cases hf:c.opened.length=6
  ·have e:c.take ⟨4,0,n,op,cl⟩ a=(8,c):=by simp[Pl.Ct.take,hf]
   rw[e]; exact qr4 w B g t c vp vo h 4 n op cl a (.inr rfl) hf
  ·have e:c.take ⟨4,0,n,op,cl⟩ a=(0,{ c with parts:=c.parts++[⟨4,a,n,0⟩],opened:=c.opened++[c.parts.length] }):=by simp[Pl.Ct.take,hf]
   rw[e]; exact qr2 w B g t c vp vo h 4 n op cl a (.inr rfl) (by omega) hn
 ·by_cases h0:c.opened.length=0
  ·have e:c.take ⟨5,0,n,op,cl⟩ a=(5,c):=by simp[Pl.Ct.take,List.length_eq_zero_iff.1 h0]
   rw[e]; exact qxr w B g t c vp vo h n op cl a h0
  ·obtain⟨k,hk⟩:∃ k,c.opened.length=k+1:=⟨c.opened.length - 1,by omega⟩
   have hx:c.opened[k]?=some c.opened[k]:=List.getElem?_eq_getElem (by omega)
   have hl:c.opened.getLast?=some c.opened[k]:=by rw[List.getLast?_eq_getElem?,show c.opened.length - 1=k by omega]; exact hx
   have hm:=hO _ (List.mem_of_getElem? hx)
   generalize c.opened[k]=m at hx hl hm
   have hp:c.parts[m]?=some c.parts[m]:=List.getElem?_eq_getElem hm
   generalize c.parts[m]=p at hp
   have ht:Pl.qmw c.parts m=p.text:=by unfold Pl.qmw; rw[hp]
   by_cases he:p.text=n
   ·have e:c.take ⟨5,0,n,op,cl⟩ a=(0,{ c with parts:=Pl.qbm c.parts m c.parts.length++[⟨5,a,n,m⟩],opened:=c.opened.dropLast }):=by simp[Pl.Ct.take,hl,ht,he]
    rw[e]; exact q2y w B g t c vp vo h n op cl a k m hk hx p hp he h6 hn
   ·have e:c.take ⟨5,0,n,op,cl⟩ a=(6,c):=by simp[Pl.Ct.take,hl,ht,he]
    rw[e]; exact qqj w B g t c vp vo h n op cl a k m hk hx p hp he h6
 ·exact qr5 w B g t c vp vo h n op cl a
 ·exact quz w B g t c vp vo h n op cl a
theorem qou (s:ByteArray) (w:World) (hs:s.size≤100000) :
  Calls Tryz.prog 204 #[.string s,.string ⟨#[9,12,13,32]⟩] w fun e w'=>e=.returned (bs (Lib.trimRightS s.data.toList Pl.qet))∧Below w.heap.size w w':=
 Any.strings_TrimRight_laid Tryz.lays162 (by kernel_rfl) s ⟨#[9,12,13,32]⟩ w (by omega) (by decide) (ascii_of_all (by decide))
theorem qqi (s:ByteArray) (w:World) :
  Calls Tryz.prog 196 #[.string s,.string ⟨#[9,12,13,32]⟩] w fun e w'=>e=.returned (bs (Lib.trimLeftS s.data.toList Pl.qet))∧Below w.heap.size w w':=
 Any.strings_TrimLeft_laid Tryz.lays161 (by kernel_rfl) s ⟨#[9,12,13,32]⟩ w (by decide) (ascii_of_all (by decide))
theorem qmq (s:ByteArray) (w:World) :
  Calls Tryz.prog 196 #[.string s,.string ⟨#[9,10,12,13,32]⟩] w fun e w'=>e=.returned (bs (Lib.trimLeftS s.data.toList Pl.qbc))∧Below w.heap.size w w':=
 Any.strings_TrimLeft_laid Tryz.lays161 (by kernel_rfl) s ⟨#[9,10,12,13,32]⟩ w (by decide) (ascii_of_all (by decide))
theorem quw (s:ByteArray) (w:World) (hs:s.size≤100000) :
  Calls Tryz.prog 150 #[.string s,.string ⟨#[9,10,12,13,32]⟩] w fun e w'=>e=.returned (bs (Lib.trimS s.data.toList Pl.qbc))∧Below w.heap.size w w':=
 Any.strings_Trim_laid Tryz.lays160 (by kernel_rfl) s ⟨#[9,10,12,13,32]⟩ w (by omega) (by decide) (ascii_of_all (by decide))
theorem qms {P:Program} {fn:Func} {R:Ending→World→Prop} {a:Act} {w:World} {t u:Tmp} (h:fn.results=#[.tmp t,.tmp u]) (hdf:a.defers=[]) (x y:Value) (hx:a.tmps.getD t undef=x) (hy:a.tmps.getD u undef=y) (hR:R (.returned (.tuple #[x,y])) w):bodyPost P fn R .ret a w:=by
 subst hx hy
 refine bodyPost_ret ?_ hdf hR
 simp[results,h]
set_option maxRecDepth 100000 in
set_option maxHeartbeats 1600000 in
theorem q6h (w:World) (B g:Nat) (t:List UInt8) (c:Pl.Ct) (vp vo:Value) (h:CtAt w B g t c vp vo) (a z:Nat) (ha:a≤t.length) (hz:z≤t.length) (_ht:t.length≤2000)
  (X Y:ByteArray) (hT:∀ w,Calls Tryz.prog 204 #[.string ((⟨t.toArray⟩:ByteArray).extract 0 a),.string ⟨#[9,12,13,32]⟩] w fun e w'=>e=.returned (.string X)∧Below w.heap.size w w')
  (hL:∀ w,Calls Tryz.prog 196 #[.string ((⟨t.toArray⟩:ByteArray).extract z t.length),.string ⟨#[9,12,13,32]⟩] w fun e w'=>e=.returned (.string Y)∧Below w.heap.size w w')
  (hX:X.toList.isEmpty=false) (n:Nat) (hn:X.size=n+1) (hnb:n≤100000) (hb:∀ hh:n<X.size,X[n]'hh≠10)  :
  Calls Tryz.prog 151 #[.pointer (some ⟨g,0,none⟩),.int .i64 a,.int .i64 z] w fun e w'=>e=.returned (.tuple #[.int .i64 a,.int .i64 z])∧Below w.heap.size w w':=by
 obtain⟨T,hTT⟩:∃ T,T=(⟨t.toArray⟩:ByteArray):=⟨_,rfl⟩
 have hTs:T.size=t.length:=by rw[hTT]; simp[ByteArray.size]
 rw[← hTT]at hT hL
 have HT:=(show Hid _ from hT)
 have HL:=(show Hid _ from hL)
 have b0:=h.cell 0 _ rfl
 unfold bs at b0
 rw[← hTT]at b0
 have hlt:n<X.size:=by omega
 have d1:¬((X[n]'hlt).toNat:Int)=10:=fun q=>hb hlt (UInt8.toNat_inj.1 (show (X[n]'hlt).toNat=10 by omega))
 have w1:IntKind.i64.wrap (n:Int)=n:=qhi n (by omega)
 clear hb
 have H:=(show Hid _ from h)
 clear hT hL h hTT
 rw[← hTs]at ha hz HL
 have c1:(a:Int)≤(T.size:Int):=by omega
 have c2:(z:Int)≤(T.size:Int):=by omega
 clear hTs
 go_enter Tryz.func151,Tryz.ntmps151
 go_wp2_with (first
   | (go_at_call 204; refine Calls.mono (HT.out _) ?_; rintro e w1 ⟨rfl,hb⟩; have b1:w1.cell? ⟨g,0,none⟩=some (.string T):=(World.cell?_of_block (hb.block _ (CtAt.lt H.out))).trans b0; have HB1:=(show Hid _ from hb); clear hb)
   | (go_at_call 196; refine Calls.mono (HL.out _) ?_; rintro e w2 ⟨rfl,hb⟩; have HB2:=(show Hid _ from hb); clear hb))
 refine qms Tryz.results151 rfl _ _ rfl rfl ?_
 exact⟨rfl,by have h1:=HB1.out; have h2:=HB2.out; exact h1.trans (h2.mono h1.size)⟩
set_option maxRecDepth 100000 in
set_option maxHeartbeats 1600000 in
theorem q6g (w:World) (B g:Nat) (t:List UInt8) (c:Pl.Ct) (vp vo:Value) (h:CtAt w B g t c vp vo) (a z:Nat) (ha:a≤t.length) (hz:z≤t.length) (_ht:t.length≤2000)
  (X Y:ByteArray) (hT:∀ w,Calls Tryz.prog 204 #[.string ((⟨t.toArray⟩:ByteArray).extract 0 a),.string ⟨#[9,12,13,32]⟩] w fun e w'=>e=.returned (.string X)∧Below w.heap.size w w')
  (hL:∀ w,Calls Tryz.prog 196 #[.string ((⟨t.toArray⟩:ByteArray).extract z t.length),.string ⟨#[9,12,13,32]⟩] w fun e w'=>e=.returned (.string Y)∧Below w.heap.size w w')
  (hX:X.toList.isEmpty=true) (hY:Y.toList.isEmpty=false) (hy:0<Y.size) (hyb:Y[0]≠10) :
  Calls Tryz.prog 151 #[.pointer (some ⟨g,0,none⟩),.int .i64 a,.int .i64 z] w fun e w'=>e=.returned (.tuple #[.int .i64 a,.int .i64 z])∧Below w.heap.size w w':=by
 obtain⟨T,hTT⟩:∃ T,T=(⟨t.toArray⟩:ByteArray):=⟨_,rfl⟩
 have hTs:T.size=t.length:=by rw[hTT]; simp[ByteArray.size]
 rw[← hTT]at hT hL
 have HT:=(show Hid _ from hT)
 have HL:=(show Hid _ from hL)
 have b0:=h.cell 0 _ rfl
 unfold bs at b0
 rw[← hTT]at b0
 have d2:¬(Y[0].toNat:Int)=10:=fun q=>hyb (UInt8.toNat_inj.1 (show Y[0].toNat=10 by omega))
 have d3:(0:Int)<(Y.size:Int):=by omega
 clear hyb
 have H:=(show Hid _ from h)
 clear hT hL h hTT
 rw[← hTs]at ha hz HL
 have c1:(a:Int)≤(T.size:Int):=by omega
 have c2:(z:Int)≤(T.size:Int):=by omega
 clear hTs
 go_enter Tryz.func151,Tryz.ntmps151
 go_wp2_with (first
   | (go_at_call 204; refine Calls.mono (HT.out _) ?_; rintro e w1 ⟨rfl,hb⟩; have b1:w1.cell? ⟨g,0,none⟩=some (.string T):=(World.cell?_of_block (hb.block _ (CtAt.lt H.out))).trans b0; have HB1:=(show Hid _ from hb); clear hb)
   | (go_at_call 196; refine Calls.mono (HL.out _) ?_; rintro e w2 ⟨rfl,hb⟩; have HB2:=(show Hid _ from hb); clear hb))
 refine qms Tryz.results151 rfl _ _ rfl rfl ?_
 exact⟨rfl,by have h1:=HB1.out; have h2:=HB2.out; exact h1.trans (h2.mono h1.size)⟩
set_option maxRecDepth 100000 in
set_option maxHeartbeats 1600000 in
theorem q6d (w:World) (B g:Nat) (t:List UInt8) (c:Pl.Ct) (vp vo:Value) (h:CtAt w B g t c vp vo) (a z:Nat) (ha:a≤t.length) (hz:z≤t.length) (_ht:t.length≤2000)
  (X Y:ByteArray) (hT:∀ w,Calls Tryz.prog 204 #[.string ((⟨t.toArray⟩:ByteArray).extract 0 a),.string ⟨#[9,12,13,32]⟩] w fun e w'=>e=.returned (.string X)∧Below w.heap.size w w')
  (hL:∀ w,Calls Tryz.prog 196 #[.string ((⟨t.toArray⟩:ByteArray).extract z t.length),.string ⟨#[9,12,13,32]⟩] w fun e w'=>e=.returned (.string Y)∧Below w.heap.size w w')
  (hX:X.toList.isEmpty=false) (n:Nat) (hn:X.size=n+1) (hnb:n≤100000) (hb:∀ hh:n<X.size,X[n]'hh=10) (hY:Y.toList.isEmpty=false) (hy:0<Y.size) (hyb:Y[0]≠10) :
  Calls Tryz.prog 151 #[.pointer (some ⟨g,0,none⟩),.int .i64 a,.int .i64 z] w fun e w'=>e=.returned (.tuple #[.int .i64 a,.int .i64 z])∧Below w.heap.size w w':=by
 obtain⟨T,hTT⟩:∃ T,T=(⟨t.toArray⟩:ByteArray):=⟨_,rfl⟩
 have hTs:T.size=t.length:=by rw[hTT]; simp[ByteArray.size]
 rw[← hTT]at hT hL
 have HT:=(show Hid _ from hT)
 have HL:=(show Hid _ from hL)
 have b0:=h.cell 0 _ rfl
 unfold bs at b0
 rw[← hTT]at b0
 have hlt:n<X.size:=by omega
 have d1:((X[n]'hlt).toNat:Int)=10:=by rw[hb hlt]; rfl
 have w1:IntKind.i64.wrap (n:Int)=n:=qhi n (by omega)
 clear hb
 have d2:¬(Y[0].toNat:Int)=10:=fun q=>hyb (UInt8.toNat_inj.1 (show Y[0].toNat=10 by omega))
 have d3:(0:Int)<(Y.size:Int):=by omega
 clear hyb
 have H:=(show Hid _ from h)
 clear hT hL h hTT
 rw[← hTs]at ha hz HL
 have c1:(a:Int)≤(T.size:Int):=by omega
 have c2:(z:Int)≤(T.size:Int):=by omega
 clear hTs
 go_enter Tryz.func151,Tryz.ntmps151
 go_wp2_with (first
   | (go_at_call 204; refine Calls.mono (HT.out _) ?_; rintro e w1 ⟨rfl,hb⟩; have b1:w1.cell? ⟨g,0,none⟩=some (.string T):=(World.cell?_of_block (hb.block _ (CtAt.lt H.out))).trans b0; have HB1:=(show Hid _ from hb); clear hb)
   | (go_at_call 196; refine Calls.mono (HL.out _) ?_; rintro e w2 ⟨rfl,hb⟩; have HB2:=(show Hid _ from hb); clear hb))
 refine qms Tryz.results151 rfl _ _ rfl rfl ?_
 exact⟨rfl,by have h1:=HB1.out; have h2:=HB2.out; exact h1.trans (h2.mono h1.size)⟩
set_option maxRecDepth 100000 in
set_option maxHeartbeats 1600000 in
theorem q6f (w:World) (B g:Nat) (t:List UInt8) (c:Pl.Ct) (vp vo:Value) (h:CtAt w B g t c vp vo) (a z:Nat) (ha:a≤t.length) (hz:z≤t.length) (ht:t.length≤2000)
  (X Y:ByteArray) (hT:∀ w,Calls Tryz.prog 204 #[.string ((⟨t.toArray⟩:ByteArray).extract 0 a),.string ⟨#[9,12,13,32]⟩] w fun e w'=>e=.returned (.string X)∧Below w.heap.size w w')
  (hL:∀ w,Calls Tryz.prog 196 #[.string ((⟨t.toArray⟩:ByteArray).extract z t.length),.string ⟨#[9,12,13,32]⟩] w fun e w'=>e=.returned (.string Y)∧Below w.heap.size w w')
  (P:ByteArray) (hP:∀ w,Calls Tryz.prog 205 #[.string Y,.string ⟨#[10]⟩] w fun e w'=>e=.returned (.string P)∧w=w') (hPl:P.size≤t.length)
  (hX:X.toList.isEmpty=true) (hY:Y.toList.isEmpty=true) :
  Calls Tryz.prog 151 #[.pointer (some ⟨g,0,none⟩),.int .i64 a,.int .i64 z] w fun e w'=>e=.returned (.tuple #[.int .i64 X.size,.int .i64 ((t.length:Int) - (P.size:Int))])∧Below w.heap.size w w':=by
 obtain⟨T,hTT⟩:∃ T,T=(⟨t.toArray⟩:ByteArray):=⟨_,rfl⟩
 have hTs:T.size=t.length:=by rw[hTT]; simp[ByteArray.size]
 rw[← hTT]at hT hL
 have HT:=(show Hid _ from hT)
 have HL:=(show Hid _ from hL)
 have b0:=h.cell 0 _ rfl
 unfold bs at b0
 rw[← hTT]at b0
 have H:=(show Hid _ from h)
 clear hT hL h hTT
 rw[← hTs]at ha hz HL ht hPl ⊢
 have c1:(a:Int)≤(T.size:Int):=by omega
 have c2:(z:Int)≤(T.size:Int):=by omega
 have HP:=(show Hid _ from hP)
 clear hP
 have w9:IntKind.i64.wrap ((T.size:Int) - (P.size:Int))=(T.size:Int) - (P.size:Int):=by rw[IntKind.wrap_i64]; omega
 clear hTs
 go_enter Tryz.func151,Tryz.ntmps151
 go_wp2_with (first
   | (go_at_call 204; refine Calls.mono (HT.out _) ?_; rintro e w1 ⟨rfl,hb⟩; have b1:w1.cell? ⟨g,0,none⟩=some (.string T):=(World.cell?_of_block (hb.block _ (CtAt.lt H.out))).trans b0; have HB1:=(show Hid _ from hb); clear hb)
   | (go_at_call 196; refine Calls.mono (HL.out _) ?_; rintro e w2 ⟨rfl,hb⟩; have b2:w2.cell? ⟨g,0,none⟩=some (.string T):=(World.cell?_of_block (hb.block _ (World.block_lt_of_cell? _ _ b1))).trans b1; have HB2:=(show Hid _ from hb); clear hb))
 go_region_with (first | (go_at_call 205; refine Calls.mono (HP.out _) ?_; rintro e w3 ⟨rfl,rfl⟩) | fail)
 all_goals
  go_wp2_with fail
  refine qms Tryz.results151 rfl _ _ rfl rfl ?_
  exact⟨by first | rfl | (rw[hn]; rfl),by have h1:=HB1.out; have h2:=HB2.out; exact(h1.trans (h2.mono h1.size)).drew⟩
set_option maxRecDepth 100000 in
set_option maxHeartbeats 1600000 in
theorem q6e (w:World) (B g:Nat) (t:List UInt8) (c:Pl.Ct) (vp vo:Value) (h:CtAt w B g t c vp vo) (a z:Nat) (ha:a≤t.length) (hz:z≤t.length) (ht:t.length≤2000)
  (X Y:ByteArray) (hT:∀ w,Calls Tryz.prog 204 #[.string ((⟨t.toArray⟩:ByteArray).extract 0 a),.string ⟨#[9,12,13,32]⟩] w fun e w'=>e=.returned (.string X)∧Below w.heap.size w w')
  (hL:∀ w,Calls Tryz.prog 196 #[.string ((⟨t.toArray⟩:ByteArray).extract z t.length),.string ⟨#[9,12,13,32]⟩] w fun e w'=>e=.returned (.string Y)∧Below w.heap.size w w')
  (P:ByteArray) (hP:∀ w,Calls Tryz.prog 205 #[.string Y,.string ⟨#[10]⟩] w fun e w'=>e=.returned (.string P)∧w=w') (hPl:P.size≤t.length)
  (hX:X.toList.isEmpty=true) (hY:Y.toList.isEmpty=false) (hy:0<Y.size) (hyb:Y[0]=10) :
  Calls Tryz.prog 151 #[.pointer (some ⟨g,0,none⟩),.int .i64 a,.int .i64 z] w fun e w'=>e=.returned (.tuple #[.int .i64 X.size,.int .i64 ((t.length:Int) - (P.size:Int))])∧Below w.heap.size w w':=by
 obtain⟨T,hTT⟩:∃ T,T=(⟨t.toArray⟩:ByteArray):=⟨_,rfl⟩
 have hTs:T.size=t.length:=by rw[hTT]; simp[ByteArray.size]
 rw[← hTT]at hT hL
 have HT:=(show Hid _ from hT)
 have HL:=(show Hid _ from hL)
 have b0:=h.cell 0 _ rfl
 unfold bs at b0
 rw[← hTT]at b0
 have d2:(Y[0].toNat:Int)=10:=by rw[hyb]; rfl
 have d3:(0:Int)<(Y.size:Int):=by omega
 clear hyb
 have H:=(show Hid _ from h)
 clear hT hL h hTT
 rw[← hTs]at ha hz HL ht hPl ⊢
 have c1:(a:Int)≤(T.size:Int):=by omega
 have c2:(z:Int)≤(T.size:Int):=by omega
 have HP:=(show Hid _ from hP)
 clear hP
 have w9:IntKind.i64.wrap ((T.size:Int) - (P.size:Int))=(T.size:Int) - (P.size:Int):=by rw[IntKind.wrap_i64]; omega
 clear hTs
 go_enter Tryz.func151,Tryz.ntmps151
 go_wp2_with (first
   | (go_at_call 204; refine Calls.mono (HT.out _) ?_; rintro e w1 ⟨rfl,hb⟩; have b1:w1.cell? ⟨g,0,none⟩=some (.string T):=(World.cell?_of_block (hb.block _ (CtAt.lt H.out))).trans b0; have HB1:=(show Hid _ from hb); clear hb)
   | (go_at_call 196; refine Calls.mono (HL.out _) ?_; rintro e w2 ⟨rfl,hb⟩; have b2:w2.cell? ⟨g,0,none⟩=some (.string T):=(World.cell?_of_block (hb.block _ (World.block_lt_of_cell? _ _ b1))).trans b1; have HB2:=(show Hid _ from hb); clear hb))
 go_region_with (first | (go_at_call 205; refine Calls.mono (HP.out _) ?_; rintro e w3 ⟨rfl,rfl⟩) | fail)
 all_goals
  go_wp2_with fail
  refine qms Tryz.results151 rfl _ _ rfl rfl ?_
  exact⟨by first | rfl | (rw[hn]; rfl),by have h1:=HB1.out; have h2:=HB2.out; exact(h1.trans (h2.mono h1.size)).drew⟩
set_option maxRecDepth 100000 in
set_option maxHeartbeats 1600000 in
theorem q6c (w:World) (B g:Nat) (t:List UInt8) (c:Pl.Ct) (vp vo:Value) (h:CtAt w B g t c vp vo) (a z:Nat) (ha:a≤t.length) (hz:z≤t.length) (ht:t.length≤2000)
  (X Y:ByteArray) (hT:∀ w,Calls Tryz.prog 204 #[.string ((⟨t.toArray⟩:ByteArray).extract 0 a),.string ⟨#[9,12,13,32]⟩] w fun e w'=>e=.returned (.string X)∧Below w.heap.size w w')
  (hL:∀ w,Calls Tryz.prog 196 #[.string ((⟨t.toArray⟩:ByteArray).extract z t.length),.string ⟨#[9,12,13,32]⟩] w fun e w'=>e=.returned (.string Y)∧Below w.heap.size w w')
  (P:ByteArray) (hP:∀ w,Calls Tryz.prog 205 #[.string Y,.string ⟨#[10]⟩] w fun e w'=>e=.returned (.string P)∧w=w') (hPl:P.size≤t.length)
  (hX:X.toList.isEmpty=false) (n:Nat) (hn:X.size=n+1) (hnb:n≤100000) (hb:∀ hh:n<X.size,X[n]'hh=10) (hY:Y.toList.isEmpty=true) :
  Calls Tryz.prog 151 #[.pointer (some ⟨g,0,none⟩),.int .i64 a,.int .i64 z] w fun e w'=>e=.returned (.tuple #[.int .i64 X.size,.int .i64 ((t.length:Int) - (P.size:Int))])∧Below w.heap.size w w':=by
 obtain⟨T,hTT⟩:∃ T,T=(⟨t.toArray⟩:ByteArray):=⟨_,rfl⟩
 have hTs:T.size=t.length:=by rw[hTT]; simp[ByteArray.size]
 rw[← hTT]at hT hL
 have HT:=(show Hid _ from hT)
 have HL:=(show Hid _ from hL)
 have b0:=h.cell 0 _ rfl
 unfold bs at b0
 rw[← hTT]at b0
 have hlt:n<X.size:=by omega
 have d1:((X[n]'hlt).toNat:Int)=10:=by rw[hb hlt]; rfl
 have w1:IntKind.i64.wrap (n:Int)=n:=qhi n (by omega)
 clear hb
 have H:=(show Hid _ from h)
 clear hT hL h hTT
 rw[← hTs]at ha hz HL ht hPl ⊢
 have c1:(a:Int)≤(T.size:Int):=by omega
 have c2:(z:Int)≤(T.size:Int):=by omega
 have HP:=(show Hid _ from hP)
 clear hP
 have w9:IntKind.i64.wrap ((T.size:Int) - (P.size:Int))=(T.size:Int) - (P.size:Int):=by rw[IntKind.wrap_i64]; omega
 clear hTs
 go_enter Tryz.func151,Tryz.ntmps151
 go_wp2_with (first
   | (go_at_call 204; refine Calls.mono (HT.out _) ?_; rintro e w1 ⟨rfl,hb⟩; have b1:w1.cell? ⟨g,0,none⟩=some (.string T):=(World.cell?_of_block (hb.block _ (CtAt.lt H.out))).trans b0; have HB1:=(show Hid _ from hb); clear hb)
   | (go_at_call 196; refine Calls.mono (HL.out _) ?_; rintro e w2 ⟨rfl,hb⟩; have b2:w2.cell? ⟨g,0,none⟩=some (.string T):=(World.cell?_of_block (hb.block _ (World.block_lt_of_cell? _ _ b1))).trans b1; have HB2:=(show Hid _ from hb); clear hb))
 go_region_with (first | (go_at_call 205; refine Calls.mono (HP.out _) ?_; rintro e w3 ⟨rfl,rfl⟩) | fail)
 all_goals
  go_wp2_with fail
  refine qms Tryz.results151 rfl _ _ rfl rfl ?_
  exact⟨by first | rfl | (rw[hn]; rfl),by have h1:=HB1.out; have h2:=HB2.out; exact(h1.trans (h2.mono h1.size)).drew⟩
set_option maxRecDepth 100000 in
set_option maxHeartbeats 1600000 in
theorem q6b (w:World) (B g:Nat) (t:List UInt8) (c:Pl.Ct) (vp vo:Value) (h:CtAt w B g t c vp vo) (a z:Nat) (ha:a≤t.length) (hz:z≤t.length) (ht:t.length≤2000)
  (X Y:ByteArray) (hT:∀ w,Calls Tryz.prog 204 #[.string ((⟨t.toArray⟩:ByteArray).extract 0 a),.string ⟨#[9,12,13,32]⟩] w fun e w'=>e=.returned (.string X)∧Below w.heap.size w w')
  (hL:∀ w,Calls Tryz.prog 196 #[.string ((⟨t.toArray⟩:ByteArray).extract z t.length),.string ⟨#[9,12,13,32]⟩] w fun e w'=>e=.returned (.string Y)∧Below w.heap.size w w')
  (P:ByteArray) (hP:∀ w,Calls Tryz.prog 205 #[.string Y,.string ⟨#[10]⟩] w fun e w'=>e=.returned (.string P)∧w=w') (hPl:P.size≤t.length)
  (hX:X.toList.isEmpty=false) (n:Nat) (hn:X.size=n+1) (hnb:n≤100000) (hb:∀ hh:n<X.size,X[n]'hh=10) (hY:Y.toList.isEmpty=false) (hy:0<Y.size) (hyb:Y[0]=10) :
  Calls Tryz.prog 151 #[.pointer (some ⟨g,0,none⟩),.int .i64 a,.int .i64 z] w fun e w'=>e=.returned (.tuple #[.int .i64 X.size,.int .i64 ((t.length:Int) - (P.size:Int))])∧Below w.heap.size w w':=by
 obtain⟨T,hTT⟩:∃ T,T=(⟨t.toArray⟩:ByteArray):=⟨_,rfl⟩
 have hTs:T.size=t.length:=by rw[hTT]; simp[ByteArray.size]
 rw[← hTT]at hT hL
 have HT:=(show Hid _ from hT)
 have HL:=(show Hid _ from hL)
 have b0:=h.cell 0 _ rfl
 unfold bs at b0
 rw[← hTT]at b0
 have hlt:n<X.size:=by omega
 have d1:((X[n]'hlt).toNat:Int)=10:=by rw[hb hlt]; rfl
 have w1:IntKind.i64.wrap (n:Int)=n:=qhi n (by omega)
 clear hb
 have d2:(Y[0].toNat:Int)=10:=by rw[hyb]; rfl
 have d3:(0:Int)<(Y.size:Int):=by omega
 clear hyb
 have H:=(show Hid _ from h)
 clear hT hL h hTT
 rw[← hTs]at ha hz HL ht hPl ⊢
 have c1:(a:Int)≤(T.size:Int):=by omega
 have c2:(z:Int)≤(T.size:Int):=by omega
 have HP:=(show Hid _ from hP)
 clear hP
 have w9:IntKind.i64.wrap ((T.size:Int) - (P.size:Int))=(T.size:Int) - (P.size:Int):=by rw[IntKind.wrap_i64]; omega
 clear hTs
 go_enter Tryz.func151,Tryz.ntmps151
 go_wp2_with (first
   | (go_at_call 204; refine Calls.mono (HT.out _) ?_; rintro e w1 ⟨rfl,hb⟩; have b1:w1.cell? ⟨g,0,none⟩=some (.string T):=(World.cell?_of_block (hb.block _ (CtAt.lt H.out))).trans b0; have HB1:=(show Hid _ from hb); clear hb)
   | (go_at_call 196; refine Calls.mono (HL.out _) ?_; rintro e w2 ⟨rfl,hb⟩; have b2:w2.cell? ⟨g,0,none⟩=some (.string T):=(World.cell?_of_block (hb.block _ (World.block_lt_of_cell? _ _ b1))).trans b1; have HB2:=(show Hid _ from hb); clear hb))
 go_region_with (first | (go_at_call 205; refine Calls.mono (HP.out _) ?_; rintro e w3 ⟨rfl,rfl⟩) | fail)
 all_goals
  go_wp2_with fail
  refine qms Tryz.results151 rfl _ _ rfl rfl ?_
  exact⟨by first | rfl | (rw[hn]; rfl),by have h1:=HB1.out; have h2:=HB2.out; exact(h1.trans (h2.mono h1.size)).drew⟩
end Go.Proofs.YtfkhljmiehdgmaaGreatDoor

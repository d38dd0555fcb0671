/-
  Steps of the proof.
-/
import Derived.Test.YtfkhljmiehdgmaaGreatDoorCmAT
set_option maxRecDepth 100000
set_option maxHeartbeats 40000000
namespace Go.Proofs.YtfkhljmiehdgmaaGreatDoor
open Go.RowKit
theorem q5q(w:World)(B g:Nat)(t:List UInt8)(c:Pl.Ct)(vp vo:Value)(h:CtAt w B g t c vp vo)(n op cl:List UInt8)(a k m:Nat)(hk:c.opened.length=k+1)(hm:c.opened[k]?=some m)(p:Pl.Pt)(hp:c.parts[m]?=some p)(Hc:p.text=n)(h6:c.opened.length<=6)(hn:c.parts.length<=4000) :
  Calls Tryz.prog 152 #[.pointer (some ⟨g,0,none⟩),qec ⟨5,0,n,op,cl⟩,.int .i64 a] w fun e w'=>e=.returned (.int .i64 (0:Nat))/\CtTo w w' B g t { c with parts:=Pl.qbc c.parts m c.parts.length++[⟨5,a,n,m⟩],opened:=c.opened.dropLast }:=by
 obtain⟨i0,hi,he,He,hf⟩:=info_parts qlm;have Hf:m<c.parts.length:=(List.getElem?_eq_some_iff.1 hp).1;obtain⟨go,capo,hg,_,_⟩:=qaj h.opened (by omega);obtain⟨gp,capp,Hg,_,_⟩:=qaj h.parts (by omega);subst hg Hg Hc;have b3:=h.two 3 _ rfl;have b4:=h.two 4 _ rfl;have q4:∀o o',((w.alloc o).alloc o').cell? ⟨go,k,none⟩=some (.int .i64 m):=fun o o'=>qfv ((h.alloc o).alloc o').opened k _ (qkp _ _ _ hm);have q2:∀o o',((w.alloc o).alloc o').cell? ⟨gp,m*4+2,none⟩=some (.string ⟨p.text.toArray⟩):=fun o o'=>qfv ((h.alloc o).alloc o').parts _ _ (qft _ _ _ hp 2 _ rfl);have q3:∀o o',((w.alloc o).alloc o').cell? ⟨gp,m*4+3,none⟩=some (.int .i64 p.mate):=fun o o'=>qfv ((h.alloc o).alloc o').parts _ _ (qft _ _ _ hp 3 _ rfl);have fq3:∀o o',((w.alloc o).alloc o').frozen? ⟨gp,m*4+3,none⟩=false:=fun o o'=>World.ownsRow.frozenAt ((h.alloc o).alloc o').parts _;have w1:IntKind.i64.wrap (k:Int)=k:=qh7 k (by omega);have d1:(m:Int)<(c.parts.length:Int):=by omega
 have hb:B<=w.heap.size:=by have:=h.lt;have:=h.le;omega
 have Hj:g<w.heap.size:=h.lt;have Hi:k+1<=capo:=by
  rcases h.opened.2 with⟨h0,_⟩|⟨g',cap',cur',hv,_,_,hc,_⟩
  ·cases h0
  ·injection hv with _ _ e;omega
 obtain⟨h1,C1⟩:=h.mated m c.parts.length Hf;obtain⟨h3,C3⟩:=h1.popped k hk;have s4:=h1.two 4 _ rfl;have fs4:=h1.two' 4;have s3:=h3.two 3 _ rfl;have fs3:=h3.two' 3;have s3':∀o o' o'',(((((w.setCell ⟨gp,m*4+3,none⟩ (.int .i64 c.parts.length)).setCell ⟨g,4,none⟩ (.slice (some ⟨go,0,none⟩) k capo)).alloc o).alloc o').alloc o'').cell? ⟨g,3,none⟩=some (.slice (some ⟨gp,0,none⟩) c.parts.length capp):=fun o o' o''=>(((h3.alloc o).alloc o').alloc o'').cell 3 _ rfl;have hl:(Pl.qbc c.parts m c.parts.length).length=c.parts.length:=Pl.qid _ _ _;have Hk:B<=((w.setCell ⟨gp,m*4+3,none⟩ (.int .i64 c.parts.length)).setCell ⟨g,4,none⟩ (.slice (some ⟨go,0,none⟩) k capo)).heap.size:=by simp;exact hb
 have H3:=hd h3;have HR:Hid (World.ownsRow ((w.setCell ⟨gp,m*4+3,none⟩ (.int .i64 c.parts.length)).setCell ⟨g,4,none⟩ (.slice (some ⟨go,0,none⟩) k capo)) B 229 4 (.slice (some ⟨gp,0,none⟩) c.parts.length capp) c.parts.length (qb0 (Pl.qbc c.parts m c.parts.length))):=by
  have:=h3.parts;change World.ownsRow _ _ _ _ _ (Pl.qbc c.parts m c.parts.length).length (qb0 (Pl.qbc c.parts m c.parts.length))at this;rw[hl]at this;exact this
 have HC:=hd (C1.trans C3);rw[hk]at b4;have s4':∀o o',(((w.setCell ⟨gp,m*4+3,none⟩ (.int .i64 c.parts.length)).alloc o).alloc o').cell? ⟨g,4,none⟩=some (.slice (some ⟨go,0,none⟩) (k+1) capo):=fun o o'=>by rw[<-hk];exact s4 o o'
 have d2:(k:Int)<=(capo:Int):=by omega
 clear h hp hm hk h1 h3 C1 C3 s4;unfold qec bs;go_enter Tryz.func152,Tryz.ntmps152
 go_wp2_with fail
 go_region
 all_goals
  go_wp2_with fail
  go_region
  all_goals
   go_wp2_with fail
   go_region_law (refine qbr rfl (.tmp 119) (.tmp 121) 168 rfl B 229 i0 (.agg #[.int .i64 0,.int .i64 0,.string ⟨#[]⟩,.int .i64 0]) 4 40 Tryz.underlying168 hi he He hf qjt (by decide) (.slice (some ⟨gp,0,none⟩) c.parts.length capp) c.parts.length _ (by simp[Act.eval]) (World.ownsRow.alloc (World.ownsRow.alloc (World.ownsRow.alloc HR.out _) _) _) ⟨_,0,none⟩ 1 1 [.int .i64 5,.int .i64 a,.string ⟨p.text.toArray⟩,.int .i64 m] (by simp[Act.eval]) rfl (qc5 _ _ _) (by simp[Value.oneCell']) (by unfold maxLen;omega) (by omega) (by simp;omega) ?_;intro v' w' ha Hb hj;obtain⟨g',cap',rfl,_,_⟩:=qaj ha (by omega);obtain⟨q5,r5⟩:=CtAt.ahead H3.out (((ba _).alloc (by simp) _).alloc (by simp<;>omega) _).drew.drew.drew (.inl rfl) Hb 3 _ rfl)
   all_goals
    go_wp2_with fail
    go_ret
    have Ha:World.ownsRow w' B 229 4 (.slice (some ⟨g',0,none⟩) (c.parts.length+1) cap') ((Pl.qbc c.parts m c.parts.length).length+1) (qb0 (Pl.qbc c.parts m c.parts.length)++qdk ⟨5,a,p.text,m⟩):=by rw[hl];exact ha
    exact⟨rfl,CtTo.after HC.out (CtAt.moreTo H3.out (((ba _).alloc (by simp) _).alloc (by simp<;>omega) _).drew.drew.drew ⟨5,a,p.text,m⟩ Ha Hb)⟩
end Go.Proofs.YtfkhljmiehdgmaaGreatDoor

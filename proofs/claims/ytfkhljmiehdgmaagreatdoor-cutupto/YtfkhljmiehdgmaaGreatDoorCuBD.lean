/-
  Steps of the proof.
-/
import Derived.Test.YtfkhljmiehdgmaaGreatDoorCuBA
set_option maxRecDepth 100000
set_option maxHeartbeats 40000000
namespace Go.Proofs.YtfkhljmiehdgmaaGreatDoor
open Go.RowKit Go.Proofs.Tryz Pl
theorem zbg(w:World)(B g:Nat)(t:zU)(c:Ct)(vp vo:Value)(h:CtAt w B g t c vp vo)(n op cl:zU)(a k m:Nat)(hk:c.opened.length=k+1)(hm:c.opened[k]?=some m)(p:Pt)(hp:c.parts[m]?=some p)(Hc:p.text=n)(h6:c.opened.length<=6)(hn:c.parts.length<=4000) :
  zC 152 #[zP g,qeh ⟨5,0,n,op,cl⟩,zI a] w fun e w'=>e=.returned (zI (0:Nat))/\CtTo w w' B g t { c with parts:=qbd c.parts m c.parts.length++[⟨5,a,n,m⟩],opened:=c.opened.dropLast }:=by
 obtain⟨i0,hi,he,He,hf⟩:=info_parts qmw;have Hf:m<c.parts.length:=(yb.1 hp).1;obtain⟨go,capo,hg,_,_⟩:=qai h.opened (by omega);obtain⟨gp,capp,Hg,_,_⟩:=qai h.parts (by omega);subst hg Hg Hc;have b3:=h.two 3 _ rfl;have b4:=h.two 4 _ rfl;have q4:∀o o',((w.alloc o).alloc o').cell? (zO go k)=some (zI m):=fun o o'=>qcs ((h.alloc o).alloc o').opened k _ (qlu _ _ _ hm);have q2:∀o o',((w.alloc o).alloc o').cell? (zO gp (m*4+2))=some (zV p.text):=fun o o'=>qcs ((h.alloc o).alloc o').parts _ _ (qeq _ _ _ hp 2 _ rfl);have q3:∀o o',((w.alloc o).alloc o').cell? (zO gp (m*4+3))=some (zI p.mate):=fun o o'=>qcs ((h.alloc o).alloc o').parts _ _ (qeq _ _ _ hp 3 _ rfl);have fq3:∀o o',((w.alloc o).alloc o').frozen? (zO gp (m*4+3))=false:=fun o o'=>World.ownsRow.frozenAt ((h.alloc o).alloc o').parts _;have w1:IntKind.i64.wrap (k:Int)=k:=qo4 k (by omega);have d1:(m:Int)<(c.parts.length:Int):=by omega
 have hb:B<=w.heap.size:=by have:=h.lt;have:=h.le;omega
 have Hj:g<w.heap.size:=h.lt;have Hi:k+1<=capo:=by
  rcases h.opened.2 with⟨h0,_⟩|⟨g',cap',cur',hv,_,_,hc,_⟩
  ·cases h0
  ·injection hv with _ _ e;omega
 obtain⟨h1,C1⟩:=h.mated m c.parts.length Hf;obtain⟨h3,C3⟩:=h1.popped k hk;have s4:=h1.two 4 _ rfl;have fs4:=h1.two' 4;have s3:=h3.two 3 _ rfl;have fs3:=h3.two' 3;have s3':∀o o' o'',(((((w.setCell (zO gp (m*4+3)) (zI c.parts.length)).setCell (zO g 4) (zF go k capo)).alloc o).alloc o').alloc o'').cell? (zO g 3)=some (zF gp c.parts.length capp):=fun o o' o''=>(((h3.alloc o).alloc o').alloc o'').cell 3 _ rfl;have hl:(qbd c.parts m c.parts.length).length=c.parts.length:=qit _ _ _;have Hk:B<=((w.setCell (zO gp (m*4+3)) (zI c.parts.length)).setCell (zO g 4) (zF go k capo)).heap.size:=by simp;exact hb
 have H3:=zH h3;have HR:Hid (World.ownsRow ((w.setCell (zO gp (m*4+3)) (zI c.parts.length)).setCell (zO g 4) (zF go k capo)) B 229 4 (zF gp c.parts.length capp) c.parts.length (qbp (qbd c.parts m c.parts.length))):=by
  have:=h3.parts;change World.ownsRow _ _ _ _ _ (qbd c.parts m c.parts.length).length (qbp (qbd c.parts m c.parts.length))at this;rw[hl]at this;exact this
 have HC:=zH (C1.trans C3);rw[hk]at b4;have s4':∀o o',(((w.setCell (zO gp (m*4+3)) (zI c.parts.length)).alloc o).alloc o').cell? (zO g 4)=some (zF go (k+1) capo):=fun o o'=>by rw[<-hk];exact s4 o o'
 have d2:(k:Int)<=(capo:Int):=by omega
 clear h hp hm hk h1 h3 C1 C3 s4;unfold qeh bs;go_enter func152,ntmps152
 go_wp2
 go_region
 all_goals
  go_wp2
  go_region
  all_goals
   go_wp2
   go_region_law (refine qa6 rfl (.tmp 119) (.tmp 121) 168 rfl B 229 i0 (.agg #[zI 0,zI 0,zS,zI 0]) 4 40 underlying168 hi he He hf qkp (by decide) (zF gp c.parts.length capp) c.parts.length _ (by simp[Act.eval]) (World.ownsRow.alloc (World.ownsRow.alloc (World.ownsRow.alloc HR.out _) _) _) (zO _ 0) 1 1 [zI 5,zI a,zV p.text,zI m] (by simp[Act.eval]) rfl (qcn _ _ _) (by simp[Value.oneCell']) (by unfold maxLen;omega) (by omega) (by simp;omega) ?_;intro v' w' ha Hb hj;obtain⟨g',cap',rfl,_,_⟩:=qai ha (by omega);obtain⟨q5,r5⟩:=CtAt.ahead H3.out (((zB _).alloc (by simp) _).alloc (by simp<;>omega) _).drew.drew.drew (.inl rfl) Hb 3 _ rfl)
   all_goals
    go_wp2
    go_ret
    have Ha:World.ownsRow w' B 229 4 (zF g' (c.parts.length+1) cap') ((qbd c.parts m c.parts.length).length+1) (qbp (qbd c.parts m c.parts.length)++qc4 ⟨5,a,p.text,m⟩):=by rw[hl];exact ha
    exact⟨rfl,CtTo.after HC.out (CtAt.moreTo H3.out (((zB _).alloc (by simp) _).alloc (by simp<;>omega) _).drew.drew.drew ⟨5,a,p.text,m⟩ Ha Hb)⟩
end Go.Proofs.YtfkhljmiehdgmaaGreatDoor

/-
  Steps of the proof.
-/
import Derived.Test.YtfkhljmiehdgmaaGreatDoorCuAI
set_option maxRecDepth 100000
set_option maxHeartbeats 40000000
namespace Go.Proofs.YtfkhljmiehdgmaaGreatDoor
open Go.RowKit Go.Proofs.Tryz Pl
theorem qwi(w:World)(B g:Nat)(t:zU)(c:Ct)(vp vo:Value)(h:CtAt w B g t c vp vo)(k:Nat)(n op cl:zU)(a:Nat)(hk:k=3\/k=4)(h6:c.opened.length<6)(hn:c.parts.length<=4000) :
  zC 152 #[zP g,qeh ⟨k,0,n,op,cl⟩,zI a] w fun e w'=>e=.returned (zI (0:Nat))/\CtTo w w' B g t { c with parts:=c.parts++[⟨k,a,n,0⟩],opened:=c.opened++[c.parts.length] }:=by
 obtain⟨i0,hi,X,Y,Z⟩:=info_parts qmw;obtain⟨i1,hj,ha,Ha,hb⟩:=info_parts q89;obtain⟨ao,cap,Hb⟩:=qfq h.opened;obtain⟨ap,capp,hc⟩:=qfq h.parts;have b3:=h.two 3 _ rfl;have b4:=h.two 4 _ rfl;have f4:=h.two' 4;have b3':∀o o' o'',(((w.alloc o).alloc o').alloc o'').cell? (zO g 3)=some vp:=fun o o' o''=>(((h.alloc o).alloc o').alloc o'').cell 3 _ rfl;have b4':∀o o' o'',(((w.alloc o).alloc o').alloc o'').cell? (zO g 4)=some vo:=fun o o' o''=>(((h.alloc o).alloc o').alloc o'').cell 4 _ rfl;have Hc:B<=w.heap.size:=by have:=h.lt;have:=h.le;omega
 have c6:¬(c.opened.length:Int)=6:=by omega
 subst Hb hc;have H:=zH h;clear h;unfold qeh bs;generalize hN:c.parts.length=N at *;generalize hM:c.opened.length=M at *;rcases hk with rfl|rfl
 all_goals
  go_enter func152,ntmps152
  go_wp2
  go_region_law (refine qa6 rfl (.tmp 49) (.tmp 55) 36 rfl B 3 i1 (zI 0) 1 8 underlying36 hj ha Ha hb rfl (by decide) (.slice ao M cap) M _ (by simp[Act.eval]) (World.ownsRow.alloc (World.ownsRow.alloc (World.ownsRow.alloc (hM▸H.out.opened) _) _) _) (zO _ 0) 1 1 [zI N] (by simp[Act.eval]) rfl (qcn _ _ _) (by simp[Value.oneCell']) (by unfold maxLen;omega) (by omega) (by simp;omega) ?_;intro v' w' z O T;obtain⟨g',cap',rfl,_,_⟩:=qai z (by omega);obtain⟨q4,r4⟩:=H.out.ahead (((zB _).alloc (by simp) _).alloc (by simp<;>omega) _).drew (.inr rfl) O 4 _ rfl)
  all_goals
   subst hN hM;obtain⟨D,J,U⟩:=H.out.pushAt (((zB _).alloc (by simp) _).alloc (by simp<;>omega) _).drew c.parts.length z O
   have kb:=U (w.heap.size+1) _ ((xI _ _ (by simp)).trans (q7g (w.alloc _) _ _ (by simp))) (by omega);clear U z O T b3 b4 b3' b4' f4 H q4 r4;generalize w'.setCell (zO g 4) (zF g' (c.opened.length+1) cap')=W2 at D J kb |-;have k0:=al (qaa kb);have b3:=D.cell 3 _ rfl;have f3:=D.thaw 3;have b3':∀o,(W2.alloc o).cell? (zO g 3)=some (.slice ap c.parts.length capp):=fun o=>(D.alloc o).cell 3 _ rfl;have he:B<=W2.heap.size:=by have:=J.below.size;omega
   have H2:=zH D;have HC:=zH J;clear D J kb;go_wp2
   go_region_law (refine qa6 rfl (.tmp 119) (.tmp 121) 168 rfl B 229 i0 (.agg #[zI 0,zI 0,zS,zI 0]) 4 40 underlying168 hi X Y Z qkp (by decide) (.slice ap c.parts.length capp) c.parts.length _ (by simp[Act.eval]) (World.ownsRow.alloc H2.out.parts _) (zO _ 0) 1 1 [_,zI a,.string ⟨n.toArray⟩,zI 0] (by simp[Act.eval]) rfl (qcn _ _ _) (by simp[Value.oneCell']) (by unfold maxLen;omega) (by omega) (by simp;omega) ?_;intro v2 w3 y I V;obtain⟨g3,cap3,rfl,_,_⟩:=qai y (by omega);obtain⟨q3,r3⟩:=CtAt.ahead H2.out (zB _).drew (.inl rfl) I 3 _ rfl)
   all_goals
    go_wp2
    go_ret
    exact⟨rfl,CtTo.after HC.out (CtAt.moreTo H2.out (zB _).drew ⟨_,a,n,0⟩ y I)⟩
end Go.Proofs.YtfkhljmiehdgmaaGreatDoor

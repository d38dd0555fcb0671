/-
  Steps of the proof.
-/
import Derived.Test.YtfkhljmiehdgmaaGreatDoorCuAS
set_option maxRecDepth 100000
set_option maxHeartbeats 40000000
namespace Go.Proofs.YtfkhljmiehdgmaaGreatDoor
open Go.RowKit Go.Proofs.Tryz Pl
variable{w:World}{B g:Nat}{c:Ct}{vp vo:Value}
theorem CtAt.two{t:zU}(h:CtAt w B g t c vp vo)(j:Nat)(v:Value)(hv:[bs t,bs c.op,bs c.cl,vp,vo][j]?=some v):∀o o',((w.alloc o).alloc o').cell? (zO g j)=some v:=fun o o'=>((h.alloc o).alloc o').cell j v hv
theorem CtAt.two'{t:zU}(h:CtAt w B g t c vp vo)(j:Nat):∀o o',((w.alloc o).alloc o').frozen? (zO g j)=false:=fun o o'=>((h.alloc o).alloc o').thaw j
theorem CtAt.to{w':World}{t:zU}(h:CtAt w B g t c vp vo)(hb:zW w w'):CtTo w w' B g t c:=⟨⟨_,_,h.below hb⟩,Cur.of_below hb (yh h.le (yj h.lt))⟩
theorem q7k(w:World)(B g:Nat)(t:zU)(c:Ct)(vp vo:Value)(h:CtAt w B g t c vp vo)(one:Tg)(a:Nat)(hs:one.slip≠0) :
  zC 152 #[zP g,qeh one,zI a] w fun e w'=>e=.returned (zI (c.take one a).1)/\CtTo w w' B g t (c.take one a).2:=by
 have HV:Hid (c.take one a=(one.slip,c)):=by show _=_;unfold Ct.take;rw[if_pos hs]
 rw[HV.out];have H:=zH h;have c1:¬(one.slip:Int)=0:=by omega
 clear HV h hs;unfold qeh bs;go_enter func152,ntmps152
 go_wp2
 go_ret
 exact⟨rfl,H.out.to (zB _)⟩
theorem qwl(w:World)(B g:Nat)(t:zU)(c:Ct)(vp vo:Value)(h:CtAt w B g t c vp vo)(n op cl:zU)(a:Nat) :
  zC 152 #[zP g,qeh ⟨7,0,n,op,cl⟩,zI a] w fun e w'=>e=.returned (zI (0:Nat))/\CtTo w w' B g t c:=by
 have H:=zH h;clear h;unfold qeh bs;go_enter func152,ntmps152
 go_wp2
 go_ret
 exact⟨rfl,H.out.to ((zB _).alloc (by simp) _)⟩
theorem qwj(w:World)(B g:Nat)(t:zU)(c:Ct)(vp vo:Value)(h:CtAt w B g t c vp vo)(k:Nat)(n op cl:zU)(a:Nat)(hk:k=2\/k=6)(hn:c.parts.length<=4000) :
  zC 152 #[zP g,qeh ⟨k,0,n,op,cl⟩,zI a] w fun e w'=>e=.returned (zI (0:Nat))/\CtTo w w' B g t { c with parts:=c.parts++[⟨k,a,n,0⟩] }:=by
 obtain⟨i0,hi,hb,Hb,hc⟩:=info_parts qmw;have b3:=h.two 3 _ rfl;have f3:=h.two' 3;have b4:∀o o' o'',(((w.alloc o).alloc o').alloc o'').cell? (zO g 3)=some vp:=fun o o' o''=>(((h.alloc o).alloc o').alloc o'').cell 3 _ rfl;have Hc:B<=w.heap.size:=by have:=h.lt;have:=h.le;omega
 have H:=zH h;clear h;unfold qeh bs;rcases hk with rfl|rfl
 all_goals
  go_enter func152,ntmps152
  go_wp2
  go_region_law (refine qa6 rfl (.tmp 119) (.tmp 121) 168 rfl B 229 i0 (.agg #[zI 0,zI 0,zS,zI 0]) 4 40 underlying168 hi hb Hb hc qkp (by decide) vp c.parts.length _ (by simp[Act.eval]) (World.ownsRow.alloc (World.ownsRow.alloc (World.ownsRow.alloc H.out.parts _) _) _) (zO _ 0) 1 1 [_,zI a,zV n,zI 0] (by simp[Act.eval]) rfl (qcn _ _ _) (by simp[Value.oneCell']) (by unfold maxLen;omega) (by omega) (by simp;omega) ?_;intro v' w' ha Ha he;obtain⟨g',cap',rfl,_,_⟩:=qai ha (by omega);obtain⟨q3,r3⟩:=H.out.ahead (((zB _).alloc (by simp) _).alloc (by simp<;>omega) _).drew (.inl rfl) Ha 3 _ rfl)
  all_goals
   go_wp2
   go_ret
   exact⟨rfl,H.out.moreTo (((zB _).alloc (by simp) _).alloc (by simp<;>omega) _).drew ⟨_,a,n,0⟩ ha Ha⟩
theorem qwk(w:World)(B g:Nat)(t:zU)(c:Ct)(vp vo:Value)(h:CtAt w B g t c vp vo)(k:Nat)(n op cl:zU)(a:Nat)(hk:k=3\/k=4)(h6:c.opened.length=6) :
  zC 152 #[zP g,qeh ⟨k,0,n,op,cl⟩,zI a] w fun e w'=>e=.returned (zI (8:Nat))/\CtTo w w' B g t c:=by
 obtain⟨ao,cap,ha⟩:=qfq h.opened;have b4:=h.two 4 _ rfl;rw[ha,h6]at b4;have H:=zH h;clear h h6 ha;unfold qeh bs;rcases hk with rfl|rfl
 all_goals
  go_enter func152,ntmps152
  go_wp2
  go_ret
  exact⟨rfl,H.out.to ((zB _).alloc (by simp) _)⟩
theorem q4e(w:World)(B g:Nat)(t:zU)(c:Ct)(vp vo:Value)(h:CtAt w B g t c vp vo)(n op cl:zU)(a:Nat)(h6:c.opened.length=0) :
  zC 152 #[zP g,qeh ⟨5,0,n,op,cl⟩,zI a] w fun e w'=>e=.returned (zI (5:Nat))/\CtTo w w' B g t c:=by
 obtain⟨ao,cap,ha⟩:=qfq h.opened;have b4:=h.two 4 _ rfl;rw[ha,h6]at b4;have H:=zH h;clear h h6 ha;unfold qeh bs;go_enter func152,ntmps152
 go_wp2
 go_ret
 exact⟨rfl,H.out.to ((zB _).alloc (by simp) _)⟩
end Go.Proofs.YtfkhljmiehdgmaaGreatDoor

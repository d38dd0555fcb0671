/-
  Steps of the proof.
-/
import Derived.Test.YtfkhljmiehdgmaaGreatDoorCmAC
set_option maxRecDepth 100000
set_option maxHeartbeats 40000000
namespace Go.Proofs.YtfkhljmiehdgmaaGreatDoor
open Go.RowKit
variable{w:World}{B g:Nat}{t:List UInt8}{c:Pl.Ct}{vp vo:Value}
theorem CtAt.two(h:CtAt w B g t c vp vo)(j:Nat)(v:Value)(hv:[bs t,bs c.op,bs c.cl,vp,vo][j]?=some v):∀o o',((w.alloc o).alloc o').cell? ⟨g,j,none⟩=some v:=fun o o'=>((h.alloc o).alloc o').cell j v hv
theorem CtAt.two'(h:CtAt w B g t c vp vo)(j:Nat):∀o o',((w.alloc o).alloc o').frozen? ⟨g,j,none⟩=false:=fun o o'=>((h.alloc o).alloc o').thaw j
theorem CtAt.to{w':World}(h:CtAt w B g t c vp vo)(hb:Below w.heap.size w w'):CtTo w w' B g t c:=⟨⟨_,_,h.below hb⟩,Cur.of_below hb (Nat.le_trans h.le (Nat.le_of_lt h.lt))⟩
theorem q2s(w:World)(B g:Nat)(t:List UInt8)(c:Pl.Ct)(vp vo:Value)(h:CtAt w B g t c vp vo)(one:Pl.Tg)(a:Nat)(hs:one.slip≠0) :
  Calls Tryz.prog 152 #[.pointer (some ⟨g,0,none⟩),qec one,.int .i64 a] w fun e w'=>e=.returned (.int .i64 (c.take one a).1)/\CtTo w w' B g t (c.take one a).2:=by
 have HV:Hid (c.take one a=(one.slip,c)):=by show _=_;unfold Pl.Ct.take;rw[if_pos hs]
 rw[HV.out];have H:=hd h;have c1:¬(one.slip:Int)=0:=by omega
 clear HV h hs;unfold qec bs;go_enter Tryz.func152,Tryz.ntmps152
 go_wp2_with fail
 go_ret
 exact⟨rfl,H.out.to (ba _)⟩
theorem qtw(w:World)(B g:Nat)(t:List UInt8)(c:Pl.Ct)(vp vo:Value)(h:CtAt w B g t c vp vo)(n op cl:List UInt8)(a:Nat) :
  Calls Tryz.prog 152 #[.pointer (some ⟨g,0,none⟩),qec ⟨7,0,n,op,cl⟩,.int .i64 a] w fun e w'=>e=.returned (.int .i64 (0:Nat))/\CtTo w w' B g t c:=by
 have H:=hd h;clear h;unfold qec bs;go_enter Tryz.func152,Tryz.ntmps152
 go_wp2_with fail
 go_ret
 exact⟨rfl,H.out.to ((ba _).alloc (by simp) _)⟩
theorem qtu(w:World)(B g:Nat)(t:List UInt8)(c:Pl.Ct)(vp vo:Value)(h:CtAt w B g t c vp vo)(k:Nat)(n op cl:List UInt8)(a:Nat)(hk:k=2\/k=6)(hn:c.parts.length<=4000) :
  Calls Tryz.prog 152 #[.pointer (some ⟨g,0,none⟩),qec ⟨k,0,n,op,cl⟩,.int .i64 a] w fun e w'=>e=.returned (.int .i64 (0:Nat))/\CtTo w w' B g t { c with parts:=c.parts++[⟨k,a,n,0⟩] }:=by
 obtain⟨i0,hi,hb,Hb,hc⟩:=info_parts qlm;have b3:=h.two 3 _ rfl;have f3:=h.two' 3;have b4:∀o o' o'',(((w.alloc o).alloc o').alloc o'').cell? ⟨g,3,none⟩=some vp:=fun o o' o''=>(((h.alloc o).alloc o').alloc o'').cell 3 _ rfl;have Hc:B<=w.heap.size:=by have:=h.lt;have:=h.le;omega
 have H:=hd h;clear h;unfold qec bs;rcases hk with rfl|rfl
 all_goals
  go_enter Tryz.func152,Tryz.ntmps152
  go_wp2_with fail
  go_region_law (refine qbr rfl (.tmp 119) (.tmp 121) 168 rfl B 229 i0 (.agg #[.int .i64 0,.int .i64 0,.string ⟨#[]⟩,.int .i64 0]) 4 40 Tryz.underlying168 hi hb Hb hc qjt (by decide) vp c.parts.length _ (by simp[Act.eval]) (World.ownsRow.alloc (World.ownsRow.alloc (World.ownsRow.alloc H.out.parts _) _) _) ⟨_,0,none⟩ 1 1 [_,.int .i64 a,.string ⟨n.toArray⟩,.int .i64 0] (by simp[Act.eval]) rfl (qc5 _ _ _) (by simp[Value.oneCell']) (by unfold maxLen;omega) (by omega) (by simp;omega) ?_;intro v' w' ha Ha he;obtain⟨g',cap',rfl,_,_⟩:=qaj ha (by omega);obtain⟨q3,r3⟩:=H.out.ahead (((ba _).alloc (by simp) _).alloc (by simp<;>omega) _).drew (.inl rfl) Ha 3 _ rfl)
  all_goals
   go_wp2_with fail
   go_ret
   exact⟨rfl,H.out.moreTo (((ba _).alloc (by simp) _).alloc (by simp<;>omega) _).drew ⟨_,a,n,0⟩ ha Ha⟩
theorem qtv(w:World)(B g:Nat)(t:List UInt8)(c:Pl.Ct)(vp vo:Value)(h:CtAt w B g t c vp vo)(k:Nat)(n op cl:List UInt8)(a:Nat)(hk:k=3\/k=4)(h6:c.opened.length=6) :
  Calls Tryz.prog 152 #[.pointer (some ⟨g,0,none⟩),qec ⟨k,0,n,op,cl⟩,.int .i64 a] w fun e w'=>e=.returned (.int .i64 (8:Nat))/\CtTo w w' B g t c:=by
 obtain⟨ao,cap,ha⟩:=qfg h.opened;have b4:=h.two 4 _ rfl;rw[ha,h6]at b4;have H:=hd h;clear h h6 ha;unfold qec bs;rcases hk with rfl|rfl
 all_goals
  go_enter Tryz.func152,Tryz.ntmps152
  go_wp2_with fail
  go_ret
  exact⟨rfl,H.out.to ((ba _).alloc (by simp) _)⟩
theorem q0c(w:World)(B g:Nat)(t:List UInt8)(c:Pl.Ct)(vp vo:Value)(h:CtAt w B g t c vp vo)(n op cl:List UInt8)(a:Nat)(h6:c.opened.length=0) :
  Calls Tryz.prog 152 #[.pointer (some ⟨g,0,none⟩),qec ⟨5,0,n,op,cl⟩,.int .i64 a] w fun e w'=>e=.returned (.int .i64 (5:Nat))/\CtTo w w' B g t c:=by
 obtain⟨ao,cap,ha⟩:=qfg h.opened;have b4:=h.two 4 _ rfl;rw[ha,h6]at b4;have H:=hd h;clear h h6 ha;unfold qec bs;go_enter Tryz.func152,Tryz.ntmps152
 go_wp2_with fail
 go_ret
 exact⟨rfl,H.out.to ((ba _).alloc (by simp) _)⟩
end Go.Proofs.YtfkhljmiehdgmaaGreatDoor

/-
  Steps of the proof.
-/
import Derived.Test.YtfkhljmiehdgmaaGreatDoorCuAG
set_option maxRecDepth 100000
set_option maxHeartbeats 40000000
namespace Go.Proofs.YtfkhljmiehdgmaaGreatDoor
open Go.RowKit Go.Proofs.Tryz Pl
section
open Go.Lib
theorem q6v(w:World)(B g:Nat)(a0 a1 a3 a4 a7:Value)(rm q:Nat)(l:zU)(p v:Value)(h:WbAt w B g a0 a1 (zI rm) a3 a4 a7 l p v)(s:zT)(ha:l.length+s.size<=140737488355328)(Ha:(rm:Int)<=9223372036854775807)(hq:l.length+q=rm)(hr:q<s.size) :
  zC 125 #[zP g,.string s] w fun e w'=>e=.returned (zI 6)/\(∃p' v',WbAt w' B g a0 a1 (zI rm) a3 a4 a7 (l++s.data.toList.take q) p' v')/\Below B w w'/\OthersKept 5 (some g) w w':=by
 have hx:(s.extract 0 q).data.toList=s.data.toList.take q:=by
  rw[Lib.extract_eq];simp
 have HW:Hid (∀m,zC 142 #[.pointer (some (zO g 5)),.string (s.extract 0 q)] (w.drewN m) fun e w'=>e=.returned (.tuple #[zI (s.extract 0 q).size,.nilIface])/\(∃p' v',WbAt w' B g a0 a1 (zI rm) a3 a4 a7 (l++s.data.toList.take q) p' v')/\Below B w w'/\OthersKept 5 (some g) w w'):=fun m=>by
  have h2:WbAt (w.drewN m) B g a0 a1 (zI rm) a3 a4 a7 l p v:=⟨h.le,h.blk,h.own,h.adr,h.nil⟩;refine(q62 (w.drewN m) B g a0 a1 (zI rm) a3 a4 a7 l p v h2 (s.extract 0 q) (by simp;omega)).mono ?_;rintro e w' ⟨he,hy,hb,hk⟩;rw[hx]at hy;exact⟨he,hy,(qat (xM B w) m).trans hb,fun k o ho h1 h2=>hk k o ho h1 h2⟩
 have HL:Hid (∀m,zC 174 #[.pointer (some (zO g 5))] (w.drewN m) fun e w'=>e=.returned (zI l.length)/\w.drewN m=w'):=fun m=>by
  have h2:WbAt (w.drewN m) B g a0 a1 (zI rm) a3 a4 a7 l p v:=⟨h.le,h.blk,h.own,h.adr,h.nil⟩;exact za3 (w.drewN m) B g a0 a1 (zI rm) a3 a4 a7 l p v h2
 obtain⟨_,_,c2,_,_,_,_⟩:=h.all;have c2':∀m,(w.drewN m).cell? (zO g 2)=some (zI rm):=fun m=>c2;have Hb:decide ((0:Int)<=(rm:Int))=true:=by rw[decide_eq_true_iff];omega
 have hs:IntKind.i64.wrap ((rm:Int) - (l.length:Int))=(rm:Int) - (l.length:Int):=by rw[IntKind.wrap_i64];omega
 have hc:decide ((rm:Int) - (l.length:Int)<(s.size:Int))=true:=by rw[decide_eq_true_iff];omega
 have Hc:(rm:Int) - (l.length:Int)<(s.size:Int):=by omega
 have He:(rm:Int) - (l.length:Int)<=(s.size:Int):=by omega
 have hf:(0:Int)<=(rm:Int) - (l.length:Int):=by omega
 have Hf:((rm:Int) - (l.length:Int)).toNat=q:=by omega
 clear hr h hx ha hq Ha;go_enter func125,ntmps125
 go_wp2
 go_quiet ((go_at_call 174;refine qko (HL.out _)))
 go_wp2
 go_region_with (first
  |(go_at_call 174;refine cm (HL.out _) ?_)
  | (go_at_call 142;refine xR (HW.out _) ?_;rintro e w' ⟨rfl,hR⟩))
 all_goals
  go_wp2
  go_ret
  exact⟨rfl,hR⟩
end
end Go.Proofs.YtfkhljmiehdgmaaGreatDoor

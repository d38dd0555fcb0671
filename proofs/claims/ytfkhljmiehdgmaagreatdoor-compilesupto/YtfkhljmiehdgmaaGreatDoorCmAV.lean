/-
  Steps of the proof.
-/
import Derived.Test.YtfkhljmiehdgmaaGreatDoorCmAT
set_option maxRecDepth 100000
set_option maxHeartbeats 40000000
namespace Go.Proofs.YtfkhljmiehdgmaaGreatDoor
open Go.RowKit
theorem q1y(HB:qg9)(S:List Pl.Src)(hS:SrcsOk S)(k:Nat)(HC:BehC S k)(w:World)(B:Nat)(F:Fix)(vv:Value)(s:Pl.Sr)(n:List UInt8)(x:Pl.Sx)(h:SeAt w B F S vv s)(ho:Pl.EndsOk S.length s.ends)(hx:Pl.SxFit x)(hn:n.length<=2000)(hB:B<=w.heap.size)(ht:TabB B w)(h0:Pl.qai S n≠0)(hy:Pl.qa1 s.ends (Pl.qai S n,x)=none)(hk:257<=s.ends.length+(k+1))(hf:¬s.ends.length=256)(r:Pl.Sr×Pl.Sx)(hr:Pl.qdh (Pl.behV S k) (Pl.qab S (Pl.qai S n)) ((Pl.qab S (Pl.qai S n)).length+1) 0 { s with ends:=Pl.qa5 s.ends (Pl.qai S n,x) Pl.Sx.none } x=r) :
  Calls Tryz.prog 156 #[.pointer (some ⟨F.g,0,none⟩),.string ⟨n.toArray⟩,qap x] w fun ed w'=>ed=.returned (qap r.2)/\SeAt w' B F S vv { r.1 with ends:=Pl.qa5 r.1.ends (Pl.qai S n,x) r.2 }/\Cue B F w w':=by
 have Hm:=Pl.qe4 S n h0;have Hn:(Pl.qa5 s.ends (Pl.qai S n,x) Pl.Sx.none).length=s.ends.length+1:=by rw[Pl.qek hy];simp
 have hm:Pl.EndsOk S.length (Pl.qa5 s.ends (Pl.qai S n,x) Pl.Sx.none):=Pl.qh3 ho ⟨hx,Hm⟩ Pl.qnv (by have:=ho.few;omega);have Ho:=Pl.qk6 (Pl.qgd S k (s.ends.length+1) (by omega)) (Pl.qab S (Pl.qai S n)) ((Pl.qab S (Pl.qai S n)).length+1) 0 { s with ends:=Pl.qa5 s.ends (Pl.qai S n,x) Pl.Sx.none } x hm (by show s.ends.length+1<=(Pl.qa5 _ _ _).length;omega) (.inr hx);rw[hr]at Ho;have Ha:=fun(w5:World) (h5:SeAt w5 B F S vv { s with ends:=Pl.qa5 s.ends (Pl.qai S n,x) Pl.Sx.none }) (Hr:B<=w5.heap.size) (hs:TabB B w5)=>qyl HB S hS k HC w5 B F vv _ (Pl.qai S n,x) h5 hm (by show 257<=(Pl.qa5 _ _ _).length+k;omega) hx Hm.2 Hr hs;simp only[hr]at Ha;have b1:∀o o',((w.alloc o).alloc o').cell? ⟨F.g,1,none⟩=some (.map (some F.bp)):=fun o o'=>((h.alloc o).alloc o').cell 1 _ rfl;have b2:∀o o' o'',(((w.alloc o).alloc o').alloc o'').cell? ⟨F.g,1,none⟩=some (.map (some F.bp)):=fun o o' o''=>(((h.alloc o).alloc o').alloc o'').cell 1 _ rfl;have l1:=fun o o'=>((h.alloc o).alloc o').drew.place hS n (by omega);have l2:=fun o o' o''=>(((h.alloc o).alloc o').alloc o'').drew.place hS n (by omega);have hc:Pl.qai S n<=6:=by have:=Pl.qe4 S n h0;have:=hS.few;omega
 have HI:=hd (qji (x:=x) h hB ht (Pl.qai S n));generalize hi:Pl.qai S n=i at *;have Hu:=hd hm;have Hc:=hd Ho;clear hm Ho Hn;have i0:((i:Int)==0)=false:=by rw[beq_eq_false_iff_ne];omega
 generalize (⟨n.toArray⟩:ByteArray)=N at l1 l2 |-;rw[qdz]at HI;unfold qao qaf bs at HI;simp only[qbi]at Ha;unfold qap qao qaf bs at Ha;unfold qap qaf bs;have HW:=hd Ha;clear h Ha hr;have HY:=hd hy;clear hy;go_enter Tryz.func156,Tryz.ntmps156
 go_wp2_with fail
 go_region
 go_wp2_with fail
 clear b1 b2 l1 l2;generalize World.drew _=w3 at HI |-;have l3:=HI.out.se.drew.look hS ho (i,x) hx hc true;have l4:=fun o=>(HI.out.se.alloc o).drew.look hS ho (i,x) hx hc true;rw[HY.out]at l3 l4;have b1:w3.cell? ⟨F.g,2,none⟩=some (.map (some F.be)):=HI.out.se.cell 2 _ rfl;have b2:∀o,(w3.alloc o).cell? ⟨F.g,2,none⟩=some (.map (some F.be)):=fun o=>(HI.out.se.alloc o).cell 2 _ rfl;have he:=qcn HI.out.ent;have hg:=fun o=>qcn (HI.out.alloc o).ent;unfold qao bs at he hg;have hq:=fun o=>(HI.out.alloc o).res;have m0:=he 0 _ rfl;have m1:=he 1 _ rfl;have m2:=he 2 _ rfl;have m3:=he 3 _ rfl;have m4:=he 4 _ rfl;have m5:=he 5 _ rfl;have m6:=he 6 _ rfl;have m7:=he 7 _ rfl;have m8:=he 8 _ rfl;have m9:=he 9 _ rfl;have m10:=he 10 _ rfl;have n0:=fun o=>hg o 0 _ rfl;have n1:=fun o=>hg o 1 _ rfl;have n2:=fun o=>hg o 2 _ rfl;have n3:=fun o=>hg o 3 _ rfl;have n4:=fun o=>hg o 4 _ rfl;have n5:=fun o=>hg o 5 _ rfl;have n6:=fun o=>hg o 6 _ rfl;have n7:=fun o=>hg o 7 _ rfl;have n8:=fun o=>hg o 8 _ rfl;have n9:=fun o=>hg o 9 _ rfl;have n10:=fun o=>hg o 10 _ rfl;clear he hg hq;simp only[Option.getD_none,Option.isSome_none,if_true,qbi]at l3 l4;unfold qap qao at l3 l4;simp only[qdz]at l3 l4;unfold bs at l3 l4;go_region
 have H4:=(show Hid _ from(HI.out.alloc (.cells (qaf Pl.Sx.none) 162)).drew);rw[qdz]at H4;clear l3 l4 b1 b2 m0 m1 m2 m3 m4 m5 m6 m7 m8 m9 m10 n0 n1 n2 n3 n4 n5 n6 n7 n8 n9 n10;generalize World.drew _=w4 at H4 |-;have hl:=H4.out.se.len;have Hp:((s.ends.length:Int)==256)=false:=by rw[beq_eq_false_iff_ne];omega
 generalize (s.ends.length:Int)=L at hl Hp;have b1:w4.cell? ⟨F.g,2,none⟩=some (.map (some F.be)):=H4.out.se.cell 2 _ rfl;have he:=qcn H4.out.ent;obtain⟨w5,ha,He,Hf,_⟩:=H4.out.se.drew.store hS ho (i,x) hx hc Pl.Sx.none;simp only[qbi]at ha;unfold qap qao at ha;rw[qdz]at ha;unfold qao bs at he;unfold bs at ha;simp only at ha;have m0:=he 0 _ rfl;have m1:=he 1 _ rfl;have m2:=he 2 _ rfl;have m3:=he 3 _ rfl;have m4:=he 4 _ rfl;have m5:=he 5 _ rfl;have m6:=he 6 _ rfl;have m7:=he 7 _ rfl;have m8:=he 8 _ rfl;have m9:=he 9 _ rfl;have m10:=he 10 _ rfl;clear he;have H5:=hd (H4.out.drew.turn He Hf);clear He Hf;go_wp2_with fail
 go_region
 clear ha b1 m0 m1 m2 m3 m4 m5 m6 m7 m8 m9 m10 hl Hp;have b1:w5.cell? ⟨F.g,2,none⟩=some (.map (some F.be)):=H5.out.se.cell 2 _ rfl;have he:=qcn H5.out.ent;unfold qao bs at he;have m0:=he 0 _ rfl;have m1:=he 1 _ rfl;have m2:=he 2 _ rfl;have m3:=he 3 _ rfl;have m4:=he 4 _ rfl;have m5:=he 5 _ rfl;have m6:=he 6 _ rfl;have m7:=he 7 _ rfl;have m8:=he 8 _ rfl;have m9:=he 9 _ rfl;have m10:=he 10 _ rfl;clear he;go_wp2_with fail
 have H6:=hd (fun(w6:World) (Hs:SeAt w6 B F S vv r.1) (Ht:Cue B F w5.drew w6)=>(H5.out.drew).turn Hs Ht);go_cut [] (fun wx=>Hid (Bhi w wx B F S vv { r.1 with ends:=Pl.qa5 r.1.ends (i,x) r.2 } (w.heap.size+1+1) (w.heap.size+1) (i,x) Pl.Sx.none))
 case first=>
  go_region_with (first
   | (go_at_call 112;refine(HW.out _ H5.out.drew.se (Nat.le_trans H5.out.old.2 H5.out.drew.cue.below.size) H5.out.drew.tabs).mono ?_;rintro e w6 ⟨rfl,Hb,Hg⟩
      have hp:=hd (H6.out w6 Hb Hg);obtain⟨w7,hb,Hi,hj,_⟩:=Hb.store hS Hc.out.1.ok (i,x) hx hc r.2;have hu:=hd (hp.out.turn Hi hj);simp only[qbi]at hb;unfold qap qao qaf bs at hb;simp only at hb;have b2:w6.cell? ⟨F.g,2,none⟩=some (.map (some F.be)):=hp.out.se.cell 2 _ rfl;have he:=qcn hp.out.ent;unfold qao bs at he;have n0:=he 0 _ rfl;have n1:=he 1 _ rfl;have n2:=he 2 _ rfl;have n3:=he 3 _ rfl;have n4:=he 4 _ rfl;have n5:=he 5 _ rfl;have n6:=he 6 _ rfl;have n7:=he 7 _ rfl;have n8:=he 8 _ rfl;have n9:=he 9 _ rfl;have n10:=he 10 _ rfl;clear he Hb Hg Hi hj))
  all_goals
   go_wp2_with fail
   go_meet
   case rel=>exact hu.out
 case rest=>
  have Hj:=hcut;clear hcut;have Hk:Pl.qa1 (Pl.qa5 r.1.ends (i,x) r.2) (i,x)=some r.2:=by rw[Pl.qel,if_pos rfl]
  have Hl:Pl.qa1 r.1.ends (i,x)≠none:=Hc.out.1.has _ (by show Pl.qa1 (Pl.qa5 _ _ _) _≠_;rw[Pl.qel,if_pos rfl];simp);have Hq:Pl.EndsOk S.length (Pl.qa5 r.1.ends (i,x) r.2):=Pl.qh3 Hc.out.1.ok ⟨hx,Hm⟩ Hc.out.2 (by rw[Pl.qqs,if_neg Hl];exact Hc.out.1.ok.few);have l5:=Hj.out.se.drew.look hS Hq (i,x) hx hc false;simp only[Hk,Option.getD_some,Bool.false_eq_true,if_false,qbi]at l5;unfold qap qao qaf bs at l5;simp only at l5;have b2:wc.cell? ⟨F.g,2,none⟩=some (.map (some F.be)):=Hj.out.se.cell 2 _ rfl;have he:=qcn Hj.out.ent;unfold qao bs at he;have hr:=Hj.out.res;have n0:=he 0 _ rfl;have n1:=he 1 _ rfl;have n2:=he 2 _ rfl;have n3:=he 3 _ rfl;have n4:=he 4 _ rfl;have n5:=he 5 _ rfl;have n6:=he 6 _ rfl;have n7:=he 7 _ rfl;have n8:=he 8 _ rfl;have n9:=he 9 _ rfl;have n10:=he 10 _ rfl;have r0:=hr.at'.mode;have r1:=hr.at'.name;have r2:=hr.at'.elem;have r3:=hr.at'.kind;have r4:=hr.at'.read;have r5:=hr.at'.ref;have r6:=hr.at'.esc;have r7:=hr.at'.hex;have r8:=hr.at'.pct;have r9:=hr.at'.far;have f0:=hr.slot.thaw 0;have f1:=hr.slot.thaw 1;have f2:=hr.slot.thaw 2;have f3:=hr.slot.thaw 3;have f4:=hr.slot.thaw 4;have f5:=hr.slot.thaw 5;have f6:=hr.slot.thaw 6;have f7:=hr.slot.thaw 7;have f8:=hr.slot.thaw 8;have f9:=hr.slot.thaw 9;have HF:=(show Hid _ from(Hj.out.set r.2).drew);unfold qcs at HF;clear he hr Hk Hl Hq;go_wp2_with fail
  go_region
  go_wp2_with fail
  refine HF.out.post ?_ ?_
  ·rfl
  ·rfl
end Go.Proofs.YtfkhljmiehdgmaaGreatDoor

/-
  Steps of the proof.
-/
import Derived.Test.YtfkhljmiehdgmaaGreatDoorCuAX
set_option maxRecDepth 100000
set_option maxHeartbeats 40000000
namespace Go.Proofs.YtfkhljmiehdgmaaGreatDoor
open Go.RowKit Go.Proofs.Tryz Pl
theorem q6q(HB:qhp)(S:List Src)(hS:SrcsOk S)(k:Nat)(HC:BehC S k)(w:World)(B:Nat)(F:Fix)(vv:Value)(s:Sr)(n:zU)(x:Sx)(h:SeAt w B F S vv s)(ho:EndsOk S.length s.ends)(hx:SxFit x)(hn:n.length<=2000)(hB:B<=w.heap.size)(ht:TabB B w)(h0:qaj S n≠0)(hy:qa9 s.ends (qaj S n,x)=none)(hk:257<=s.ends.length+(k+1))(hf:¬s.ends.length=256)(r:Sr×Sx)(hr:qd7 (behV S k) (qah S (qaj S n)) ((qah S (qaj S n)).length+1) 0 { s with ends:=qbi s.ends (qaj S n,x) Sx.none } x=r) :
  zC 156 #[zP F.g,.string ⟨n.toArray⟩,qar x] w fun ed w'=>ed=.returned (qar r.2)/\SeAt w' B F S vv { r.1 with ends:=qbi r.1.ends (qaj S n,x) r.2 }/\Cue B F w w':=by
 have Hb:=qfh S n h0;have hc:(qbi s.ends (qaj S n,x) Sx.none).length=s.ends.length+1:=by rw[qfg hy];simp
 have hb:EndsOk S.length (qbi s.ends (qaj S n,x) Sx.none):=qkv ho ⟨hx,Hb⟩ quz (by have:=ho.few;omega);have Hc:=qo6 (qke S k (s.ends.length+1) (by omega)) (qah S (qaj S n)) ((qah S (qaj S n)).length+1) 0 { s with ends:=qbi s.ends (qaj S n,x) Sx.none } x hb (by show s.ends.length+1<=(qbi _ _ _).length;omega) (.inr hx);rw[hr]at Hc;have z:=fun(w5:World) (h5:SeAt w5 B F S vv { s with ends:=qbi s.ends (qaj S n,x) Sx.none }) (Hi:B<=w5.heap.size) (hj:TabB B w5)=>q2j HB S hS k HC w5 B F vv _ (qaj S n,x) h5 hb (by show 257<=(qbi _ _ _).length+k;omega) hx Hb.2 Hi hj;simp only[hr]at z;have b1:∀o o',((w.alloc o).alloc o').cell? (zO F.g 1)=some (.map (some F.bp)):=fun o o'=>((h.alloc o).alloc o').cell 1 _ rfl;have b2:∀o o' o'',(((w.alloc o).alloc o').alloc o'').cell? (zO F.g 1)=some (.map (some F.bp)):=fun o o' o''=>(((h.alloc o).alloc o').alloc o'').cell 1 _ rfl;have l1:=fun o o'=>((h.alloc o).alloc o').drew.place hS n (by omega);have l2:=fun o o' o''=>(((h.alloc o).alloc o').alloc o'').drew.place hS n (by omega);have J:qaj S n<=6:=by have:=qfh S n h0;have:=hS.few;omega
 have HI:=zH (qkc (x:=x) h hB ht (qaj S n));generalize hi:qaj S n=i at *;have hm:=zH hb;have O:=zH Hc;clear hb Hc hc;have i0:((i:Int)==0)=false:=by rw[yf];omega
 generalize (⟨n.toArray⟩:zT)=N at l1 l2 |-;rw[qdx]at HI;unfold qao qaf bs at HI;simp only[qbj]at z;unfold qar qao qaf bs at z;unfold qar qaf bs;have HW:=zH z;clear h z hr;have HY:=zH hy;clear hy;go_enter func156,ntmps156
 go_wp2
 go_region
 go_wp2
 clear b1 b2 l1 l2;generalize World.drew _=w3 at HI |-;have l3:=HI.out.se.drew.look hS ho (i,x) hx J true;have l4:=fun o=>(HI.out.se.alloc o).drew.look hS ho (i,x) hx J true;rw[HY.out]at l3 l4;have b1:w3.cell? (zO F.g 2)=some (.map (some F.be)):=HI.out.se.cell 2 _ rfl;have b2:∀o,(w3.alloc o).cell? (zO F.g 2)=some (.map (some F.be)):=fun o=>(HI.out.se.alloc o).cell 2 _ rfl;have he:=qct HI.out.ent;have hg:=fun o=>qct (HI.out.alloc o).ent;unfold qao bs at he hg;have hq:=fun o=>(HI.out.alloc o).res;have m0:=al he;have n0:=fun o=>al (hg o);clear he hg hq;simp only[Option.getD_none,Option.isSome_none,if_true,qbj]at l3 l4;unfold qar qao at l3 l4;simp only[qdx]at l3 l4;unfold bs at l3 l4;go_region
 have H4:=(show Hid _ from(HI.out.alloc (.cells (qaf Sx.none) 162)).drew);rw[qdx]at H4;clear l3 l4 b1 b2 m0 n0;generalize World.drew _=w4 at H4 |-;have hl:=H4.out.se.len;have Hf:((s.ends.length:Int)==256)=false:=by rw[yf];omega
 generalize (s.ends.length:Int)=L at hl Hf;have b1:w4.cell? (zO F.g 2)=some (.map (some F.be)):=H4.out.se.cell 2 _ rfl;have he:=qct H4.out.ent;obtain⟨w5,y,T,U,_⟩:=H4.out.se.drew.store hS ho (i,x) hx J Sx.none;simp only[qbj]at y;unfold qar qao at y;rw[qdx]at y;unfold qao bs at he;unfold bs at y;simp only at y;have m0:=al he;clear he;have H5:=zH (H4.out.drew.turn T U);clear T U;go_wp2
 go_region
 clear y b1 m0 hl Hf;have b1:w5.cell? (zO F.g 2)=some (.map (some F.be)):=H5.out.se.cell 2 _ rfl;have he:=qct H5.out.ent;unfold qao bs at he;have m0:=al he;clear he;go_wp2
 have H6:=zH (fun(w6:World) (Hj:SeAt w6 B F S vv r.1) (Hk:Cue B F w5.drew w6)=>(H5.out.drew).turn Hj Hk);go_cut [] (fun wx=>Hid (Bhi w wx B F S vv { r.1 with ends:=qbi r.1.ends (i,x) r.2 } (w.heap.size+1+1) (w.heap.size+1) (i,x) Sx.none))
 case first=>
  go_region_with (first
   | (go_at_call 112;refine(HW.out _ H5.out.drew.se (yh H5.out.old.2 H5.out.drew.cue.below.size) H5.out.drew.tabs).mono ?_;rintro e w6 ⟨rfl,I,V⟩
      have He:=zH (H6.out w6 I V);obtain⟨w7,D,X,Y,_⟩:=I.store hS O.out.1.ok (i,x) hx J r.2;have Hl:=zH (He.out.turn X Y);simp only[qbj]at D;unfold qar qao qaf bs at D;simp only at D;have b2:w6.cell? (zO F.g 2)=some (.map (some F.be)):=He.out.se.cell 2 _ rfl;have he:=qct He.out.ent;unfold qao bs at he;have n0:=al he;clear he I V X Y))
  all_goals
   go_wp2
   go_meet
   case rel=>exact Hl.out
 case rest=>
  have Z:=hcut;clear hcut;have ha:qa9 (qbi r.1.ends (i,x) r.2) (i,x)=some r.2:=by rw[qg2,if_pos rfl]
  have Ha:qa9 r.1.ends (i,x)≠none:=O.out.1.has _ (by show qa9 (qbi _ _ _) _≠_;rw[qg2,if_pos rfl];simp);have Hg:EndsOk S.length (qbi r.1.ends (i,x) r.2):=qkv O.out.1.ok ⟨hx,Hb⟩ O.out.2 (by rw[qsu,if_neg Ha];exact O.out.1.ok.few);have l5:=Z.out.se.drew.look hS Hg (i,x) hx J false;simp only[ha,Option.getD_some,Bool.false_eq_true,if_false,qbj]at l5;unfold qar qao qaf bs at l5;simp only at l5;have b2:wc.cell? (zO F.g 2)=some (.map (some F.be)):=Z.out.se.cell 2 _ rfl;have he:=qct Z.out.ent;unfold qao bs at he;have hr:=Z.out.res;have n0:=al he;have r0:=hr.at'.mode;have r1:=hr.at'.name;have r2:=hr.at'.elem;have r3:=hr.at'.kind;have r4:=hr.at'.read;have r5:=hr.at'.ref;have r6:=hr.at'.esc;have r7:=hr.at'.hex;have r8:=hr.at'.pct;have r9:=hr.at'.far;have f0:=hr.slot.thaw;have HF:=(show Hid _ from(Z.out.set r.2).drew);unfold qdf at HF;clear he hr ha Ha Hg;go_wp2
  go_region
  go_wp2
  refine HF.out.post ?_ ?_
  ·rfl
  ·rfl
end Go.Proofs.YtfkhljmiehdgmaaGreatDoor

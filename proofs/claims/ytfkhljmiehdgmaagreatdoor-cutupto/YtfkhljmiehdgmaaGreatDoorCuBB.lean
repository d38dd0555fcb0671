/-
  Steps of the proof.
-/
import Derived.Test.YtfkhljmiehdgmaaGreatDoorCuAX
set_option maxRecDepth 100000
set_option maxHeartbeats 40000000
namespace Go.Proofs.YtfkhljmiehdgmaaGreatDoor
open Go.RowKit Go.Proofs.Tryz Pl
theorem q6q(HB:qhp)(S:List Src)(hS:SrcsOk S)(k:Nat)(HC:BehC S k)(w:World)(B:Nat)(F:Fix)(vv:Value)(s:Sr)(n:zU)(x:Sx)(h:SeAt w B F S vv s)(ho:EndsOk S.length s.ends)(hx:SxFit x)(hn:n.length<=2000)(hB:B<=w.heap.size)(ht:TabB B w)(h0:qaj S n≠0)(hy:qa9 s.ends (qaj S n,x)=none)(hk:257<=s.ends.length+(k+1))(hf:¬s.ends.length=256)(r:Sr×Sx)(hr:qd7 (behV S k) (qah S (qaj S n)) ((qah S (qaj S n)).length+1) 0 { s with ends:=qbi s.ends (qaj S n,x) Sx.none } x=r) :
  zC 156 #[zP F.g,zV n,qar x] w fun ed w'=>ed=.returned (qar r.2)/\SeAt w' B F S vv { r.1 with ends:=qbi r.1.ends (qaj S n,x) r.2 }/\Cue B F w w':=by
 have Hm:=qfh S n h0;have Hn:(qbi s.ends (qaj S n,x) Sx.none).length=s.ends.length+1:=by rw[qfg hy];simp
 have hm:EndsOk S.length (qbi s.ends (qaj S n,x) Sx.none):=qkv ho ⟨hx,Hm⟩ quz (by have:=ho.few;omega);have Ho:=qo6 (qke S k (s.ends.length+1) (by omega)) (qah S (qaj S n)) ((qah S (qaj S n)).length+1) 0 { s with ends:=qbi s.ends (qaj S n,x) Sx.none } x hm (by show s.ends.length+1<=(qbi _ _ _).length;omega) (.inr hx);rw[hr]at Ho;have Ha:=fun(w5:World) (h5:SeAt w5 B F S vv { s with ends:=qbi s.ends (qaj S n,x) Sx.none }) (Hr:B<=w5.heap.size) (hs:TabB B w5)=>q2j HB S hS k HC w5 B F vv _ (qaj S n,x) h5 hm (by show 257<=(qbi _ _ _).length+k;omega) hx Hm.2 Hr hs;simp only[hr]at Ha;have b1:∀o o',((w.alloc o).alloc o').cell? (zO F.g 1)=some (.map (some F.bp)):=fun o o'=>((h.alloc o).alloc o').cell 1 _ rfl;have b2:∀o o' o'',(((w.alloc o).alloc o').alloc o'').cell? (zO F.g 1)=some (.map (some F.bp)):=fun o o' o''=>(((h.alloc o).alloc o').alloc o'').cell 1 _ rfl;have l1:=fun o o'=>((h.alloc o).alloc o').drew.place hS n (by omega);have l2:=fun o o' o''=>(((h.alloc o).alloc o').alloc o'').drew.place hS n (by omega);have hc:qaj S n<=6:=by have:=qfh S n h0;have:=hS.few;omega
 have HI:=zH (qkc (x:=x) h hB ht (qaj S n));generalize hi:qaj S n=i at *;have Hu:=zH hm;have Hc:=zH Ho;clear hm Ho Hn;have i0:((i:Int)==0)=false:=by rw[yf];omega
 generalize (⟨n.toArray⟩:zT)=N at l1 l2 |-;rw[qdx]at HI;unfold qao qaf bs at HI;simp only[qbj]at Ha;unfold qar qao qaf bs at Ha;unfold qar qaf bs;have HW:=zH Ha;clear h Ha hr;have HY:=zH hy;clear hy;go_enter func156,ntmps156
 go_wp2
 go_region
 go_wp2
 clear b1 b2 l1 l2;generalize World.drew _=w3 at HI |-;have l3:=HI.out.se.drew.look hS ho (i,x) hx hc true;have l4:=fun o=>(HI.out.se.alloc o).drew.look hS ho (i,x) hx hc true;rw[HY.out]at l3 l4;have b1:w3.cell? (zO F.g 2)=some (.map (some F.be)):=HI.out.se.cell 2 _ rfl;have b2:∀o,(w3.alloc o).cell? (zO F.g 2)=some (.map (some F.be)):=fun o=>(HI.out.se.alloc o).cell 2 _ rfl;have he:=qct HI.out.ent;have hg:=fun o=>qct (HI.out.alloc o).ent;unfold qao bs at he hg;have hq:=fun o=>(HI.out.alloc o).res;have m0:=al he;have n0:=fun o=>al (hg o);clear he hg hq;simp only[Option.getD_none,Option.isSome_none,if_true,qbj]at l3 l4;unfold qar qao at l3 l4;simp only[qdx]at l3 l4;unfold bs at l3 l4;go_region
 have H4:=(show Hid _ from(HI.out.alloc (.cells (qaf Sx.none) 162)).drew);rw[qdx]at H4;clear l3 l4 b1 b2 m0 n0;generalize World.drew _=w4 at H4 |-;have hl:=H4.out.se.len;have Hp:((s.ends.length:Int)==256)=false:=by rw[yf];omega
 generalize (s.ends.length:Int)=L at hl Hp;have b1:w4.cell? (zO F.g 2)=some (.map (some F.be)):=H4.out.se.cell 2 _ rfl;have he:=qct H4.out.ent;obtain⟨w5,ha,He,Hf,_⟩:=H4.out.se.drew.store hS ho (i,x) hx hc Sx.none;simp only[qbj]at ha;unfold qar qao at ha;rw[qdx]at ha;unfold qao bs at he;unfold bs at ha;simp only at ha;have m0:=al he;clear he;have H5:=zH (H4.out.drew.turn He Hf);clear He Hf;go_wp2
 go_region
 clear ha b1 m0 hl Hp;have b1:w5.cell? (zO F.g 2)=some (.map (some F.be)):=H5.out.se.cell 2 _ rfl;have he:=qct H5.out.ent;unfold qao bs at he;have m0:=al he;clear he;go_wp2
 have H6:=zH (fun(w6:World) (Hs:SeAt w6 B F S vv r.1) (Ht:Cue B F w5.drew w6)=>(H5.out.drew).turn Hs Ht);go_cut [] (fun wx=>Hid (Bhi w wx B F S vv { r.1 with ends:=qbi r.1.ends (i,x) r.2 } (w.heap.size+1+1) (w.heap.size+1) (i,x) Sx.none))
 case first=>
  go_region_with (first
   | (go_at_call 112;refine(HW.out _ H5.out.drew.se (yh H5.out.old.2 H5.out.drew.cue.below.size) H5.out.drew.tabs).mono ?_;rintro e w6 ⟨rfl,Hb,Hg⟩
      have hp:=zH (H6.out w6 Hb Hg);obtain⟨w7,hb,Hi,hj,_⟩:=Hb.store hS Hc.out.1.ok (i,x) hx hc r.2;have hu:=zH (hp.out.turn Hi hj);simp only[qbj]at hb;unfold qar qao qaf bs at hb;simp only at hb;have b2:w6.cell? (zO F.g 2)=some (.map (some F.be)):=hp.out.se.cell 2 _ rfl;have he:=qct hp.out.ent;unfold qao bs at he;have n0:=al he;clear he Hb Hg Hi hj))
  all_goals
   go_wp2
   go_meet
   case rel=>exact hu.out
 case rest=>
  have Hj:=hcut;clear hcut;have Hk:qa9 (qbi r.1.ends (i,x) r.2) (i,x)=some r.2:=by rw[qg2,if_pos rfl]
  have Hl:qa9 r.1.ends (i,x)≠none:=Hc.out.1.has _ (by show qa9 (qbi _ _ _) _≠_;rw[qg2,if_pos rfl];simp);have Hq:EndsOk S.length (qbi r.1.ends (i,x) r.2):=qkv Hc.out.1.ok ⟨hx,Hm⟩ Hc.out.2 (by rw[qsu,if_neg Hl];exact Hc.out.1.ok.few);have l5:=Hj.out.se.drew.look hS Hq (i,x) hx hc false;simp only[Hk,Option.getD_some,Bool.false_eq_true,if_false,qbj]at l5;unfold qar qao qaf bs at l5;simp only at l5;have b2:wc.cell? (zO F.g 2)=some (.map (some F.be)):=Hj.out.se.cell 2 _ rfl;have he:=qct Hj.out.ent;unfold qao bs at he;have hr:=Hj.out.res;have n0:=al he;have r0:=hr.at'.mode;have r1:=hr.at'.name;have r2:=hr.at'.elem;have r3:=hr.at'.kind;have r4:=hr.at'.read;have r5:=hr.at'.ref;have r6:=hr.at'.esc;have r7:=hr.at'.hex;have r8:=hr.at'.pct;have r9:=hr.at'.far;have f0:=hr.slot.thaw;have HF:=(show Hid _ from(Hj.out.set r.2).drew);unfold qdf at HF;clear he hr Hk Hl Hq;go_wp2
  go_region
  go_wp2
  refine HF.out.post ?_ ?_
  ·rfl
  ·rfl
end Go.Proofs.YtfkhljmiehdgmaaGreatDoor

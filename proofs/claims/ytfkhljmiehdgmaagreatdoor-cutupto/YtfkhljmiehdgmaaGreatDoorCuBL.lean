/-
  Steps of the proof.
-/
import Derived.Test.YtfkhljmiehdgmaaGreatDoorCuBG
set_option maxRecDepth 100000
set_option maxHeartbeats 40000000
namespace Go.Proofs.YtfkhljmiehdgmaaGreatDoor
open Go.RowKit Go.Proofs.Tryz Pl
theorem zb9(HB:qhp)(S:List Src)(hS:SrcsOk S)(k:Nat)(HT:ThrC S k)(w:World)(B:Nat)(F:Fix)(vv:Value)(M:List Nat)(s:Sr)(n:zU)(x:Sx)(h:SvAt w B F S vv M s)(hI:Inv S s)(h1:1<=s.nums.length)(hk:258<=s.nums.length+k)(hx:SxFit x)(hn:n.length<=2000)(ht:TabB B w) :
  zC 110 #[zP F.g,.string ⟨n.toArray⟩,qar x] w fun ed w'=>ed=.returned (.tuple #[zI ((nmV S k s n x).2.1:Nat),qar (nmV S k s n x).2.2])/\(∃vv' ext,SvAt w' B F S vv' (M++ext) (nmV S k s n x).1)/\Cuv B F w w':=by
 have hB:B<=w.heap.size:=by
  have q1:=h.se.le.1;have q2:=(zL h.se.blk);omega
 have D:=fun(w5:World) (h5:SvAt w5 B F S vv M s) (Hg:TabB B w5)=>behC HB S hS 257 w5 B F vv s n x h5.se hI.ends (by omega) hx hn Hg;obtain⟨g1,g2⟩:=qke S 257 0 (by omega) s n x hI.ends (yH _) hx;obtain⟨i1,i2⟩:=hI.grew g1;have Y:=fun q0 qf qz=>q8n (n:=n) hI h1 hx q0 qf qz
 have Hc:nmV S k s n x=if qaj S n=0\/(behV S 257 s n x).1.fault.code≠0 then((behV S 257 s n x).1,0,(behV S 257 s n x).2)
  else if qhc (behV S 257 s n x).1 (qaj S n,x)=0 then(qev S k (behV S 257 s n x).1 (qaj S n,x),qhc (qev S k (behV S 257 s n x).1 (qaj S n,x)) (qaj S n,x),(behV S 257 s n x).2)
  else((behV S 257 s n x).1,qhc (behV S 257 s n x).1 (qaj S n,x),(behV S 257 s n x).2):=rfl
 generalize nmV S k s n x=res at Hc |-;generalize behV S 257 s n x=r at *;obtain⟨s1,y⟩:=r;simp only at D g1 g2 i1 i2 Y Hc;have Z:∀(w5:World) (B:Nat) (F:Fix) (vv:Value),SeAt w5 B F S vv s1->(Instr.lookup 174 (.map (some F.bp)) (.string ⟨n.toArray⟩) false).run prog w5=.ok (zI (qaj S n:Nat)) w5:=fun w5 B F vv h5=>h5.place hS n (by omega);have Hi:qaj S n<=6:=by
  by_cases q:qaj S n=0
  ·omega
  ·have:=qfh S n q;have:=hS.few;omega
 have hl:=fun(w5:World) (vv5:Value) (M5:List Nat) (h5:SvAt w5 B F S vv5 M5 s1) (hp:Pre S s1 (qaj S n,x)) (Hg:TabB B w5)=>HT w5 B F vv5 M5 s1 (qaj S n,x) h5 hp (by rw[g1.nums];omega) Hg;have Ha:=fun hp=>qo7 S k s1 (qaj S n,x) hp (by rw[g1.nums];omega);generalize hi:qaj S n=i at *;generalize (⟨n.toArray⟩:zT)=N at D Z |-;unfold qar qaf bs at D;have Hn:=zH D;have X:=zH Hc;have I:=zH Y;have J:=zH hl;have O:=zH Ha;have He:=zH i1;have HS:=zH h;have Hl:=zH Z;have HG:=zH g1;have ho:Hid (∀o o' w2,SeAt w2 B F S vv s1->Cue B F ((w.alloc o).alloc o') w2->SvAt w2 B F S vv M s1/\Cuv B F w w2/\TabB B w2):=fun o o' w2 Hf T=>by
  have q1:=((h.alloc o).alloc o');have q2:zW w ((w.alloc o).alloc o'):=(zB _).alloc (by simp) _;exact⟨q1.turn Hf T g1.nums g1.vis,(Cuv.of_below q2 hB).trans (Cuv.of_cue q1.se T),(ht.kept (q2.mono hB)).kept T.below⟩
 clear h D Hc Y hl Ha i1 i2 g1 Z hI hk h1;unfold qar;unfold qaf bs;go_enter func110,ntmps110
 go_wp2_with (go_at_call 156;refine(Hn.out _ ((HS.out.alloc _).alloc _) (ht.kept (((xL _ _).alloc hB _).alloc (by simp;omega) _))).mono ?_;rintro e w2 ⟨rfl,Hf,T⟩)
 have H8:=zH (ho.out _ _ w2 Hf T);have hm:StIn w2 w.heap.size x:=(T.keep w.heap.size (by simp;omega) (fun q=>by have:=(zL HS.out.se.blk);omega) (fun q=>by have:=HS.out.se.ends.lt;omega)).trans ((xI _ _ (by simp)).trans (xF w _));have hj:StIn w2 (w.heap.size+1) Sx.none:=(T.keep (w.heap.size+1) (by simp) (fun q=>by have:=(zL HS.out.se.blk);omega) (fun q=>by have:=HS.out.se.ends.lt;omega)).trans (qap (w.alloc _) _ _ (by simp));have Hj:w.heap.size+1<w2.heap.size:=hj.lt;have H3:Hid (SvAt (w2.alloc (.cells (qaf y) 162)) B F S vv M s1/\StIn (w2.alloc (.cells (qaf y) 162)) w2.heap.size y/\StIn (w2.alloc (.cells (qaf y) 162)) (w.heap.size+1) Sx.none/\StIn (w2.alloc (.cells (qaf y) 162)) w.heap.size x/\Cuv B F w (w2.alloc (.cells (qaf y) 162))/\TabB B (w2.alloc (.cells (qaf y) 162))):=by
  have hb:=(xL w2.heap.size w2).alloc (yg _) (.cells (qaf y) 162);have Hb:B<=w2.heap.size:=yh hB H8.out.2.1.below.size;exact⟨H8.out.1.alloc _,xF w2 _,hj.below hb,hm.below hb,H8.out.2.1.trans (Cuv.of_below hb Hb),H8.out.2.2.kept (hb.mono Hb)⟩
 have Ho:w2.heap.size≠w.heap.size+1:=by omega
 unfold qaf bs at H3;clear Hf T H8 hm hj Hj;generalize hG:w2.heap.size=G at *;generalize World.alloc w2 _=w3 at H3 |-;clear hG;have b1:w3.cell? (zO F.g 1)=some (.map (some F.bp)):=H3.out.1.se.cell 1 _ rfl;have b2:∀o,(w3.alloc o).cell? (zO F.g 1)=some (.map (some F.bp)):=fun o=>(H3.out.1.se.alloc o).cell 1 _ rfl;have l1:=Hl.out w3.drew B F vv H3.out.1.se.drew;have l2:=fun o=>Hl.out (w3.alloc o).drew B F vv (H3.out.1.se.alloc o).drew;have hq:=H3.out.2.2.2.1.at';have U:=fun o=>(H3.out.2.2.2.1.below (zB o)).at';have q0:=hq.mode;have q1:=hq.name;have q2:=hq.elem;have q3:=hq.kind;have q4:=hq.read;have q5:=hq.ref;have q6:=hq.esc;have q7:=hq.hex;have q8:=hq.pct;have q9:=hq.far;have g0:=fun o=>(U o).mode;have g1:=fun o=>(U o).name;have g2:=fun o=>(U o).elem;have g3:=fun o=>(U o).kind;have g4:=fun o=>(U o).read;have g5:=fun o=>(U o).ref;have g6:=fun o=>(U o).esc;have g7:=fun o=>(U o).hex;have g8:=fun o=>(U o).pct;have g9:=fun o=>(U o).far;clear hq U;go_region
 clear b1 b2 l1 l2 q0 q1 q2 q3 q4 q5 q6 q7 q8 q9 g0 g1 g2 g3 g4 g5 g6 g7 g8 g9;have H4:Hid (Nmi w ((w3.alloc (.cells (qao (i,x)) 180)).drew) B F S vv M s1 G y (w.heap.size+1) Sx.none w3.heap.size (i,x)):=by
  have hb:=((xL w3.heap.size w3).alloc (yg _) (.cells (qao (i,x)) 180)).drew;have Hb:B<=w3.heap.size:=yh hB H3.out.2.2.2.2.1.below.size;exact⟨H3.out.1.below hb,H3.out.2.1.below hb,H3.out.2.2.1.below hb,Ho,xF w3 _,⟨by omega,hB⟩,H3.out.2.2.2.2.1.trans (Cuv.of_below hb Hb),H3.out.2.2.2.2.2.kept (hb.mono Hb)⟩
 unfold qao bs at H4;clear H3;generalize hE:w3.heap.size=E at *;generalize World.drew _=w4 at H4 |-;clear hE;have he:=qct H4.out.ent;unfold qao bs at he;have hf:=H4.out.end'.at';have hr:=H4.out.res;have m0:=al he;have q0:=hf.mode;have q1:=hf.name;have q2:=hf.elem;have q3:=hf.kind;have q4:=hf.read;have q5:=hf.ref;have q6:=hf.esc;have q7:=hf.hex;have q8:=hf.pct;have q9:=hf.far;have r0:=hr.at'.all;have f0:=hr.slot.thaw 0;have f1:=hr.slot.thaw 1;have f2:=hr.slot.thaw 2;have f3:=hr.slot.thaw 3;have f4:=hr.slot.thaw 4;have f5:=hr.slot.thaw 5;have f6:=hr.slot.thaw 6;have f7:=hr.slot.thaw 7;have f8:=hr.slot.thaw 8;have f9:=hr.slot.thaw 9;clear he hf hr;have b5:w4.cell? (zO F.g 5)=some (zI (s1.fault.code:Nat)):=H4.out.sv.se.cell 5 _ rfl;by_cases hA:i=0
 ·have hR:res=(s1,0,y):=by rw[X.out,if_pos (.inl hA)]
  have i0:((i:Int)==0)=true:=by rw[yF];omega
  have HF:=(show Hid _ from(H4.out.set y).drew);clear X I J O;subst hR;unfold qdf at HF;go_wp2
  go_region
  go_wp2
  refine Nmi.post (ext:=[]) (by rw[yw];exact HF.out) ?_ ?_ ?_
  all_goals rfl
 have i0:((i:Int)==0)=false:=by rw[yf];omega
 by_cases Hp:s1.fault.code≠0
 ·have hR:res=(s1,0,y):=by rw[X.out,if_pos (.inr Hp)]
  have f0:((s1.fault.code:Int)==0)=false:=by rw[yf];omega
  have HF:=(show Hid _ from(H4.out.set y).drew);clear X I J O;subst hR;generalize (s1.fault.code:Int)=fc at b5 f0;unfold qdf at HF;go_wp2
  go_region
  go_wp2
  refine Nmi.post (ext:=[]) (by rw[yw];exact HF.out) ?_ ?_ ?_
  all_goals rfl
 have hg:s1.fault.code=0:=by omega
 rw[hg]at b5;have b3:w4.cell? (zO F.g 3)=some (.map (some F.bn)):=H4.out.sv.se.cell 3 _ rfl;have l5:=qqp H4.out.sv.drew.nums ⟨He.out.key,He.out.one⟩ hS.few.2 (i,x) hx Hi;simp only[qbj]at l5;unfold qao bs at l5;simp only at l5;have z:(qa9 s1.nums (i,x)).getD 0=qhc s1 (i,x):=rfl;rw[z]at l5;by_cases hz:qhc s1 (i,x)=0
 rotate_left
 ·have hR:res=(s1,qhc s1 (i,x),y):=by rw[X.out,if_neg (by simp[hA,hg]),if_neg hz]
  have z0:((qhc s1 (i,x):Int)==0)=false:=by rw[yf];omega
  have HF:=(show Hid _ from((H4.out.set y).drew.drew));clear X I J O z hz;subst hR;have l6:=qqp H4.out.drew.sv.drew.nums ⟨He.out.key,He.out.one⟩ hS.few.2 (i,x) hx Hi;simp only[qbj]at l6;unfold qao bs at l6;simp only at l6;have z:(qa9 s1.nums (i,x)).getD 0=qhc s1 (i,x):=rfl;rw[z]at l6;clear z;unfold qdf at HF;go_wp2
  go_region
  go_wp2
  go_region
  go_wp2
  refine Nmi.post (ext:=[]) (by rw[yw];exact HF.out) ?_ ?_ ?_
  all_goals rfl
 have hp:Pre S s1 (i,x):=I.out hA hg hz;have hR:res=(qev S k s1 (i,x),qhc (qev S k s1 (i,x)) (i,x),y):=by rw[X.out,if_neg (by simp[hA,hg]),if_pos hz]
 rw[hz]at l5;have ha:=J.out w4.drew vv M H4.out.drew.sv hp H4.out.drew.tabs;have V:=O.out hp;clear X I J O z hz hp;subst hR;obtain⟨s2,Hk⟩:∃s2,s2=qev S k s1 (i,x):=⟨_,rfl⟩;rw[<-Hk]at ha V;have Hq:=zH Hk;clear Hk;have hc:∀(w5:World) (vv5:Value) (M5:List Nat),SvAt w5 B F S vv5 M5 s2->(Instr.lookup 176 (.map (some F.bn)) (qge (i,x)) false).run prog w5=.ok (zI (qhc s2 (i,x):Nat)) w5:=fun w5 vv5 M5 h5=>qqp h5.nums ⟨V.1.key,V.1.one⟩ hS.few.2 (i,x) hx Hi;simp only[qbj]at ha hc;unfold qao bs at ha hc;simp only at ha hc;have Hr:=zH ha;have hs:=zH hc;clear ha hc V;go_wp2
 go_region
 go_wp2_with (go_at_call 75;refine xQ Hr.out ?_;rintro e w6 ⟨⟨rr,rfl⟩,⟨vv6,ext,Hm⟩,T⟩)
 have H6:=zH (H4.out.drew.turn Hm T);clear Hm T b3 b5 l5 m0 q0 q1 q2 q3 q4 q5 q6 q7 q8 q9 r0 f0 f1 f2 f3 f4 f5 f6 f7 f8 f9;have b3:w6.cell? (zO F.g 3)=some (.map (some F.bn)):=H6.out.sv.se.cell 3 _ rfl;have l7:=hs.out w6.drew vv6 (M++ext) H6.out.sv.drew;have he:=qct H6.out.ent;unfold qao bs at he;have hf:=H6.out.end'.at';have hr:=H6.out.res;have m0:=al he;have q0:=hf.mode;have q1:=hf.name;have q2:=hf.elem;have q3:=hf.kind;have q4:=hf.read;have q5:=hf.ref;have q6:=hf.esc;have q7:=hf.hex;have q8:=hf.pct;have q9:=hf.far;have r0:=hr.at'.all;have f0:=hr.slot.thaw 0;have f1:=hr.slot.thaw 1;have f2:=hr.slot.thaw 2;have f3:=hr.slot.thaw 3;have f4:=hr.slot.thaw 4;have f5:=hr.slot.thaw 5;have f6:=hr.slot.thaw 6;have f7:=hr.slot.thaw 7;have f8:=hr.slot.thaw 8;have f9:=hr.slot.thaw 9;clear he hf hr;have HF:=(show Hid _ from(H6.out.set y).drew);rw[Hq.out]at HF l7;unfold qdf at HF;go_wp2
 go_region
 go_wp2
 refine Nmi.post (ext:=ext) HF.out ?_ ?_ ?_
 all_goals rfl
end Go.Proofs.YtfkhljmiehdgmaaGreatDoor

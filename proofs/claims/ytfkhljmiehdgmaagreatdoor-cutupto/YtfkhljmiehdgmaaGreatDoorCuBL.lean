/-
  Steps of the proof.
-/
import Derived.Test.YtfkhljmiehdgmaaGreatDoorCuBG
set_option maxRecDepth 100000
set_option maxHeartbeats 40000000
namespace Go.Proofs.YtfkhljmiehdgmaaGreatDoor
open Go.RowKit Go.Proofs.Tryz Pl
theorem zb9(HB:qhp)(S:List Src)(hS:SrcsOk S)(k:Nat)(HT:ThrC S k)(w:World)(B:Nat)(F:Fix)(vv:Value)(M:List Nat)(s:Sr)(n:zU)(x:Sx)(h:SvAt w B F S vv M s)(hI:Inv S s)(h1:1<=s.nums.length)(hk:258<=s.nums.length+k)(hx:SxFit x)(hn:n.length<=2000)(ht:TabB B w) :
  zC 110 #[zP F.g,zV n,qar x] w fun ed w'=>ed=.returned (.tuple #[zI ((nmV S k s n x).2.1:Nat),qar (nmV S k s n x).2.2])/\(∃vv' ext,SvAt w' B F S vv' (M++ext) (nmV S k s n x).1)/\Cuv B F w w':=by
 have hB:B<=w.heap.size:=by
  have q1:=h.se.le.1;have q2:=(zL h.se.blk);omega
 have Ha:=fun(w5:World) (h5:SvAt w5 B F S vv M s) (Ho:TabB B w5)=>behC HB S hS 257 w5 B F vv s n x h5.se hI.ends (by omega) hx hn Ho;obtain⟨g1,g2⟩:=qke S 257 0 (by omega) s n x hI.ends (yH _) hx;obtain⟨i1,i2⟩:=hI.grew g1;have Hi:=fun q0 qf qz=>q8n (n:=n) hI h1 hx q0 qf qz
 have hm:nmV S k s n x=if qaj S n=0\/(behV S 257 s n x).1.fault.code≠0 then((behV S 257 s n x).1,0,(behV S 257 s n x).2)
  else if qhc (behV S 257 s n x).1 (qaj S n,x)=0 then(qev S k (behV S 257 s n x).1 (qaj S n,x),qhc (qev S k (behV S 257 s n x).1 (qaj S n,x)) (qaj S n,x),(behV S 257 s n x).2)
  else((behV S 257 s n x).1,qhc (behV S 257 s n x).1 (qaj S n,x),(behV S 257 s n x).2):=rfl
 generalize nmV S k s n x=res at hm |-;generalize behV S 257 s n x=r at *;obtain⟨s1,y⟩:=r;simp only at Ha g1 g2 i1 i2 Hi hm;have hj:∀(w5:World) (B:Nat) (F:Fix) (vv:Value),SeAt w5 B F S vv s1->(Instr.lookup 174 (.map (some F.bp)) (zV n) false).run prog w5=.ok (zI (qaj S n:Nat)) w5:=fun w5 B F vv h5=>h5.place hS n (by omega);have Hp:qaj S n<=6:=by
  by_cases q:qaj S n=0
  ·omega
  ·have:=qfh S n q;have:=hS.few;omega
 have Hs:=fun(w5:World) (vv5:Value) (M5:List Nat) (h5:SvAt w5 B F S vv5 M5 s1) (hp:Pre S s1 (qaj S n,x)) (Ho:TabB B w5)=>HT w5 B F vv5 M5 s1 (qaj S n,x) h5 hp (by rw[g1.nums];omega) Ho;have Hk:=fun hp=>qo7 S k s1 (qaj S n,x) hp (by rw[g1.nums];omega);generalize hi:qaj S n=i at *;generalize (⟨n.toArray⟩:zT)=N at Ha hj |-;unfold qar qaf bs at Ha;have hv:=zH Ha;have Hg:=zH hm;have Hb:=zH Hi;have hc:=zH Hs;have Hc:=zH Hk;have Hm:=zH i1;have HS:=zH h;have Ht:=zH hj;have HG:=zH g1;have Hv:Hid (∀o o' w2,SeAt w2 B F S vv s1->Cue B F ((w.alloc o).alloc o') w2->SvAt w2 B F S vv M s1/\Cuv B F w w2/\TabB B w2):=fun o o' w2 Hn He=>by
  have q1:=((h.alloc o).alloc o');have q2:zW w ((w.alloc o).alloc o'):=(zB _).alloc (by simp) _;exact⟨q1.turn Hn He g1.nums g1.vis,(Cuv.of_below q2 hB).trans (Cuv.of_cue q1.se He),(ht.kept (q2.mono hB)).kept He.below⟩
 clear h Ha hm Hi Hs Hk i1 i2 g1 hj hI hk h1;unfold qar;unfold qaf bs;go_enter func110,ntmps110
 go_wp2_with (go_at_call 156;refine(hv.out _ ((HS.out.alloc _).alloc _) (ht.kept (((xL _ _).alloc hB _).alloc (by simp;omega) _))).mono ?_;rintro e w2 ⟨rfl,Hn,He⟩)
 have H8:=zH (Hv.out _ _ w2 Hn He);have hu:StIn w2 w.heap.size x:=(He.keep w.heap.size (by simp;omega) (fun q=>by have:=(zL HS.out.se.blk);omega) (fun q=>by have:=HS.out.se.ends.lt;omega)).trans ((xI _ _ (by simp)).trans (xF w _));have Hq:StIn w2 (w.heap.size+1) Sx.none:=(He.keep (w.heap.size+1) (by simp) (fun q=>by have:=(zL HS.out.se.blk);omega) (fun q=>by have:=HS.out.se.ends.lt;omega)).trans (qap (w.alloc _) _ _ (by simp));have Hr:w.heap.size+1<w2.heap.size:=Hq.lt;have H3:Hid (SvAt (w2.alloc (.cells (qaf y) 162)) B F S vv M s1/\StIn (w2.alloc (.cells (qaf y) 162)) w2.heap.size y/\StIn (w2.alloc (.cells (qaf y) 162)) (w.heap.size+1) Sx.none/\StIn (w2.alloc (.cells (qaf y) 162)) w.heap.size x/\Cuv B F w (w2.alloc (.cells (qaf y) 162))/\TabB B (w2.alloc (.cells (qaf y) 162))):=by
  have hb:=(xL w2.heap.size w2).alloc (yg _) (.cells (qaf y) 162);have hl:B<=w2.heap.size:=yh hB H8.out.2.1.below.size;exact⟨H8.out.1.alloc _,xF w2 _,Hq.below hb,hu.below hb,H8.out.2.1.trans (Cuv.of_below hb hl),H8.out.2.2.kept (hb.mono hl)⟩
 have hw:w2.heap.size≠w.heap.size+1:=by omega
 unfold qaf bs at H3;clear Hn He H8 hu Hq Hr;generalize hG:w2.heap.size=G at *;generalize World.alloc w2 _=w3 at H3 |-;clear hG;have b1:w3.cell? (zO F.g 1)=some (.map (some F.bp)):=H3.out.1.se.cell 1 _ rfl;have b2:∀o,(w3.alloc o).cell? (zO F.g 1)=some (.map (some F.bp)):=fun o=>(H3.out.1.se.alloc o).cell 1 _ rfl;have l1:=Ht.out w3.drew B F vv H3.out.1.se.drew;have l2:=fun o=>Ht.out (w3.alloc o).drew B F vv (H3.out.1.se.alloc o).drew;have hq:=H3.out.2.2.2.1.at';have Hf:=fun o=>(H3.out.2.2.2.1.below (zB o)).at';have q0:=hq.mode;have q1:=hq.name;have q2:=hq.elem;have q3:=hq.kind;have q4:=hq.read;have q5:=hq.ref;have q6:=hq.esc;have q7:=hq.hex;have q8:=hq.pct;have q9:=hq.far;have g0:=fun o=>(Hf o).mode;have g1:=fun o=>(Hf o).name;have g2:=fun o=>(Hf o).elem;have g3:=fun o=>(Hf o).kind;have g4:=fun o=>(Hf o).read;have g5:=fun o=>(Hf o).ref;have g6:=fun o=>(Hf o).esc;have g7:=fun o=>(Hf o).hex;have g8:=fun o=>(Hf o).pct;have g9:=fun o=>(Hf o).far;clear hq Hf;go_region
 clear b1 b2 l1 l2 q0 q1 q2 q3 q4 q5 q6 q7 q8 q9 g0 g1 g2 g3 g4 g5 g6 g7 g8 g9;have H4:Hid (Nmi w ((w3.alloc (.cells (qao (i,x)) 180)).drew) B F S vv M s1 G y (w.heap.size+1) Sx.none w3.heap.size (i,x)):=by
  have hb:=((xL w3.heap.size w3).alloc (yg _) (.cells (qao (i,x)) 180)).drew;have hl:B<=w3.heap.size:=yh hB H3.out.2.2.2.2.1.below.size;exact⟨H3.out.1.below hb,H3.out.2.1.below hb,H3.out.2.2.1.below hb,hw,xF w3 _,⟨by omega,hB⟩,H3.out.2.2.2.2.1.trans (Cuv.of_below hb hl),H3.out.2.2.2.2.2.kept (hb.mono hl)⟩
 unfold qao bs at H4;clear H3;generalize hE:w3.heap.size=E at *;generalize World.drew _=w4 at H4 |-;clear hE;have he:=qct H4.out.ent;unfold qao bs at he;have hf:=H4.out.end'.at';have hr:=H4.out.res;have m0:=al he;have q0:=hf.mode;have q1:=hf.name;have q2:=hf.elem;have q3:=hf.kind;have q4:=hf.read;have q5:=hf.ref;have q6:=hf.esc;have q7:=hf.hex;have q8:=hf.pct;have q9:=hf.far;have r0:=hr.at'.all;have f0:=hr.slot.thaw 0;have f1:=hr.slot.thaw 1;have f2:=hr.slot.thaw 2;have f3:=hr.slot.thaw 3;have f4:=hr.slot.thaw 4;have f5:=hr.slot.thaw 5;have f6:=hr.slot.thaw 6;have f7:=hr.slot.thaw 7;have f8:=hr.slot.thaw 8;have f9:=hr.slot.thaw 9;clear he hf hr;have b5:w4.cell? (zO F.g 5)=some (zI (s1.fault.code:Nat)):=H4.out.sv.se.cell 5 _ rfl;by_cases hA:i=0
 ·have hR:res=(s1,0,y):=by rw[Hg.out,if_pos (.inl hA)]
  have i0:((i:Int)==0)=true:=by rw[yF];omega
  have HF:=(show Hid _ from(H4.out.set y).drew);clear Hg Hb hc Hc;subst hR;unfold qdf at HF;go_wp2
  go_region
  go_wp2
  refine Nmi.post (ext:=[]) (by rw[yw];exact HF.out) ?_ ?_ ?_
  all_goals rfl
 have i0:((i:Int)==0)=false:=by rw[yf];omega
 by_cases Hw:s1.fault.code≠0
 ·have hR:res=(s1,0,y):=by rw[Hg.out,if_pos (.inr Hw)]
  have f0:((s1.fault.code:Int)==0)=false:=by rw[yf];omega
  have HF:=(show Hid _ from(H4.out.set y).drew);clear Hg Hb hc Hc;subst hR;generalize (s1.fault.code:Int)=fc at b5 f0;unfold qdf at HF;go_wp2
  go_region
  go_wp2
  refine Nmi.post (ext:=[]) (by rw[yw];exact HF.out) ?_ ?_ ?_
  all_goals rfl
 have ho:s1.fault.code=0:=by omega
 rw[ho]at b5;have b3:w4.cell? (zO F.g 3)=some (.map (some F.bn)):=H4.out.sv.se.cell 3 _ rfl;have l5:=qqp H4.out.sv.drew.nums ⟨Hm.out.key,Hm.out.one⟩ hS.few.2 (i,x) hx Hp;simp only[qbj]at l5;unfold qao bs at l5;simp only at l5;have ha:(qa9 s1.nums (i,x)).getD 0=qhc s1 (i,x):=rfl;rw[ha]at l5;by_cases hz:qhc s1 (i,x)=0
 rotate_left
 ·have hR:res=(s1,qhc s1 (i,x),y):=by rw[Hg.out,if_neg (by simp[hA,ho]),if_neg hz]
  have z0:((qhc s1 (i,x):Int)==0)=false:=by rw[yf];omega
  have HF:=(show Hid _ from((H4.out.set y).drew.drew));clear Hg Hb hc Hc ha hz;subst hR;have l6:=qqp H4.out.drew.sv.drew.nums ⟨Hm.out.key,Hm.out.one⟩ hS.few.2 (i,x) hx Hp;simp only[qbj]at l6;unfold qao bs at l6;simp only at l6;have ha:(qa9 s1.nums (i,x)).getD 0=qhc s1 (i,x):=rfl;rw[ha]at l6;clear ha;unfold qdf at HF;go_wp2
  go_region
  go_wp2
  go_region
  go_wp2
  refine Nmi.post (ext:=[]) (by rw[yw];exact HF.out) ?_ ?_ ?_
  all_goals rfl
 have hp:Pre S s1 (i,x):=Hb.out hA ho hz;have hR:res=(qev S k s1 (i,x),qhc (qev S k s1 (i,x)) (i,x),y):=by rw[Hg.out,if_neg (by simp[hA,ho]),if_pos hz]
 rw[hz]at l5;have Hj:=hc.out w4.drew vv M H4.out.drew.sv hp H4.out.drew.tabs;have hg:=Hc.out hp;clear Hg Hb hc Hc ha hz hp;subst hR;obtain⟨s2,hs⟩:∃s2,s2=qev S k s1 (i,x):=⟨_,rfl⟩;rw[<-hs]at Hj hg;have Hx:=zH hs;clear hs;have Hl:∀(w5:World) (vv5:Value) (M5:List Nat),SvAt w5 B F S vv5 M5 s2->(Instr.lookup 176 (.map (some F.bn)) (qge (i,x)) false).run prog w5=.ok (zI (qhc s2 (i,x):Nat)) w5:=fun w5 vv5 M5 h5=>qqp h5.nums ⟨hg.1.key,hg.1.one⟩ hS.few.2 (i,x) hx Hp;simp only[qbj]at Hj Hl;unfold qao bs at Hj Hl;simp only at Hj Hl;have hy:=zH Hj;have Hy:=zH Hl;clear Hj Hl hg;go_wp2
 go_region
 go_wp2_with (go_at_call 75;refine xQ hy.out ?_;rintro e w6 ⟨⟨rr,rfl⟩,⟨vv6,ext,Hu⟩,He⟩)
 have H6:=zH (H4.out.drew.turn Hu He);clear Hu He b3 b5 l5 m0 q0 q1 q2 q3 q4 q5 q6 q7 q8 q9 r0 f0 f1 f2 f3 f4 f5 f6 f7 f8 f9;have b3:w6.cell? (zO F.g 3)=some (.map (some F.bn)):=H6.out.sv.se.cell 3 _ rfl;have l7:=Hy.out w6.drew vv6 (M++ext) H6.out.sv.drew;have he:=qct H6.out.ent;unfold qao bs at he;have hf:=H6.out.end'.at';have hr:=H6.out.res;have m0:=al he;have q0:=hf.mode;have q1:=hf.name;have q2:=hf.elem;have q3:=hf.kind;have q4:=hf.read;have q5:=hf.ref;have q6:=hf.esc;have q7:=hf.hex;have q8:=hf.pct;have q9:=hf.far;have r0:=hr.at'.all;have f0:=hr.slot.thaw 0;have f1:=hr.slot.thaw 1;have f2:=hr.slot.thaw 2;have f3:=hr.slot.thaw 3;have f4:=hr.slot.thaw 4;have f5:=hr.slot.thaw 5;have f6:=hr.slot.thaw 6;have f7:=hr.slot.thaw 7;have f8:=hr.slot.thaw 8;have f9:=hr.slot.thaw 9;clear he hf hr;have HF:=(show Hid _ from(H6.out.set y).drew);rw[Hx.out]at HF l7;unfold qdf at HF;go_wp2
 go_region
 go_wp2
 refine Nmi.post (ext:=ext) HF.out ?_ ?_ ?_
 all_goals rfl
end Go.Proofs.YtfkhljmiehdgmaaGreatDoor

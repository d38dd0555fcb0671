/-
  Steps of the proof.
-/
import Derived.Test.YtfkhljmiehdgmaaGreatDoorCuBH
import Derived.Test.YtfkhljmiehdgmaaGreatDoorCuAP
set_option maxRecDepth 100000
set_option maxHeartbeats 40000000
namespace Go.Proofs.YtfkhljmiehdgmaaGreatDoor
open Go.RowKit Go.Proofs.Tryz Pl
section
open Go Go.Lib Go.Shelf
variable{g:Nat}{vv dv:Value}{e:Ev}{K:List Pc}{w0:World}
theorem q9a:(prog.info? 55).map (fun i=>(i.zero,i.size,i.bytes))=some (some (.agg #[zI 0,zI 0,zI 0]),3,24):=by kernel_rfl
theorem WrV.pushH{B:Nat}{w w1 w':World}{o:Wt}{sv hv p v:Value}(h:WrV w B g vv dv e K o sv hv p v)(hb:zW w w1)(x:Nat×Nat×Int){v':Value}
  (I:w'.ownsRow B 55 3 v' (o.holes.length+1) (qhd o.holes++[zI (x.1:Nat),zI (x.2.1:Nat),zI x.2.2])) (J:w1.grownBy w' hv.ownBlock) (T:v'.ownBlock=hv.ownBlock\/v'.ownBlock=some w1.heap.size) :
  (w'.cell? (zO g 7)=some hv/\w'.frozen? (zO g 7)=false)/\WrV (w'.setCell (zO g 7) v') B g vv dv e K { o with holes:=o.holes++[x] } sv v' p v/\Rn B g w (w'.setCell (zO g 7) v'):=by
 have h1:=h.below hb;have V:g<w1.heap.size:=(zL h1.wb.blk);have y:=(J.block g V (fun e=>qju h1.ho h1.wb.blk (by decide) e.symm)).trans h1.wb.blk;have z:∀i,i≠g->(w'.setCell (zO g 7) v').heap[i]?=w'.heap[i]?:=fun i hi=>xK _ _ _ _ hi;have X:=xG _ _ 7 _ _ v' y;have Z:B<=w1.heap.size:=yh h1.wb.le (yj V);have ha:v.ownBlock=none\/v.ownBlock≠some g:=Or.inr h1.wb.ne;have U:Below B w (w'.setCell (zO g 7) v'):=((hb.mono (yh h.wb.le (yj (zL h.wb.blk)))).trans ((xL B w1).grown J Z (fun k e=>q2w h1.ho e))).setCell (p:=zO g 7) h.wb.le _;refine⟨⟨qaa y 7 _ rfl,by simp[World.frozen?,y]⟩,⟨⟨h1.wb.le,X,?_,h1.wb.adr,h1.wb.nil⟩,?_,?_⟩,⟨U,fun k ob hk hn _=>?_,fun k hk=>?_⟩⟩
 ·exact(h1.wb.own.kept (row:=hv.ownBlock) J (qsz h1.wb.own h1.ho (by decide))).kept (row:=some g) ⟨rfl,rfl,rfl,by simp[World.setCell],fun i _ hi=>z i (fun e=>hi (by simp[e]))⟩ ha
 ·refine qab h1.st fun b O=>?_
  obtain⟨cur,hc⟩:=qac h1.st b O;exact(z b (fun e=>by subst e;exact qju h1.st h1.wb.blk (by decide) O)).trans (J.block b (ya.1 hc).1 (q8o (qxb h1.st h1.ho (by decide)) O))
 ·show World.ownsRow _ _ _ _ _ (o.holes++[x]).length (qhd (o.holes++[x]))
  rw[qx1,yJ];exact qab I fun b O=>z b (fun e=>by subst e;exact qju I y (by decide) O)
 ·have Y:=(ya.1 hk).1
  have Ha:=(hb.block k Y).trans hk;have D:=h.wb.all;exact(z k (fun e=>hn (.inl e))).trans ((J.block k (yi Y hb.size) (fun e=>hn (.inr (.inr ⟨hv,D.2.2.2.2.2.1,e.symm⟩)))).trans Ha)
 ·have D:=h.wb.all
  have c:=qaa X;rcases hk with rfl|⟨s2,h5,h6⟩|⟨s2,h5,h6⟩
  ·exact .inl (.inl rfl)
  ·rw[c 3 _ rfl]at h5
   obtain rfl:=yk h5;exact .inl (.inr (.inl ⟨_,D.2.2.2.1,h6⟩))
  ·rw[c 7 _ rfl]at h5
   obtain rfl:=yk h5;rcases T with h7|h7
   ·exact .inl (.inr (.inr ⟨hv,D.2.2.2.2.2.1,by rw[<-h7];exact h6⟩))
   ·rw[h7]at h6
    have:=yk h6;have:=hb.size;exact .inr (by omega)
theorem zcu(o:Wt)(as':Int)(nm:zT)(so:Option Addr)(sn scap:Nat)(w:World)(z:Int)(y:z≠0)(c3:w.cell? (zO g 3)=some (.slice so sn scap))
  (D:Hid (zC 175 #[.slice so sn scap,.string nm] w fun ed w1=>∃pa pn pcap pk,ed=.returned (.agg #[.slice pa pn pcap,zI (pk:Nat)]) /\
   Hid (zC 176 #[.agg #[.slice pa pn pcap,zI (pk:Nat)]] w1 fun ed w2=>∃t,ed=.returned (.string t) /\
    Hid (zC 64 #[zI as',.string t] w2 fun ed w3=>∃x,ed=.returned (.tuple #[.string x,zI z])/\Hid (OutC w0 g vv dv e K (o,z) w (.returned (zI z)) w3))))) :
  zC 126 #[zP g,.string nm,zI as'] w (OutC w0 g vv dv e K (o,z) w):=by
 go_enter func126,ntmps126
 go_wp2_with (first
  |(go_at_call 64;refine xQ HV.out ?_;rintro ed w3 ⟨x,rfl,I⟩)
  |(go_at_call 176;refine xQ HT.out ?_;rintro ed w2 ⟨t,rfl,HV⟩)
  | (go_at_call 175;refine xQ D.out ?_;rintro ed w1 ⟨pa,pn,pcap,pk,rfl,HT⟩))
 go_ret
 exact I.out
theorem zfy(o4:Wt)(n1 n2:Nat)(as':Int)(nm:zT)(so:Option Addr)(sn scap:Nat)(w:World)(z:Int)(He:o4.out.length=n2)(hg:o4.holes.length<=5001)(c3:w.cell? (zO g 3)=some (.slice so sn scap))
  (hF:Hid (zC 175 #[.slice so sn scap,.string nm] w fun ed w1=>∃pa pn pcap pk,ed=.returned (.agg #[.slice pa pn pcap,zI (pk:Nat)]) /\
   Hid (zC 176 #[.agg #[.slice pa pn pcap,zI (pk:Nat)]] w1 fun ed w2=>∃t,ed=.returned (.string t) /\
    Hid (zC 64 #[zI as',.string t] w2 fun ed w3=>∃tx,ed=.returned (.tuple #[.string tx,zI 0])/\Hid (zC 174 #[.pointer (some (zO g 5))] w3 (zQ (zI (n1:Nat)) w3)) /\
     Hid (zC 125 #[zP g,.string tx] w3 fun ed w4=>ed=.returned (zI z)/\Hid (WrAt w4 w0.heap.size g vv dv e K o4/\Rn w0.heap.size g w w4/\w0.heap.size<=w4.heap.size)))))) :
  zC 126 #[zP g,.string nm,zI as'] w (OutC w0 g vv dv e K ({ o4 with holes:=o4.holes++[(n1,n2,as')] },z) w):=by
 have Hc:Enters prog 174:=enters_of func174 (by kernel_rfl) rfl;obtain⟨i0,ha,Ha,hb,Hb⟩:=info_parts q9a;go_enter func126,ntmps126
 go_wp2_with (first
  |(go_at_call 125;refine xQ HW.out ?_;rintro ed w4 ⟨rfl,H4⟩)
  |(go_at_call 174;refine cm HL.out ?_)
  |(go_at_call 64;refine xQ HV.out ?_;rintro ed w3 ⟨tx,rfl,HL,HW⟩)
  |(go_at_call 176;refine xQ HT.out ?_;rintro ed w2 ⟨t,rfl,HV⟩)
  | (go_at_call 175;refine xQ hF.out ?_;rintro ed w1 ⟨pa,pn,pcap,pk,rfl,HT⟩))
 obtain⟨⟨sv,hv,bp,bv,V⟩,hc,hf⟩:=H4.out;have O:zW w4 (w4.alloc (.cells #[zI (n1:Nat),zI (n2:Nat),zI as'] 55)).drew:=(zB _).drew;have J:=(V.below O).ho;have Hf:∃ho hn hcap,hv=.slice ho hn hcap:=by
  rcases V.ho.2 with⟨h1,_⟩|⟨b,cap,cur,h1,_⟩
  ·exact⟨_,_,_,h1⟩
  ·exact⟨_,_,_,h1⟩
 obtain⟨ho,hn,hcap,rfl⟩:=Hf;have g7:w4.cell? (zO g 7)=some (.slice ho hn hcap):=V.wb.all.2.2.2.2.2.1;have gd:w4.drew.cell? (zO g 7)=some (.slice ho hn hcap):=g7;have ga:(w4.alloc (.cells #[zI (n1:Nat),zI (n2:Nat),zI as'] 55)).drew.cell? (zO g 7)=some (.slice ho hn hcap):=(O.cell (p:=zO g 7) (zL V.wb.blk)).trans g7;have Y:zC 174 #[.pointer (some (zO g 5))] w4.drew fun ed w'=>ed=.returned (zI (n2:Nat))/\w4.drew=w':=by
  have:=za3 w4.drew w0.heap.size g _ _ _ _ _ _ _ _ _ V.wb.drew
  rwa [He]at this
 refine Code.wp_mono (Q:=fun ex a' w'=>ex=.normal/\∃he cap3,a'={ tmps:=#[zP g,.string nm,zI as',undef,undef,undef,zI 0,.string tx,zI z,zI (n1:Nat),.tuple #[.string tx,zI 0],zI as',zP g,zP g,.pointer (some (zO g 3)),.slice so sn scap,.string nm,.agg #[.slice pa pn pcap,zI (pk:Nat)],.string t,.tuple #[.string tx,zI 0],.string tx,zI 0,zI 0,.bool false,undef,zP g,zP g,.pointer (some (zO g 5)),zI (n1:Nat),zP g,.string tx,zI z,zP g,zP g,zP g,.pointer (some (zO g 7)),.slice ho hn hcap,zI (n1:Nat),zP g,zP g,.pointer (some (zO g 5)),zI (n2:Nat),zI as',.agg #[zI (n1:Nat),zI (n2:Nat),zI as'],zF w4.heap.size 1 1,.slice he (o4.holes.length+1:Nat) cap3,zP g,.pointer (some (zO g 7)),undef],defers:=[] }/\Hid (WrAt w' w0.heap.size g vv dv e K { o4 with holes:=o4.holes++[(n1,n2,as')] }/\Rn w0.heap.size g w4 w')) (fun ex a' w5 hm=>?rest) ?reg
 case reg=>
  refine wp_region_held_drew (S:=fun _=>True) (by kernel_rfl) trivial (fun _=>?_);refine qbf (i:=0) (zP g) rfl (by kernel_rfl) (by kernel_rfl) (by kernel_rfl) (fun _ _ _ h=>by cases h.1) rfl (fun X _=>?_) trivial ?_
  ·go_simp
  refine qbf (i:=1) (zP g) rfl (by kernel_rfl) (by kernel_rfl) (by kernel_rfl) (fun _ _ _ h=>by cases h.1) rfl (fun X _=>?_) trivial ?_
  ·go_simp
  refine qbf (i:=2) (zP g) rfl (by kernel_rfl) (by kernel_rfl) (by kernel_rfl) (fun _ _ _ h=>by cases h.1) rfl (fun X _=>?_) trivial ?_
  ·go_simp
  refine qbf (i:=3) (.pointer (some (zO g 7))) rfl (by kernel_rfl) (by kernel_rfl) (by kernel_rfl) (fun _ _ _ h=>by cases h.1) rfl (fun X _=>?_) trivial ?_
  ·go_simp
  refine qbf (i:=5) (zI (n1:Nat)) rfl (by kernel_rfl) (by kernel_rfl) (by kernel_rfl) (fun _ _ _ h=>by cases h.1) rfl (fun X _=>?_) trivial ?_
  ·go_simp
  refine qbf (i:=6) (zP g) rfl (by kernel_rfl) (by kernel_rfl) (by kernel_rfl) (fun _ _ _ h=>by cases h.1) rfl (fun X _=>?_) trivial ?_
  ·go_simp
  refine qbf (i:=7) (zP g) rfl (by kernel_rfl) (by kernel_rfl) (by kernel_rfl) (fun _ _ _ h=>by cases h.1) rfl (fun X _=>?_) trivial ?_
  ·go_simp
  refine qbf (i:=8) (.pointer (some (zO g 5))) rfl (by kernel_rfl) (by kernel_rfl) (by kernel_rfl) (fun _ _ _ h=>by cases h.1) rfl (fun X _=>?_) trivial ?_
  ·go_simp
  refine qbf (i:=10) (zI as') rfl (by kernel_rfl) (by kernel_rfl) (by kernel_rfl) (fun _ _ _ h=>by cases h.1) rfl (fun X _=>?_) trivial ?_
  ·go_simp
  refine wpAnyH_ready (rs:=[4,9]) (by kernel_rfl) (by simp) (AllReadyH.cons rfl (fun K' y=>?_) (AllReadyH.cons rfl (fun K' y=>?_) AllReadyH.nil))
  ·go_simp
   refine y.out _ _ trivial (fun _=>?_);clear y K';refine rd (r:=9) (by kernel_rfl) rfl (fun K' y=>?_);refine qji rfl 174 #[.tmp 40] #[153] rfl Hc (fun v' x=>v'=zI (n2:Nat)/\x=w4.drew) #[.pointer (some (zO g 5))] (by simp[Act.eval]) (Y.mono ?_) ?_
   ·rintro e2 x' ⟨rfl,rfl⟩
    exact⟨_,rfl,rfl,rfl⟩
   rintro _ _ ⟨rfl,rfl⟩;refine y.out _ _ trivial (fun _=>?_);clear y K';refine rd (r:=11) (by kernel_rfl) rfl (fun K' y=>?_);go_simp
   refine y.out _ _ trivial (fun _=>?_);clear y K';refine rd (r:=12) (by kernel_rfl) rfl (fun K' y=>?_);go_simp
   refine y.out _ _ trivial (fun _=>?_);clear y K';refine rd (r:=13) (by kernel_rfl) rfl (fun K' y=>?_);refine qa6 rfl (.tmp 36) (.tmp 44) 49 rfl w0.heap.size 55 i0 (.agg #[zI 0,zI 0,zI 0]) 3 24 underlying49 ha Ha hb Hb rfl (by decide) (.slice ho hn hcap) o4.holes.length _ (by simp[Act.eval]) J (zO w4.heap.size 0) 1 1 [zI (n1:Nat),zI (n2:Nat),zI as'] (by simp[Act.eval]) rfl (qcn w4 _ _) (by simp[Value.oneCell']) (by unfold maxLen;omega) (by omega) (by show w0.heap.size<=(w4.alloc _).heap.size;rw[qcf];omega) ?_;intro v' w6 D Z T;obtain⟨g3,cap3,rfl,_,_⟩:=qai D (by omega);obtain⟨⟨q3,q4⟩,I,U⟩:=WrV.pushH V O (n1,n2,as') D Z T;refine y.out _ _ trivial (fun _=>?_);clear y K';refine rd (r:=14) (by kernel_rfl) rfl (fun K' y=>?_);go_simp
   refine y.out _ _ trivial (fun _=>?_);clear y K';refine rd (r:=15) (by kernel_rfl) rfl (fun K' y=>?_);go_simp
   refine y.out _ _ trivial (fun _=>?_);clear y K';refine rd (r:=16) (by kernel_rfl) rfl (fun K' y=>?_);go_simp
   refine y.out _ _ trivial (fun _=>?_);refine wpAnyH_done (by kernel_rfl) ?_ _;exact⟨rfl,some (zO g3 0),cap3,rfl,⟨_,_,_,_,I⟩,U⟩
  ·skip
   refine qji rfl 174 #[.tmp 40] #[153] rfl Hc (fun v' x=>v'=zI (n2:Nat)/\x=w4.drew) #[.pointer (some (zO g 5))] (by simp[Act.eval,Act.put]) (Y.mono ?_) ?_
   ·rintro e2 x' ⟨rfl,rfl⟩
    exact⟨_,rfl,rfl,rfl⟩
   rintro _ _ ⟨rfl,rfl⟩;refine y.out _ _ trivial (fun _=>?_);clear y K';refine qbf (i:=11) (.agg #[zI (n1:Nat),zI (n2:Nat),zI as']) rfl (by kernel_rfl) (by kernel_rfl) (by kernel_rfl) (fun _ _ _ h=>by cases h.1) rfl (fun X _=>?_) trivial ?_
   ·go_simp
   refine wpAnyH_ready (rs:=[4,12]) (by kernel_rfl) (by simp) (AllReadyH.cons rfl (fun K' y=>?_) (AllReadyH.cons rfl (fun K' y=>?_) AllReadyH.nil))
   ·go_simp
    refine y.out _ _ trivial (fun _=>?_);clear y K';refine rd (r:=12) (by kernel_rfl) rfl (fun K' y=>?_);go_simp
    refine y.out _ _ trivial (fun _=>?_);clear y K';refine rd (r:=13) (by kernel_rfl) rfl (fun K' y=>?_);refine qa6 rfl (.tmp 36) (.tmp 44) 49 rfl w0.heap.size 55 i0 (.agg #[zI 0,zI 0,zI 0]) 3 24 underlying49 ha Ha hb Hb rfl (by decide) (.slice ho hn hcap) o4.holes.length _ (by simp[Act.eval]) J (zO w4.heap.size 0) 1 1 [zI (n1:Nat),zI (n2:Nat),zI as'] (by simp[Act.eval]) rfl (qcn w4 _ _) (by simp[Value.oneCell']) (by unfold maxLen;omega) (by omega) (by show w0.heap.size<=(w4.alloc _).heap.size;rw[qcf];omega) ?_;intro v' w6 D Z T;obtain⟨g3,cap3,rfl,_,_⟩:=qai D (by omega);obtain⟨⟨q3,q4⟩,I,U⟩:=WrV.pushH V O (n1,n2,as') D Z T;refine y.out _ _ trivial (fun _=>?_);clear y K';refine rd (r:=14) (by kernel_rfl) rfl (fun K' y=>?_);go_simp
    refine y.out _ _ trivial (fun _=>?_);clear y K';refine rd (r:=15) (by kernel_rfl) rfl (fun K' y=>?_);go_simp
    refine y.out _ _ trivial (fun _=>?_);clear y K';refine rd (r:=16) (by kernel_rfl) rfl (fun K' y=>?_);go_simp
    refine y.out _ _ trivial (fun _=>?_);refine wpAnyH_done (by kernel_rfl) ?_ _;exact⟨rfl,some (zO g3 0),cap3,rfl,⟨_,_,_,_,I⟩,U⟩
   ·go_simp
    refine y.out _ _ trivial (fun _=>?_);clear y K';refine rd (r:=4) (by kernel_rfl) rfl (fun K' y=>?_);go_simp
    refine y.out _ _ trivial (fun _=>?_);clear y K';refine rd (r:=13) (by kernel_rfl) rfl (fun K' y=>?_);refine qa6 rfl (.tmp 36) (.tmp 44) 49 rfl w0.heap.size 55 i0 (.agg #[zI 0,zI 0,zI 0]) 3 24 underlying49 ha Ha hb Hb rfl (by decide) (.slice ho hn hcap) o4.holes.length _ (by simp[Act.eval]) J (zO w4.heap.size 0) 1 1 [zI (n1:Nat),zI (n2:Nat),zI as'] (by simp[Act.eval]) rfl (qcn w4 _ _) (by simp[Value.oneCell']) (by unfold maxLen;omega) (by omega) (by show w0.heap.size<=(w4.alloc _).heap.size;rw[qcf];omega) ?_;intro v' w6 D Z T;obtain⟨g3,cap3,rfl,_,_⟩:=qai D (by omega);obtain⟨⟨q3,q4⟩,I,U⟩:=WrV.pushH V O (n1,n2,as') D Z T;refine y.out _ _ trivial (fun _=>?_);clear y K';refine rd (r:=14) (by kernel_rfl) rfl (fun K' y=>?_);go_simp
    refine y.out _ _ trivial (fun _=>?_);clear y K';refine rd (r:=15) (by kernel_rfl) rfl (fun K' y=>?_);go_simp
    refine y.out _ _ trivial (fun _=>?_);clear y K';refine rd (r:=16) (by kernel_rfl) rfl (fun K' y=>?_);go_simp
    refine y.out _ _ trivial (fun _=>?_);refine wpAnyH_done (by kernel_rfl) ?_ _;exact⟨rfl,some (zO g3 0),cap3,rfl,⟨_,_,_,_,I⟩,U⟩
 case rest=>
  obtain⟨rfl,he,cap3,rfl,H5⟩:=hm;clear gd ga Y g7 O J V hF;go_wp2
  go_ret
  exact⟨rfl,⟨K,H5.out.1,fun _=>rfl⟩,hc.trans H5.out.2⟩
variable{w0:World}{g M f:Nat}{vv dv:Value}{e:Ev}
theorem zcv(hE:Evm w0 vv dv e M)(K:List Pc)(o:Wt)(w:World)(h:Wst w0 g vv dv e M K o w)(hS:FinS e M o)(nm:zT)(ha:nm.size<=100000)(as':Int) :
  zC 126 #[zP g,.string nm,zI as'] w (OutC w0 g vv dv e K (e.hole K o nm.data.toList as') w):=by
 obtain⟨sv,hv,bp,bv,hq⟩:=id h.at';have J:=hq.stk;obtain⟨so,cap,rfl,_,_⟩:=id J;have c3:w.cell? (zO g 3)=some (.slice so K.length cap):=hq.wb.all.2.2.2.1;obtain⟨q,X⟩:∃q,qe3 e.D K nm.data.toList=q:=⟨_,rfl⟩;obtain⟨pa,pn,pcap,Ha⟩:=qgu hE.ds q;have Y:qe0 dv q=.agg #[.slice pa pn pcap,zI (pcI q)]:=by rw[qdk,Ha]
 have hF:=q3j dv (.slice so K.length cap) e.D K nm w0.heap.size w h.base.size (hE.ds.below h.base) J (hE.ml.below h.base) ha h.ne;rw[X,Y]at hF;have hT:∀w1,zW w w1->zC 176 #[.agg #[.slice pa pn pcap,zI (pcI q)]] w1 fun ed w2=>ed=.returned (bs (qc7 (qbe e.D q)))/\zW w1 w2:=fun w1 hb=>by
  have z:=h.base.trans (hb.mono h.base.size);have:=zbf dv e.D q w0.heap.size w1 z.size (hE.ds.below z) hE.num (hE.pow.below z hE.powB) hE.powB
  rwa [Y]at this
 have hV:∀w2,zW w w2->zC 64 #[zI as',bs (qc7 (qbe e.D q))] w2 fun ed w3=>ed=.returned (.tuple #[bs (qgn as' (qc7 (qbe e.D q))),zI (qor as')])/\zW w2 w3:=fun w2 hb=>by
  have z:=h.base.trans (hb.mono h.base.size);exact q66 as' ⟨(qc7 (qbe e.D q)).toArray⟩ w2 (hE.tabs.kept z hE.tabs.lt) (by simp only[ByteArray.size,List.size_toArray];exact hE.shows q)
 by_cases hz:qor as'≠0
 ·have e1:e.hole K o nm.data.toList as'=(o,qor as'):=by unfold Ev.hole;rw[if_pos hz]
  rw[e1];refine zcu o as' nm so K.length cap w _ hz c3 (hF.mono ?_);rintro ed w1 ⟨rfl,z⟩;refine⟨_,_,_,_,rfl,(hT w1 z).mono ?_⟩;rintro ed w2 ⟨rfl,T⟩;have y:=z.trans (T.mono z.size);refine⟨_,rfl,(hV w2 y).mono ?_⟩;rintro ed w3 ⟨rfl,U⟩;have I:=y.trans (U.mono y.size);exact⟨_,rfl,rfl,⟨K,(h.below I).at',fun _=>rfl⟩,h.rn I⟩
 ·obtain⟨tx,V⟩:∃tx,qgn as' (qc7 (qbe e.D q))=tx:=⟨_,rfl⟩
  have e1:e.hole K o nm.data.toList as'=({ (e.put o tx).1 with holes:=(e.put o tx).1.holes++[(o.out.length,(e.put o tx).1.out.length,as')] },(e.put o tx).2):=by
   unfold Ev.hole;rw[if_neg hz,X,V,qjr]
  rw[e1];have Hb:qor as'=0:=by simpa using hz
  have He:tx.length<=M:=by rw[<-V];exact hE.small.2 as' q
  have hf:=hS.out;have hc:=hS.steps;have Hf:=hE.bound;have Hc:o.steps*M<=5000*M:=xE _ hc;have he:(e.put o tx).1.holes.length<=5001:=by rw[qjr];have:=hS.holes;omega
  refine zfy (e.put o tx).1 o.out.length (e.put o tx).1.out.length as' nm so K.length cap w _ rfl he c3 (hF.mono ?_);rintro ed w1 ⟨rfl,z⟩;refine⟨_,_,_,_,rfl,(hT w1 z).mono ?_⟩;rintro ed w2 ⟨rfl,T⟩;have y:=z.trans (T.mono z.size);refine⟨_,rfl,(hV w2 y).mono ?_⟩;rintro ed w3 ⟨rfl,U⟩;have I:=y.trans (U.mono y.size);rw[V,Hb];have O:=hq.below I;refine⟨⟨tx.toArray⟩,rfl,za3 w3 w0.heap.size g _ _ _ _ _ _ _ _ _ O.wb,(q2g w3 w0.heap.size g _ _ _ _ _ e o _ _ O.wb tx (by omega) ⟨hE.room,h.fin.room⟩).mono ?_⟩;rintro ed w4 ⟨rfl,⟨p',v',h1⟩,h2,h3⟩;have Z:WbAt w4 w0.heap.size g vv (zI e.depth) (zI e.room) (.slice so K.length cap) (zI (e.put o tx).1.steps) hv (e.put o tx).1.out p' v':=by rw[qfp];exact h1
  exact⟨rfl,⟨_,_,_,_,O.turn Z h3 (qjr e o tx)⟩,(h.rn I).trans (Rn.of_wb O.wb Z h2 h3),yh h.base.size (yh I.size h2.size)⟩
theorem zfe(J:Evm w0 vv dv e M)(K:List Pc)(o:Wt)(w:World)(h:Wst w0 g vv dv e M K o w)(O:FinS e M o)(t:zU)(T:t.length<=M) :
  zC 125 #[zP g,bs t] w (OutC w0 g vv dv e K (e.put o t) w):=by
 obtain⟨sv,U,bp,bv,V⟩:=id h.at';have D:=O.out;have z:o.steps*M<=5000*M:=xE _ O.steps;have I:=J.bound;refine(q2g w w0.heap.size g _ _ _ _ _ e o _ _ V.wb t (by omega) ⟨J.room,h.fin.room⟩).mono ?_;rintro ed w4 ⟨rfl,⟨p',v',X⟩,Y,Z⟩;have y:WbAt w4 w0.heap.size g vv (zI e.depth) (zI e.room) sv (zI (e.put o t).1.steps) U (e.put o t).1.out p' v':=by rw[qfp];exact X
 exact⟨rfl,⟨K,⟨_,_,_,_,V.turn y Z (qjr e o t)⟩,fun _=>rfl⟩,Rn.of_wb V.wb y Y Z⟩
theorem qqc(I:Evm w0 vv dv e M)(J:qrx w0 g vv dv e M f)(v fr:Nat)(qad:Int)(p:Pt)(K:List Pc)(o:Wt)(w:World)(po:Option Addr)(pcap gm:Nat)(O:ViOne w0 e v po pcap gm)(T:p.mate<=(e.parts v).length)(U:p.kind=3\/p.kind=4)(V:p.text.length<=100000)(z:0<=qad)(D:qad<=50)(h:Wst w0 g vv dv e M K o w)(X:5001<=f+o.steps)(hK:K.length<=o.steps) :
  zC 127 #[zP g,.agg #[zI (p.kind:Nat),zI (p.pos:Nat),bs p.text,zI (p.mate:Nat)],qjl po (e.parts v).length pcap gm fr p.mate qad] w (OutC w0 g vv dv e K (e.section (fun K o=>qdo (e.run f v fr p.mate qad K) o) K p.kind p.text o) w):=by
 have y:∀K' (o':Wt),o'.steps<=5000->o'.steps<=(qdo (e.run f v fr p.mate qad K') o').1.steps/\(qdo (e.run f v fr p.mate qad K') o').1.steps<=5000:=fun K' o' Y=>qht (fun x Z=>qqd e f v fr p.mate qad K' x Z) o' Y;have hb:(ByteArray.mk p.text.toArray).data.toList=p.text:=by simp
 refine qwr I f (fun K o=>qdo (e.run f v fr p.mate qad K) o) po (e.parts v).length pcap gm fr p.mate qad (fun K' o' w' h1 h2 h3=>zdo J v fr p.mate qad K' o' w' po pcap gm O T z D h1 h2 h3)
  (fun K' o' Y=>qkl Y fun Y=>qup I.small _ _ _ _ _ _ _ Y.fin) (fun K' o' Y=>(y K' o' Y).1) p.kind p.pos p.mate U ⟨p.text.toArray⟩ (by simp only[ByteArray.size,List.size_toArray];exact V) K o w h X hK _ (by rw[hb])
theorem q7i(w:World)(g bv n cap v:Nat)(po:Option Addr)(pn pcap gm:Nat)(qad:Int)(R:Ending->World->Prop)(z:Int)(D:(v:Int)<(n:Int))(c0:w.cell? (zO g 0)=some (zF bv n cap))(v0:w.cell? (zO bv (v*2))=some (.slice po pn pcap))(v1:w.cell? (zO bv (v*2+1))=some (zF gm pn pn))
  (I:Hid (zC 90 #[zP g,.agg #[.slice po pn pcap,zF gm pn pn,zI 0,zI (pn:Nat),zI qad]] (w.alloc (.cells #[.slice po pn pcap,zF gm pn pn] 205)) fun ed w'=>ed=.returned (zI z)/\R (.returned (zI z)) w')) :
  zC 60 #[zP g,zI (v:Nat),zI qad] w R:=by
 have y:(0:Int)<=(v:Int):=by omega
 go_enter func60,ntmps60
 go_wp2_with (go_at_call 90;refine xQ I.out ?_;rintro ed w' ⟨rfl,J⟩)
 exact J
theorem qwc(O:Evm w0 vv dv e M)(T:qrx w0 g vv dv e M f)(v:Nat)(U:v<e.vis.length)(qad:Int)(K:List Pc)(o:Wt)(w:World)(D:0<=qad)(I:qad<=50)(h:Wst w0 g vv dv e M K o w)(V:5001<=f+o.steps)(hK:K.length<=o.steps+1) :
  zC 60 #[zP g,zI (v:Nat),zI qad] w (OutC w0 g vv dv e K (e.run f v 0 (e.parts v).length qad K o) w):=by
 obtain⟨bv,cap,rfl,z,X⟩:=O.vis;obtain⟨po,pcap,gm,y,k0,k1⟩:=X v U;obtain⟨sv,J,bp,bv',Y⟩:=id h.at';have Z:zW w (w.alloc (.cells #[.slice po (e.parts v).length pcap,zF gm (e.parts v).length (e.parts v).length] 205)):=zB _;refine q7i w g bv e.vis.length cap v po (e.parts v).length pcap gm qad (OutC w0 g (zF bv e.vis.length cap) dv e K (e.run f v 0 (e.parts v).length qad K o) w) (e.run f v 0 (e.parts v).length qad K o).2 (by omega) Y.wb.all.1 ((h.base.cell (p:=zO bv (v*2)) z).trans k0) ((h.base.cell (p:=zO bv (v*2+1)) z).trans k1) ((T v 0 (e.parts v).length qad K o _ po pcap gm y (yg _) D I (h.below Z) V hK).mono ?_);intro ed w' hO;exact⟨hO.1,hO.1▸hO.from (h.rn Z)⟩
theorem qw8(w:World)(g:Nat)(x:Int):zC 128 #[zP g,zI 0,zI x] w (zQ (zI 0) w):=by
 go_enter func128,ntmps128
 go_wp2
 go_ret
 exact⟨rfl,rfl⟩
theorem qw9(w:World)(g:Nat)(m x d:Int)(y:¬m=0)(z:d<x)(c1:w.cell? (zO g 1)=some (zI d)):zC 128 #[zP g,zI m,zI x] w (zQ (zI 4) w):=by
 go_enter func128,ntmps128
 go_wp2
 go_ret
 exact⟨rfl,rfl⟩
theorem q5c(w:World)(g:Nat)(m x d:Int)(y:¬m=0)(D:¬d<x)(c1:w.cell? (zO g 1)=some (zI d))(z:Int)(R:Ending->World->Prop)
  (I:Hid (zC 60 #[zP g,zI m,zI x] w fun ed w'=>ed=.returned (zI z)/\R (.returned (zI z)) w')) :
  zC 128 #[zP g,zI m,zI x] w R:=by
 go_enter func128,ntmps128
 go_wp2_with (go_at_call 60;refine xQ I.out ?_;rintro ed w' ⟨rfl,J⟩)
 exact J
theorem q04(J:Evm w0 vv dv e M)(O:qrx w0 g vv dv e M f)(m:Int)(z:0<=m)(T:m<(e.vis.length:Nat))(qad:Int)(K:List Pc)(o:Wt)(w:World)(D:0<=qad)(h:Wst w0 g vv dv e M K o w)(U:5001<=f+o.steps)(hK:K.length<=o.steps+1) :
  zC 128 #[zP g,zI m,zI (qad+1)] w (OutC w0 g vv dv e K (if m=0 then(o,0)else if e.depth<qad+1 then(o,4)else e.run f m.toNat 0 (e.parts m.toNat).length (qad+1) K o) w):=by
 obtain⟨sv,I,bp,bv',V⟩:=id h.at';by_cases X:m=0
 ·rw[if_pos X,X]
  refine cm (qw8 w g (qad+1)) ?_;exact⟨rfl,⟨K,h.at',fun _=>rfl⟩,Rn.refl _ _ _⟩
 ·rw[if_neg X]
  by_cases Y:e.depth<qad+1
  ·rw[if_pos Y]
   refine cm (qw9 w g m (qad+1) e.depth X Y V.wb.all.2.1) ?_;exact⟨rfl,⟨K,h.at',fun e=>absurd (show(4:Int)=0 from e) (by decide)⟩,Rn.refl _ _ _⟩
  ·rw[if_neg Y]
   have y:((m.toNat:Nat):Int)=m:=by omega
   have hd:=J.depth;have:=qwc J O m.toNat (by omega) (qad+1) K o w (by omega) (by omega) h U hK;rw[y]at this;refine q5c w g m (qad+1) e.depth X Y V.wb.all.2.1 (e.run f m.toNat 0 (e.parts m.toNat).length (qad+1) K o).2 (OutC w0 g vv dv e K (e.run f m.toNat 0 (e.parts m.toNat).length (qad+1) K o) w) (this.mono ?_);intro ed w' Z;exact⟨Z.1,Z.1▸Z⟩
variable{e:Ev}{M g:Nat}{w0:World}{vv dv:Value}
theorem zbr(e:Ev)(f v a tz:Nat)(qad:Int)(K:List Pc)(o:Wt)(h:a<tz)(y:o.steps≠5000)(p:Pt)(z:(e.parts v)[a]?=some p)(r:Wt×Int)(next:Nat)
  (D:r=(if p.kind=1 then e.put { o with steps:=o.steps+1 } p.text else if p.kind=2 then e.hole K { o with steps:=o.steps+1 } p.text ((e.marks v).getD a 0)
   else if p.kind=3\/p.kind=4 then e.section (fun K o=>qdo (e.run f v (a+1) p.mate qad K) o) K p.kind p.text { o with steps:=o.steps+1 }
   else if p.kind=6 then(if(e.marks v).getD a 0=0 then({ o with steps:=o.steps+1 },0) else if e.depth<qad+1 then({ o with steps:=o.steps+1 },4) else e.run f ((e.marks v).getD a 0).toNat 0 (e.parts ((e.marks v).getD a 0).toNat).length (qad+1) K { o with steps:=o.steps+1 }) else({ o with steps:=o.steps+1 },0)))
  (I:next=if p.kind=3\/p.kind=4 then p.mate+1 else a+1) :
  e.run (f+1) v a tz qad K o=if r.2≠0 then r else e.run f v next tz qad K r.1:=by
 have J:e.run (f+1) v a tz qad K o=qdo (fun w=>
   match (e.parts v)[a]? with
   |none=>(w,0)
   |some p=>
     let mark:=(e.marks v).getD a 0
     let on:=fun(r:Wt×Int) (next:Nat)=>if r.2≠0 then r else e.run f v next tz qad K r.1
     if p.kind=1 then on (e.put w p.text) (a+1)
     else if p.kind=2 then on (e.hole K w p.text mark) (a+1)
     else if p.kind=3\/p.kind=4 then on (e.section (fun K w=>qdo (e.run f v (a+1) p.mate qad K) w) K p.kind p.text w) (p.mate+1)
     else if p.kind=6 then on (if mark=0 then(w,0)else if e.depth<qad+1 then(w,4)else e.run f mark.toNat 0 (e.parts mark.toNat).length (qad+1) K w) (a+1)
     else on (w,0) (a+1)) o:=by
  conv=>lhs;rw[Ev.run]
  rw[if_neg (by omega)];rfl
 rw[J];unfold qdo;rw[if_neg y];simp only[z];subst D I;rcases(show p.kind=1\/p.kind=2\/p.kind=3\/p.kind=4\/p.kind=6\/(p.kind≠1/\p.kind≠2/\p.kind≠3/\p.kind≠4/\p.kind≠6) by omega)with k|k|k|k|k|⟨k1,k2,k3,k4,k6⟩
 ·simp only[k,if_true];rfl
 ·simp[k]
 ·simp[k];rfl
 ·simp[k];rfl
 ·simp[k]
 ·simp[k1,k2,k3,k4,k6]
theorem ze8(e:Ev)(f v a tz:Nat)(qad:Int)(K:List Pc)(o:Wt)(h:tz<=a):e.run (f+1) v a tz qad K o=(o,0):=by
 show(if tz<=a then(o,(0:Int))else _)=_;rw[if_pos h]
theorem zbs(e:Ev)(f v a tz:Nat)(qad:Int)(K:List Pc)(o:Wt)(h:a<tz)(y:o.steps=5000):e.run (f+1) v a tz qad K o=(o,5):=by
 show(if tz<=a then(o,(0:Int))else qdo _ o)=_;rw[if_neg (by omega)];unfold qdo;rw[if_pos y]
def qk3(e:Ev)(f v a:Nat)(qad:Int)(K:List Pc)(o:Wt)(p:Pt):Wt×Int:=
 if p.kind=1 then e.put o p.text else if p.kind=2 then e.hole K o p.text ((e.marks v).getD a 0)
 else if p.kind=3\/p.kind=4 then e.section (fun K o=>qdo (e.run f v (a+1) p.mate qad K) o) K p.kind p.text o
 else if p.kind=6 then(if(e.marks v).getD a 0=0 then(o,0)else if e.depth<qad+1 then(o,4)else e.run f ((e.marks v).getD a 0).toNat 0 (e.parts ((e.marks v).getD a 0).toNat).length (qad+1) K o)else(o,0)
theorem q8j(y:e.Small M)(f v a:Nat)(qad:Int)(K:List Pc)(o:Wt)(p:Pt)(z:p∈e.parts v)(h:FinS e M o):Fin e M (qk3 e f v a qad K o p).1/\o.steps<=(qk3 e f v a qad K o p).1.steps:=by
 unfold qk3;split
 ·exact⟨h.put (y.1 v p z),by rw[qfp];exact yg _⟩
 split
 ·exact⟨h.hole y _ _ _,by rw[qtc];exact yg _⟩
 split
 ·exact⟨qqb (fun K o h=>qkl h fun h=>qup y _ _ _ _ _ _ _ h.fin) K _ _ o h.fin,(qmj e (fun K w h=>qht (fun w h=>qqd e _ _ _ _ _ _ w h) w h) K _ _ o h.steps).1⟩
 split
 ·split
  ·exact⟨h.fin,yg _⟩
  ·split
   ·exact⟨h.fin,yg _⟩
   ·exact⟨qup y _ _ _ _ _ _ _ h.fin,(qqd e _ _ _ _ _ _ o h.steps).1⟩
 ·exact⟨h.fin,yg _⟩
structure PaL(w0:World)(g:Nat)(vv dv:Value)(e:Ev)(M:Nat)(K:List Pc)(w:World)(sp:Array Value)(o:Wt)(wr:World):Prop where
 st:Wst w0 g vv dv e M K o wr
 rn:Rn w0.heap.size g w wr
 sp:Mine g wr w.heap.size sp 208
theorem q5b{F:Nat}(hE:Evm w0 vv dv e M)(HP:∀k,k<F->qrx w0 g vv dv e M k):qrx w0 g vv dv e M F:=by
 intro v at' tz qad K o w po pcap gm hv hw Hg Hn h hf hK;obtain⟨r,HR⟩:∃r,Hid (e.run F v at' tz qad K o=r):=⟨_,rfl⟩;rw[HR.out];have HV:=zH hv;have HH:=zH h;have V:zW w (w.alloc (.cells #[.slice po (e.parts v).length pcap,zF gm (e.parts v).length (e.parts v).length,zI (at':Nat),zI (tz:Nat),zI qad] 208)):=zB _
 have ho:Hid (PaL w0 g vv dv e M K w #[.slice po (e.parts v).length pcap,zF gm (e.parts v).length (e.parts v).length,zI (at':Nat),zI (tz:Nat),zI qad] o (w.alloc (.cells #[.slice po (e.parts v).length pcap,zF gm (e.parts v).length (e.parts v).length,zI (at':Nat),zI (tz:Nat),zI qad] 208))):=
  ⟨h.below V,h.rn V,Mine.new h.at' _ _ (by decide)⟩
 obtain⟨s,hs⟩:∃s,w.heap.size=s:=⟨_,rfl⟩;have Hw:Hid (w0.heap.size<=w.heap.size):=h.base.size;have hx:(e.parts v).length<=100000:=hE.ok.small.2 v;clear hv h V;unfold qjl;go_enter func90,ntmps90
 go_wp2
 go_loopw [5] (fun x wr=>∃(a f:Nat) (o':Wt),x=zI a/\Hid (f<=F/\5001<=f+o'.steps/\K.length<=o'.steps+1/\e.run f v a tz qad K o'=r)/\Hid (PaL w0 g vv dv e M K w #[.slice po (e.parts v).length pcap,zF gm (e.parts v).length (e.parts v).length,zI (at':Nat),zI (tz:Nat),zI qad] o' wr)) (fun x _=>tz - (intOf x).toNat)
 case atStart=>exact⟨at',F,o,rfl,⟨yg _,hf,hK,HR.out⟩,ho.out⟩
 case round=>
  obtain⟨a,f,o',rfl,HF,HL⟩:=hrel;have d2:wr.cell? (zO s 3)=some (zI (tz:Nat)):=by rw[<-hs];exact HL.out.sp.cell 3 _ rfl
  have Hx:=HL.out.st.fin.steps;obtain⟨f,rfl⟩:∃f',f=f'+1:=⟨f - 1,by have:=HF.out.2.1;omega⟩;by_cases Hy:(a:Int)<(tz:Int)
  rotate_left
  ·have HO:Hid (OutC w0 g vv dv e K r w (.returned (zI 0)) wr):=by
    have h1:=HF.out.2.2.2;rw[ze8 e f v a tz qad K o' (by omega)]at h1;show OutC _ _ _ _ _ _ _ _ _ _;rw[<-h1];exact⟨rfl,⟨K,HL.out.st.at',fun _=>rfl⟩,HL.out.rn⟩
   go_wp2
   go_ret
   exact HO.out
  ·have Ho:a<tz:=by omega
   have V:a<(e.parts v).length:=by omega
   obtain⟨p,hp⟩:∃p,(e.parts v)[a]?=some p:=⟨_,yc V⟩;by_cases Hc:o'.steps=5000
   ·have HO:Hid (OutC w0 g vv dv e K r w (.returned (zI 5)) wr):=by
     have h1:=HF.out.2.2.2;rw[zbs e f v a tz qad K o' Ho Hc]at h1;show OutC _ _ _ _ _ _ _ _ _ _;rw[<-h1];exact⟨rfl,⟨K,HL.out.st.at',fun _=>rfl⟩,HL.out.rn⟩
    have HS:Hid (zC 124 #[zP g] wr (zQ (zI 5) wr)):=by
     refine(qpb HL.out.st).mono ?_;rintro ed w' (⟨_,rfl,rfl⟩|⟨h1,_⟩)
     ·exact⟨rfl,rfl⟩
     ·exact absurd Hc h1
    go_wp2_with (go_at_call 124;refine cm HS.out ?_)
    go_ret
    exact HO.out
   ·have HS:Hid (zC 124 #[zP g] wr fun ed w'=>ed=.returned (zI 0)/\Hid (PaL w0 g vv dv e M K w #[.slice po (e.parts v).length pcap,zF gm (e.parts v).length (e.parts v).length,zI (at':Nat),zI (tz:Nat),zI qad] { o' with steps:=o'.steps+1 } w'/\FinS e M { o' with steps:=o'.steps+1 })):=by
     refine(qpb HL.out.st).mono ?_;rintro ed w' (⟨h1,_⟩|⟨_,rfl,h2,h3,h4⟩)
     ·exact absurd h1 Hc
     ·have Hp:=HL.out.st.fin.step Hc
      exact⟨rfl,⟨⟨h2,h3,Hp.fin,HL.out.st.ne⟩,HL.out.rn.trans h4,HL.out.sp.rn h4⟩,Hp⟩
    go_wp2_with (go_at_call 124;refine xQ HS.out ?_;rintro ed w1 ⟨rfl,H1⟩)
    obtain⟨o1,hi⟩:∃o1:Wt,({ o' with steps:=o'.steps+1 }:Wt)=o1:=⟨_,rfl⟩;rw[hi]at H1;obtain⟨m,hm⟩:∃m,(e.marks v).getD a 0=m:=⟨_,rfl⟩;have Hs:(e.marks v)[a]?=some m:=by
     have h1:a<(e.marks v).length:=by rw[hE.ok.len v];exact V
     rw[<-hm,xx,yc h1];rfl
    have He:=HV.out.below H1.out.1.st.base;obtain⟨pb,ht,y0⟩:=He.1 _ _ (qeq _ a p hp 0 _ rfl);subst ht;have hy:∀j q,(qc4 p)[j]?=some q->w1.cell? (zO pb (a*4+j))=some q:=fun j q hj=>by
     obtain⟨pb',h1,h2⟩:=He.1 _ _ (qeq _ a p hp j q hj);cases h1;exact h2
    have y0:w1.cell? (zO pb (a*4))=some (zI (p.kind:Nat)):=hy 0 _ rfl;have y1:w1.cell? (zO pb (a*4+1))=some (zI (p.pos:Nat)):=hy 1 _ rfl;have y2:w1.cell? (zO pb (a*4+2))=some (bs p.text):=hy 2 _ rfl;have y3:w1.cell? (zO pb (a*4+3))=some (zI (p.mate:Nat)):=hy 3 _ rfl;have ym:w1.cell? (zO gm a)=some (zI m):=He.2 _ _ Hs;have z0:w1.cell? (zO s 0)=some (zF pb (e.parts v).length pcap):=by rw[<-hs];exact H1.out.1.sp.cell 0 _ rfl
    have z1:w1.cell? (zO s 1)=some (zF gm (e.parts v).length (e.parts v).length):=by rw[<-hs];exact H1.out.1.sp.cell 1 _ rfl
    unfold bs at y2;obtain⟨tx,U⟩:∃tx:zT,(⟨p.text.toArray⟩:zT)=tx:=⟨_,rfl⟩;rw[U]at y2;have Y:pb<w1.heap.size/\gm<w1.heap.size:=⟨qka y0,qka ym⟩;have Hi:s<w1.heap.size:=qka z0
    have Hj:∀X,zW w1 X->X.cell? (zO s 0)=some (zF pb (e.parts v).length pcap)/\X.cell? (zO s 1)=some (zF gm (e.parts v).length (e.parts v).length)/\X.cell? (zO pb (a*4))=some (zI (p.kind:Nat))/\X.cell? (zO pb (a*4+1))=some (zI (p.pos:Nat))/\X.cell? (zO pb (a*4+2))=some (.string tx)/\X.cell? (zO pb (a*4+3))=some (zI (p.mate:Nat))/\X.cell? (zO gm a)=some (zI m):=fun X hb=>
     ⟨(hb.cell (p:=zO s 0) Hi).trans z0,(hb.cell (p:=zO s 1) Hi).trans z1,(hb.cell (p:=zO pb (a*4)) Y.1).trans y0,(hb.cell (p:=zO pb (a*4+1)) Y.1).trans y1,(hb.cell (p:=zO pb (a*4+2)) Y.1).trans y2,(hb.cell (p:=zO pb (a*4+3)) Y.1).trans y3,(hb.cell (p:=zO gm a) Y.2).trans ym⟩
    have hq:=zH (Hj w1.drew (xL _ _).drew);have Hq:=zH (fun ob=>Hj (w1.alloc ob).drew (zB ob).drew);clear Hj hy He;go_region_held3 (fun X=>X.cell? (zO s 0)=some (zF pb (e.parts v).length pcap)/\X.cell? (zO s 1)=some (zF gm (e.parts v).length (e.parts v).length)/\X.cell? (zO pb (a*4))=some (zI (p.kind:Nat))/\X.cell? (zO pb (a*4+1))=some (zI (p.pos:Nat))/\X.cell? (zO pb (a*4+2))=some (.string tx)/\X.cell? (zO pb (a*4+3))=some (zI (p.mate:Nat))/\X.cell? (zO gm a)=some (zI m)) (first|assumption|exact hq.out|exact Hq.out _) (fail)
    have hk:p∈e.parts v:=yl hp;have Hz:qc4 p=[zI (p.kind:Nat),zI (p.pos:Nat),.string tx,zI (p.mate:Nat)]:=by rw[<-U];rfl
    have Hf:zW w1 (w1.alloc (.cells #[zI (p.kind:Nat),zI (p.pos:Nat),.string tx,zI (p.mate:Nat)] 229)).drew:=(zB _).drew;have hg:Hid (Mine g (w1.alloc (.cells #[zI (p.kind:Nat),zI (p.pos:Nat),.string tx,zI (p.mate:Nat)] 229)).drew w1.heap.size #[zI (p.kind:Nat),zI (p.pos:Nat),.string tx,zI (p.mate:Nat)] 229):=by
     have h1:=Mine.new H1.out.1.st.at' #[zI (p.kind:Nat),zI (p.pos:Nat),.string tx,zI (p.mate:Nat)] 229 (by decide);exact⟨h1.blk,h1.far,h1.ty⟩
    have H2:Hid (PaL w0 g vv dv e M K w #[zF pb (e.parts v).length pcap,zF gm (e.parts v).length (e.parts v).length,zI (at':Nat),zI (tz:Nat),zI qad] o1 (w1.alloc (.cells #[zI (p.kind:Nat),zI (p.pos:Nat),.string tx,zI (p.mate:Nat)] 229)).drew/\FinS e M o1):=
     ⟨⟨H1.out.1.st.below Hf,H1.out.1.rn.trans (H1.out.1.st.rn Hf),H1.out.1.sp.rn (H1.out.1.st.rn Hf)⟩,H1.out.2⟩
    have he:=qaa (show(w1.alloc (.cells #[zI (p.kind:Nat),zI (p.pos:Nat),.string tx,zI (p.mate:Nat)] 229)).drew.heap[w1.heap.size]?=_ from xF w1 _);have q0:=he 0 _ rfl;have q1:=he 1 _ rfl;have q2:=he 2 _ rfl;have q3:=he 3 _ rfl;clear he Hf Hq hq y0 y1 y2 y3 ym z0 z1 Y Hi H1;generalize (w1.alloc (.cells #[zI (p.kind:Nat),zI (p.pos:Nat),.string tx,zI (p.mate:Nat)] 229)).drew=w2 at H2 hg q0 q1 q2 q3 |-;generalize w1.heap.size=b7 at hg q0 q1 q2 q3 |-;have z0:w2.cell? (zO s 0)=some (zF pb (e.parts v).length pcap):=by rw[<-hs];exact H2.out.1.sp.cell 0 _ rfl
    have z1:w2.cell? (zO s 1)=some (zF gm (e.parts v).length (e.parts v).length):=by rw[<-hs];exact H2.out.1.sp.cell 1 _ rfl
    have z4:w2.cell? (zO s 4)=some (zI qad):=by rw[<-hs];exact H2.out.1.sp.cell 4 _ rfl
    obtain⟨r1,T⟩:∃r1,qk3 e f v a qad K o1 p=r1:=⟨_,rfl⟩;have Hk:=q8j hE.small f v a qad K o1 p hk H2.out.2;rw[T]at Hk;have Ht:=HF.out;have D:r=if r1.2≠0 then r1 else e.run f v (if p.kind=3\/p.kind=4 then p.mate+1 else a+1) tz qad K r1.1:=by
     rw[<-Ht.2.2.2];refine zbr e f v a tz qad K o' Ho Hc p hp r1 _ ?_ rfl;rw[hi,<-T];rfl
    have hA:o1.steps=o'.steps+1:=by rw[<-hi]
    have hl:=HP f (by omega);have hr:K.length<=o1.steps:=by omega
    have Hl:5001<=f+o1.steps:=by omega
    have I:Hid (∀w3,OutC w0 g vv dv e K r1 w2 (.returned (zI r1.2)) w3->r1.2≠0->OutC w0 g vv dv e K r w (.returned (zI r1.2)) w3):=fun w3 hO hz=>by
     rw[if_pos hz]at D;rw[D];exact hO.from H2.out.1.rn
    have y:Hid (∀w3,OutC w0 g vv dv e K r1 w2 (.returned (zI r1.2)) w3->r1.2=0->Hid (f<=F/\5001<=f+r1.1.steps/\K.length<=r1.1.steps+1/\e.run f v (if p.kind=3\/p.kind=4 then p.mate+1 else a+1) tz qad K r1.1=r)/\Hid (PaL w0 g vv dv e M K w #[zF pb (e.parts v).length pcap,zF gm (e.parts v).length (e.parts v).length,zI (at':Nat),zI (tz:Nat),zI qad] r1.1 w3)):=fun w3 hO hz=>by
     rw[if_neg (by simpa using hz)]at D;obtain⟨_,⟨K',h1,h2⟩,h3⟩:=hO;rw[h2 hz]at h1;exact⟨⟨by omega,by omega,by omega,D.symm⟩,⟨⟨H2.out.1.st.base.trans h3.below,h1,Hk.1,H2.out.1.st.ne⟩,H2.out.1.rn.trans h3,H2.out.1.sp.rn h3⟩⟩
    have HA:IntKind.i64.wrap ((a:Int)+1)=(a:Int)+1:=by rw[IntKind.wrap_i64]<;>omega
    have hB:IntKind.i64.wrap (qad+1)=qad+1:=by rw[IntKind.wrap_i64]<;>omega
    have Hr:p.kind=3\/p.kind=4->a<p.mate/\p.mate<(e.parts v).length:=hE.ok.mate v a p hp;have Hm:=hE.names v p hk;have HB:=HR;clear HS HF HR HL ho D Hk;have hu:(((p.kind:Int)==1)=decide (p.kind=1))/\(((p.kind:Int)==2)=decide (p.kind=2))/\(((p.kind:Int)==3)=decide (p.kind=3))/\(((p.kind:Int)==4)=decide (p.kind=4))/\(((p.kind:Int)==6)=decide (p.kind=6)):=by
     refine⟨?_,?_,?_,?_,?_⟩<;>(rw[xh,yF,decide_eq_true_iff];omega)
    obtain⟨Z,ha,Ha,Hb,hc⟩:=hu;rcases(show p.kind=1\/p.kind=2\/p.kind=3\/p.kind=4\/p.kind=6\/(p.kind≠1/\p.kind≠2/\p.kind≠3/\p.kind≠4/\p.kind≠6) by omega)with k|k|k|k|k|⟨k1,k2,k3,k4,k6⟩
    ·have hC:=zfe hE K o1 w2 H2.out.1.st H2.out.2 p.text (hE.small.1 v p hk)
     have e1:qk3 e f v a qad K o1 p=e.put o1 p.text:=by unfold qk3;rw[if_pos k]
     rw[<-e1,T]at hC;unfold bs at hC;rw[U]at hC;have HC:Hid (zC 125 #[zP g,.string tx] w2 fun ed w3=>ed=.returned (zI r1.2)/\Hid (OutC w0 g vv dv e K r1 w2 (.returned (zI r1.2)) w3)):=hC.mono fun ed w3 hO=>⟨hO.1,hO.1▸hO⟩;have J:(if p.kind=3\/p.kind=4 then p.mate+1 else a+1)=a+1:=if_neg (by omega);rw[show decide (p.kind=1)=true by simp[k]]at Z;rw[show decide (p.kind=2)=false by simp[k]]at ha;rw[show decide (p.kind=3)=false by simp[k]]at Ha;rw[show decide (p.kind=4)=false by simp[k]]at Hb;rw[show decide (p.kind=6)=false by simp[k]]at hc;clear hC k;by_cases hz:r1.2=0
     ·have HN:=y.out
      rw[hz]at HC HN;go_wp2_with (go_at_call 125;refine xQ HC.out ?_;rintro ed w3 ⟨rfl,HO⟩)
      obtain⟨z,O⟩:=HN w3 HO.out trivial;rw[J]at z;go_roundw
      case rel=>exact⟨a+1,f,r1.1,by go_num,z,O⟩
      case measure=>simp[intOf];omega
     ·go_wp2_with (go_at_call 125;refine xQ HC.out ?_;rintro ed w3 ⟨rfl,HO⟩)
      go_ret
      exact I.out _ HO.out hz
    ·have hC:=zcv hE K o1 w2 H2.out.1.st H2.out.2 tx (by rw[<-U];simp only[ByteArray.size,List.size_toArray];exact Hm) m
     have e1:qk3 e f v a qad K o1 p=e.hole K o1 tx.data.toList m:=by unfold qk3;rw[if_neg (by omega),if_pos k,hm,<-U]
     rw[<-e1,T]at hC;have HC:Hid (zC 126 #[zP g,.string tx,zI m] w2 fun ed w3=>ed=.returned (zI r1.2)/\Hid (OutC w0 g vv dv e K r1 w2 (.returned (zI r1.2)) w3)):=hC.mono fun ed w3 hO=>⟨hO.1,hO.1▸hO⟩;have J:(if p.kind=3\/p.kind=4 then p.mate+1 else a+1)=a+1:=if_neg (by omega);rw[show decide (p.kind=1)=false by simp[k]]at Z;rw[show decide (p.kind=2)=true by simp[k]]at ha;rw[show decide (p.kind=3)=false by simp[k]]at Ha;rw[show decide (p.kind=4)=false by simp[k]]at Hb;rw[show decide (p.kind=6)=false by simp[k]]at hc;clear hC k;by_cases hz:r1.2=0
     ·have HN:=y.out
      rw[hz]at HC HN;go_wp2_with (go_at_call 126;refine xQ HC.out ?_;rintro ed w3 ⟨rfl,HO⟩)
      obtain⟨z,O⟩:=HN w3 HO.out trivial;rw[J]at z;go_roundw
      case rel=>exact⟨a+1,f,r1.1,by go_num,z,O⟩
      case measure=>simp[intOf];omega
     ·go_wp2_with (go_at_call 126;refine xQ HC.out ?_;rintro ed w3 ⟨rfl,HO⟩)
      go_ret
      exact I.out _ HO.out hz
    ·have Hu:=Hr (by omega)
     have hC:=qqc hE hl v (a+1) qad p K o1 w2 (some (zO pb 0)) pcap gm HV.out (by omega) (by omega) Hm Hg Hn H2.out.1.st Hl hr;have e1:qk3 e f v a qad K o1 p=e.section (fun K o=>qdo (e.run f v (a+1) p.mate qad K) o) K p.kind p.text o1:=by unfold qk3;rw[if_neg (by omega),if_neg (by omega),if_pos (by omega)]
     rw[<-e1,T]at hC;unfold bs qjl at hC;rw[U,show((a+1:Nat):Int)=(a:Int)+1 from rfl]at hC;have HC:Hid (zC 127 #[zP g,.agg #[zI (p.kind:Nat),zI (p.pos:Nat),.string tx,zI (p.mate:Nat)],.agg #[zF pb (e.parts v).length pcap,zF gm (e.parts v).length (e.parts v).length,zI ((a:Int)+1),zI (p.mate:Nat),zI qad]] w2 fun ed w3=>ed=.returned (zI r1.2)/\Hid (OutC w0 g vv dv e K r1 w2 (.returned (zI r1.2)) w3)/\w3.cell? (zO b7 3)=some (zI (p.mate:Nat))):=hC.mono fun ed w3 hO=>⟨hO.1,hO.1▸hO,(hg.out.rn hO.2.2).cell 3 _ rfl⟩;have J:(if p.kind=3\/p.kind=4 then p.mate+1 else a+1)=p.mate+1:=if_pos (by omega);have Hv:IntKind.i64.wrap ((p.mate:Int)+1)=(p.mate:Int)+1:=by rw[IntKind.wrap_i64]<;>omega
     rw[show decide (p.kind=1)=false by simp[k]]at Z;rw[show decide (p.kind=2)=false by simp[k]]at ha;rw[show decide (p.kind=3)=true by simp[k]]at Ha;rw[show decide (p.kind=4)=false by simp[k]]at Hb;rw[show decide (p.kind=6)=false by simp[k]]at hc;clear hC k;by_cases hz:r1.2=0
     ·have HN:=y.out
      rw[hz]at HC HN;go_wp2_with (go_at_call 127;refine xQ HC.out ?_;rintro ed w3 ⟨rfl,HO,HX⟩;have q3:=HX)
      obtain⟨z,O⟩:=HN w3 HO.out trivial;rw[J]at z;go_roundw
      case rel=>exact⟨p.mate+1,f,r1.1,by go_num,z,O⟩
      case measure=>simp[intOf];omega
     ·go_wp2_with (go_at_call 127;refine xQ HC.out ?_;rintro ed w3 ⟨rfl,HO,HX⟩;have q3:=HX)
      go_ret
      exact I.out _ HO.out hz
    ·have Hu:=Hr (by omega)
     have hC:=qqc hE hl v (a+1) qad p K o1 w2 (some (zO pb 0)) pcap gm HV.out (by omega) (by omega) Hm Hg Hn H2.out.1.st Hl hr;have e1:qk3 e f v a qad K o1 p=e.section (fun K o=>qdo (e.run f v (a+1) p.mate qad K) o) K p.kind p.text o1:=by unfold qk3;rw[if_neg (by omega),if_neg (by omega),if_pos (by omega)]
     rw[<-e1,T]at hC;unfold bs qjl at hC;rw[U,show((a+1:Nat):Int)=(a:Int)+1 from rfl]at hC;have HC:Hid (zC 127 #[zP g,.agg #[zI (p.kind:Nat),zI (p.pos:Nat),.string tx,zI (p.mate:Nat)],.agg #[zF pb (e.parts v).length pcap,zF gm (e.parts v).length (e.parts v).length,zI ((a:Int)+1),zI (p.mate:Nat),zI qad]] w2 fun ed w3=>ed=.returned (zI r1.2)/\Hid (OutC w0 g vv dv e K r1 w2 (.returned (zI r1.2)) w3)/\w3.cell? (zO b7 3)=some (zI (p.mate:Nat))):=hC.mono fun ed w3 hO=>⟨hO.1,hO.1▸hO,(hg.out.rn hO.2.2).cell 3 _ rfl⟩;have J:(if p.kind=3\/p.kind=4 then p.mate+1 else a+1)=p.mate+1:=if_pos (by omega);have Hv:IntKind.i64.wrap ((p.mate:Int)+1)=(p.mate:Int)+1:=by rw[IntKind.wrap_i64]<;>omega
     rw[show decide (p.kind=1)=false by simp[k]]at Z;rw[show decide (p.kind=2)=false by simp[k]]at ha;rw[show decide (p.kind=3)=false by simp[k]]at Ha;rw[show decide (p.kind=4)=true by simp[k]]at Hb;rw[show decide (p.kind=6)=false by simp[k]]at hc;clear hC k;by_cases hz:r1.2=0
     ·have HN:=y.out
      rw[hz]at HC HN;go_wp2_with (go_at_call 127;refine xQ HC.out ?_;rintro ed w3 ⟨rfl,HO,HX⟩;have q3:=HX)
      obtain⟨z,O⟩:=HN w3 HO.out trivial;rw[J]at z;go_roundw
      case rel=>exact⟨p.mate+1,f,r1.1,by go_num,z,O⟩
      case measure=>simp[intOf];omega
     ·go_wp2_with (go_at_call 127;refine xQ HC.out ?_;rintro ed w3 ⟨rfl,HO,HX⟩;have q3:=HX)
      go_ret
      exact I.out _ HO.out hz
    ·have hn:=hE.ok.mark v a p hp k
     rw[hm]at hn;have hC:=q04 hE hl m hn.1 hn.2 qad K o1 w2 Hg H2.out.1.st Hl (by omega);have e1:qk3 e f v a qad K o1 p=(if m=0 then(o1,0)else if e.depth<qad+1 then(o1,4)else e.run f m.toNat 0 (e.parts m.toNat).length (qad+1) K o1):=by unfold qk3;rw[if_neg (by omega),if_neg (by omega),if_neg (by omega),if_pos k,hm]
     rw[<-e1,T]at hC;have HC:Hid (zC 128 #[zP g,zI m,zI (qad+1)] w2 fun ed w3=>ed=.returned (zI r1.2)/\Hid (OutC w0 g vv dv e K r1 w2 (.returned (zI r1.2)) w3)):=hC.mono fun ed w3 hO=>⟨hO.1,hO.1▸hO⟩;have J:(if p.kind=3\/p.kind=4 then p.mate+1 else a+1)=a+1:=if_neg (by omega);rw[show decide (p.kind=1)=false by simp[k]]at Z;rw[show decide (p.kind=2)=false by simp[k]]at ha;rw[show decide (p.kind=3)=false by simp[k]]at Ha;rw[show decide (p.kind=4)=false by simp[k]]at Hb;rw[show decide (p.kind=6)=true by simp[k]]at hc;clear hC k;by_cases hz:r1.2=0
     ·have HN:=y.out
      rw[hz]at HC HN;go_wp2_with (go_at_call 128;refine xQ HC.out ?_;rintro ed w3 ⟨rfl,HO⟩)
      obtain⟨z,O⟩:=HN w3 HO.out trivial;rw[J]at z;go_roundw
      case rel=>exact⟨a+1,f,r1.1,by go_num,z,O⟩
      case measure=>simp[intOf];omega
     ·go_wp2_with (go_at_call 128;refine xQ HC.out ?_;rintro ed w3 ⟨rfl,HO⟩)
      go_ret
      exact I.out _ HO.out hz
    ·have e1:qk3 e f v a qad K o1 p=(o1,0):=by unfold qk3;rw[if_neg k1,if_neg k2,if_neg (by omega),if_neg k6]
     rw[e1]at T;subst T;have J:(if p.kind=3\/p.kind=4 then p.mate+1 else a+1)=a+1:=if_neg (by omega);obtain⟨z,O⟩:=y.out w2 ⟨rfl,⟨K,H2.out.1.st.at',fun _=>rfl⟩,Rn.refl _ _ _⟩ rfl;rw[J]at z;rw[show decide (p.kind=1)=false by simp[k1]]at Z;rw[show decide (p.kind=2)=false by simp[k2]]at ha;rw[show decide (p.kind=3)=false by simp[k3]]at Ha;rw[show decide (p.kind=4)=false by simp[k4]]at Hb;rw[show decide (p.kind=6)=false by simp[k6]]at hc;go_wp2
     go_roundw
     case rel=>exact⟨a+1,f,o1,by go_num,z,O⟩
     case measure=>simp[intOf];omega
theorem q8g(y:Evm w0 vv dv e M)(F:Nat):qrx w0 g vv dv e M F:=by
 induction F using Nat.strongRecOn with
 |_ F IH=>exact q5b y IH
end
end Go.Proofs.YtfkhljmiehdgmaaGreatDoor

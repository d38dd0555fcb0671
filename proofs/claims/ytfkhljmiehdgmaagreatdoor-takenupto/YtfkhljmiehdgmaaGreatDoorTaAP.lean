/-
  Steps of the proof (texts laid together, blanks left out): WalkQ, ReU, ReV.
-/
import Derived.Deep.RegionWith
import Derived.Test.YtfkhljmiehdgmaaGreatDoorTaAO
import Derived.Test.YtfkhljmiehdgmaaGreatDoorTaAM
namespace Go.Proofs.YtfkhljmiehdgmaaGreatDoor
open Go.RowKit
set_option maxRecDepth 100000 in
set_option maxHeartbeats 3200000 in
theorem q1w (c:List UInt8) (w:World) (ht:Tabs w) (hc:c.length≤30000000) :
  Calls Tryz.prog 98 #[.string ⟨c.toArray⟩] w fun e w'=>e=.returned (.string ⟨(Pl.qe5 c).toArray⟩)∧Below w.heap.size w w':=by
 have hcs:(ByteArray.mk c.toArray).size=c.length:=rfl
 have hB:=ht.lt
 by_cases h0:Pl.qbz c=0
 ·have HV:Hid (Pl.qe5 c=Pl.qfn 3 c):=Pl.qza c h0
  have HE:Hid (Pl.qdn c=-1):=Pl.qe9 c h0
  go_enter Tryz.func98,Tryz.ntmps98
  go_wp2_with fail
  refine(qhp ⟨c.toArray⟩ _ (by rw[hcs]; omega)).mono ?_
  rintro e w' ⟨rfl,rfl⟩
  rw[show (ByteArray.mk c.toArray).data.toList=c from rfl,HE.out]
  go_wp2_with fail
  refine(qmh 3 (.inr (.inl rfl)) ⟨c.toArray⟩ _ ht (by rw[hcs]; omega)).mono ?_
  rintro e w2 ⟨rfl,hb2⟩
  go_wp2_with fail
  go_ret
  exact⟨qe0 (by rw[HV.out]),hb2⟩
 ·obtain⟨k,hk⟩:∃ k,Pl.qbz c=k+1:=⟨Pl.qbz c - 1,by omega⟩
  have hle:k+1≤c.length:=hk▸Pl.qpd c
  have HE:Hid (Pl.qdn c=(k:Int)):=Pl.qjc c k hk
  have e1:=Pl.qwo c k
  by_cases ho:Pl.qyh (Pl.qeg (c.take k))=true
  ·have HV:Hid (Pl.qe5 c=c.take (k+1)++Pl.qfn 3 (c.drop (k+1))):=Pl.qy9 c k hk ho
   have HO:Hid (qw5 (c.take k)=true):=ho
   clear hk h0 ho
   go_enter Tryz.func98,Tryz.ntmps98
   go_wp2_with fail
   refine(qhp ⟨c.toArray⟩ _ (by rw[hcs]; omega)).mono ?_
   rintro e w' ⟨rfl,rfl⟩
   rw[show (ByteArray.mk c.toArray).data.toList=c from rfl,HE.out]
   go_wp2_with fail
   refine(qpo ⟨(c.take k).toArray⟩ _ (by show (c.take k).toArray.size≤_; simp; omega) ht).mono ?_
   rintro e w1 ⟨rfl,hb1⟩
   rw[show (ByteArray.mk (c.take k).toArray).data.toList=c.take k from rfl,HO.out]
   have hz1:=hb1.size
   have ht1:=ht.kept hb1 hB
   go_wp2_with fail
   have e2:∀ w,(Instr.slice 9 (.string ⟨c.toArray⟩) none (some (.int .i64 ((k:Int)+1))) none).run Tryz.prog w=.ok (.string ⟨(c.take (k+1)).toArray⟩) w:=by
    intro w
    rw[run_slice_string_h (P:=Tryz.prog) w 9 ⟨c.toArray⟩ Tryz.underlying9 .i64 ((k:Int)+1) (by omega) (by rw[hcs]; omega),← Pl.qwo c (k+1)]
    rfl
   have e3:∀ w,(Instr.slice 9 (.string ⟨c.toArray⟩) (some (.int .i64 ((k:Int)+1))) none none).run Tryz.prog w=.ok (.string ⟨(c.drop (k+1)).toArray⟩) w:=by
    intro w
    rw[run_slice_string_l (P:=Tryz.prog) w 9 ⟨c.toArray⟩ Tryz.underlying9 .i64 ((k:Int)+1) (by omega) (by rw[hcs]; omega),← Pl.q4j c (k+1)]
    rfl
   have hl:(Pl.qfn 3 (c.drop (k+1))).length≤400000000:=by
    have:=Pl.qgf 6 Pl.qk6 (c.drop (k+1))
    rw[List.length_drop]at this
    rw[Pl.enc3]; unfold Pl.qik; omega
   have hle1:(k:Int)+1≤(c.length:Int):=by omega
   have hle2:0≤(k:Int)+1:=by omega
   have hw:IntKind.i64.wrap ((k:Int)+1)=(k:Int)+1:=by rw[IntKind.wrap_i64]; omega
   go_region_with (go_at_call 100; refine(qmh 3 (.inr (.inl rfl)) ⟨(c.drop (k+1)).toArray⟩ _ (by exact ht1) (by show (c.drop (k+1)).toArray.size≤_; simp; omega)).mono ?_; rintro e w2 ⟨rfl,hb2⟩)
   go_wp2
   go_ret
   exact⟨qe0 (by rw[HV.out,← Pl.q8h]),hb1.drew.trans (hb2.mono hz1)⟩
  ·have ho:Pl.qyh (Pl.qeg (c.take k))=false:=Bool.eq_false_iff.2 ho
   have HV:Hid (Pl.qe5 c=Pl.qrk):=Pl.qq5 c k hk ho
   have HO:Hid (qw5 (c.take k)=false):=ho
   clear hk h0 ho
   go_enter Tryz.func98,Tryz.ntmps98
   go_wp2_with fail
   refine(qhp ⟨c.toArray⟩ _ (by rw[hcs]; omega)).mono ?_
   rintro e w' ⟨rfl,rfl⟩
   rw[show (ByteArray.mk c.toArray).data.toList=c from rfl,HE.out]
   go_wp2_with fail
   refine(qpo ⟨(c.take k).toArray⟩ _ (by show (c.take k).toArray.size≤_; simp; omega) ht).mono ?_
   rintro e w1 ⟨rfl,hb1⟩
   rw[show (ByteArray.mk (c.take k).toArray).data.toList=c.take k from rfl,HO.out]
   go_wp2_with fail
   go_ret
   exact⟨qe0 (by rw[HV.out]; rfl),hb1⟩
theorem q50 (c:List UInt8):(ByteArray.mk c.toArray).size=c.length:=rfl
set_option maxRecDepth 100000 in
set_option maxHeartbeats 3200000 in
theorem qj7 (kd:Int) (hk:kd=1∨kd=3∨kd=4∨kd=5) (s:ByteArray) (w:World) (ht:Tabs w) (hs:s.size≤10000000) :
  Calls Tryz.prog 64 #[.int .i64 kd,.string s] w fun e w'=>e=.returned (.tuple #[.string ⟨(Pl.qfn kd (Pl.qdb s.data.toList)).toArray⟩,.int .i64 0])∧Below w.heap.size w w':=by
 have hc:=Pl.qp2 s.data.toList 10000000 hs
 have hB:=ht.lt
 generalize hcl:Pl.qdb s.data.toList=c at hc
 have HC:Hid (Pl.qdb s.data.toList=c):=hcl
 have hcs:=q50 c
 clear hcl
 rcases hk with rfl | rfl | rfl | rfl
 all_goals
  go_enter Tryz.func64,Tryz.ntmps64
  go_wp2_with fail
  refine(qt2 s _ (by omega)).mono ?_
  rintro e w1 ⟨rfl,hb1⟩
  rw[HC.out]
  have hz1:=hb1.size
  have ht1:=ht.kept hb1 hB
  go_wp2_with fail
  refine(qmh _ (by omega) ⟨c.toArray⟩ _ ht1 (by rw[hcs]; omega)).mono ?_
  rintro e w2 ⟨rfl,hb2⟩
  go_wp2_with fail
  go_ret2
  exact⟨rfl,hb1.trans (hb2.mono hz1)⟩
set_option maxRecDepth 100000 in
set_option maxHeartbeats 3200000 in
theorem qus (s:ByteArray) (w:World) (ht:Tabs w) (hs:s.size≤10000000) :
  Calls Tryz.prog 64 #[.int .i64 2,.string s] w fun e w'=>e=.returned (.tuple #[.string ⟨(Pl.qe5 (Pl.qdb s.data.toList)).toArray⟩,.int .i64 0])∧Below w.heap.size w w':=by
 have hc:=Pl.qp2 s.data.toList 10000000 hs
 have hB:=ht.lt
 generalize hcl:Pl.qdb s.data.toList=c at hc
 have HC:Hid (Pl.qdb s.data.toList=c):=hcl
 clear hcl
 go_enter Tryz.func64,Tryz.ntmps64
 go_wp2_with fail
 refine(qt2 s _ (by omega)).mono ?_
 rintro e w1 ⟨rfl,hb1⟩
 rw[HC.out]
 have hz1:=hb1.size
 have ht1:=ht.kept hb1 hB
 go_wp2_with fail
 refine(q1w c _ ht1 (by omega)).mono ?_
 rintro e w2 ⟨rfl,hb2⟩
 go_wp2_with fail
 go_ret2
 exact⟨rfl,hb1.trans (hb2.mono hz1)⟩
set_option maxRecDepth 100000 in
set_option maxHeartbeats 3200000 in
theorem qur (kd:Int) (s:ByteArray) (w:World) (h:kd<1∨5<kd) :
  Calls Tryz.prog 64 #[.int .i64 kd,.string s] w fun e w'=>e=.returned (.tuple #[.string ⟨#[]⟩,.int .i64 1])∧Below w.heap.size w w':=by
 have h1:(kd==1)=false:=beq_eq_false_iff_ne.2 (by omega)
 have h2:(kd==2)=false:=beq_eq_false_iff_ne.2 (by omega)
 have h3:(kd==3)=false:=beq_eq_false_iff_ne.2 (by omega)
 have h4:(kd==4)=false:=beq_eq_false_iff_ne.2 (by omega)
 have h5:(kd==5)=false:=beq_eq_false_iff_ne.2 (by omega)
 go_enter Tryz.func64,Tryz.ntmps64
 go_wp2_with fail
 go_ret2
 exact⟨rfl,Below.refl _ _⟩
theorem qrz (kd:Int) (s:ByteArray) (w:World) (ht:Tabs w) (hs:s.size≤10000000) :
  Calls Tryz.prog 64 #[.int .i64 kd,.string s] w fun e w'=>e=.returned (.tuple #[.string ⟨(Pl.qan kd s.data.toList).toArray⟩,.int .i64 (Pl.qgw kd)])∧Below w.heap.size w w':=by
 unfold Pl.qan Pl.qgw
 by_cases h1:kd=1
 ·subst h1; exact qj7 1 (.inl rfl) s w ht hs
 by_cases h3:kd=3
 ·subst h3; exact qj7 3 (.inr (.inl rfl)) s w ht hs
 by_cases h2:kd=2
 ·subst h2; exact qus s w ht hs
 by_cases h4:kd=4
 ·subst h4; exact qj7 4 (.inr (.inr (.inl rfl))) s w ht hs
 by_cases h5:kd=5
 ·subst h5; exact qj7 5 (.inr (.inr (.inr rfl))) s w ht hs
 rw[if_neg h1,if_neg h3,if_neg h2,if_neg h4,if_neg h5,if_neg (by omega)]
 exact qur kd s w (by omega)
set_option maxRecDepth 100000 in
set_option maxHeartbeats 800000 in
theorem qzp (kd:Int) (s:ByteArray) (w:World) (ht:Tabs w) (hs:s.size≤10000000) :
  Calls Tryz.prog 38 #[.int .i64 kd,.string s] w fun e w'=>e=.returned (.tuple #[.string ⟨(Pl.qan kd s.data.toList).toArray⟩,.int .i64 (Pl.qgw kd)])∧Below w.heap.size w w':=by
 go_enter Tryz.func38,Tryz.ntmps38
 go_wp2_with fail
 refine(qrz kd s _ ht hs).mono ?_
 rintro e w2 ⟨rfl,hb2⟩
 go_wp2_with fail
 go_ret2
 exact⟨rfl,hb2⟩
end Go.Proofs.YtfkhljmiehdgmaaGreatDoor
namespace Go.Proofs.YtfkhljmiehdgmaaGreatDoor
open Go Go.RowKit Go.Lib Go.Shelf
theorem q1k:(Tryz.prog.info? 55).map (fun i=>(i.zero,i.size,i.bytes))=some (some (.agg #[.int .i64 0,.int .i64 0,.int .i64 0]),3,24):=by kernel_rfl
theorem WrV.pushH {B g:Nat} {w w1 w':World} {vv dv:Value} {e:Pl.Ev} {K:List Pl.Pc} {o:Pl.Wt} {sv hv p v:Value} (h:WrV w B g vv dv e K o sv hv p v) (hb:Below w.heap.size w w1) (x:Nat×Nat×Int) {v':Value}
  (hown:w'.ownsRow B 55 3 v' (o.holes.length+1) (qge o.holes++[.int .i64 (x.1:Nat),.int .i64 (x.2.1:Nat),.int .i64 x.2.2])) (hgr:w1.grownBy w' hv.ownBlock) (hloc:v'.ownBlock=hv.ownBlock∨v'.ownBlock=some w1.heap.size) :
  (w'.cell? ⟨g,7,none⟩=some hv∧w'.frozen? ⟨g,7,none⟩=false)∧WrV (w'.setCell ⟨g,7,none⟩ v') B g vv dv e K { o with holes:=o.holes++[x] } sv v' p v∧Rn B g w (w'.setCell ⟨g,7,none⟩ v'):=by
 have h1:=h.below hb
 have hg1:g<w1.heap.size:=(Array.getElem?_eq_some_iff.1 h1.wb.blk).1
 have hblk:=(hgr.block g hg1 (fun e=>qig h1.ho h1.wb.blk (by decide) e.symm)).trans h1.wb.blk
 have hset:∀ i,i≠g→(w'.setCell ⟨g,7,none⟩ v').heap[i]?=w'.heap[i]?:=fun i hi=>Below.heap_setCell _ _ _ _ hi
 have hWg:=heap_setCell_same _ _ 7 _ _ v' hblk
 have hB1:B≤w1.heap.size:=Nat.le_trans h1.wb.le (Nat.le_of_lt hg1)
 have hvw:v.ownBlock=none∨v.ownBlock≠some g:=Or.inr h1.wb.ne
 have hbel:Below B w (w'.setCell ⟨g,7,none⟩ v'):=((hb.mono (Nat.le_trans h.wb.le (Nat.le_of_lt (Array.getElem?_eq_some_iff.1 h.wb.blk).1))).trans ((Below.refl B w1).grown hgr hB1 (fun k e=>qwz h1.ho e))).setCell (p:=⟨g,7,none⟩) h.wb.le _
 refine⟨⟨qaa hblk 7 _ rfl,by simp[World.frozen?,hblk]⟩,⟨⟨h1.wb.le,hWg,?_,h1.wb.adr,h1.wb.nil⟩,?_,?_⟩,⟨hbel,fun k ob hk hn _=>?_,fun k hk=>?_⟩⟩
 ·exact(h1.wb.own.kept (row:=hv.ownBlock) hgr (qpj h1.wb.own h1.ho (by decide))).kept (row:=some g) ⟨rfl,rfl,rfl,by simp[World.setCell],fun i _ hi=>hset i (fun e=>hi (by simp[e]))⟩ hvw
 ·refine qah h1.st fun b hb1=>?_
  obtain⟨cur,hc⟩:=qae h1.st b hb1
  exact(hset b (fun e=>by subst e; exact qig h1.st h1.wb.blk (by decide) hb1)).trans (hgr.block b (Array.getElem?_eq_some_iff.1 hc).1 (q01 (qsv h1.st h1.ho (by decide)) hb1))
 ·show World.ownsRow _ _ _ _ _ (o.holes++[x]).length (qge (o.holes++[x]))
  rw[qtc,List.length_append]
  exact qah hown fun b hb1=>hset b (fun e=>by subst e; exact qig hown hblk (by decide) hb1)
 ·have hkw:=(Array.getElem?_eq_some_iff.1 hk).1
  have hk1:=(hb.block k hkw).trans hk
  have hall:=h.wb.all
  exact(hset k (fun e=>hn (.inl e))).trans ((hgr.block k (Nat.lt_of_lt_of_le hkw hb.size) (fun e=>hn (.inr (.inr ⟨hv,hall.2.2.2.2.2.1,e.symm⟩)))).trans hk1)
 ·have hall:=h.wb.all
  have c:=qaa hWg
  rcases hk with rfl | ⟨s2,h5,h6⟩ | ⟨s2,h5,h6⟩
  ·exact .inl (.inl rfl)
  ·rw[c 3 _ rfl]at h5
   obtain rfl:=Option.some.inj h5
   exact .inl (.inr (.inl ⟨_,hall.2.2.2.1,h6⟩))
  ·rw[c 7 _ rfl]at h5
   obtain rfl:=Option.some.inj h5
   rcases hloc with h7 | h7
   ·exact .inl (.inr (.inr ⟨hv,hall.2.2.2.2.2.1,by rw[← h7]; exact h6⟩))
   ·rw[h7]at h6
    have:=Option.some.inj h6
    have:=hb.size
    exact .inr (by omega)
set_option maxRecDepth 100000 in
set_option maxHeartbeats 3200000 in
theorem q38 {w0:World} {g:Nat} {vv dv:Value} {e:Pl.Ev} {K:List Pl.Pc} (o:Pl.Wt) (as':Int) (nm:ByteArray) (so:Option Addr) (sn scap:Nat) (w:World) (z:Int) (hz:z≠0) (c3:w.cell? ⟨g,3,none⟩=some (.slice so sn scap))
  (hF:Hid (Calls Tryz.prog 175 #[.slice so sn scap,.string nm] w fun ed w1=>∃ pa pn pcap pk,ed=.returned (.agg #[.slice pa pn pcap,.int .i64 (pk:Nat)]) ∧
   Hid (Calls Tryz.prog 176 #[.agg #[.slice pa pn pcap,.int .i64 (pk:Nat)]] w1 fun ed w2=>∃ t,ed=.returned (.string t) ∧
    Hid (Calls Tryz.prog 64 #[.int .i64 as',.string t] w2 fun ed w3=>∃ x,ed=.returned (.tuple #[.string x,.int .i64 z])∧Hid (OutC w0 g vv dv e K (o,z) w (.returned (.int .i64 z)) w3))))) :
  Calls Tryz.prog 126 #[.pointer (some ⟨g,0,none⟩),.string nm,.int .i64 as'] w (OutC w0 g vv dv e K (o,z) w):=by
 go_enter Tryz.func126,Tryz.ntmps126
 go_wp2_with (first
  | (go_at_call 64; refine Calls.mono HV.out ?_; rintro ed w3 ⟨x,rfl,HO⟩)
  | (go_at_call 176; refine Calls.mono HT.out ?_; rintro ed w2 ⟨t,rfl,HV⟩)
  | (go_at_call 175; refine Calls.mono hF.out ?_; rintro ed w1 ⟨pa,pn,pcap,pk,rfl,HT⟩))
 go_ret
 exact HO.out
set_option maxRecDepth 100000 in
set_option maxHeartbeats 6400000 in
theorem q6s {w0:World} {g:Nat} {vv dv:Value} {e:Pl.Ev} {K:List Pl.Pc} (o4:Pl.Wt) (n1 n2:Nat) (as':Int) (nm:ByteArray) (so:Option Addr) (sn scap:Nat) (w:World) (z:Int) (hn2:o4.out.length=n2) (hho:o4.holes.length≤5001) (c3:w.cell? ⟨g,3,none⟩=some (.slice so sn scap))
  (hF:Hid (Calls Tryz.prog 175 #[.slice so sn scap,.string nm] w fun ed w1=>∃ pa pn pcap pk,ed=.returned (.agg #[.slice pa pn pcap,.int .i64 (pk:Nat)]) ∧
   Hid (Calls Tryz.prog 176 #[.agg #[.slice pa pn pcap,.int .i64 (pk:Nat)]] w1 fun ed w2=>∃ t,ed=.returned (.string t) ∧
    Hid (Calls Tryz.prog 64 #[.int .i64 as',.string t] w2 fun ed w3=>∃ tx,ed=.returned (.tuple #[.string tx,.int .i64 0])∧Hid (Calls Tryz.prog 174 #[.pointer (some ⟨g,5,none⟩)] w3 fun ed w'=>ed=.returned (.int .i64 (n1:Nat))∧w3=w') ∧
     Hid (Calls Tryz.prog 125 #[.pointer (some ⟨g,0,none⟩),.string tx] w3 fun ed w4=>ed=.returned (.int .i64 z)∧Hid (WrAt w4 w0.heap.size g vv dv e K o4∧Rn w0.heap.size g w w4∧w0.heap.size≤w4.heap.size)))))) :
  Calls Tryz.prog 126 #[.pointer (some ⟨g,0,none⟩),.string nm,.int .i64 as'] w (OutC w0 g vv dv e K ({ o4 with holes:=o4.holes++[(n1,n2,as')] },z) w):=by
 have hE1:Enters Tryz.prog 174:=enters_of Tryz.func174 (by kernel_rfl) rfl
 obtain⟨i0,hi0,hz0,hz1,hz2⟩:=info_parts q1k
 go_enter Tryz.func126,Tryz.ntmps126
 go_wp2_with (first
  | (go_at_call 125; refine Calls.mono HW.out ?_; rintro ed w4 ⟨rfl,H4⟩)
  | (go_at_call 174; refine Calls.mono HL.out ?_; rintro ed w' ⟨rfl,rfl⟩)
  | (go_at_call 64; refine Calls.mono HV.out ?_; rintro ed w3 ⟨tx,rfl,HL,HW⟩)
  | (go_at_call 176; refine Calls.mono HT.out ?_; rintro ed w2 ⟨t,rfl,HV⟩)
  | (go_at_call 175; refine Calls.mono hF.out ?_; rintro ed w1 ⟨pa,pn,pcap,pk,rfl,HT⟩))
 obtain⟨⟨sv,hv,bp,bv,hq4⟩,hrn4,hsz4⟩:=H4.out
 have hbl1:Below w4.heap.size w4 (w4.alloc (.cells #[.int .i64 (n1:Nat),.int .i64 (n2:Nat),.int .i64 as'] 55)).drew:=((Below.refl _ _).alloc (Nat.le_refl _) _).drew
 have hown1:=(hq4.below hbl1).ho
 have hfm:∃ ho hn hcap,hv=.slice ho hn hcap:=by
  rcases hq4.ho.2 with ⟨h1,_⟩ | ⟨b,cap,cur,h1,_⟩
  ·exact⟨_,_,_,h1⟩
  ·exact⟨_,_,_,h1⟩
 obtain⟨ho,hn,hcap,rfl⟩:=hfm
 have g7:w4.cell? ⟨g,7,none⟩=some (.slice ho hn hcap):=hq4.wb.all.2.2.2.2.2.1
 have gd:w4.drew.cell? ⟨g,7,none⟩=some (.slice ho hn hcap):=g7
 have ga:(w4.alloc (.cells #[.int .i64 (n1:Nat),.int .i64 (n2:Nat),.int .i64 as'] 55)).drew.cell? ⟨g,7,none⟩=some (.slice ho hn hcap):=(hbl1.cell (p:=⟨g,7,none⟩) (Array.getElem?_eq_some_iff.1 hq4.wb.blk).1).trans g7
 have HLen:Calls Tryz.prog 174 #[.pointer (some ⟨g,5,none⟩)] w4.drew fun ed w'=>ed=.returned (.int .i64 (n2:Nat))∧w4.drew=w':=by
  have:=q2t w4.drew w0.heap.size g _ _ _ _ _ _ _ _ _ hq4.wb.drew
  rwa [hn2]at this
 refine Code.wp_mono (Q:=fun ex a' w'=>ex=.normal∧∃ ho3 cap3,a'={ tmps:=#[.pointer (some ⟨g,0,none⟩),.string nm,.int .i64 as',undef,undef,undef,.int .i64 0,.string tx,.int .i64 z,.int .i64 (n1:Nat),.tuple #[.string tx,.int .i64 0],.int .i64 as',.pointer (some ⟨g,0,none⟩),.pointer (some ⟨g,0,none⟩),.pointer (some ⟨g,3,none⟩),.slice so sn scap,.string nm,.agg #[.slice pa pn pcap,.int .i64 (pk:Nat)],.string t,.tuple #[.string tx,.int .i64 0],.string tx,.int .i64 0,.int .i64 0,.bool false,undef,.pointer (some ⟨g,0,none⟩),.pointer (some ⟨g,0,none⟩),.pointer (some ⟨g,5,none⟩),.int .i64 (n1:Nat),.pointer (some ⟨g,0,none⟩),.string tx,.int .i64 z,.pointer (some ⟨g,0,none⟩),.pointer (some ⟨g,0,none⟩),.pointer (some ⟨g,0,none⟩),.pointer (some ⟨g,7,none⟩),.slice ho hn hcap,.int .i64 (n1:Nat),.pointer (some ⟨g,0,none⟩),.pointer (some ⟨g,0,none⟩),.pointer (some ⟨g,5,none⟩),.int .i64 (n2:Nat),.int .i64 as',.agg #[.int .i64 (n1:Nat),.int .i64 (n2:Nat),.int .i64 as'],.slice (some ⟨w4.heap.size,0,none⟩) 1 1,.slice ho3 (o4.holes.length+1:Nat) cap3,.pointer (some ⟨g,0,none⟩),.pointer (some ⟨g,7,none⟩),undef],defers:=[] }∧Hid (WrAt w' w0.heap.size g vv dv e K { o4 with holes:=o4.holes++[(n1,n2,as')] }∧Rn w0.heap.size g w4 w')) (fun ex a' w5 hm=>?rest) ?reg
 case reg=>
  refine wp_region_held_drew (S:=fun _=>True) (by kernel_rfl) trivial (fun _=>?_)
  refine qa4 (i:=0) (.pointer (some ⟨g,0,none⟩)) rfl (by kernel_rfl) (by kernel_rfl) (by kernel_rfl) (fun _ _ _ h=>by cases h.1) rfl (fun X _=>?_) trivial ?_
  ·go_simp
  refine qa4 (i:=1) (.pointer (some ⟨g,0,none⟩)) rfl (by kernel_rfl) (by kernel_rfl) (by kernel_rfl) (fun _ _ _ h=>by cases h.1) rfl (fun X _=>?_) trivial ?_
  ·go_simp
  refine qa4 (i:=2) (.pointer (some ⟨g,0,none⟩)) rfl (by kernel_rfl) (by kernel_rfl) (by kernel_rfl) (fun _ _ _ h=>by cases h.1) rfl (fun X _=>?_) trivial ?_
  ·go_simp
  refine qa4 (i:=3) (.pointer (some ⟨g,7,none⟩)) rfl (by kernel_rfl) (by kernel_rfl) (by kernel_rfl) (fun _ _ _ h=>by cases h.1) rfl (fun X _=>?_) trivial ?_
  ·go_simp
  refine qa4 (i:=5) (.int .i64 (n1:Nat)) rfl (by kernel_rfl) (by kernel_rfl) (by kernel_rfl) (fun _ _ _ h=>by cases h.1) rfl (fun X _=>?_) trivial ?_
  ·go_simp
  refine qa4 (i:=6) (.pointer (some ⟨g,0,none⟩)) rfl (by kernel_rfl) (by kernel_rfl) (by kernel_rfl) (fun _ _ _ h=>by cases h.1) rfl (fun X _=>?_) trivial ?_
  ·go_simp
  refine qa4 (i:=7) (.pointer (some ⟨g,0,none⟩)) rfl (by kernel_rfl) (by kernel_rfl) (by kernel_rfl) (fun _ _ _ h=>by cases h.1) rfl (fun X _=>?_) trivial ?_
  ·go_simp
  refine qa4 (i:=8) (.pointer (some ⟨g,5,none⟩)) rfl (by kernel_rfl) (by kernel_rfl) (by kernel_rfl) (fun _ _ _ h=>by cases h.1) rfl (fun X _=>?_) trivial ?_
  ·go_simp
  refine qa4 (i:=10) (.int .i64 as') rfl (by kernel_rfl) (by kernel_rfl) (by kernel_rfl) (fun _ _ _ h=>by cases h.1) rfl (fun X _=>?_) trivial ?_
  ·go_simp
  refine wpAnyH_ready (rs:=[4,9]) (by kernel_rfl) (by simp) (AllReadyH.cons rfl (fun K' hK'=>?_) (AllReadyH.cons rfl (fun K' hK'=>?_) AllReadyH.nil))
  ·go_simp
   refine hK'.out _ _ trivial (fun _=>?_)
   clear hK' K'
   refine wpAnyH_ready (rs:=[9]) (by kernel_rfl) (by simp) (AllReadyH.cons rfl (fun K' hK'=>?_) AllReadyH.nil)
   refine qf6 rfl 174 #[.tmp 40] #[153] rfl hE1 (fun v' x=>v'=.int .i64 (n2:Nat)∧x=w4.drew) #[.pointer (some ⟨g,5,none⟩)] (by simp[Act.eval]) (HLen.mono ?_) ?_
   ·rintro e2 x' ⟨rfl,rfl⟩
    exact⟨_,rfl,rfl,rfl⟩
   rintro _ _ ⟨rfl,rfl⟩
   refine hK'.out _ _ trivial (fun _=>?_)
   clear hK' K'
   refine wpAnyH_ready (rs:=[11]) (by kernel_rfl) (by simp) (AllReadyH.cons rfl (fun K' hK'=>?_) AllReadyH.nil)
   go_simp
   refine hK'.out _ _ trivial (fun _=>?_)
   clear hK' K'
   refine wpAnyH_ready (rs:=[12]) (by kernel_rfl) (by simp) (AllReadyH.cons rfl (fun K' hK'=>?_) AllReadyH.nil)
   go_simp
   refine hK'.out _ _ trivial (fun _=>?_)
   clear hK' K'
   refine wpAnyH_ready (rs:=[13]) (by kernel_rfl) (by simp) (AllReadyH.cons rfl (fun K' hK'=>?_) AllReadyH.nil)
   refine qbl rfl (.tmp 36) (.tmp 44) 49 rfl w0.heap.size 55 i0 (.agg #[.int .i64 0,.int .i64 0,.int .i64 0]) 3 24 Tryz.underlying49 hi0 hz0 hz1 hz2 rfl (by decide) (.slice ho hn hcap) o4.holes.length _ (by simp[Act.eval]) hown1 ⟨w4.heap.size,0,none⟩ 1 1 [.int .i64 (n1:Nat),.int .i64 (n2:Nat),.int .i64 as'] (by simp[Act.eval]) rfl (qgd w4 _ _) (by simp[Value.oneCell']) (by unfold maxLen; omega) (by omega) (by show w0.heap.size≤(w4.alloc _).heap.size; rw[qbd]; omega) ?_
   intro v' w6 hown hgr hloc
   obtain⟨g3,cap3,rfl,_,_⟩:=qao hown (by omega)
   obtain⟨⟨q3,q4⟩,hpush,hrn3⟩:=WrV.pushH hq4 hbl1 (n1,n2,as') hown hgr hloc
   refine hK'.out _ _ trivial (fun _=>?_)
   clear hK' K'
   refine wpAnyH_ready (rs:=[14]) (by kernel_rfl) (by simp) (AllReadyH.cons rfl (fun K' hK'=>?_) AllReadyH.nil)
   go_simp
   refine hK'.out _ _ trivial (fun _=>?_)
   clear hK' K'
   refine wpAnyH_ready (rs:=[15]) (by kernel_rfl) (by simp) (AllReadyH.cons rfl (fun K' hK'=>?_) AllReadyH.nil)
   go_simp
   refine hK'.out _ _ trivial (fun _=>?_)
   clear hK' K'
   refine wpAnyH_ready (rs:=[16]) (by kernel_rfl) (by simp) (AllReadyH.cons rfl (fun K' hK'=>?_) AllReadyH.nil)
   go_simp
   refine hK'.out _ _ trivial (fun _=>?_)
   refine wpAnyH_done (by kernel_rfl) ?_ _
   exact⟨rfl,some ⟨g3,0,none⟩,cap3,rfl,⟨_,_,_,_,hpush⟩,hrn3⟩
  ·skip
   refine qf6 rfl 174 #[.tmp 40] #[153] rfl hE1 (fun v' x=>v'=.int .i64 (n2:Nat)∧x=w4.drew) #[.pointer (some ⟨g,5,none⟩)] (by simp[Act.eval,Act.put]) (HLen.mono ?_) ?_
   ·rintro e2 x' ⟨rfl,rfl⟩
    exact⟨_,rfl,rfl,rfl⟩
   rintro _ _ ⟨rfl,rfl⟩
   refine hK'.out _ _ trivial (fun _=>?_)
   clear hK' K'
   refine qa4 (i:=11) (.agg #[.int .i64 (n1:Nat),.int .i64 (n2:Nat),.int .i64 as']) rfl (by kernel_rfl) (by kernel_rfl) (by kernel_rfl) (fun _ _ _ h=>by cases h.1) rfl (fun X _=>?_) trivial ?_
   ·go_simp
   refine wpAnyH_ready (rs:=[4,12]) (by kernel_rfl) (by simp) (AllReadyH.cons rfl (fun K' hK'=>?_) (AllReadyH.cons rfl (fun K' hK'=>?_) AllReadyH.nil))
   ·go_simp
    refine hK'.out _ _ trivial (fun _=>?_)
    clear hK' K'
    refine wpAnyH_ready (rs:=[12]) (by kernel_rfl) (by simp) (AllReadyH.cons rfl (fun K' hK'=>?_) AllReadyH.nil)
    go_simp
    refine hK'.out _ _ trivial (fun _=>?_)
    clear hK' K'
    refine wpAnyH_ready (rs:=[13]) (by kernel_rfl) (by simp) (AllReadyH.cons rfl (fun K' hK'=>?_) AllReadyH.nil)
    refine qbl rfl (.tmp 36) (.tmp 44) 49 rfl w0.heap.size 55 i0 (.agg #[.int .i64 0,.int .i64 0,.int .i64 0]) 3 24 Tryz.underlying49 hi0 hz0 hz1 hz2 rfl (by decide) (.slice ho hn hcap) o4.holes.length _ (by simp[Act.eval]) hown1 ⟨w4.heap.size,0,none⟩ 1 1 [.int .i64 (n1:Nat),.int .i64 (n2:Nat),.int .i64 as'] (by simp[Act.eval]) rfl (qgd w4 _ _) (by simp[Value.oneCell']) (by unfold maxLen; omega) (by omega) (by show w0.heap.size≤(w4.alloc _).heap.size; rw[qbd]; omega) ?_
    intro v' w6 hown hgr hloc
    obtain⟨g3,cap3,rfl,_,_⟩:=qao hown (by omega)
    obtain⟨⟨q3,q4⟩,hpush,hrn3⟩:=WrV.pushH hq4 hbl1 (n1,n2,as') hown hgr hloc
    refine hK'.out _ _ trivial (fun _=>?_)
    clear hK' K'
    refine wpAnyH_ready (rs:=[14]) (by kernel_rfl) (by simp) (AllReadyH.cons rfl (fun K' hK'=>?_) AllReadyH.nil)
    go_simp
    refine hK'.out _ _ trivial (fun _=>?_)
    clear hK' K'
    refine wpAnyH_ready (rs:=[15]) (by kernel_rfl) (by simp) (AllReadyH.cons rfl (fun K' hK'=>?_) AllReadyH.nil)
    go_simp
    refine hK'.out _ _ trivial (fun _=>?_)
    clear hK' K'
    refine wpAnyH_ready (rs:=[16]) (by kernel_rfl) (by simp) (AllReadyH.cons rfl (fun K' hK'=>?_) AllReadyH.nil)
    go_simp
    refine hK'.out _ _ trivial (fun _=>?_)
    refine wpAnyH_done (by kernel_rfl) ?_ _
    exact⟨rfl,some ⟨g3,0,none⟩,cap3,rfl,⟨_,_,_,_,hpush⟩,hrn3⟩
   ·go_simp
    refine hK'.out _ _ trivial (fun _=>?_)
    clear hK' K'
    refine wpAnyH_ready (rs:=[4]) (by kernel_rfl) (by simp) (AllReadyH.cons rfl (fun K' hK'=>?_) AllReadyH.nil)
    go_simp
    refine hK'.out _ _ trivial (fun _=>?_)
    clear hK' K'
    refine wpAnyH_ready (rs:=[13]) (by kernel_rfl) (by simp) (AllReadyH.cons rfl (fun K' hK'=>?_) AllReadyH.nil)
    refine qbl rfl (.tmp 36) (.tmp 44) 49 rfl w0.heap.size 55 i0 (.agg #[.int .i64 0,.int .i64 0,.int .i64 0]) 3 24 Tryz.underlying49 hi0 hz0 hz1 hz2 rfl (by decide) (.slice ho hn hcap) o4.holes.length _ (by simp[Act.eval]) hown1 ⟨w4.heap.size,0,none⟩ 1 1 [.int .i64 (n1:Nat),.int .i64 (n2:Nat),.int .i64 as'] (by simp[Act.eval]) rfl (qgd w4 _ _) (by simp[Value.oneCell']) (by unfold maxLen; omega) (by omega) (by show w0.heap.size≤(w4.alloc _).heap.size; rw[qbd]; omega) ?_
    intro v' w6 hown hgr hloc
    obtain⟨g3,cap3,rfl,_,_⟩:=qao hown (by omega)
    obtain⟨⟨q3,q4⟩,hpush,hrn3⟩:=WrV.pushH hq4 hbl1 (n1,n2,as') hown hgr hloc
    refine hK'.out _ _ trivial (fun _=>?_)
    clear hK' K'
    refine wpAnyH_ready (rs:=[14]) (by kernel_rfl) (by simp) (AllReadyH.cons rfl (fun K' hK'=>?_) AllReadyH.nil)
    go_simp
    refine hK'.out _ _ trivial (fun _=>?_)
    clear hK' K'
    refine wpAnyH_ready (rs:=[15]) (by kernel_rfl) (by simp) (AllReadyH.cons rfl (fun K' hK'=>?_) AllReadyH.nil)
    go_simp
    refine hK'.out _ _ trivial (fun _=>?_)
    clear hK' K'
    refine wpAnyH_ready (rs:=[16]) (by kernel_rfl) (by simp) (AllReadyH.cons rfl (fun K' hK'=>?_) AllReadyH.nil)
    go_simp
    refine hK'.out _ _ trivial (fun _=>?_)
    refine wpAnyH_done (by kernel_rfl) ?_ _
    exact⟨rfl,some ⟨g3,0,none⟩,cap3,rfl,⟨_,_,_,_,hpush⟩,hrn3⟩
 case rest=>
  obtain⟨rfl,ho3,cap3,rfl,H5⟩:=hm
  clear gd ga HLen g7 hbl1 hown1 hq4 hF
  go_wp2
  go_ret
  exact⟨rfl,⟨K,H5.out.1,fun _=>rfl⟩,hrn4.trans H5.out.2⟩
theorem q39 {w0:World} {g:Nat} {vv dv:Value} {e:Pl.Ev} {M:Nat} (hE:Evm w0 vv dv e M) (K:List Pl.Pc) (o:Pl.Wt) (w:World) (h:Wst w0 g vv dv e M K o w) (hS:Pl.FinS e M o) (nm:ByteArray) (hnm:nm.size≤100000) (as':Int) :
  Calls Tryz.prog 126 #[.pointer (some ⟨g,0,none⟩),.string nm,.int .i64 as'] w (OutC w0 g vv dv e K (e.hole K o nm.data.toList as') w):=by
 obtain⟨sv,hv,bp,bv,hq⟩:=id h.at'
 have hstk:=hq.stk
 obtain⟨so,cap,rfl,_,_⟩:=id hstk
 have c3:w.cell? ⟨g,3,none⟩=some (.slice so K.length cap):=hq.wb.all.2.2.2.1
 obtain⟨q,hqe⟩:∃ q,Pl.qds e.D K nm.data.toList=q:=⟨_,rfl⟩
 obtain⟨pa,pn,pcap,hpA⟩:=qfu hE.ds q
 have hpv:qd9 dv q=.agg #[.slice pa pn pcap,.int .i64 (pcI q)]:=by rw[qcy,hpA]
 have hF:=qw9 dv (.slice so K.length cap) e.D K nm w0.heap.size w h.base.size (hE.ds.below h.base) hstk (hE.ml.below h.base) hnm h.ne
 rw[hqe,hpv]at hF
 have hT:∀ w1,Below w.heap.size w w1→Calls Tryz.prog 176 #[.agg #[.slice pa pn pcap,.int .i64 (pcI q)]] w1 fun ed w2=>ed=.returned (bs (Pl.qcf (Pl.qbb e.D q)))∧Below w1.heap.size w1 w2:=fun w1 hb=>by
  have hb1:=h.base.trans (hb.mono h.base.size)
  have:=q2x dv e.D q w0.heap.size w1 hb1.size (hE.ds.below hb1) hE.num (hE.pow.below hb1 hE.powB) hE.powB
  rwa [hpv]at this
 have hV:∀ w2,Below w.heap.size w w2→Calls Tryz.prog 64 #[.int .i64 as',bs (Pl.qcf (Pl.qbb e.D q))] w2 fun ed w3=>ed=.returned (.tuple #[bs (Pl.qan as' (Pl.qcf (Pl.qbb e.D q))),.int .i64 (Pl.qgw as')])∧Below w2.heap.size w2 w3:=fun w2 hb=>by
  have hb1:=h.base.trans (hb.mono h.base.size)
  exact qrz as' ⟨(Pl.qcf (Pl.qbb e.D q)).toArray⟩ w2 (hE.tabs.kept hb1 hE.tabs.lt) (by simp only[ByteArray.size,List.size_toArray]; exact hE.shows q)
 by_cases hz:Pl.qgw as'≠0
 ·have e1:e.hole K o nm.data.toList as'=(o,Pl.qgw as'):=by unfold Pl.Ev.hole; rw[if_pos hz]
  rw[e1]
  refine q38 o as' nm so K.length cap w _ hz c3 (hF.mono ?_)
  rintro ed w1 ⟨rfl,hb1⟩
  refine⟨_,_,_,_,rfl,(hT w1 hb1).mono ?_⟩
  rintro ed w2 ⟨rfl,hb2⟩
  have hb12:=hb1.trans (hb2.mono hb1.size)
  refine⟨_,rfl,(hV w2 hb12).mono ?_⟩
  rintro ed w3 ⟨rfl,hb3⟩
  have hb13:=hb12.trans (hb3.mono hb12.size)
  exact⟨_,rfl,rfl,⟨K,(h.below hb13).at',fun _=>rfl⟩,h.rn hb13⟩
 ·obtain⟨tx,htx⟩:∃ tx,Pl.qan as' (Pl.qcf (Pl.qbb e.D q))=tx:=⟨_,rfl⟩
  have e1:e.hole K o nm.data.toList as'=({ (e.put o tx).1 with holes:=(e.put o tx).1.holes++[(o.out.length,(e.put o tx).1.out.length,as')] },(e.put o tx).2):=by
   unfold Pl.Ev.hole
   rw[if_neg hz,hqe,htx,Pl.qif]
  rw[e1]
  have hz0:Pl.qgw as'=0:=by simpa using hz
  have htl:tx.length≤M:=by rw[← htx]; exact hE.small.2 as' q
  have hfo:=hS.out
  have hst:=hS.steps
  have hbd:=hE.bound
  have hmul:o.steps*M≤5000*M:=Nat.mul_le_mul_right _ hst
  have hhs:(e.put o tx).1.holes.length≤5001:=by rw[Pl.qif]; have:=hS.holes; omega
  refine q6s (e.put o tx).1 o.out.length (e.put o tx).1.out.length as' nm so K.length cap w _ rfl hhs c3 (hF.mono ?_)
  rintro ed w1 ⟨rfl,hb1⟩
  refine⟨_,_,_,_,rfl,(hT w1 hb1).mono ?_⟩
  rintro ed w2 ⟨rfl,hb2⟩
  have hb12:=hb1.trans (hb2.mono hb1.size)
  refine⟨_,rfl,(hV w2 hb12).mono ?_⟩
  rintro ed w3 ⟨rfl,hb3⟩
  have hb13:=hb12.trans (hb3.mono hb12.size)
  rw[htx,hz0]
  have hq3:=hq.below hb13
  refine⟨⟨tx.toArray⟩,rfl,q2t w3 w0.heap.size g _ _ _ _ _ _ _ _ _ hq3.wb,(qwj w3 w0.heap.size g _ _ _ _ _ e o _ _ hq3.wb tx (by omega) ⟨hE.room,h.fin.room⟩).mono ?_⟩
  rintro ed w4 ⟨rfl,⟨p',v',h1⟩,h2,h3⟩
  have h1':WbAt w4 w0.heap.size g vv (.int .i64 e.depth) (.int .i64 e.room) (.slice so K.length cap) (.int .i64 (e.put o tx).1.steps) hv (e.put o tx).1.out p' v':=by rw[Pl.qer]; exact h1
  exact⟨rfl,⟨_,_,_,_,hq3.turn h1' h3 (Pl.qif e o tx)⟩,(h.rn hb13).trans (Rn.of_wb hq3.wb h1' h2 h3),Nat.le_trans h.base.size (Nat.le_trans hb13.size h2.size)⟩
theorem q55 {w0:World} {g:Nat} {vv dv:Value} {e:Pl.Ev} {M:Nat} (hE:Evm w0 vv dv e M) (K:List Pl.Pc) (o:Pl.Wt) (w:World) (h:Wst w0 g vv dv e M K o w) (hS:Pl.FinS e M o) (t:List UInt8) (ht:t.length≤M) :
  Calls Tryz.prog 125 #[.pointer (some ⟨g,0,none⟩),bs t] w (OutC w0 g vv dv e K (e.put o t) w):=by
 obtain⟨sv,hv,bp,bv,hq⟩:=id h.at'
 have hfo:=hS.out
 have hmul:o.steps*M≤5000*M:=Nat.mul_le_mul_right _ hS.steps
 have hbd:=hE.bound
 refine(qwj w w0.heap.size g _ _ _ _ _ e o _ _ hq.wb t (by omega) ⟨hE.room,h.fin.room⟩).mono ?_
 rintro ed w4 ⟨rfl,⟨p',v',h1⟩,h2,h3⟩
 have h1':WbAt w4 w0.heap.size g vv (.int .i64 e.depth) (.int .i64 e.room) sv (.int .i64 (e.put o t).1.steps) hv (e.put o t).1.out p' v':=by rw[Pl.qer]; exact h1
 exact⟨rfl,⟨K,⟨_,_,_,_,hq.turn h1' h3 (Pl.qif e o t)⟩,fun _=>rfl⟩,Rn.of_wb hq.wb h1' h2 h3⟩
theorem qna {w0:World} {g:Nat} {vv dv:Value} {e:Pl.Ev} {M f:Nat} (hE:Evm w0 vv dv e M) (HP:qoo w0 g vv dv e M f) (v fr:Nat) (qac:Int) (p:Pl.Pt) (K:List Pl.Pc) (o:Pl.Wt) (w:World) (po:Option Addr) (pcap gm:Nat) (hv:ViOne w0 e v po pcap gm) (hm:p.mate≤(e.parts v).length) (hk:p.kind=3∨p.kind=4) (hp:p.text.length≤100000) (hi0:0≤qac) (hi1:qac≤50) (h:Wst w0 g vv dv e M K o w) (hf:5001≤f+o.steps) (hK:K.length≤o.steps) :
  Calls Tryz.prog 127 #[.pointer (some ⟨g,0,none⟩),.agg #[.int .i64 (p.kind:Nat),.int .i64 (p.pos:Nat),bs p.text,.int .i64 (p.mate:Nat)],qke po (e.parts v).length pcap gm fr p.mate qac] w (OutC w0 g vv dv e K (e.section (fun K o=>Pl.qc1 (e.run f v fr p.mate qac K) o) K p.kind p.text o) w):=by
 have hstp:∀ K' (o':Pl.Wt),o'.steps≤5000→o'.steps≤(Pl.qc1 (e.run f v fr p.mate qac K') o').1.steps∧(Pl.qc1 (e.run f v fr p.mate qac K') o').1.steps≤5000:=fun K' o' ho=>Pl.qgp (fun x hx=>Pl.qnc e f v fr p.mate qac K' x hx) o' ho
 have hb:(ByteArray.mk p.text.toArray).data.toList=p.text:=by simp
 refine qse hE f (fun K o=>Pl.qc1 (e.run f v fr p.mate qac K) o) po (e.parts v).length pcap gm fr p.mate qac (fun K' o' w' h1 h2 h3=>q4p HP v fr p.mate qac K' o' w' po pcap gm hv hm hi0 hi1 h1 h2 h3)
  (fun K' o' ho=>Pl.qiy ho fun ho=>Pl.qvd hE.small _ _ _ _ _ _ _ ho.fin) (fun K' o' ho=>(hstp K' o' ho).1) p.kind p.pos p.mate hk ⟨p.text.toArray⟩ (by simp only[ByteArray.size,List.size_toArray]; exact hp) K o w h hf hK _ (by rw[hb])
set_option maxRecDepth 100000 in
set_option maxHeartbeats 1600000 in
theorem qz3 (w:World) (g bv n cap v:Nat) (po:Option Addr) (pn pcap gm:Nat) (qac:Int) (R:Ending→World→Prop) (z:Int) (hv:(v:Int)<(n:Int)) (c0:w.cell? ⟨g,0,none⟩=some (.slice (some ⟨bv,0,none⟩) n cap)) (v0:w.cell? ⟨bv,v*2,none⟩=some (.slice po pn pcap)) (v1:w.cell? ⟨bv,v*2+1,none⟩=some (.slice (some ⟨gm,0,none⟩) pn pn))
  (hP:Hid (Calls Tryz.prog 90 #[.pointer (some ⟨g,0,none⟩),.agg #[.slice po pn pcap,.slice (some ⟨gm,0,none⟩) pn pn,.int .i64 0,.int .i64 (pn:Nat),.int .i64 qac]] (w.alloc (.cells #[.slice po pn pcap,.slice (some ⟨gm,0,none⟩) pn pn] 205)) fun ed w'=>ed=.returned (.int .i64 z)∧R (.returned (.int .i64 z)) w')) :
  Calls Tryz.prog 60 #[.pointer (some ⟨g,0,none⟩),.int .i64 (v:Nat),.int .i64 qac] w R:=by
 have hv0:(0:Int)≤(v:Int):=by omega
 go_enter Tryz.func60,Tryz.ntmps60
 go_wp2_with (go_at_call 90; refine Calls.mono hP.out ?_; rintro ed w' ⟨rfl,hR⟩)
 exact hR
theorem qry {w0:World} {g:Nat} {vv dv:Value} {e:Pl.Ev} {M f:Nat} (hE:Evm w0 vv dv e M) (HP:qoo w0 g vv dv e M f) (v:Nat) (hv:v<e.vis.length) (qac:Int) (K:List Pl.Pc) (o:Pl.Wt) (w:World) (hi0:0≤qac) (hi1:qac≤50) (h:Wst w0 g vv dv e M K o w) (hf:5001≤f+o.steps) (hK:K.length≤o.steps+1) :
  Calls Tryz.prog 60 #[.pointer (some ⟨g,0,none⟩),.int .i64 (v:Nat),.int .i64 qac] w (OutC w0 g vv dv e K (e.run f v 0 (e.parts v).length qac K o) w):=by
 obtain⟨bv,cap,rfl,hbv,hx⟩:=hE.vis
 obtain⟨po,pcap,gm,hone,k0,k1⟩:=hx v hv
 obtain⟨sv,hv',bp,bv',hq⟩:=id h.at'
 have hb:Below w.heap.size w (w.alloc (.cells #[.slice po (e.parts v).length pcap,.slice (some ⟨gm,0,none⟩) (e.parts v).length (e.parts v).length] 205)):=(Below.refl _ _).alloc (Nat.le_refl _) _
 refine qz3 w g bv e.vis.length cap v po (e.parts v).length pcap gm qac (OutC w0 g (.slice (some ⟨bv,0,none⟩) e.vis.length cap) dv e K (e.run f v 0 (e.parts v).length qac K o) w) (e.run f v 0 (e.parts v).length qac K o).2 (by omega) hq.wb.all.1 ((h.base.cell (p:=⟨bv,v*2,none⟩) hbv).trans k0) ((h.base.cell (p:=⟨bv,v*2+1,none⟩) hbv).trans k1) ((HP v 0 (e.parts v).length qac K o _ po pcap gm hone (Nat.le_refl _) hi0 hi1 (h.below hb) hf hK).mono ?_)
 intro ed w' hO
 exact⟨hO.1,hO.1▸hO.from (h.rn hb)⟩
set_option maxRecDepth 100000 in
set_option maxHeartbeats 1600000 in
theorem qst (w:World) (g:Nat) (x:Int):Calls Tryz.prog 128 #[.pointer (some ⟨g,0,none⟩),.int .i64 0,.int .i64 x] w fun ed w'=>ed=.returned (.int .i64 0)∧w=w':=by
 go_enter Tryz.func128,Tryz.ntmps128
 go_wp2
 go_ret
 exact⟨rfl,rfl⟩
set_option maxRecDepth 100000 in
set_option maxHeartbeats 1600000 in
theorem qsu (w:World) (g:Nat) (m x d:Int) (hm:¬ m=0) (hx:d<x) (c1:w.cell? ⟨g,1,none⟩=some (.int .i64 d)):Calls Tryz.prog 128 #[.pointer (some ⟨g,0,none⟩),.int .i64 m,.int .i64 x] w fun ed w'=>ed=.returned (.int .i64 4)∧w=w':=by
 go_enter Tryz.func128,Tryz.ntmps128
 go_wp2
 go_ret
 exact⟨rfl,rfl⟩
set_option maxRecDepth 100000 in
set_option maxHeartbeats 1600000 in
theorem qyf (w:World) (g:Nat) (m x d:Int) (hm:¬ m=0) (hx:¬ d<x) (c1:w.cell? ⟨g,1,none⟩=some (.int .i64 d)) (z:Int) (R:Ending→World→Prop)
  (hT:Hid (Calls Tryz.prog 60 #[.pointer (some ⟨g,0,none⟩),.int .i64 m,.int .i64 x] w fun ed w'=>ed=.returned (.int .i64 z)∧R (.returned (.int .i64 z)) w')) :
  Calls Tryz.prog 128 #[.pointer (some ⟨g,0,none⟩),.int .i64 m,.int .i64 x] w R:=by
 go_enter Tryz.func128,Tryz.ntmps128
 go_wp2_with (go_at_call 60; refine Calls.mono hT.out ?_; rintro ed w' ⟨rfl,hR⟩)
 exact hR
theorem qvo {w0:World} {g:Nat} {vv dv:Value} {e:Pl.Ev} {M f:Nat} (hE:Evm w0 vv dv e M) (HP:qoo w0 g vv dv e M f) (m:Int) (hm0:0≤m) (hm:m<(e.vis.length:Nat)) (qac:Int) (K:List Pl.Pc) (o:Pl.Wt) (w:World) (hi0:0≤qac) (h:Wst w0 g vv dv e M K o w) (hf:5001≤f+o.steps) (hK:K.length≤o.steps+1) :
  Calls Tryz.prog 128 #[.pointer (some ⟨g,0,none⟩),.int .i64 m,.int .i64 (qac+1)] w (OutC w0 g vv dv e K (if m=0 then(o,0) else if e.depth<qac+1 then(o,4) else e.run f m.toNat 0 (e.parts m.toNat).length (qac+1) K o) w):=by
 obtain⟨sv,hv',bp,bv',hq⟩:=id h.at'
 by_cases h0:m=0
 ·rw[if_pos h0,h0]
  refine(qst w g (qac+1)).mono ?_
  rintro ed w' ⟨rfl,rfl⟩
  exact⟨rfl,⟨K,h.at',fun _=>rfl⟩,Rn.refl _ _ _⟩
 ·rw[if_neg h0]
  by_cases h1:e.depth<qac+1
  ·rw[if_pos h1]
   refine(qsu w g m (qac+1) e.depth h0 h1 hq.wb.all.2.1).mono ?_
   rintro ed w' ⟨rfl,rfl⟩
   exact⟨rfl,⟨K,h.at',fun e=>absurd (show (4:Int)=0 from e) (by decide)⟩,Rn.refl _ _ _⟩
  ·rw[if_neg h1]
   have hmt:((m.toNat:Nat):Int)=m:=by omega
   have hd:=hE.depth
   have:=qry hE HP m.toNat (by omega) (qac+1) K o w (by omega) (by omega) h hf hK
   rw[hmt]at this
   refine qyf w g m (qac+1) e.depth h0 h1 hq.wb.all.2.1 (e.run f m.toNat 0 (e.parts m.toNat).length (qac+1) K o).2 (OutC w0 g vv dv e K (e.run f m.toNat 0 (e.parts m.toNat).length (qac+1) K o) w) (this.mono ?_)
   intro ed w' hO
   exact⟨hO.1,hO.1▸hO⟩
end Go.Proofs.YtfkhljmiehdgmaaGreatDoor

/-
  Steps of the proof (texts laid together, blanks left out): ReT.
-/
import Derived.Test.YtfkhljmiehdgmaaGreatDoorTaAL
import Derived.Test.YtfkhljmiehdgmaaGreatDoorTaAJ
namespace Go.Proofs.YtfkhljmiehdgmaaGreatDoor
open Go Go.RowKit Go.Shelf
attribute [local go_sem] Oper.semAt_some
theorem qhs {fn:Func} {p:Tmp} (h:fn.results=#[.cell p 29]) (tmps:Array Value) (w:World) (b:Nat) (v:Value)
  (hp:tmps.getD p undef=.pointer (some ⟨b,0,none⟩)) (hc:w.cell? ⟨b,0,none⟩=some v):(results fn tmps).run Tryz.prog w=.ok v w:=by
 have hp':tmps[p]?.getD undef=.pointer (some ⟨b,0,none⟩):=by simpa using hp
 simp[results,h,hp',asAddr,go_sem,hc]
structure SecF (g:Nat) (w:World) (s:Nat) (pt sp:Array Value) (z:Value):Prop where
 a:Mine g w s #[.pointer (some ⟨g,0,none⟩)] 203
 b:Mine g w (s+1) pt 229
 c:Mine g w (s+1+1) sp 208
 d:Mine g w (s+1+1+1) #[z] 29
theorem SecF.rn {B g:Nat} {w w':World} {s:Nat} {pt sp:Array Value} {z:Value} (h:SecF g w s pt sp z) (hr:Rn B g w w'):SecF g w' s pt sp z:=⟨h.a.rn hr,h.b.rn hr,h.c.rn hr,h.d.rn hr⟩
theorem SecF.grown {g:Nat} {w w':World} {s:Nat} {pt sp:Array Value} {z:Value} (h:SecF g w s pt sp z) (hG:Gb g w) {row:Option Nat} (hgr:w.grownBy w' row) (hr:∀ r,row=some r→∃ ob:Obj,w.heap[r]?=some ob∧ob.isCells=false):SecF g w' s pt sp z:=
 ⟨h.a.grown hG hgr hr,h.b.grown hG hgr hr,h.c.grown hG hgr hr,h.d.grown hG hgr hr⟩
theorem q27 {B g:Nat} {w:World} {vv dv:Value} {e:Pl.Ev} {K:List Pl.Pc} {o:Pl.Wt} (h:WrAt w B g vv dv e K o) (pt sp:Array Value) (z:Value) :
  SecF g ((((w.alloc (.cells #[.pointer (some ⟨g,0,none⟩)] 203)).alloc (.cells pt 229)).alloc (.cells sp 208)).alloc (.cells #[z] 29)) w.heap.size pt sp z ∧
  Below w.heap.size w ((((w.alloc (.cells #[.pointer (some ⟨g,0,none⟩)] 203)).alloc (.cells pt 229)).alloc (.cells sp 208)).alloc (.cells #[z] 29)):=by
 have hal:∀(x:World) ob,Below x.heap.size x (x.alloc ob):=fun x ob=>(Below.refl _ _).alloc (Nat.le_refl _) ob
 have m0:=Mine.new h #[.pointer (some ⟨g,0,none⟩)] 203 (by decide)
 have h1:=h.below (hal w (.cells #[.pointer (some ⟨g,0,none⟩)] 203))
 generalize hw1:w.alloc (.cells #[.pointer (some ⟨g,0,none⟩)] 203)=w1 at m0 h1
 have s1:w1.heap.size=w.heap.size+1:=by rw[← hw1,qbd]
 have m1:=Mine.new h1 pt 229 (by decide)
 have r1:Rn B g w1 (w1.alloc (.cells pt 229)):=Rn.of_below (hal _ _) (Nat.le_trans h1.lt.1 (Nat.le_of_lt h1.lt.2)) h1.lt.2
 have h2:=h1.below (hal w1 (.cells pt 229))
 generalize hw2:w1.alloc (.cells pt 229)=w2 at m1 h2 r1
 have s2:w2.heap.size=w.heap.size+1+1:=by rw[← hw2,qbd,s1]
 have m2:=Mine.new h2 sp 208 (by decide)
 have r2:Rn B g w2 (w2.alloc (.cells sp 208)):=Rn.of_below (hal _ _) (Nat.le_trans h2.lt.1 (Nat.le_of_lt h2.lt.2)) h2.lt.2
 have h3:=h2.below (hal w2 (.cells sp 208))
 generalize hw3:w2.alloc (.cells sp 208)=w3 at m2 h3 r2
 have s3:w3.heap.size=w.heap.size+1+1+1:=by rw[← hw3,qbd,s2]
 have m3:=Mine.new h3 #[z] 29 (by decide)
 have r3:Rn B g w3 (w3.alloc (.cells #[z] 29)):=Rn.of_below (hal _ _) (Nat.le_trans h3.lt.1 (Nat.le_of_lt h3.lt.2)) h3.lt.2
 rw[s1]at m1; rw[s2]at m2; rw[s3]at m3
 refine⟨⟨m0.rn ((r1.trans r2).trans r3),m1.rn (r2.trans r3),m2.rn r3,m3⟩,?_⟩
 have b1:Below w.heap.size w w1:=by rw[← hw1]; exact hal _ _
 have b2:Below w1.heap.size w1 w2:=by rw[← hw2]; exact hal _ _
 have b3:Below w2.heap.size w2 w3:=by rw[← hw3]; exact hal _ _
 exact b1.trans ((b2.mono b1.size).trans ((b3.mono (by omega)).trans ((hal w3 _).mono (by omega))))
theorem qy5:(Tryz.prog.info? 147).map (fun i=>(i.zero,i.size,i.bytes))=some (some (.agg #[.slice none 0 0,.int .i64 0]),2,32):=by kernel_rfl
theorem qn7 (b:List Pl.Pc→Pl.Wt→Pl.Wt×Int) (K:List Pl.Pc) (x:Pl.Pc):∀(pre:List Pl.Pc) (o:Pl.Wt),(Pl.qcj b K pre o).2=0→Pl.qcj b K (pre++[x]) o=if(b (x::K) (Pl.qcj b K pre o).1).2≠0 then b (x::K) (Pl.qcj b K pre o).1 else((b (x::K) (Pl.qcj b K pre o).1).1,0)
 | [],o,_=>rfl
 | p::l,o,h=>by
   unfold Pl.qcj at h
   show Pl.qcj b K (p::(l++[x])) o=_
   unfold Pl.qcj
   by_cases hp:(b (p::K) o).2≠0
   ·rw[if_pos hp]at h
    exact absurd h hp
   ·rw[if_neg hp]at h
    rw[if_neg hp,if_neg hp]
    exact qn7 b K x l _ h
theorem qko (b:List Pl.Pc→Pl.Wt→Pl.Wt×Int) (K:List Pl.Pc):∀(pre l:List Pl.Pc) (o:Pl.Wt),pre <+: l→(Pl.qcj b K pre o).2≠0→Pl.qcj b K l o=Pl.qcj b K pre o
 | [],_,_,_,h=>absurd rfl h
 | p::pre,[],_,hp,_=>by have:=hp.length_le; simp at this
 | p::pre,q::l,o,hp,h=>by
   obtain⟨rfl,hp2⟩:=List.cons_prefix_cons.1 hp
   unfold Pl.qcj at h ⊢
   by_cases hx:(b (p::K) o).2≠0
   ·rw[if_pos hx,if_pos hx]
   ·rw[if_neg hx]at h
    rw[if_neg hx,if_neg hx]
    exact qko b K pre l _ hp2 h
structure SecI (w0:World) (g:Nat) (vv dv:Value) (e:Pl.Ev) (M:Nat) (bodyF:List Pl.Pc→Pl.Wt→Pl.Wt×Int) (K:List Pl.Pc) (o:Pl.Wt) (w:World) (pt sp:Array Value) (pb:Nat) (pc:Array Value) (pre:List Pl.Pc) (W:World):Prop where
 ok:(Pl.qcj bodyF K pre o).2=0
 wr:WrAt W w0.heap.size g vv dv e K (Pl.qcj bodyF K pre o).1
 fin:Pl.Fin e M (Pl.qcj bodyF K pre o).1
 steps:o.steps≤(Pl.qcj bodyF K pre o).1.steps
 rn:Rn w0.heap.size g w W
 fr:SecF g W w.heap.size pt sp (.int .i64 0)
 pv:Mine g W pb pc 147
structure SecX (w0:World) (g:Nat) (vv dv:Value) (e:Pl.Ev) (bodyF:List Pl.Pc→Pl.Wt→Pl.Wt×Int) (K:List Pl.Pc) (o:Pl.Wt) (w:World) (pre:List Pl.Pc) (W:World):Prop where
 ok:(Pl.qcj bodyF K pre o).2≠0
 wr:∃ K',WrAt W w0.heap.size g vv dv e K' (Pl.qcj bodyF K pre o).1
 rn:Rn w0.heap.size g w W
 res:Mine g W (w.heap.size+1+1+1) #[.int .i64 (Pl.qcj bodyF K pre o).2] 29
theorem q26 {w0:World} {g:Nat} {vv dv:Value} {e:Pl.Ev} {M:Nat} {bodyF:List Pl.Pc→Pl.Wt→Pl.Wt×Int} {K:List Pl.Pc} {o:Pl.Wt} {w:World} {pt sp:Array Value} {pb:Nat} {pc:Array Value} {B':Nat} (hB:w0.heap.size≤w.heap.size) (hB':w.heap.size≤B'):OwnFrom B' (SecI w0 g vv dv e M bodyF K o w pt sp pb pc):=
 fun _ _ _ _ hs hg hr=>⟨hs.ok,hs.wr.grown hg (fun r e=>(hr r e).2),hs.fin,hs.steps,hs.rn.grown hB hs.wr.gb hg (fun r e=>⟨Nat.le_trans hB' (hr r e).1,(hr r e).2⟩),hs.fr.grown hs.wr.gb hg (fun r e=>(hr r e).2),hs.pv.grown hs.wr.gb hg (fun r e=>(hr r e).2)⟩
theorem q25 {w0:World} {g:Nat} {vv dv:Value} {e:Pl.Ev} {bodyF:List Pl.Pc→Pl.Wt→Pl.Wt×Int} {K:List Pl.Pc} {o:Pl.Wt} {w:World} {B':Nat} (hB:w0.heap.size≤w.heap.size) (hB':w.heap.size≤B'):OwnFrom B' (SecX w0 g vv dv e bodyF K o w):=by
 intro pre A A' row hs hg hr
 obtain⟨K',hw⟩:=hs.wr
 exact⟨hs.ok,⟨K',hw.grown hg (fun r e=>(hr r e).2)⟩,hs.rn.grown hB hw.gb hg (fun r e=>⟨Nat.le_trans hB' (hr r e).1,(hr r e).2⟩),hs.res.grown hw.gb hg (fun r e=>(hr r e).2)⟩
structure Sec1 (w0:World) (g:Nat) (vv dv:Value) (e:Pl.Ev) (M:Nat) (K:List Pl.Pc) (o:Pl.Wt) (w w5:World) (pt sp:Array Value) (b7:Nat) (q:Pl.Pc):Prop where
 fr:SecF g w5 w.heap.size pt sp (.int .i64 0)
 pv:Mine g w5 b7 #[pcA dv q,.int .i64 (pcI q)] 147
 be:Below w.heap.size w w5
 ge:w.heap.size≤b7
theorem Sec1.next {w0:World} {g:Nat} {vv dv:Value} {e:Pl.Ev} {M:Nat} {K:List Pl.Pc} {o:Pl.Wt} {w w5 w6:World} {pt sp:Array Value} {b7:Nat} {q:Pl.Pc} (h:Sec1 w0 g vv dv e M K o w w5 pt sp b7 q) (hw:Wst w0 g vv dv e M K o w) (hb:Below w5.heap.size w5 w6):Sec1 w0 g vv dv e M K o w w6 pt sp b7 q:=
 have hr:=(hw.below h.be).rn hb
 ⟨h.fr.rn hr,h.pv.rn hr,h.be.trans (hb.mono h.be.size),h.ge⟩
theorem Rn.set {B g:Nat} {w a:World} (h:Rn B g w a) (hB:B≤w.heap.size) {k:Nat} (hk:w.heap.size≤k) (hg:k≠g) (j:Nat) (v:Value):Rn B g w (a.setCell ⟨k,j,none⟩ v):=by
 refine⟨h.below.setCell (p:=⟨k,j,none⟩) (Nat.le_trans hB hk) _,fun i ob hi hn ho=>(Below.heap_setCell _ _ _ _ (fun e=>?_)).trans (h.kept i ob hi hn ho),fun i hi=>h.fresh i ((qih (Below.heap_setCell _ _ _ _ (fun e=>hg e.symm)) _).1 hi)⟩
 have:=(Array.getElem?_eq_some_iff.1 hi).1
 simp at e
 omega
set_option maxRecDepth 100000 in
set_option maxHeartbeats 6400000 in
theorem qse {w0:World} {g:Nat} {vv dv:Value} {e:Pl.Ev} {M:Nat} (hE:Evm w0 vv dv e M) (f:Nat) (bodyF:List Pl.Pc→Pl.Wt→Pl.Wt×Int) (po:Option Addr) (n pcap gm fr mt:Nat) (qac:Int)
  (HB:∀ K' o' w',Wst w0 g vv dv e M K' o' w'→5000≤f+o'.steps→K'.length≤o'.steps+2→Calls Tryz.prog 178 #[.pointer (some ⟨g,0,none⟩),qke po n pcap gm fr mt qac] w' (OutC w0 g vv dv e K' (bodyF K' o') w'))
  (hbF:∀ K o,Pl.Fin e M o→Pl.Fin e M (bodyF K o).1) (hbS:∀ K o,o.steps≤5000→o.steps≤(bodyF K o).1.steps)
  (kd ps mp:Nat) (hk:kd=3∨kd=4) (nm:ByteArray) (hnm:nm.size≤100000) (K:List Pl.Pc) (o:Pl.Wt) (w:World) (h:Wst w0 g vv dv e M K o w) (hf:5001≤f+o.steps) (hK:K.length≤o.steps)  (r:Pl.Wt×Int) (hr:e.section bodyF K kd nm.data.toList o=r) :
  Calls Tryz.prog 127 #[.pointer (some ⟨g,0,none⟩),.agg #[.int .i64 (kd:Nat),.int .i64 (ps:Nat),.string nm,.int .i64 (mp:Nat)],qke po n pcap gm fr mt qac] w (OutC w0 g vv dv e K r w):=by
 obtain⟨hS4,hb4⟩:=q27 h.at' #[.int .i64 (kd:Nat),.int .i64 (ps:Nat),.string nm,.int .i64 (mp:Nat)] #[.slice po n pcap,.slice (some ⟨gm,0,none⟩) n n,.int .i64 (fr:Nat),.int .i64 (mt:Nat),.int .i64 qac] (.int .i64 0)
 obtain⟨w4,hw4⟩:∃ w4,((((w.alloc (.cells #[.pointer (some ⟨g,0,none⟩)] 203)).alloc (.cells #[.int .i64 (kd:Nat),.int .i64 (ps:Nat),.string nm,.int .i64 (mp:Nat)] 229)).alloc (.cells #[.slice po n pcap,.slice (some ⟨gm,0,none⟩) n n,.int .i64 (fr:Nat),.int .i64 (mt:Nat),.int .i64 qac] 208)).alloc (.cells #[.int .i64 0] 29))=w4:=⟨_,rfl⟩
 rw[hw4]at hS4 hb4
 have hW4:=h.below hb4
 obtain⟨sv,hv,bp,bv,hq⟩:=hW4.at'
 have hstk:=hq.stk
 obtain⟨so,cap,rfl,_,_⟩:=id hstk
 obtain⟨pa,pn,pcap2,hpA⟩:=qfu hE.ds (Pl.qds e.D K nm.data.toList)
 have hpv:qd9 dv (Pl.qds e.D K nm.data.toList)=.agg #[.slice pa pn pcap2,.int .i64 (pcI (Pl.qds e.D K nm.data.toList))]:=by rw[qcy,hpA]
 have HF:∀ x,Below w4.heap.size w4 x→Calls Tryz.prog 175 #[.slice so K.length cap,.string nm] x fun e2 x'=>e2=.returned (.agg #[.slice pa pn pcap2,.int .i64 (pcI (Pl.qds e.D K nm.data.toList))])∧Below x.heap.size x x':=by
  intro x hx
  have hbx:=(hW4.base.trans (hx.mono hW4.base.size))
  have:=qw9 dv (.slice so K.length cap) e.D K nm w0.heap.size x hbx.size (hE.ds.below hbx) (hstk.below (Nat.le_refl _) hx) (hE.ml.below hbx) hnm h.ne
  rwa [hpv]at this
 obtain⟨q,hqe⟩:∃ q,Pl.qds e.D K nm.data.toList=q:=⟨_,rfl⟩
 rw[hqe]at HF hpA
 obtain⟨pk,hpk⟩:∃ pk,pcI q=pk:=⟨_,rfl⟩
 rw[hpk]at HF
 have hc3:w4.cell? ⟨g,3,none⟩=some (.slice so K.length cap):=hq.wb.all.2.2.2.1
 have k0:w4.cell? ⟨w.heap.size,0,none⟩=some (.pointer (some ⟨g,0,none⟩)):=hS4.a.cell 0 _ rfl
 have k2:w4.cell? ⟨w.heap.size+1,2,none⟩=some (.string nm):=hS4.b.cell 2 _ rfl
 obtain⟨s,hs⟩:∃ s,w.heap.size=s:=⟨_,rfl⟩
 refine(callsIn_wide (n:=9)).1 ?_
 refine callsIn_of_wp_marks Tryz.func127 rfl trivial ?_ rfl
 simp only[Tryz.ntmps127,qke,List.size_toArray,List.length_cons,List.length_nil,Nat.reduceAdd,Nat.reduceSub,Array.replicate_succ,Array.replicate_zero,List.push_toArray,List.append_toArray,List.nil_append,List.cons_append]
 refine(wpIn_wide (n:=9)).2 ?_
 go_wp2
 rw[hs]at k0 k2
 refine Code.wp_mono (Q:=fun ex a' w'=>ex=.normal∧∃ b7,a'={ tmps:=#[.pointer (some ⟨g,0,none⟩),.agg #[.int .i64 (kd:Nat),.int .i64 (ps:Nat),.string nm,.int .i64 (mp:Nat)],.agg #[.slice po n pcap,.slice (some ⟨gm,0,none⟩) n n,.int .i64 (fr:Nat),.int .i64 (mt:Nat),.int .i64 qac],.pointer (some ⟨s,0,none⟩),.pointer (some ⟨s+1,0,none⟩),.pointer (some ⟨s+1+1,0,none⟩),.pointer (some ⟨s+1+1+1,0,none⟩),.pointer (some ⟨b7,0,none⟩),undef,undef,undef,.pointer (some ⟨g,0,none⟩),.pointer (some ⟨g,0,none⟩),.pointer (some ⟨g,3,none⟩),.slice so K.length cap,.pointer (some ⟨s+1,2,none⟩),.string nm,.agg #[.slice pa pn pcap2,.int .i64 (pk:Nat)],undef,undef,undef,undef,undef,undef,undef,undef,undef,undef,undef,undef,undef,undef,undef,undef,undef,undef,undef,undef,undef,undef,undef,undef,undef,undef,undef,undef,undef,undef,undef,undef,undef,undef,undef,undef,undef,undef,undef,undef,undef,undef,undef,undef],defers:=[] }∧Hid (Sec1 w0 g vv dv e M K o w w' #[.int .i64 (kd:Nat),.int .i64 (ps:Nat),.string nm,.int .i64 (mp:Nat)] #[.slice po n pcap,.slice (some ⟨gm,0,none⟩) n n,.int .i64 (fr:Nat),.int .i64 (mt:Nat),.int .i64 qac] b7 q)) (fun ex a' w5 hm=>?rest) ?reg
 case reg=>
  refine wp_region_held_drew (S:=fun x=>x.cell? ⟨s,0,none⟩=some (.pointer (some ⟨g,0,none⟩))∧x.cell? ⟨s+1,2,none⟩=some (.string nm)∧x.cell? ⟨g,3,none⟩=some (.slice so K.length cap)) (by kernel_rfl) ⟨k0,k2,hc3⟩ (fun hS=>?_)
  refine qa4 (i:=0) (.pointer (some ⟨g,0,none⟩)) rfl (by kernel_rfl) (by kernel_rfl) (by kernel_rfl) (fun _ _ _ h=>by cases h.1) rfl (fun x hx=>?_) hS ?_
  ·obtain⟨x1,x2,x3⟩:=hx
   go_simp
  refine qa4 (i:=1) (.pointer (some ⟨g,0,none⟩)) rfl (by kernel_rfl) (by kernel_rfl) (by kernel_rfl) (fun _ _ _ h=>by cases h.1) rfl (fun x hx=>?_) hS ?_
  ·obtain⟨x1,x2,x3⟩:=hx
   go_simp
  refine qa4 (i:=2) (.pointer (some ⟨g,3,none⟩)) rfl (by kernel_rfl) (by kernel_rfl) (by kernel_rfl) (fun _ _ _ h=>by cases h.1) rfl (fun x hx=>?_) hS ?_
  ·obtain⟨x1,x2,x3⟩:=hx
   go_simp
  refine qa4 (i:=3) (.slice so K.length cap) rfl (by kernel_rfl) (by kernel_rfl) (by kernel_rfl) (fun _ _ _ h=>by cases h.1) rfl (fun x hx=>?_) hS ?_
  ·obtain⟨x1,x2,x3⟩:=hx
   go_simp
  refine qa4 (i:=4) (.pointer (some ⟨s+1,2,none⟩)) rfl (by kernel_rfl) (by kernel_rfl) (by kernel_rfl) (fun _ _ _ h=>by cases h.1) rfl (fun x hx=>?_) hS ?_
  ·obtain⟨x1,x2,x3⟩:=hx
   go_simp
  refine qa4 (i:=5) (.string nm) rfl (by kernel_rfl) (by kernel_rfl) (by kernel_rfl) (fun _ _ _ h=>by cases h.1) rfl (fun x hx=>?_) hS ?_
  ·obtain⟨x1,x2,x3⟩:=hx
   go_simp
  have hcal:∀ x,Below w4.heap.size w4 x→∀ x',Below x.heap.size x x'→x'.cell? ⟨s,0,none⟩=some (.pointer (some ⟨g,0,none⟩))∧x'.cell? ⟨s+1,2,none⟩=some (.string nm)∧x'.cell? ⟨g,3,none⟩=some (.slice so K.length cap):=fun x hx x' hx'=>by
   have hb:=hx.trans (hx'.mono hx.size)
   have l0:s<w4.heap.size:=by rw[← hs]; exact hS4.a.lt
   have l1:s+1<w4.heap.size:=by rw[← hs]; exact hS4.b.lt
   exact⟨(hb.cell (p:=⟨s,0,none⟩) l0).trans k0,(hb.cell (p:=⟨s+1,2,none⟩) l1).trans k2,(hb.cell (p:=⟨g,3,none⟩) hW4.at'.lt.2).trans hc3⟩
  have hE1:Enters Tryz.prog 175:=enters_of Tryz.func175 (by kernel_rfl) rfl
  have hd0:Below w4.heap.size w4 w4.drew:=(Below.refl _ _).drew
  have hsz:s≤w4.heap.size:=by rw[← hs]; exact hb4.size
  have hfin:∀ b7 w5,s≤b7→Below w4.heap.size w4 w5→w5.heap[b7]?=some (.cells #[.slice pa pn pcap2,.int .i64 (pk:Nat)] 147 (0,0))→w4.heap.size≤b7→Hid (Sec1 w0 g vv dv e M K o w w5 #[.int .i64 (kd:Nat),.int .i64 (ps:Nat),.string nm,.int .i64 (mp:Nat)] #[.slice po n pcap,.slice (some ⟨gm,0,none⟩) n n,.int .i64 (fr:Nat),.int .i64 (mt:Nat),.int .i64 qac] b7 q):=by
   intro b7 w5 h1 h2 h3 h4
   have hrn:=hW4.rn h2
   refine⟨hS4.rn hrn,⟨by rw[hpA,hpk]; exact h3,fun hx=>?_,by decide⟩,hb4.trans (h2.mono hb4.size),by rw[hs]; exact h1⟩
   have:=hW4.at'.own_lt ((qih (h2.block g hW4.at'.lt.2) _).1 hx)
   omega
  refine wpAnyH_ready (rs:=[6,7]) (by kernel_rfl) (by simp) (AllReadyH.cons rfl (fun K' hK'=>?_) (AllReadyH.cons rfl (fun K' hK'=>?_) AllReadyH.nil))
  ·refine qf6 rfl 175 #[.tmp 14,.tmp 16] #[150,9] rfl hE1 (fun v' x=>v'=.agg #[.slice pa pn pcap2,.int .i64 (pk:Nat)]∧Below w4.heap.size w4 x∧(x.cell? ⟨s,0,none⟩=some (.pointer (some ⟨g,0,none⟩))∧x.cell? ⟨s+1,2,none⟩=some (.string nm)∧x.cell? ⟨g,3,none⟩=some (.slice so K.length cap))) #[.slice so K.length cap,.string nm] (by simp[Act.eval,Act.put]) ((HF _ hd0).mono ?_) ?_
   ·rintro e2 x' ⟨rfl,hx⟩
    exact⟨_,rfl,rfl,hd0.trans hx,hcal _ hd0 _ hx⟩
   rintro _ x ⟨rfl,hx,hS⟩
   refine hK'.out _ _ hS (fun hS=>?_)
   clear hK' K'
   refine wpAnyH_ready (rs:=[7]) (by kernel_rfl) (by simp) (AllReadyH.cons rfl (fun K' hK'=>?_) AllReadyH.nil)
   go_simp
   refine hK'.out _ _ (hcal _ (hx.alloc hx.size _) _ (Below.refl _ _)) (fun hS=>?_)
   clear hK' K'
   refine wpAnyH_ready (rs:=[8]) (by kernel_rfl) (by simp) (AllReadyH.cons rfl (fun K' hK'=>?_) AllReadyH.nil)
   go_simp
   refine hK'.out _ _ (hcal _ (hx.alloc hx.size _) _ (Below.refl _ _)) (fun hS=>?_)
   refine wpAnyH_done (by kernel_rfl) ?_ _
   exact⟨rfl,x.heap.size,rfl,hfin _ _ (by have:=hx.size; omega) (hx.alloc hx.size _) (heap_alloc_new _ _) hx.size⟩
  ·go_simp
   refine hK'.out _ _ (hcal _ (hd0.alloc (Nat.le_refl _) _) _ (Below.refl _ _)) (fun hS=>?_)
   clear hK' K'
   refine wpAnyH_ready (rs:=[6]) (by kernel_rfl) (by simp) (AllReadyH.cons rfl (fun K' hK'=>?_) AllReadyH.nil)
   refine qf6 rfl 175 #[.tmp 14,.tmp 16] #[150,9] rfl hE1 (fun v' x=>v'=.agg #[.slice pa pn pcap2,.int .i64 (pk:Nat)]∧Below w4.heap.size w4 x∧(x.cell? ⟨s,0,none⟩=some (.pointer (some ⟨g,0,none⟩))∧x.cell? ⟨s+1,2,none⟩=some (.string nm)∧x.cell? ⟨g,3,none⟩=some (.slice so K.length cap))∧x.heap[w4.heap.size]?=some (.cells #[.slice none 0 0,.int .i64 0] 147 (0,0))) #[.slice so K.length cap,.string nm] (by simp[Act.eval]) ((HF _ (hd0.alloc (Nat.le_refl _) _)).mono ?_) ?_
   ·rintro e2 x' ⟨rfl,hx⟩
    refine⟨_,rfl,rfl,(hd0.alloc (Nat.le_refl _) _).trans (hx.mono (hd0.alloc (Nat.le_refl _) _).size),hcal _ (hd0.alloc (Nat.le_refl _) _) _ hx,?_⟩
    exact(hx.block _ (by rw[qbd]; exact Nat.lt_succ_self _)).trans (heap_alloc_new w4.drew _)
   rintro _ x ⟨rfl,hx,hS,hbk⟩
   refine hK'.out _ _ hS (fun hS=>?_)
   clear hK' K'
   have f0:x.frozen? ⟨w4.heap.size,0,none⟩=false:=by simp[World.frozen?,hbk]
   have f1:x.frozen? ⟨w4.heap.size,1,none⟩=false:=by simp[World.frozen?,hbk]
   have z0:=qaa hbk 0 _ rfl
   have z1:=qaa hbk 1 _ rfl
   refine wpAnyH_ready (rs:=[8]) (by kernel_rfl) (by simp) (AllReadyH.cons rfl (fun K' hK'=>?_) AllReadyH.nil)
   go_simp
   have hx2:Below w4.heap.size w4 ((x.setCell ⟨w4.heap.size,0,none⟩ (.slice pa pn pcap2)).setCell ⟨w4.heap.size,1,none⟩ (.int .i64 (pk:Nat))):=(hx.setCell (p:=⟨w4.heap.size,0,none⟩) (Nat.le_refl _) _).setCell (p:=⟨w4.heap.size,1,none⟩) (Nat.le_refl _) _
   refine hK'.out _ _ (hcal _ hx2 _ (Below.refl _ _)) (fun hS=>?_)
   refine wpAnyH_done (by kernel_rfl) ?_ _
   exact⟨rfl,w4.heap.size,rfl,hfin _ _ hsz hx2 (heap_setCell_same _ _ 1 _ _ _ (heap_setCell_same _ _ 0 _ _ _ hbk)) (Nat.le_refl _)⟩
 case rest=>
  obtain⟨rfl,b7,rfl,HS⟩:=hm
  have hW5:=h.below HS.out.be
  have hL:=q1g dv e.D q w0.heap.size w5 hW5.base.size (hE.ds.below hW5.base)
  obtain⟨L,hLe⟩:∃ L,Pl.qoz (Pl.qbb e.D q)=L:=⟨_,rfl⟩
  rw[qcy,hpA,hpk,hLe]at hL
  have hsec:r=if L≠decide (kd=4) then(o,0) else if kd=4 then bodyF K o else Pl.qcj bodyF K (Pl.qj9 e.D q) o:=by
   rw[← hr]; unfold Pl.Ev.section; rw[hqe,hLe]
  have u1:w5.cell? ⟨s+1,0,none⟩=some (.int .i64 (kd:Nat)):=by rw[← hs]; exact HS.out.fr.b.cell 0 _ rfl
  have v0:w5.cell? ⟨b7,0,none⟩=some (.slice pa pn pcap2):=by rw[← hpA]; exact HS.out.pv.cell 0 _ rfl
  have v1:w5.cell? ⟨b7,1,none⟩=some (.int .i64 (pk:Nat)):=by rw[← hpk]; exact HS.out.pv.cell 1 _ rfl
  have hgs:∀ w6,Sec1 w0 g vv dv e M K o w w6 #[.int .i64 (kd:Nat),.int .i64 (ps:Nat),.string nm,.int .i64 (mp:Nat)] #[.slice po n pcap,.slice (some ⟨gm,0,none⟩) n n,.int .i64 (fr:Nat),.int .i64 (mt:Nat),.int .i64 qac] b7 q→w6.cell? ⟨s+1+1+1,0,none⟩=some (.int .i64 0)∧w6.frozen? ⟨s+1+1+1,0,none⟩=false:=fun w6 h6=>by
   rw[← hs]; exact⟨h6.fr.d.cell 0 _ rfl,h6.fr.d.thaw 0⟩
  clear HF
  by_cases hlt:L≠decide (kd=4)
  ·rw[if_pos hlt]at hsec
   have HL:Hid (Calls Tryz.prog 177 #[.agg #[.slice pa pn pcap2,.int .i64 (pk:Nat)]] w5 fun e2 w6=>e2=.returned (.bool L)∧(w6.cell? ⟨s+1+1+1,0,none⟩=some (.int .i64 0)∧w6.frozen? ⟨s+1+1+1,0,none⟩=false)∧Hid (OutC w0 g vv dv e K r w (.returned (.int .i64 0)) (w6.setCell ⟨s+1+1+1,0,none⟩ (.int .i64 0)))):=by
    refine hL.mono ?_
    rintro e2 w6 ⟨rfl,hb6⟩
    have h6:=HS.out.next h hb6
    have hW6:=h.below h6.be
    refine⟨rfl,hgs w6 h6,?_⟩
    rw[hsec,← hs]
    exact⟨rfl,⟨K,hW6.at'.set h6.fr.d _ _,fun _=>rfl⟩,(h.rn h6.be).set h.base.size (by omega) h6.fr.d.gne _ _⟩
   clear hL hsec hgs hq hr hS4 hb4 hw4 hW4 hstk hW5 hc3 k0 k2 h hE HB
   have hcs:(((kd:Int)==4)=true∧L=false)∨(((kd:Int)==4)=false∧L=true):=by
    rcases hk with rfl | rfl
    ·cases L
     ·exact absurd rfl hlt
     ·exact .inr ⟨rfl,rfl⟩
    ·cases L
     ·exact .inl ⟨rfl,rfl⟩
     ·exact absurd rfl hlt
   clear hlt hk
   rcases hcs with ⟨hk4,rfl⟩ | ⟨hk4,rfl⟩
   all_goals
    go_wp2_with (go_at_call 177; refine Calls.mono HL.out ?_; rintro e2 w6 ⟨rfl,⟨r0,r1⟩,HO⟩)
    exact⟨_,qhs rfl _ _ (s+1+1+1) (.int .i64 0) rfl (by simp[World.cell?_setCell_same',r0]),HO.out⟩
  ·rw[if_neg hlt]at hsec
   have hLk:L=decide (kd=4):=by simpa using hlt
   have hcell:∀ w6,Sec1 w0 g vv dv e M K o w w6 #[.int .i64 (kd:Nat),.int .i64 (ps:Nat),.string nm,.int .i64 (mp:Nat)] #[.slice po n pcap,.slice (some ⟨gm,0,none⟩) n n,.int .i64 (fr:Nat),.int .i64 (mt:Nat),.int .i64 qac] b7 q→w6.cell? ⟨s,0,none⟩=some (.pointer (some ⟨g,0,none⟩))∧w6.cell? ⟨s+1+1,0,none⟩=some (.slice po n pcap)∧w6.cell? ⟨s+1+1,1,none⟩=some (.slice (some ⟨gm,0,none⟩) n n)∧w6.cell? ⟨s+1+1,2,none⟩=some (.int .i64 (fr:Nat))∧w6.cell? ⟨s+1+1,3,none⟩=some (.int .i64 (mt:Nat))∧w6.cell? ⟨s+1+1,4,none⟩=some (.int .i64 qac):=fun w6 h6=>by
    rw[← hs]
    exact⟨h6.fr.a.cell 0 _ rfl,h6.fr.c.cell 0 _ rfl,h6.fr.c.cell 1 _ rfl,h6.fr.c.cell 2 _ rfl,h6.fr.c.cell 3 _ rfl,h6.fr.c.cell 4 _ rfl⟩
   by_cases h4:kd=4
   ·rw[if_pos h4]at hsec
    obtain rfl:L=true:=by rw[hLk]; simpa using h4
    have hk4:((kd:Int)==4)=true:=by rw[h4]; rfl
    have HL:Hid (Calls Tryz.prog 177 #[.agg #[.slice pa pn pcap2,.int .i64 (pk:Nat)]] w5 fun e2 w6=>e2=.returned (.bool true)∧(w6.cell? ⟨s,0,none⟩=some (.pointer (some ⟨g,0,none⟩))∧w6.cell? ⟨s+1+1,0,none⟩=some (.slice po n pcap)∧w6.cell? ⟨s+1+1,1,none⟩=some (.slice (some ⟨gm,0,none⟩) n n)∧w6.cell? ⟨s+1+1,2,none⟩=some (.int .i64 (fr:Nat))∧w6.cell? ⟨s+1+1,3,none⟩=some (.int .i64 (mt:Nat))∧w6.cell? ⟨s+1+1,4,none⟩=some (.int .i64 qac)) ∧
      Hid (Calls Tryz.prog 178 #[.pointer (some ⟨g,0,none⟩),.agg #[.slice po n pcap,.slice (some ⟨gm,0,none⟩) n n,.int .i64 (fr:Nat),.int .i64 (mt:Nat),.int .i64 qac]] w6 fun ed w7=>∃ z,ed=.returned (.int .i64 z)∧(w7.cell? ⟨s+1+1+1,0,none⟩=some (.int .i64 0)∧w7.frozen? ⟨s+1+1+1,0,none⟩=false)∧Hid (OutC w0 g vv dv e K r w (.returned (.int .i64 z)) (w7.setCell ⟨s+1+1+1,0,none⟩ (.int .i64 z))))):=by
     refine hL.mono ?_
     rintro e2 w6 ⟨rfl,hb6⟩
     have h6:=HS.out.next h hb6
     have hW6:=h.below h6.be
     refine⟨rfl,hcell w6 h6,?_⟩
     refine(HB K o w6 hW6 (by omega) (by omega)).mono ?_
     rintro ed w7 ⟨rfl,⟨K',hK1,hK2⟩,hrn⟩
     have hfr:=h6.fr.rn hrn
     refine⟨_,rfl,by rw[← hs]; exact⟨hfr.d.cell 0 _ rfl,hfr.d.thaw 0⟩,?_⟩
     rw[hsec,← hs]
     exact⟨rfl,⟨K',hK1.set hfr.d _ _,hK2⟩,((h.rn h6.be).trans hrn).set h.base.size (by omega) hfr.d.gne _ _⟩
    clear hL hsec hgs hq hr hS4 hb4 hw4 hW4 hstk hW5 hc3 k0 k2 h hE HB hlt hLk hcell h4 hk
    go_wp2_with (first
     | (go_at_call 178; refine Calls.mono HBd.out ?_; rintro ed w7 ⟨z,rfl,⟨r0,r1⟩,HO⟩)
     | (go_at_call 177; refine Calls.mono HL.out ?_; rintro e2 w6 ⟨rfl,⟨y0,y1,y2,y3,y4,y5⟩,HBd⟩))
    exact⟨_,qhs rfl _ _ (s+1+1+1) (.int .i64 z) rfl (by simp[World.cell?_setCell_same',r0]),HO.out⟩
   ·rw[if_neg h4]at hsec
    obtain rfl:L=false:=by rw[hLk]; simpa using h4
    have hk4:((kd:Int)==4)=false:=beq_eq_false_iff_ne.2 (by omega)
    have HL:Hid (Calls Tryz.prog 177 #[.agg #[.slice pa pn pcap2,.int .i64 (pk:Nat)]] w5 fun e2 w6=>e2=.returned (.bool false)∧(w6.cell? ⟨b7,0,none⟩=some (.slice pa pn pcap2)∧w6.cell? ⟨b7,1,none⟩=some (.int .i64 (pk:Nat)))∧Hid (Sec1 w0 g vv dv e M K o w w6 #[.int .i64 (kd:Nat),.int .i64 (ps:Nat),.string nm,.int .i64 (mp:Nat)] #[.slice po n pcap,.slice (some ⟨gm,0,none⟩) n n,.int .i64 (fr:Nat),.int .i64 (mt:Nat),.int .i64 qac] b7 q)):=by
     refine hL.mono ?_
     rintro e2 w6 ⟨rfl,hb6⟩
     have h6:=HS.out.next h hb6
     exact⟨rfl,⟨by rw[← hpA]; exact h6.pv.cell 0 _ rfl,by rw[← hpk]; exact h6.pv.cell 1 _ rfl⟩,h6⟩
    have HTu:=(show Hid _ from fun w=>qzy pa pn pcap2 pk w)
    clear hL hgs hq hr hS4 hb4 hw4 hW4 hstk hW5 hc3 k0 k2 hlt hLk h4 HS
    go_wp2_with (first
     | (go_at_call 177; refine Calls.mono HL.out ?_; rintro e2 w6 ⟨rfl,⟨y0,y1⟩,HS6⟩)
     | (go_at_call 179; refine Calls.mono (HTu.out _) ?_; rintro e2 w' ⟨rfl,rfl⟩))
    obtain⟨W0,hW0⟩:∃ W0,w6.alloc (.cells #[.slice pa pn pcap2,.int .i64 (pk:Nat)] 147)=W0:=⟨_,rfl⟩
    have hW6:=h.below HS6.out.be
    have hb0:Below w6.heap.size w6 W0:=by rw[← hW0]; exact(Below.refl _ _).alloc (Nat.le_refl _) _
    have hpm:Mine g W0 w6.heap.size #[.slice pa pn pcap2,.int .i64 (pk:Nat)] 147:=by rw[← hW0]; exact Mine.new hW6.at' _ _ (by decide)
    have hS0:=HS6.out.next h hb0
    have hWb:=h.below hS0.be
    obtain⟨pb,hpb⟩:∃ pb,w6.heap.size=pb:=⟨_,rfl⟩
    have hws:w.heap.size≤pb:=by rw[← hpb]; exact HS6.out.be.size
    rw[hpb]at hpm
    have hpbl:=hpm.lt
    rw[hW0,hpb]
    have hB0:w0.heap.size≤w.heap.size:=h.base.size
    have hI0:SecI w0 g vv dv e M bodyF K o w #[.int .i64 (kd:Nat),.int .i64 (ps:Nat),.string nm,.int .i64 (mp:Nat)] #[.slice po n pcap,.slice (some ⟨gm,0,none⟩) n n,.int .i64 (fr:Nat),.int .i64 (mt:Nat),.int .i64 qac] pb #[.slice pa pn pcap2,.int .i64 (pk:Nat)] [] W0:=⟨rfl,hWb.at',h.fin,Nat.le_refl _,h.rn hS0.be,hS0.fr,hpm⟩
    have hPb:PbAt W0 pb pa pn pcap2 (pcI q):=by rw[hpk]; exact hpm.blk
    have hst:=quu dv e.D q pa pn pcap2 hpA w0.heap.size pb 8 (by decide) W0 hWb.base.size (hE.ds.below hWb.base) hPb
    have hDs:=hE.ds
    have hWbs:w.heap.size≤W0.heap.size:=hS0.be.size
    clear HL HTu HS6 hW0 hb0 u1 v0 v1 y0 y1 hpb hcell
    refine(wpIn_wide (n:=9)).1 ?_
    refine wpIn_rangeFunc_ownH rfl (by decide) (gf:=218) (lb:=#[.pointer (some ⟨pb,0,none⟩)]) rfl trivial (enters_of Tryz.func218 (by kernel_rfl) rfl)
     hst (fun h1 h2=>Kp.trans h1 h2) (fun A l ob ob' hl hob hc hk=>⟨belowK_b hWb.base.size A l ob ob' hl hob hc hk,World.putObj_heap_other (by omega)⟩) (Below.refl _ _) (fun _=>rfl)
     (SecI w0 g vv dv e M bodyF K o w #[.int .i64 (kd:Nat),.int .i64 (ps:Nat),.string nm,.int .i64 (mp:Nat)] #[.slice po n pcap,.slice (some ⟨gm,0,none⟩) n n,.int .i64 (fr:Nat),.int .i64 (mt:Nat),.int .i64 qac] pb #[.slice pa pn pcap2,.int .i64 (pk:Nat)])
     (fun c pre W=>c=.ret∧SecX w0 g vv dv e bodyF K o w pre W)
     (q26 hB0 (by omega)) (fun c s A A' row hs hg hr=>⟨hs.1,q25 hB0 (by omega) s A A' row hs.2 hg hr⟩) hI0
     (fun x a' W=>∃ Bx xa xn xcap xk,(Mine g W Bx #[.slice xa xn xcap,.int .i64 (xk:Nat)] 147∧Gb g W∧w.heap.size≤Bx∧pcA dv x=.slice xa xn xcap∧pcI x=xk)∧a'={ tmps:=#[.pointer (some ⟨g,0,none⟩),.agg #[.int .i64 (kd:Nat),.int .i64 (ps:Nat),.string nm,.int .i64 (mp:Nat)],.agg #[.slice po n pcap,.slice (some ⟨gm,0,none⟩) n n,.int .i64 (fr:Nat),.int .i64 (mt:Nat),.int .i64 qac],.pointer (some ⟨s,0,none⟩),.pointer (some ⟨s+1,0,none⟩),.pointer (some ⟨s+1+1,0,none⟩),.pointer (some ⟨s+1+1+1,0,none⟩),.pointer (some ⟨b7,0,none⟩),.bool false,.pointer (some ⟨Bx,0,none⟩),undef,.pointer (some ⟨g,0,none⟩),.pointer (some ⟨g,0,none⟩),.pointer (some ⟨g,3,none⟩),.slice so K.length cap,.pointer (some ⟨s+1,2,none⟩),.string nm,.agg #[.slice pa pn pcap2,.int .i64 (pk:Nat)],.pointer (some ⟨s+1,0,none⟩),.int .i64 (kd:Nat),.bool false,.agg #[.slice pa pn pcap2,.int .i64 (pk:Nat)],.bool false,.bool false,.bool false,.bool false,undef,undef,undef,.agg #[.slice pa pn pcap2,.int .i64 (pk:Nat)],.func (.func 218) #[] #[.pointer (some ⟨pb,0,none⟩)],.agg #[.slice xa xn xcap,.int .i64 (xk:Nat)],undef,undef,undef,undef,undef,undef,undef,undef,undef,undef,undef,undef,undef,undef,undef,undef,undef,undef,undef,undef,undef,undef,undef,undef,undef,undef,undef,undef,undef,undef],defers:=[] })
     (fun x a' _ A A' row hs hg hr=>by
      obtain⟨Bx,xa,xn,xcap,xk,⟨h1,h2,h3⟩,h4⟩:=hs
      exact⟨Bx,xa,xn,xcap,xk,⟨h1.grown h2 hg (fun r e=>(hr r e).2),h2.grown hg (fun r e=>(hr r e).2),h3⟩,h4⟩)
     ?assign ?body ?done ?stop
    case assign=>
     rintro l pre x W K' hI hK'
     obtain⟨xa,xn,xcap,hxA⟩:=qfu hDs x
     obtain⟨xk,hxk⟩:∃ xk,pcI x=xk:=⟨_,rfl⟩
     have hxv:qd9 dv x=.agg #[.slice xa xn xcap,.int .i64 (xk:Nat)]:=by rw[qcy,hxA,hxk]
     dsimp only
     rw[hxv]
     gi_wp2
     have hbl:Below W.heap.size W (W.alloc (.cells #[.slice xa xn xcap,.int .i64 (xk:Nat)] 147)):=(Below.refl _ _).alloc (Nat.le_refl _) _
     have hrn:Rn w0.heap.size g W (W.alloc (.cells #[.slice xa xn xcap,.int .i64 (xk:Nat)] 147)):=Rn.of_below hbl (Nat.le_trans hI.wr.lt.1 (Nat.le_of_lt hI.wr.lt.2)) hI.wr.lt.2
     exact hK' _ _ ((KeepsOthers.alloc _ _).from _) ⟨hrn.below,hbl.block _ hI.pv.lt⟩ ⟨hI.ok,hI.wr.below hbl,hI.fin,hI.steps,hI.rn.trans hrn,hI.fr.rn hrn,hI.pv.rn hrn⟩
      ⟨W.heap.size,xa,xn,xcap,xk,⟨Mine.new hI.wr _ _ (by decide),(hI.wr.below hbl).gb,hI.rn.below.size,hxA,hxk⟩,rfl⟩
    case body=>
     rintro l pre x a' W hl _ hI ⟨Bx,xa,xn,xcap,xk,⟨hBx,_,hBxs,hxA,hxk⟩,rfl⟩ _
     obtain⟨oo,hoo⟩:∃ oo,(Pl.qcj bodyF K pre o).1=oo:=⟨_,rfl⟩
     have hwr:=hI.wr
     have hfi:=hI.fin
     have hst1:=hI.steps
     rw[hoo]at hwr hfi hst1
     have hWst:Wst w0 g vv dv e M K oo W:=⟨h.base.trans hI.rn.below,hwr,hfi,h.ne⟩
     obtain⟨sv,hv2,bp2,bv2,hq2⟩:=id hwr
     obtain⟨so2,cap2,rfl,hKl,_⟩:=id hq2.stk
     have k0:W.cell? ⟨s,0,none⟩=some (.pointer (some ⟨g,0,none⟩)):=by rw[← hs]; exact hI.fr.a.cell 0 _ rfl
     have e0:W.cell? ⟨Bx,0,none⟩=some (.slice xa xn xcap):=hBx.cell 0 _ rfl
     have e1:W.cell? ⟨Bx,1,none⟩=some (.int .i64 (xk:Nat)):=hBx.cell 1 _ rfl
     have g3:W.cell? ⟨g,3,none⟩=some (.slice so2 K.length cap2):=hq2.wb.all.2.2.2.1
     have hma:=hI.fr.a
     rw[hs]at hma
     have hS6f:∀ w6,(W.alloc (.cells #[.slice xa xn xcap,.int .i64 (xk:Nat)] 147)).drew.grownBy w6 (Value.slice so2 K.length cap2).ownBlock→w6.cell? ⟨s,0,none⟩=some (.pointer (some ⟨g,0,none⟩))∧w6.cell? ⟨Bx,0,none⟩=some (.slice xa xn xcap)∧w6.cell? ⟨Bx,1,none⟩=some (.int .i64 (xk:Nat)):=fun w6 hgr=>by
      have h1:∀ k,k<W.heap.size→some k≠(Value.slice so2 K.length cap2).ownBlock→w6.heap[k]?=W.heap[k]?:=fun k hk hn=>(hgr.block k (by show k<(W.alloc _).heap.size; rw[qbd]; exact Nat.lt_succ_of_lt hk) hn).trans (((Below.refl _ W).alloc (Nat.le_refl _) _).block k hk)
      exact⟨(World.cell?_of_block (a:=⟨s,0,none⟩) (h1 s hma.lt (hma.apart g3))).trans k0,(World.cell?_of_block (a:=⟨Bx,0,none⟩) (h1 Bx hBx.lt (hBx.apart g3))).trans e0,(World.cell?_of_block (a:=⟨Bx,1,none⟩) (h1 Bx hBx.lt (hBx.apart g3))).trans e1⟩
     have hS7f:∀ w7,Rn w0.heap.size g W w7→w7.cell? ⟨s,0,none⟩=some (.pointer (some ⟨g,0,none⟩))∧w7.cell? ⟨Bx,0,none⟩=some (.slice xa xn xcap)∧w7.cell? ⟨Bx,1,none⟩=some (.int .i64 (xk:Nat)):=fun w7 hrn=>⟨(hma.rn hrn).cell 0 _ rfl,(hBx.rn hrn).cell 0 _ rfl,(hBx.rn hrn).cell 1 _ rfl⟩
     have hbl1:Below W.heap.size W (W.alloc (.cells #[.slice xa xn xcap,.int .i64 (xk:Nat)] 147)).drew:=((Below.refl _ _).alloc (Nat.le_refl _) _).drew
     have hown1:=(hq2.below hbl1).st
     obtain⟨i0,hi0,hz0,hz1,hz2⟩:=info_parts qy5
     have hst5:oo.steps≤5000:=hfi.steps
     gi_wp2
     refine Code.wpIn_mono (Q:=fun ex a' w'=>ex=.normal∧∃ so3 cap3,a'={ tmps:=#[.pointer (some ⟨g,0,none⟩),.agg #[.int .i64 (kd:Nat),.int .i64 (ps:Nat),.string nm,.int .i64 (mp:Nat)],.agg #[.slice po n pcap,.slice (some ⟨gm,0,none⟩) n n,.int .i64 (fr:Nat),.int .i64 (mt:Nat),.int .i64 qac],.pointer (some ⟨s,0,none⟩),.pointer (some ⟨s+1,0,none⟩),.pointer (some ⟨s+1+1,0,none⟩),.pointer (some ⟨s+1+1+1,0,none⟩),.pointer (some ⟨b7,0,none⟩),.bool false,.pointer (some ⟨Bx,0,none⟩),undef,.pointer (some ⟨g,0,none⟩),.pointer (some ⟨g,0,none⟩),.pointer (some ⟨g,3,none⟩),.slice so K.length cap,.pointer (some ⟨s+1,2,none⟩),.string nm,.agg #[.slice pa pn pcap2,.int .i64 (pk:Nat)],.pointer (some ⟨s+1,0,none⟩),.int .i64 (kd:Nat),.bool false,.agg #[.slice pa pn pcap2,.int .i64 (pk:Nat)],.bool false,.bool false,.bool false,.bool false,undef,undef,undef,.agg #[.slice pa pn pcap2,.int .i64 (pk:Nat)],.func (.func 218) #[] #[.pointer (some ⟨pb,0,none⟩)],.agg #[.slice xa xn xcap,.int .i64 (xk:Nat)],.pointer (some ⟨g,0,none⟩),.pointer (some ⟨g,0,none⟩),.pointer (some ⟨g,0,none⟩),.pointer (some ⟨g,3,none⟩),.slice so2 K.length cap2,.agg #[.slice xa xn xcap,.int .i64 (xk:Nat)],.slice (some ⟨W.heap.size,0,none⟩) 1 1,.slice so3 (K.length+1:Nat) cap3,.pointer (some ⟨g,0,none⟩),.pointer (some ⟨g,3,none⟩),undef,undef,undef,undef,undef,undef,undef,undef,undef,undef,undef,undef,undef,undef,undef,undef,undef,undef,undef,undef],defers:=[] }∧Hid (WrAt w' w0.heap.size g vv dv e (x::K) oo∧Rn w0.heap.size g W w')) (fun ex a' w9 hm=>?b2) (qlg (S:=fun X=>X.cell? ⟨s,0,none⟩=some (.pointer (some ⟨g,0,none⟩))∧X.cell? ⟨Bx,0,none⟩=some (.slice xa xn xcap)∧X.cell? ⟨Bx,1,none⟩=some (.int .i64 (xk:Nat))) (by kernel_rfl) (by kernel_rfl) (fun⟨_,_,hx⟩=>by cases hx.1) ?b1)
     case b1=>
      have hS:W.drew.cell? ⟨s,0,none⟩=some (.pointer (some ⟨g,0,none⟩))∧W.drew.cell? ⟨Bx,0,none⟩=some (.slice xa xn xcap)∧W.drew.cell? ⟨Bx,1,none⟩=some (.int .i64 (xk:Nat)):=⟨k0,e0,e1⟩
      have gd:W.drew.cell? ⟨g,3,none⟩=some (.slice so2 K.length cap2):=g3
      have ga:(W.alloc (.cells #[.slice xa xn xcap,.int .i64 (xk:Nat)] 147)).drew.cell? ⟨g,3,none⟩=some (.slice so2 K.length cap2):=(hbl1.cell (p:=⟨g,3,none⟩) hwr.lt.2).trans g3
      have hSa:(W.alloc (.cells #[.slice xa xn xcap,.int .i64 (xk:Nat)] 147)).drew.cell? ⟨s,0,none⟩=some (.pointer (some ⟨g,0,none⟩))∧(W.alloc (.cells #[.slice xa xn xcap,.int .i64 (xk:Nat)] 147)).drew.cell? ⟨Bx,0,none⟩=some (.slice xa xn xcap)∧(W.alloc (.cells #[.slice xa xn xcap,.int .i64 (xk:Nat)] 147)).drew.cell? ⟨Bx,1,none⟩=some (.int .i64 (xk:Nat)):=⟨(hbl1.cell (p:=⟨s,0,none⟩) hma.lt).trans k0,(hbl1.cell (p:=⟨Bx,0,none⟩) hBx.lt).trans e0,(hbl1.cell (p:=⟨Bx,1,none⟩) hBx.lt).trans e1⟩
      refine qa4 (i:=0) (.pointer (some ⟨g,0,none⟩)) rfl (by kernel_rfl) (by kernel_rfl) (by kernel_rfl) (fun _ _ _ h=>by cases h.1) rfl (fun X hx=>?_) hS ?_
      ·obtain⟨x1,x2,x3⟩:=hx
       go_simp
      refine qa4 (i:=1) (.pointer (some ⟨g,0,none⟩)) rfl (by kernel_rfl) (by kernel_rfl) (by kernel_rfl) (fun _ _ _ h=>by cases h.1) rfl (fun X hx=>?_) hS ?_
      ·obtain⟨x1,x2,x3⟩:=hx
       go_simp
      refine qa4 (i:=2) (.pointer (some ⟨g,0,none⟩)) rfl (by kernel_rfl) (by kernel_rfl) (by kernel_rfl) (fun _ _ _ h=>by cases h.1) rfl (fun X hx=>?_) hS ?_
      ·obtain⟨x1,x2,x3⟩:=hx
       go_simp
      refine qa4 (i:=3) (.pointer (some ⟨g,3,none⟩)) rfl (by kernel_rfl) (by kernel_rfl) (by kernel_rfl) (fun _ _ _ h=>by cases h.1) rfl (fun X hx=>?_) hS ?_
      ·obtain⟨x1,x2,x3⟩:=hx
       go_simp
      refine qa4 (i:=5) (.agg #[.slice xa xn xcap,.int .i64 (xk:Nat)]) rfl (by kernel_rfl) (by kernel_rfl) (by kernel_rfl) (fun _ _ _ h=>by cases h.1) rfl (fun X hx=>?_) hS ?_
      ·obtain⟨x1,x2,x3⟩:=hx
       go_simp
      refine wpAnyH_ready (rs:=[4,6]) (by kernel_rfl) (by simp) (AllReadyH.cons rfl (fun K' hK'=>?_) (AllReadyH.cons rfl (fun K' hK'=>?_) AllReadyH.nil))
      ·go_simp
       refine hK'.out _ _ hS (fun hS=>?_)
       clear hK' K'
       refine wpAnyH_ready (rs:=[6]) (by kernel_rfl) (by simp) (AllReadyH.cons rfl (fun K' hK'=>?_) AllReadyH.nil)
       go_simp
       refine hK'.out _ _ hSa (fun hS=>?_)
       clear hK' K'
       refine wpAnyH_ready (rs:=[7]) (by kernel_rfl) (by simp) (AllReadyH.cons rfl (fun K' hK'=>?_) AllReadyH.nil)
       refine qbl rfl (.tmp 36) (.tmp 38) 150 rfl w0.heap.size 147 i0 (.agg #[.slice none 0 0,.int .i64 0]) 2 32 Tryz.underlying150 hi0 hz0 hz1 hz2 rfl (by decide) (.slice so2 K.length cap2) K.length _ (by simp[Act.eval]) hown1 ⟨W.heap.size,0,none⟩ 1 1 [.slice xa xn xcap,.int .i64 (xk:Nat)] (by simp[Act.eval]) rfl (qgd W _ _) (by simp[Value.oneCell']) (by unfold maxLen; omega) (by omega) (by show w0.heap.size≤(W.alloc _).heap.size; rw[qbd]; exact Nat.le_succ_of_le hWst.base.size) ?_
       intro v' w6 hown hgr hloc
       obtain⟨g3,cap3,rfl,_,_⟩:=qao hown (by omega)
       obtain⟨⟨q3,q4⟩,hpush,hrn3⟩:=WrV.push hq2 hbl1 x (by rw[hxA,hxk]; exact hown) hgr hloc
       have hS6:=hS6f w6 hgr
       refine hK'.out _ _ hS6 (fun hS=>?_)
       clear hK' K'
       obtain⟨x1,x2,x3⟩:=hS6
       refine wpAnyH_ready (rs:=[8]) (by kernel_rfl) (by simp) (AllReadyH.cons rfl (fun K' hK'=>?_) AllReadyH.nil)
       go_simp
       refine hK'.out _ _ hS (fun hS=>?_)
       clear hK' K'
       refine wpAnyH_ready (rs:=[9]) (by kernel_rfl) (by simp) (AllReadyH.cons rfl (fun K' hK'=>?_) AllReadyH.nil)
       go_simp
       refine hK'.out _ _ hS (fun hS=>?_)
       clear hK' K'
       refine wpAnyH_ready (rs:=[10]) (by kernel_rfl) (by simp) (AllReadyH.cons rfl (fun K' hK'=>?_) AllReadyH.nil)
       go_simp
       refine hK'.out _ _ (hS7f _ hrn3) (fun hS=>?_)
       refine wpAnyH_done (by kernel_rfl) ?_ _
       exact⟨rfl,some ⟨g3,0,none⟩,cap3,rfl,⟨_,_,_,_,hpush⟩,hrn3⟩
      ·go_simp
       refine hK'.out _ _ hSa (fun hS=>?_)
       clear hK' K'
       refine wpAnyH_ready (rs:=[4]) (by kernel_rfl) (by simp) (AllReadyH.cons rfl (fun K' hK'=>?_) AllReadyH.nil)
       go_simp
       refine hK'.out _ _ hSa (fun hS=>?_)
       clear hK' K'
       refine wpAnyH_ready (rs:=[7]) (by kernel_rfl) (by simp) (AllReadyH.cons rfl (fun K' hK'=>?_) AllReadyH.nil)
       refine qbl rfl (.tmp 36) (.tmp 38) 150 rfl w0.heap.size 147 i0 (.agg #[.slice none 0 0,.int .i64 0]) 2 32 Tryz.underlying150 hi0 hz0 hz1 hz2 rfl (by decide) (.slice so2 K.length cap2) K.length _ (by simp[Act.eval]) hown1 ⟨W.heap.size,0,none⟩ 1 1 [.slice xa xn xcap,.int .i64 (xk:Nat)] (by simp[Act.eval]) rfl (qgd W _ _) (by simp[Value.oneCell']) (by unfold maxLen; omega) (by omega) (by show w0.heap.size≤(W.alloc _).heap.size; rw[qbd]; exact Nat.le_succ_of_le hWst.base.size) ?_
       intro v' w6 hown hgr hloc
       obtain⟨g3,cap3,rfl,_,_⟩:=qao hown (by omega)
       obtain⟨⟨q3,q4⟩,hpush,hrn3⟩:=WrV.push hq2 hbl1 x (by rw[hxA,hxk]; exact hown) hgr hloc
       have hS6:=hS6f w6 hgr
       refine hK'.out _ _ hS6 (fun hS=>?_)
       clear hK' K'
       obtain⟨x1,x2,x3⟩:=hS6
       refine wpAnyH_ready (rs:=[8]) (by kernel_rfl) (by simp) (AllReadyH.cons rfl (fun K' hK'=>?_) AllReadyH.nil)
       go_simp
       refine hK'.out _ _ hS (fun hS=>?_)
       clear hK' K'
       refine wpAnyH_ready (rs:=[9]) (by kernel_rfl) (by simp) (AllReadyH.cons rfl (fun K' hK'=>?_) AllReadyH.nil)
       go_simp
       refine hK'.out _ _ hS (fun hS=>?_)
       clear hK' K'
       refine wpAnyH_ready (rs:=[10]) (by kernel_rfl) (by simp) (AllReadyH.cons rfl (fun K' hK'=>?_) AllReadyH.nil)
       go_simp
       refine hK'.out _ _ (hS7f _ hrn3) (fun hS=>?_)
       refine wpAnyH_done (by kernel_rfl) ?_ _
       exact⟨rfl,some ⟨g3,0,none⟩,cap3,rfl,⟨_,_,_,_,hpush⟩,hrn3⟩
     case b2=>
      obtain⟨rfl,so3,cap3,rfl,H9⟩:=hm
      have hfr9:=hI.fr.rn H9.out.2
      have hpv9:=hI.pv.rn H9.out.2
      have hrn9:=hI.rn.trans H9.out.2
      have hW9:Wst w0 g vv dv e M (x::K) oo w9:=⟨h.base.trans hrn9.below,H9.out.1,hfi,by simp⟩
      have hBo:=HB (x::K) oo w9 hW9 (by omega) (by simp only[List.length_cons]; omega)
      have hsn:=qn7 bodyF K x pre o hI.ok
      rw[hoo]at hsn
      have u0:w9.cell? ⟨s,0,none⟩=some (.pointer (some ⟨g,0,none⟩)):=by rw[← hs]; exact hfr9.a.cell 0 _ rfl
      have t0:w9.cell? ⟨s+1+1,0,none⟩=some (.slice po n pcap):=by rw[← hs]; exact hfr9.c.cell 0 _ rfl
      have t1:w9.cell? ⟨s+1+1,1,none⟩=some (.slice (some ⟨gm,0,none⟩) n n):=by rw[← hs]; exact hfr9.c.cell 1 _ rfl
      have t2:w9.cell? ⟨s+1+1,2,none⟩=some (.int .i64 (fr:Nat)):=by rw[← hs]; exact hfr9.c.cell 2 _ rfl
      have t3:w9.cell? ⟨s+1+1,3,none⟩=some (.int .i64 (mt:Nat)):=by rw[← hs]; exact hfr9.c.cell 3 _ rfl
      have t4:w9.cell? ⟨s+1+1,4,none⟩=some (.int .i64 qac):=by rw[← hs]; exact hfr9.c.cell 4 _ rfl
      clear hS6f hS7f hown1 hbl1 hq2 k0 e0 e1 g3 HB
      by_cases hz:(bodyF (x::K) oo).2=0
      ·have HBd:Hid (Calls Tryz.prog 178 #[.pointer (some ⟨g,0,none⟩),.agg #[.slice po n pcap,.slice (some ⟨gm,0,none⟩) n n,.int .i64 (fr:Nat),.int .i64 (mt:Nat),.int .i64 qac]] w9 fun ed w10=>ed=.returned (.int .i64 0)∧Hid (WrAt w10 w0.heap.size g vv dv e (x::K) (bodyF (x::K) oo).1∧Rn w0.heap.size g w9 w10)):=by
        refine hBo.mono ?_
        rintro ed w10 ⟨rfl,⟨K',h1,h2⟩,h3⟩
        rw[h2 hz]at h1
        exact⟨by rw[hz],h1,h3⟩
       clear hBo
       gi_wp2_with (refine⟨trivial,?_⟩; gi_at_call 178; refine CallsIn.mono (CallsIn.inRound l (callsIn_wide.2 HBd.out)) ?_; rintro ed w10 ⟨rfl,H10⟩)
       have hfr10:=hfr9.rn H10.out.2
       have hma:=hfr10.a
       rw[hs]at hma
       obtain⟨sv4,hv4,bp4,bv4,hq4⟩:=H10.out.1
       obtain⟨so4,cap4,rfl,hk1,hk2,hpop,hrp⟩:=WrV.pop hq4
       have k0:w10.cell? ⟨s,0,none⟩=some (.pointer (some ⟨g,0,none⟩)):=hma.cell 0 _ rfl
       have g3:w10.cell? ⟨g,3,none⟩=some (.slice so4 (K.length+1) cap4):=hq4.wb.all.2.2.2.1
       have gf:w10.frozen? ⟨g,3,none⟩=false:=hq4.wb.all.2.2.2.2.2.2 3
       have hkp:KeepsOthers W w9:=hwr.keepsOthers H9.out.2
       have hkp2:KeepsOthers w9 w10:=H9.out.1.keepsOthers H10.out.2
       have hrnW:=H9.out.2.trans H10.out.2
       refine Code.wpIn_mono (Q:=fun ex a' w'=>ex=.normal∧WrAt w' w0.heap.size g vv dv e K (bodyF (x::K) oo).1∧Rn w0.heap.size g w10 w') (fun ex a' w11 hm=>?c2) (qlg (S:=fun X=>X.cell? ⟨s,0,none⟩=some (.pointer (some ⟨g,0,none⟩))) (by kernel_rfl) (by kernel_rfl) (fun⟨_,_,hx⟩=>by cases hx.1) ?c1)
       case c1=>
        have hS:w10.drew.cell? ⟨s,0,none⟩=some (.pointer (some ⟨g,0,none⟩)):=k0
        have hSf:∀ w',Rn w0.heap.size g w10 w'→w'.cell? ⟨s,0,none⟩=some (.pointer (some ⟨g,0,none⟩)):=fun w' hr=>(hma.rn hr).cell 0 _ rfl
        have hrd:∀ v,Rn w0.heap.size g w10 (w10.setCell ⟨g,3,none⟩ v)→Rn w0.heap.size g w10 (w10.setCell ⟨g,3,none⟩ v).drew:=fun v hr=>⟨hr.below.drew,hr.kept,hr.fresh⟩
        have gd:w10.drew.cell? ⟨g,3,none⟩=some (.slice so4 (K.length+1) cap4):=g3
        have gfd:w10.drew.frozen? ⟨g,3,none⟩=false:=gf
        obtain⟨m,hm⟩:∃ m,K.length+1=m:=⟨_,rfl⟩
        have hsub:IntKind.i64.wrap ((m:Int) - 1)=(K.length:Int):=by rw[IntKind.wrap_i64]<;>(unfold maxLen at hk2; omega)
        have hn0:(0:Int)≤(K.length:Int):=by omega
        have hn1:(K.length:Int)≤(cap4:Int):=by omega
        have hn2:(K.length:Int)≤(m:Int):=by omega
        rw[hm]at gd
        refine qa4 (i:=0) (.pointer (some ⟨g,0,none⟩)) rfl (by kernel_rfl) (by kernel_rfl) (by kernel_rfl) (fun _ _ _ h=>by cases h.1) rfl (fun X hx=>?_) hS ?_
        ·have x1:X.cell? ⟨s,0,none⟩=some (.pointer (some ⟨g,0,none⟩)):=hx
         clear hSf hrd
         go_simp
        refine qa4 (i:=1) (.pointer (some ⟨g,0,none⟩)) rfl (by kernel_rfl) (by kernel_rfl) (by kernel_rfl) (fun _ _ _ h=>by cases h.1) rfl (fun X hx=>?_) hS ?_
        ·have x1:X.cell? ⟨s,0,none⟩=some (.pointer (some ⟨g,0,none⟩)):=hx
         clear hSf hrd
         go_simp
        refine qa4 (i:=2) (.pointer (some ⟨g,0,none⟩)) rfl (by kernel_rfl) (by kernel_rfl) (by kernel_rfl) (fun _ _ _ h=>by cases h.1) rfl (fun X hx=>?_) hS ?_
        ·have x1:X.cell? ⟨s,0,none⟩=some (.pointer (some ⟨g,0,none⟩)):=hx
         clear hSf hrd
         go_simp
        refine qa4 (i:=3) (.pointer (some ⟨g,3,none⟩)) rfl (by kernel_rfl) (by kernel_rfl) (by kernel_rfl) (fun _ _ _ h=>by cases h.1) rfl (fun X hx=>?_) hS ?_
        ·have x1:X.cell? ⟨s,0,none⟩=some (.pointer (some ⟨g,0,none⟩)):=hx
         clear hSf hrd
         go_simp
        refine qa4 (i:=5) (.pointer (some ⟨g,0,none⟩)) rfl (by kernel_rfl) (by kernel_rfl) (by kernel_rfl) (fun _ _ _ h=>by cases h.1) rfl (fun X hx=>?_) hS ?_
        ·have x1:X.cell? ⟨s,0,none⟩=some (.pointer (some ⟨g,0,none⟩)):=hx
         clear hSf hrd
         go_simp
        refine qa4 (i:=6) (.pointer (some ⟨g,0,none⟩)) rfl (by kernel_rfl) (by kernel_rfl) (by kernel_rfl) (fun _ _ _ h=>by cases h.1) rfl (fun X hx=>?_) hS ?_
        ·have x1:X.cell? ⟨s,0,none⟩=some (.pointer (some ⟨g,0,none⟩)):=hx
         clear hSf hrd
         go_simp
        refine qa4 (i:=7) (.pointer (some ⟨g,3,none⟩)) rfl (by kernel_rfl) (by kernel_rfl) (by kernel_rfl) (fun _ _ _ h=>by cases h.1) rfl (fun X hx=>?_) hS ?_
        ·have x1:X.cell? ⟨s,0,none⟩=some (.pointer (some ⟨g,0,none⟩)):=hx
         clear hSf hrd
         go_simp
        refine wpAnyH_ready (rs:=[4,8]) (by kernel_rfl) (by simp) (AllReadyH.cons rfl (fun K' hK'=>?_) (AllReadyH.cons rfl (fun K' hK'=>?_) AllReadyH.nil))
        ·go_simp
         refine hK'.out _ _ hS (fun hS=>?_)
         clear hK' K'
         refine wpAnyH_ready (rs:=[8]) (by kernel_rfl) (by simp) (AllReadyH.cons rfl (fun K' hK'=>?_) AllReadyH.nil)
         go_simp
         refine hK'.out _ _ hS (fun hS=>?_)
         clear hK' K'
         refine wpAnyH_ready (rs:=[9]) (by kernel_rfl) (by simp) (AllReadyH.cons rfl (fun K' hK'=>?_) AllReadyH.nil)
         go_simp
         refine hK'.out _ _ hS (fun hS=>?_)
         clear hK' K'
         refine wpAnyH_ready (rs:=[10]) (by kernel_rfl) (by simp) (AllReadyH.cons rfl (fun K' hK'=>?_) AllReadyH.nil)
         go_simp
         refine hK'.out _ _ hS (fun hS=>?_)
         clear hK' K'
         refine wpAnyH_ready (rs:=[11]) (by kernel_rfl) (by simp) (AllReadyH.cons rfl (fun K' hK'=>?_) AllReadyH.nil)
         go_simp
         refine hK'.out _ _ hS (fun hS=>?_)
         clear hK' K'
         refine wpAnyH_ready (rs:=[12]) (by kernel_rfl) (by simp) (AllReadyH.cons rfl (fun K' hK'=>?_) AllReadyH.nil)
         go_simp
         refine hK'.out _ _ hS (fun hS=>?_)
         clear hK' K'
         refine wpAnyH_ready (rs:=[13]) (by kernel_rfl) (by simp) (AllReadyH.cons rfl (fun K' hK'=>?_) AllReadyH.nil)
         go_simp
         refine hK'.out _ _ hS (fun hS=>?_)
         clear hK' K'
         refine wpAnyH_ready (rs:=[14]) (by kernel_rfl) (by simp) (AllReadyH.cons rfl (fun K' hK'=>?_) AllReadyH.nil)
         go_simp
         refine hK'.out _ _ (hSf _ (hrd _ hrp)) (fun hS=>?_)
         clear hK' K'
         refine wpAnyH_done (by kernel_rfl) ?_ _
         exact⟨rfl,⟨_,_,_,_,hpop.below (Below.refl _ _).drew⟩,hrd _ hrp⟩
        ·go_simp
         refine hK'.out _ _ hS (fun hS=>?_)
         clear hK' K'
         refine qa4 (i:=9) (.int .i64 (m:Nat)) rfl (by kernel_rfl) (by kernel_rfl) (by kernel_rfl) (fun _ _ _ h=>by cases h.1) rfl (fun X hx=>?_) hS ?_
         ·clear hSf hrd
          go_simp
         refine qa4 (i:=10) (.int .i64 (K.length:Nat)) rfl (by kernel_rfl) (by kernel_rfl) (by kernel_rfl) (fun _ _ _ h=>by cases h.1) rfl (fun X hx=>?_) hS ?_
         ·clear hSf hrd
          go_simp
         refine wpAnyH_ready (rs:=[4]) (by kernel_rfl) (by simp) (AllReadyH.cons rfl (fun K' hK'=>?_) AllReadyH.nil)
         go_simp
         refine hK'.out _ _ hS (fun hS=>?_)
         clear hK' K'
         refine wpAnyH_ready (rs:=[11]) (by kernel_rfl) (by simp) (AllReadyH.cons rfl (fun K' hK'=>?_) AllReadyH.nil)
         go_simp
         refine hK'.out _ _ hS (fun hS=>?_)
         clear hK' K'
         refine wpAnyH_ready (rs:=[12]) (by kernel_rfl) (by simp) (AllReadyH.cons rfl (fun K' hK'=>?_) AllReadyH.nil)
         go_simp
         refine hK'.out _ _ hS (fun hS=>?_)
         clear hK' K'
         refine wpAnyH_ready (rs:=[13]) (by kernel_rfl) (by simp) (AllReadyH.cons rfl (fun K' hK'=>?_) AllReadyH.nil)
         go_simp
         refine hK'.out _ _ hS (fun hS=>?_)
         clear hK' K'
         refine wpAnyH_ready (rs:=[14]) (by kernel_rfl) (by simp) (AllReadyH.cons rfl (fun K' hK'=>?_) AllReadyH.nil)
         go_simp
         refine hK'.out _ _ (hSf _ (hrd _ hrp)) (fun hS=>?_)
         clear hK' K'
         refine wpAnyH_done (by kernel_rfl) ?_ _
         exact⟨rfl,⟨_,_,_,_,hpop.below (Below.refl _ _).drew⟩,hrd _ hrp⟩
       case c2=>
        obtain⟨rfl,h1,h2⟩:=hm
        have hkp3:KeepsOthers w10 w11:=H10.out.1.keepsOthers h2
        have hr3:=hrnW.trans h2
        rw[if_neg (by simpa using hz)]at hsn
        refine⟨((hkp.trans hkp2).trans hkp3).from _,⟨hr3.below,((hI.pv.rn hr3).blk).trans hI.pv.blk.symm⟩,⟨by rw[hsn],by rw[hsn]; exact h1,by rw[hsn]; exact hbF _ _ hfi,by rw[hsn]; exact Nat.le_trans hst1 (hbS _ _ hst5),hI.rn.trans hr3,hI.fr.rn hr3,hI.pv.rn hr3⟩⟩
      ·have HBd:Hid (Calls Tryz.prog 178 #[.pointer (some ⟨g,0,none⟩),.agg #[.slice po n pcap,.slice (some ⟨gm,0,none⟩) n n,.int .i64 (fr:Nat),.int .i64 (mt:Nat),.int .i64 qac]] w9 fun ed w10=>ed=.returned (.int .i64 (bodyF (x::K) oo).2)∧(w10.cell? ⟨s+1+1+1,0,none⟩=some (.int .i64 0)∧w10.frozen? ⟨s+1+1+1,0,none⟩=false)∧Hid ((∃ K',WrAt w10 w0.heap.size g vv dv e K' (bodyF (x::K) oo).1)∧Rn w0.heap.size g w9 w10)):=by
        refine hBo.mono ?_
        rintro ed w10 ⟨rfl,⟨K',h1,h2⟩,h3⟩
        have hfr10:=hfr9.rn h3
        exact⟨rfl,by rw[← hs]; exact⟨hfr10.d.cell 0 _ rfl,hfr10.d.thaw 0⟩,⟨K',h1⟩,h3⟩
       clear hBo
       rw[if_pos hz]at hsn
       obtain⟨z,hzz⟩:∃ z,(bodyF (x::K) oo).2=z:=⟨_,rfl⟩
       rw[hzz]at HBd hz
       gi_wp2_with (refine⟨trivial,?_⟩; gi_at_call 178; refine CallsIn.mono (CallsIn.inRound l (callsIn_wide.2 HBd.out)) ?_; rintro ed w10 ⟨rfl,⟨r0,r1⟩,H10⟩)
       obtain⟨⟨K',h1⟩,h3⟩:=H10.out
       have hkp:KeepsOthers W w9:=hwr.keepsOthers H9.out.2
       have hkp2:KeepsOthers w9 w10:=H9.out.1.keepsOthers h3
       have hr3:=H9.out.2.trans h3
       have hfd:=(hI.fr.rn hr3).d
       have hse:=h1.set hfd 0 (.int .i64 z)
       have hsr:=(hI.rn.trans hr3).set hB0 (by omega) hfd.gne 0 (.int .i64 z)
       have hsm:=hfd.put (.int .i64 z)
       rw[hs]at hse hsr hsm
       refine⟨((hkp.trans hkp2).trans (KeepsOthers.setCell _ _ _)).from _,rfl,⟨by rw[hsn,hzz]; exact hz,⟨K',by rw[hsn]; exact hse⟩,hsr,by rw[hsn,hzz,hs]; exact hsm⟩⟩
    case done=>
     rintro D ys W hD rfl hI hK
     have r0:W.cell? ⟨s+1+1+1,0,none⟩=some (.int .i64 0):=by rw[← hs]; exact hI.fr.d.cell 0 _ rfl
     have r1:W.frozen? ⟨s+1+1+1,0,none⟩=false:=by rw[← hs]; exact hI.fr.d.thaw 0
     clear hst hDs HB hI0 hS0 hpm hpbl hPb
     go_wp2
     have hks:=(KeepsOthers.setCell W ⟨s+1+1+1,0,none⟩ (.int .i64 0)).same D _ hK rfl
     have hm0:=hI.fr.d
     rw[hs]at hm0
     obtain⟨h1,h2,h3⟩:=q0l hB0 (hI.wr.set hm0 0 (.int .i64 0)) (hI.rn.set hB0 (by omega) hm0.gne 0 (.int .i64 0)) (hm0.put (.int .i64 0)) (Nat.le_trans hWbs hD) hks
     refine⟨by simp,.inl ⟨_,_,rfl,run_takeDeferred hks,?_⟩⟩
     refine⟨_,qhs rfl _ _ (s+1+1+1) (.int .i64 0) rfl h3,?_⟩
     rw[hsec]
     refine⟨by rw[hI.ok],⟨K,h1,fun _=>rfl⟩,h2⟩
    case stop=>
     rintro D c pre W hD hpre ⟨rfl,hX⟩ hK
     obtain⟨K',hw⟩:=hX.wr
     have hm0:=hX.res
     rw[hs]at hm0
     clear hst hDs HB hI0 hS0 hpm hpbl hPb
     gi_wp2
     obtain⟨h1,h2,h3⟩:=q0l hB0 hw hX.rn hm0 (Nat.le_trans hWbs hD) hK
     refine⟨by simp,.inl ⟨_,_,rfl,run_takeDeferred hK,?_⟩⟩
     refine⟨_,qhs rfl _ _ (s+1+1+1) _ rfl h3,?_⟩
     rw[hsec,qko bodyF K _ _ _ hpre hX.ok]
     exact⟨rfl,⟨K',h1,fun e=>absurd e hX.ok⟩,h2⟩
end Go.Proofs.YtfkhljmiehdgmaaGreatDoor

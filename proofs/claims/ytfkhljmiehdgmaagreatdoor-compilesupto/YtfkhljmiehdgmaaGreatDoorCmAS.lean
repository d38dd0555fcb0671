/-
  Steps of the proof.
-/
import Derived.Test.YtfkhljmiehdgmaaGreatDoorCmAG
set_option maxRecDepth 100000
set_option maxHeartbeats 40000000
namespace Go.Proofs.YtfkhljmiehdgmaaGreatDoor
open Go.RowKit
variable{w wr w':World}{B E R:Nat}{F:Fix}{S:List Pl.Src}{vv:Value}{s:Pl.Sr}{e:Pl.En}{y x:Pl.Sx}
theorem SeAt.drew(h:SeAt w B F S vv s):SeAt w.drew B F S vv s:=h.drewN 1
theorem qdz:qaf Pl.Sx.none=#[.int .u8 0,.string ⟨#[]⟩,.string ⟨#[]⟩,.int .i64 0,.int .i64 0,.bool false,.bool false,.int .i64 0,.int .i64 0,.int .i64 0]:=rfl
theorem qb2:(180:TypeId)≠178:=by decide
theorem qhk:(180:TypeId)≠162:=by decide
structure Bhi(w wr:World)(B:Nat)(F:Fix)(S:List Pl.Src)(vv:Value)(s:Pl.Sr)(E R:Nat)(e:Pl.En)(y:Pl.Sx):Prop where
 se:SeAt wr B F S vv s
 ent:wr.heap[E]?=some (.cells (qao e) 180 (0,0))
 res:StIn wr R y
 old:w.heap.size<=R/\B<=w.heap.size
 cue:Cue B F w wr
 tabs:TabB B wr
theorem Bhi.below(h:Bhi w wr B F S vv s E R e y)(hb:Below wr.heap.size wr w'):Bhi w w' B F S vv s E R e y:=
 have hB:B<=wr.heap.size:=Nat.le_trans h.old.2 h.cue.below.size
 ⟨h.se.below hb,(hb.block _ (Array.getElem?_eq_some_iff.1 h.ent).1).trans h.ent,h.res.below hb,h.old,h.cue.trans (Cue.of_below hb hB),h.tabs.kept (hb.mono hB)⟩
theorem Bhi.alloc(h:Bhi w wr B F S vv s E R e y)(o:Obj):Bhi w (wr.alloc o) B F S vv s E R e y:=h.below (ba o)
theorem Bhi.drew(h:Bhi w wr B F S vv s E R e y):Bhi w wr.drew B F S vv s E R e y:=h.below (Below.refl _ _).drew
theorem Bhi.turn{s':Pl.Sr}(h:Bhi w wr B F S vv s E R e y)(hs:SeAt w' B F S vv s')(hc:Cue B F wr w'):Bhi w w' B F S vv s' E R e y:=by
 have h1:=hc.keep E (Array.getElem?_eq_some_iff.1 h.ent).1 (fun q=>qae h.se.blk h.ent qb2.symm q.symm) (qak h.ent h.se.ends);have h2:=hc.keep R h.res.lt (fun q=>qae h.se.blk h.res qb1.symm q.symm) (qak h.res h.se.ends);exact⟨hs,h1.trans h.ent,h2.trans h.res,h.old,h.cue.trans hc,h.tabs.kept hc.below⟩
theorem Bhi.set(h:Bhi w wr B F S vv s E R e x)(y:Pl.Sx):Bhi w (qcs wr R (.int .u8 (y.st.mode:Int)) (.string ⟨y.st.name.toArray⟩) (.string ⟨y.st.elem.toArray⟩) (.int .i64 y.st.kind) (.int .i64 (y.st.read:Int)) (.bool y.ma.ref) (.bool y.st.esc) (.int .i64 y.ma.hex) (.int .i64 y.ma.pct) (.int .i64 y.ma.far)) B F S vv s E R e y:=by
 have ha:=fun k (hk:k≠R)=>qgy (w:=wr) hk (.int .u8 (y.st.mode:Int)) (.string ⟨y.st.name.toArray⟩) (.string ⟨y.st.elem.toArray⟩) (.int .i64 y.st.kind) (.int .i64 (y.st.read:Int)) (.bool y.ma.ref) (.bool y.st.esc) (.int .i64 y.ma.hex) (.int .i64 y.ma.pct) (.int .i64 y.ma.far);have Ha:Below R wr (qcs wr R (.int .u8 (y.st.mode:Int)) (.string ⟨y.st.name.toArray⟩) (.string ⟨y.st.elem.toArray⟩) (.int .i64 y.st.kind) (.int .i64 (y.st.read:Int)) (.bool y.ma.ref) (.bool y.st.esc) (.int .i64 y.ma.hex) (.int .i64 y.ma.pct) (.int .i64 y.ma.far)):=qei (Below.refl _ _) (Nat.le_refl _) _ _ _ _ _ _ _ _ _ _;have hs:=h.res.set y;generalize qcs wr R _ _ _ _ _ _ _ _ _ _=w' at ha Ha hs |-;exact⟨h.se.far h.res ha,(ha _ (qae h.ent h.res qhk)).trans h.ent,hs,h.old,⟨h.cue.below.trans (Ha.mono (Nat.le_trans h.old.2 h.old.1)),fun k hk h1 h2=>(ha k (by have:=h.old.1;omega)).trans (h.cue.keep k hk h1 h2)⟩,h.tabs.kept (Ha.mono (Nat.le_trans h.old.2 h.old.1))⟩
theorem Bhi.post(h:Bhi w wr B F S vv s E R e y){a:Act}(hp:a.tmps.getD 6 undef=.pointer (some ⟨R,0,none⟩))(hd:a.defers=[]) :
  bodyPost Tryz.prog Tryz.f156 (fun ed w'=>ed=.returned (qap y)/\SeAt w' B F S vv s/\Cue B F w w') .ret a wr:=
 bodyPost_ret (qbk Tryz.results156 _ _ R _ _ hp (qaa h.res) Tryz.underlying162 rfl (by kernel_rfl)) hd ⟨rfl,h.se,h.cue⟩
theorem qcn(h:w.heap[E]?=some (.cells (qao e) 180 (0,0))):∀(j:Nat) (v:Value),(qao e).toList[j]?=some v->w.cell? ⟨E,j,none⟩=some v:=fun j v hv=>qaa h j v hv
theorem qtg(S:List Pl.Src)(hS:SrcsOk S)(w:World)(B:Nat)(F:Fix)(vv:Value)(s:Pl.Sr)(n:List UInt8)(x:Pl.Sx)(h:SeAt w B F S vv s)(hn:n.length<=2000)(hB:B<=w.heap.size)(h0:Pl.qai S n=0) :
  Calls Tryz.prog 156 #[.pointer (some ⟨F.g,0,none⟩),.string ⟨n.toArray⟩,qap x] w fun ed w'=>ed=.returned (qap x)/\SeAt w' B F S vv s/\Cue B F w w':=by
 have b1:∀o o',((w.alloc o).alloc o').cell? ⟨F.g,1,none⟩=some (.map (some F.bp)):=fun o o'=>((h.alloc o).alloc o').cell 1 _ rfl;have b2:∀o o' o'',(((w.alloc o).alloc o').alloc o'').cell? ⟨F.g,1,none⟩=some (.map (some F.bp)):=fun o o' o''=>(((h.alloc o).alloc o').alloc o'').cell 1 _ rfl;have l1:=fun o o'=>((h.alloc o).alloc o').drew.place hS n (by omega);have l2:=fun o o' o''=>(((h.alloc o).alloc o').alloc o'').drew.place hS n (by omega);rw[h0]at l1 l2;generalize (⟨n.toArray⟩:ByteArray)=N at l1 l2 |-;unfold qap qaf bs;have HS:=hd h;clear h;go_enter Tryz.func156,Tryz.ntmps156
 go_wp2_with fail
 go_region
 go_wp2_with fail
 refine bodyPost_ret (qbk Tryz.results156 _ _ (w.heap.size+1) _ _ rfl (qaa ((heap_alloc_old _ _ (by simp)).trans (qal (w.alloc _) _ _ (by simp)))) Tryz.underlying162 rfl (by kernel_rfl)) rfl ⟨rfl,(((HS.out.alloc _).alloc _).alloc _).drew,Cue.of_below (((ba _).alloc (by simp) _).alloc (by simp;omega) _).drew hB⟩
theorem qji(h:SeAt w B F S vv s)(hB:B<=w.heap.size)(ht:TabB B w)(i:Nat) :
  Bhi w (((w.alloc (.cells (qaf x) 162)).alloc (.cells (qaf Pl.Sx.none) 162)).alloc (.cells (qao (i,x)) 180)).drew B F S vv s (w.heap.size+1+1) (w.heap.size+1) (i,x) Pl.Sx.none:=by
 have hb:=((((Below.refl w.heap.size w).alloc (Nat.le_refl _) (.cells (qaf x) 162)).alloc (by simp) (.cells (qaf Pl.Sx.none) 162)).alloc (by simp;omega) (.cells (qao (i,x)) 180)).drew;exact⟨(((h.alloc _).alloc _).alloc _).drew,qal (World.alloc (w.alloc _) _) _ _ (by simp),(heap_alloc_old _ _ (by simp)).trans (qal (w.alloc _) _ _ (by simp)),⟨by omega,hB⟩,Cue.of_below hb hB,ht.kept (hb.mono hB)⟩
theorem qvu(S:List Pl.Src)(hS:SrcsOk S)(w:World)(B:Nat)(F:Fix)(vv:Value)(s:Pl.Sr)(n:List UInt8)(x:Pl.Sx)(h:SeAt w B F S vv s)(ho:Pl.EndsOk S.length s.ends)(hx:Pl.SxFit x)(hn:n.length<=2000)(hB:B<=w.heap.size)(ht:TabB B w)(h0:Pl.qai S n≠0)(y:Pl.Sx)(hy:Pl.qa1 s.ends (Pl.qai S n,x)=some y) :
  Calls Tryz.prog 156 #[.pointer (some ⟨F.g,0,none⟩),.string ⟨n.toArray⟩,qap x] w fun ed w'=>ed=.returned (qap y)/\SeAt w' B F S vv s/\Cue B F w w':=by
 have b1:∀o o',((w.alloc o).alloc o').cell? ⟨F.g,1,none⟩=some (.map (some F.bp)):=fun o o'=>((h.alloc o).alloc o').cell 1 _ rfl;have b2:∀o o' o'',(((w.alloc o).alloc o').alloc o'').cell? ⟨F.g,1,none⟩=some (.map (some F.bp)):=fun o o' o''=>(((h.alloc o).alloc o').alloc o'').cell 1 _ rfl;have l1:=fun o o'=>((h.alloc o).alloc o').drew.place hS n (by omega);have l2:=fun o o' o''=>(((h.alloc o).alloc o').alloc o'').drew.place hS n (by omega);have ha:Pl.qai S n<=6:=by have:=Pl.qe4 S n h0;have:=hS.few;omega
 have HI:=hd (qji (x:=x) h hB ht (Pl.qai S n));generalize hi:Pl.qai S n=i at *;have i0:((i:Int)==0)=false:=by rw[beq_eq_false_iff_ne];omega
 generalize (⟨n.toArray⟩:ByteArray)=N at l1 l2 |-;rw[qdz]at HI;unfold qao qaf bs at HI;unfold qap qaf bs;clear h;have HY:=hd hy;clear hy;go_enter Tryz.func156,Tryz.ntmps156
 go_wp2_with fail
 go_region
 go_wp2_with fail
 clear b1 b2 l1 l2;generalize World.drew _=w3 at HI |-;have l3:=HI.out.se.drew.look hS ho (i,x) hx ha true;have l4:=fun o=>(HI.out.se.alloc o).drew.look hS ho (i,x) hx ha true;rw[HY.out]at l3 l4;have b1:w3.cell? ⟨F.g,2,none⟩=some (.map (some F.be)):=HI.out.se.cell 2 _ rfl;have b2:∀o,(w3.alloc o).cell? ⟨F.g,2,none⟩=some (.map (some F.be)):=fun o=>(HI.out.se.alloc o).cell 2 _ rfl;have he:=qcn HI.out.ent;have hf:=fun o=>qcn (HI.out.alloc o).ent;unfold qao bs at he hf;have hr:=fun o=>(HI.out.alloc o).res;have r0:=fun o=>(hr o).at'.mode;have r1:=fun o=>(hr o).at'.name;have r2:=fun o=>(hr o).at'.elem;have r3:=fun o=>(hr o).at'.kind;have r4:=fun o=>(hr o).at'.read;have r5:=fun o=>(hr o).at'.ref;have r6:=fun o=>(hr o).at'.esc;have r7:=fun o=>(hr o).at'.hex;have r8:=fun o=>(hr o).at'.pct;have r9:=fun o=>(hr o).at'.far;have f0:=fun o=>(hr o).slot.thaw 0;have f1:=fun o=>(hr o).slot.thaw 1;have f2:=fun o=>(hr o).slot.thaw 2;have f3:=fun o=>(hr o).slot.thaw 3;have f4:=fun o=>(hr o).slot.thaw 4;have f5:=fun o=>(hr o).slot.thaw 5;have f6:=fun o=>(hr o).slot.thaw 6;have f7:=fun o=>(hr o).slot.thaw 7;have f8:=fun o=>(hr o).slot.thaw 8;have f9:=fun o=>(hr o).slot.thaw 9;have m0:=he 0 _ rfl;have m1:=he 1 _ rfl;have m2:=he 2 _ rfl;have m3:=he 3 _ rfl;have m4:=he 4 _ rfl;have m5:=he 5 _ rfl;have m6:=he 6 _ rfl;have m7:=he 7 _ rfl;have m8:=he 8 _ rfl;have m9:=he 9 _ rfl;have m10:=he 10 _ rfl;have n0:=fun o=>hf o 0 _ rfl;have n1:=fun o=>hf o 1 _ rfl;have n2:=fun o=>hf o 2 _ rfl;have n3:=fun o=>hf o 3 _ rfl;have n4:=fun o=>hf o 4 _ rfl;have n5:=fun o=>hf o 5 _ rfl;have n6:=fun o=>hf o 6 _ rfl;have n7:=fun o=>hf o 7 _ rfl;have n8:=fun o=>hf o 8 _ rfl;have n9:=fun o=>hf o 9 _ rfl;have n10:=fun o=>hf o 10 _ rfl;clear he hf hr;have HT:=(show Hid _ from((HI.out.alloc (.cells (qaf y) 162)).set y).drew);unfold qaf bs at HT;simp only[qbi]at l3 l4;unfold qap qaf qao bs at l3 l4;simp only[Option.getD_some,Option.isSome_some,if_true]at l3 l4;go_region
 go_wp2_with fail
 unfold qcs at HT;refine(HT.out).post ?_ ?_
 ·rfl
 ·rfl
end Go.Proofs.YtfkhljmiehdgmaaGreatDoor

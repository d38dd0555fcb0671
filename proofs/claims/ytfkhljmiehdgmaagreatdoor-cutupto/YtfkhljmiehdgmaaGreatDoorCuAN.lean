/-
  Steps of the proof.
-/
import Derived.Test.YtfkhljmiehdgmaaGreatDoorCuAG
set_option maxRecDepth 100000
set_option maxHeartbeats 40000000
namespace Go.Proofs.YtfkhljmiehdgmaaGreatDoor
open Go.RowKit Go.Proofs.Tryz Pl
variable{w wr w':World}{B E R:Nat}{F:Fix}{S:List Src}{vv:Value}{s:Sr}{e:En}{y x:Sx}
theorem SeAt.drew(h:SeAt w B F S vv s):SeAt w.drew B F S vv s:=h.drewN 1
theorem qdx:qaf Sx.none=#[zJ 0,zS,zS,zI 0,zI 0,.bool false,.bool false,zI 0,zI 0,zI 0]:=rfl
theorem qb6:(180:TypeId)≠178:=by decide
theorem qh2:(180:TypeId)≠162:=by decide
structure Bhi(w wr:World)(B:Nat)(F:Fix)(S:List Src)(vv:Value)(s:Sr)(E R:Nat)(e:En)(y:Sx):Prop where
 se:SeAt wr B F S vv s
 ent:wr.heap[E]?=zK (qao e) 180
 res:StIn wr R y
 old:w.heap.size<=R/\B<=w.heap.size
 cue:Cue B F w wr
 tabs:TabB B wr
theorem Bhi.below(h:Bhi w wr B F S vv s E R e y)(hb:zW wr w'):Bhi w w' B F S vv s E R e y:=
 have hB:B<=wr.heap.size:=yh h.old.2 h.cue.below.size
 ⟨h.se.below hb,(hb.block _ (ya.1 h.ent).1).trans h.ent,h.res.below hb,h.old,h.cue.trans (Cue.of_below hb hB),h.tabs.kept (hb.mono hB)⟩
theorem Bhi.alloc(h:Bhi w wr B F S vv s E R e y)(o:Obj):Bhi w (wr.alloc o) B F S vv s E R e y:=h.below (zB o)
theorem Bhi.drew(h:Bhi w wr B F S vv s E R e y):Bhi w wr.drew B F S vv s E R e y:=h.below (xM _ _).drew
theorem Bhi.turn{s':Sr}(h:Bhi w wr B F S vv s E R e y)(hs:SeAt w' B F S vv s')(hc:Cue B F wr w'):Bhi w w' B F S vv s' E R e y:=by
 have h1:=hc.keep E (ya.1 h.ent).1 (fun q=>qae h.se.blk h.ent qb6.symm q.symm) (qak h.ent h.se.ends);have h2:=hc.keep R h.res.lt (fun q=>qae h.se.blk h.res qb5.symm q.symm) (qak h.res h.se.ends);exact⟨hs,h1.trans h.ent,h2.trans h.res,h.old,h.cue.trans hc,h.tabs.kept hc.below⟩
theorem Bhi.set(h:Bhi w wr B F S vv s E R e x)(y:Sx):Bhi w (qdf wr R (zJ (y.st.mode:Int)) (zV y.st.name) (zV y.st.elem) (zI y.st.kind) (zI (y.st.read:Int)) (.bool y.ma.ref) (.bool y.st.esc) (zI y.ma.hex) (zI y.ma.pct) (zI y.ma.far)) B F S vv s E R e y:=by
 have ha:=fun k (hk:k≠R)=>qha (w:=wr) hk (zJ (y.st.mode:Int)) (zV y.st.name) (zV y.st.elem) (zI y.st.kind) (zI (y.st.read:Int)) (.bool y.ma.ref) (.bool y.st.esc) (zI y.ma.hex) (zI y.ma.pct) (zI y.ma.far);have Ha:Below R wr (qdf wr R (zJ (y.st.mode:Int)) (zV y.st.name) (zV y.st.elem) (zI y.st.kind) (zI (y.st.read:Int)) (.bool y.ma.ref) (.bool y.st.esc) (zI y.ma.hex) (zI y.ma.pct) (zI y.ma.far)):=qfe (xM _ _) (yg _) _ _ _ _ _ _ _ _ _ _;have hs:=h.res.set y;generalize qdf wr R _ _ _ _ _ _ _ _ _ _=w' at ha Ha hs |-;exact⟨h.se.far h.res ha,(ha _ (qae h.ent h.res qh2)).trans h.ent,hs,h.old,⟨h.cue.below.trans (Ha.mono (yh h.old.2 h.old.1)),fun k hk h1 h2=>(ha k (by have:=h.old.1;omega)).trans (h.cue.keep k hk h1 h2)⟩,h.tabs.kept (Ha.mono (yh h.old.2 h.old.1))⟩
theorem Bhi.post(h:Bhi w wr B F S vv s E R e y){a:Act}(hp:a.tmps.getD 6 undef=zP R)(hd:a.defers=[]) :
  bodyPost prog f156 (fun ed w'=>ed=.returned (qar y)/\SeAt w' B F S vv s/\Cue B F w w') .ret a wr:=
 bodyPost_ret (qbn results156 _ _ R _ _ hp (qaa h.res) underlying162 rfl (by kernel_rfl)) hd ⟨rfl,h.se,h.cue⟩
theorem qct(h:w.heap[E]?=zK (qao e) 180):∀(j:Nat) (v:Value),(qao e).toList[j]?=some v->w.cell? (zO E j)=some v:=fun j v hv=>qaa h j v hv
theorem qv4(S:List Src)(hS:SrcsOk S)(w:World)(B:Nat)(F:Fix)(vv:Value)(s:Sr)(n:zU)(x:Sx)(h:SeAt w B F S vv s)(hn:n.length<=2000)(hB:B<=w.heap.size)(h0:qaj S n=0) :
  zC 156 #[zP F.g,zV n,qar x] w fun ed w'=>ed=.returned (qar x)/\SeAt w' B F S vv s/\Cue B F w w':=by
 have b1:∀o o',((w.alloc o).alloc o').cell? (zO F.g 1)=some (.map (some F.bp)):=fun o o'=>((h.alloc o).alloc o').cell 1 _ rfl;have b2:∀o o' o'',(((w.alloc o).alloc o').alloc o'').cell? (zO F.g 1)=some (.map (some F.bp)):=fun o o' o''=>(((h.alloc o).alloc o').alloc o'').cell 1 _ rfl;have l1:=fun o o'=>((h.alloc o).alloc o').drew.place hS n (by omega);have l2:=fun o o' o''=>(((h.alloc o).alloc o').alloc o'').drew.place hS n (by omega);rw[h0]at l1 l2;generalize (⟨n.toArray⟩:zT)=N at l1 l2 |-;unfold qar qaf bs;have HS:=zH h;clear h;go_enter func156,ntmps156
 go_wp2
 go_region
 go_wp2
 refine bodyPost_ret (qbn results156 _ _ (w.heap.size+1) _ _ rfl (qaa ((xJ _ _ (by simp)).trans (qap (w.alloc _) _ _ (by simp)))) underlying162 rfl (by kernel_rfl)) rfl ⟨rfl,(((HS.out.alloc _).alloc _).alloc _).drew,Cue.of_below (((zB _).alloc (by simp) _).alloc (by simp;omega) _).drew hB⟩
theorem qkc(h:SeAt w B F S vv s)(hB:B<=w.heap.size)(ht:TabB B w)(i:Nat) :
  Bhi w (((w.alloc (.cells (qaf x) 162)).alloc (.cells (qaf Sx.none) 162)).alloc (.cells (qao (i,x)) 180)).drew B F S vv s (w.heap.size+1+1) (w.heap.size+1) (i,x) Sx.none:=by
 have hb:=((((xM w.heap.size w).alloc (yg _) (.cells (qaf x) 162)).alloc (by simp) (.cells (qaf Sx.none) 162)).alloc (by simp;omega) (.cells (qao (i,x)) 180)).drew;exact⟨(((h.alloc _).alloc _).alloc _).drew,qap (World.alloc (w.alloc _) _) _ _ (by simp),(xJ _ _ (by simp)).trans (qap (w.alloc _) _ _ (by simp)),⟨by omega,hB⟩,Cue.of_below hb hB,ht.kept (hb.mono hB)⟩
theorem qza(S:List Src)(hS:SrcsOk S)(w:World)(B:Nat)(F:Fix)(vv:Value)(s:Sr)(n:zU)(x:Sx)(h:SeAt w B F S vv s)(ho:EndsOk S.length s.ends)(hx:SxFit x)(hn:n.length<=2000)(hB:B<=w.heap.size)(ht:TabB B w)(h0:qaj S n≠0)(y:Sx)(hy:qa9 s.ends (qaj S n,x)=some y) :
  zC 156 #[zP F.g,zV n,qar x] w fun ed w'=>ed=.returned (qar y)/\SeAt w' B F S vv s/\Cue B F w w':=by
 have b1:∀o o',((w.alloc o).alloc o').cell? (zO F.g 1)=some (.map (some F.bp)):=fun o o'=>((h.alloc o).alloc o').cell 1 _ rfl;have b2:∀o o' o'',(((w.alloc o).alloc o').alloc o'').cell? (zO F.g 1)=some (.map (some F.bp)):=fun o o' o''=>(((h.alloc o).alloc o').alloc o'').cell 1 _ rfl;have l1:=fun o o'=>((h.alloc o).alloc o').drew.place hS n (by omega);have l2:=fun o o' o''=>(((h.alloc o).alloc o').alloc o'').drew.place hS n (by omega);have ha:qaj S n<=6:=by have:=qfh S n h0;have:=hS.few;omega
 have HI:=zH (qkc (x:=x) h hB ht (qaj S n));generalize hi:qaj S n=i at *;have i0:((i:Int)==0)=false:=by rw[yf];omega
 generalize (⟨n.toArray⟩:zT)=N at l1 l2 |-;rw[qdx]at HI;unfold qao qaf bs at HI;unfold qar qaf bs;clear h;have HY:=zH hy;clear hy;go_enter func156,ntmps156
 go_wp2
 go_region
 go_wp2
 clear b1 b2 l1 l2;generalize World.drew _=w3 at HI |-;have l3:=HI.out.se.drew.look hS ho (i,x) hx ha true;have l4:=fun o=>(HI.out.se.alloc o).drew.look hS ho (i,x) hx ha true;rw[HY.out]at l3 l4;have b1:w3.cell? (zO F.g 2)=some (.map (some F.be)):=HI.out.se.cell 2 _ rfl;have b2:∀o,(w3.alloc o).cell? (zO F.g 2)=some (.map (some F.be)):=fun o=>(HI.out.se.alloc o).cell 2 _ rfl;have he:=qct HI.out.ent;have hf:=fun o=>qct (HI.out.alloc o).ent;unfold qao bs at he hf;have hr:=fun o=>(HI.out.alloc o).res;have r0:=fun o=>(hr o).at'.all;have f0:=fun o=>(hr o).slot.thaw;have m0:=al he;have n0:=fun o=>al (hf o);clear he hf hr;have HT:=(show Hid _ from((HI.out.alloc (.cells (qaf y) 162)).set y).drew);unfold qaf bs at HT;simp only[qbj]at l3 l4;unfold qar qaf qao bs at l3 l4;simp only[Option.getD_some,Option.isSome_some,if_true]at l3 l4;go_region
 go_wp2
 unfold qdf at HT;refine(HT.out).post ?_ ?_
 ·rfl
 ·rfl
end Go.Proofs.YtfkhljmiehdgmaaGreatDoor

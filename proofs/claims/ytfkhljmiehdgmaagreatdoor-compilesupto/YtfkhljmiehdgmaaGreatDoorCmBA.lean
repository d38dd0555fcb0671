/-
  Steps of the proof.
-/
import Derived.Test.YtfkhljmiehdgmaaGreatDoorCmAZ
import Derived.Test.YtfkhljmiehdgmaaGreatDoorCmAQ
import Derived.Test.YtfkhljmiehdgmaaGreatDoorCmAX
set_option maxRecDepth 100000
set_option maxHeartbeats 40000000
namespace Go.Proofs.YtfkhljmiehdgmaaGreatDoor
open Go.RowKit
def ThrC(S:List Pl.Src)(k:Nat):Prop:=∀(w:World) (B:Nat) (F:Fix) (vv:Value) (M:List Nat) (s:Pl.Sr) (e:Pl.En),SvAt w B F S vv M s→Pl.Pre S s e→258≤s.nums.length+k→TabB B w →
    Calls Tryz.prog 75 #[.pointer (some ⟨F.g,0,none⟩),qf7 e] w fun ed w'=>(∃r,ed=.returned r)∧(∃vv' ext,SvAt w' B F S vv' (M++ext) (Pl.qfq S k s e))∧Cuv B F w w'
structure Nmi(w wr:World)(B:Nat)(F:Fix)(S:List Pl.Src)(vv:Value)(M:List Nat)(s:Pl.Sr)(G:Nat)(y:Pl.Sx)(R:Nat)(z:Pl.Sx)(E:Nat)(e:Pl.En):Prop where
 sv:SvAt wr B F S vv M s
 end':StIn wr G y
 res:StIn wr R z
 ne:G≠R
 ent:wr.heap[E]?=some (.cells (qao e) 180 (0,0))
 old:w.heap.size≤R∧B≤w.heap.size
 cuv:Cuv B F w wr
 tabs:TabB B wr
theorem Nmi.below{w wr w':World}{B:Nat}{F:Fix}{S:List Pl.Src}{vv:Value}{M:List Nat}{s:Pl.Sr}{G:Nat}{y:Pl.Sx}{R:Nat}{z:Pl.Sx}{E:Nat}{e:Pl.En}(h:Nmi w wr B F S vv M s G y R z E e)(hb:Below wr.heap.size wr w'):Nmi w w' B F S vv M s G y R z E e:=
 have hB:B≤wr.heap.size:=Nat.le_trans h.old.2 h.cuv.below.size
 ⟨h.sv.below hb,h.end'.below hb,h.res.below hb,h.ne,(hb.block _ (Array.getElem?_eq_some_iff.1 h.ent).1).trans h.ent,h.old,h.cuv.trans (Cuv.of_below hb hB),h.tabs.kept (hb.mono hB)⟩
theorem Nmi.alloc{w wr:World}{B:Nat}{F:Fix}{S:List Pl.Src}{vv:Value}{M:List Nat}{s:Pl.Sr}{G:Nat}{y:Pl.Sx}{R:Nat}{z:Pl.Sx}{E:Nat}{e:Pl.En}(h:Nmi w wr B F S vv M s G y R z E e)(o:Obj):Nmi w (wr.alloc o) B F S vv M s G y R z E e:=h.below (ba o)
theorem Nmi.drew{w wr:World}{B:Nat}{F:Fix}{S:List Pl.Src}{vv:Value}{M:List Nat}{s:Pl.Sr}{G:Nat}{y:Pl.Sx}{R:Nat}{z:Pl.Sx}{E:Nat}{e:Pl.En}(h:Nmi w wr B F S vv M s G y R z E e):Nmi w wr.drew B F S vv M s G y R z E e:=h.below (Below.refl _ _).drew
theorem Nmi.turn{w wr w':World}{B:Nat}{F:Fix}{S:List Pl.Src}{vv vv':Value}{M M':List Nat}{s s':Pl.Sr}{G:Nat}{y:Pl.Sx}{R:Nat}{z:Pl.Sx}{E:Nat}{e:Pl.En}(h:Nmi w wr B F S vv M s G y R z E e)(hs:SvAt w' B F S vv' M' s')(hc:Cuv B F wr w'):Nmi w w' B F S vv' M' s' G y R z E e:=by
 have k1:=hc.keep G _ _ _ h.end' (qae h.end' h.sv.se.blk qb1) (by decide) (by decide);have k2:=hc.keep R _ _ _ h.res (qae h.res h.sv.se.blk qb1) (by decide) (by decide);have k3:=hc.keep E _ _ _ h.ent (qae h.ent h.sv.se.blk qb2) (by decide) (by decide);exact⟨hs,k1.trans h.end',k2.trans h.res,h.ne,k3.trans h.ent,h.old,h.cuv.trans hc,h.tabs.kept hc.below⟩
theorem Nmi.set{w wr:World}{B:Nat}{F:Fix}{S:List Pl.Src}{vv:Value}{M:List Nat}{s:Pl.Sr}{G:Nat}{y:Pl.Sx}{R:Nat}{z:Pl.Sx}{E:Nat}{e:Pl.En}(h:Nmi w wr B F S vv M s G y R z E e)(x:Pl.Sx):Nmi w (qda wr R (.int .u8 (x.st.mode:Int)) (.string ⟨x.st.name.toArray⟩) (.string ⟨x.st.elem.toArray⟩) (.int .i64 x.st.kind) (.int .i64 (x.st.read:Int)) (.bool x.ma.ref) (.bool x.st.esc) (.int .i64 x.ma.hex) (.int .i64 x.ma.pct) (.int .i64 x.ma.far)) B F S vv M s G y R x E e:=by
 have ha:=fun k (hk:k≠R)=>qgw (w:=wr) hk (.int .u8 (x.st.mode:Int)) (.string ⟨x.st.name.toArray⟩) (.string ⟨x.st.elem.toArray⟩) (.int .i64 x.st.kind) (.int .i64 (x.st.read:Int)) (.bool x.ma.ref) (.bool x.st.esc) (.int .i64 x.ma.hex) (.int .i64 x.ma.pct) (.int .i64 x.ma.far);have Ha:Below R wr (qda wr R (.int .u8 (x.st.mode:Int)) (.string ⟨x.st.name.toArray⟩) (.string ⟨x.st.elem.toArray⟩) (.int .i64 x.st.kind) (.int .i64 (x.st.read:Int)) (.bool x.ma.ref) (.bool x.st.esc) (.int .i64 x.ma.hex) (.int .i64 x.ma.pct) (.int .i64 x.ma.far)):=qez (Below.refl _ _) (Nat.le_refl _) _ _ _ _ _ _ _ _ _ _;have hs:=h.res.set x;generalize qda wr R _ _ _ _ _ _ _ _ _ _=w' at ha Ha hs ⊢;have hB:=Ha.mono (Nat.le_trans h.old.2 h.old.1);refine⟨h.sv.far h.res ha,(ha _ h.ne).trans h.end',hs,h.ne,(ha _ (qae h.ent h.res qhi)).trans h.ent,h.old,⟨h.cuv.below.trans hB,fun k cs t fz hk h1 h2 h3=>(ha k (fun e=>?_)).trans (h.cuv.keep k cs t fz hk h1 h2 h3)⟩,h.tabs.kept hB⟩;have:=(Array.getElem?_eq_some_iff.1 hk).1;have:=h.old.1;omega
theorem Nmi.post{w wr:World}{B:Nat}{F:Fix}{S:List Pl.Src}{vv:Value}{M ext:List Nat}{s:Pl.Sr}{G:Nat}{y:Pl.Sx}{R:Nat}{z:Pl.Sx}{E:Nat}{e:Pl.En}(h:Nmi w wr B F S vv (M++ext) s G y R z E e){a:Act}{n:Int}(h6:a.tmps.getD 6 undef=.int .i64 n)(hp:a.tmps.getD 7 undef=.pointer (some ⟨R,0,none⟩))(hd:a.defers=[]) :
  bodyPost Tryz.prog Tryz.f110 (fun ed w'=>ed=.returned (.tuple #[.int .i64 n,qap z])∧(∃vv' ext',SvAt w' B F S vv' (M++ext') s)∧Cuv B F w w') .ret a wr:=by
 refine bodyPost_ret ?_ hd (⟨rfl,⟨vv,ext,h.sv⟩,h.cuv⟩:_∧_);have hl:=qbl (P:=Tryz.prog) wr R 162 (qaf z) _ (qaa h.res) Tryz.underlying162 rfl (by kernel_rfl);rw[Array.getD_eq_getD_getElem?]at h6 hp;simp only[results,Tryz.results110];simp[h6,hp,asAddr,hl];rfl
theorem qx4(S:List Pl.Src)(hS:SrcsOk S)(w:World)(B:Nat)(F:Fix)(vv:Value)(s:Pl.Sr)(n:List UInt8)(x:Pl.Sx)(h:SeAt w B F S vv s)(ho:Pl.EndsOk S.length s.ends)(hx:Pl.SxFit x)(hn:n.length≤2000)(hB:B≤w.heap.size)(ht:TabB B w)(h0:Pl.qai S n≠0)(hy:Pl.qa1 s.ends (Pl.qai S n,x)=none)(hf:s.ends.length=256) :
  Calls Tryz.prog 156 #[.pointer (some ⟨F.g,0,none⟩),.string ⟨n.toArray⟩,qap x] w fun ed w'=>ed=.returned (qap Pl.Sx.none)∧SeAt w' B F S vv { s with fault:=Pl.qqy }∧Cue B F w w':=by
 have b1:∀o o',((w.alloc o).alloc o').cell? ⟨F.g,1,none⟩=some (.map (some F.bp)):=fun o o'=>((h.alloc o).alloc o').cell 1 _ rfl;have b2:∀o o' o'',(((w.alloc o).alloc o').alloc o'').cell? ⟨F.g,1,none⟩=some (.map (some F.bp)):=fun o o' o''=>(((h.alloc o).alloc o').alloc o'').cell 1 _ rfl;have l1:=fun o o'=>((h.alloc o).alloc o').drew.place hS n (by omega);have l2:=fun o o' o''=>(((h.alloc o).alloc o').alloc o'').drew.place hS n (by omega);have ha:Pl.qai S n≤6:=by have:=Pl.qe2 S n h0;have:=hS.few;omega
 have HI:=hd (qjf (x:=x) h hB ht (Pl.qai S n));generalize hi:Pl.qai S n=i at *;have i0:((i:Int)==0)=false:=by rw[beq_eq_false_iff_ne];omega
 generalize (⟨n.toArray⟩:ByteArray)=N at l1 l2 ⊢;rw[qdw]at HI;unfold qao qaf bs at HI;unfold qap;rw[qdw];unfold qaf bs;clear h;have HY:=hd hy;clear hy;go_enter Tryz.func156,Tryz.ntmps156
 go_wp2_with fail
 go_region
 go_wp2_with fail
 clear b1 b2 l1 l2;generalize World.drew _=w3 at HI ⊢;have l3:=HI.out.se.drew.look hS ho (i,x) hx ha true;have l4:=fun o=>(HI.out.se.alloc o).drew.look hS ho (i,x) hx ha true;rw[HY.out]at l3 l4;have b1:w3.cell? ⟨F.g,2,none⟩=some (.map (some F.be)):=HI.out.se.cell 2 _ rfl;have b2:∀o,(w3.alloc o).cell? ⟨F.g,2,none⟩=some (.map (some F.be)):=fun o=>(HI.out.se.alloc o).cell 2 _ rfl;have he:=qcn HI.out.ent;have hg:=fun o=>qcn (HI.out.alloc o).ent;unfold qao bs at he hg;have hr:=fun o=>(HI.out.alloc o).res;have m0:=he 0 _ rfl;have m1:=he 1 _ rfl;have m2:=he 2 _ rfl;have m3:=he 3 _ rfl;have m4:=he 4 _ rfl;have m5:=he 5 _ rfl;have m6:=he 6 _ rfl;have m7:=he 7 _ rfl;have m8:=he 8 _ rfl;have m9:=he 9 _ rfl;have m10:=he 10 _ rfl;have n0:=fun o=>hg o 0 _ rfl;have n1:=fun o=>hg o 1 _ rfl;have n2:=fun o=>hg o 2 _ rfl;have n3:=fun o=>hg o 3 _ rfl;have n4:=fun o=>hg o 4 _ rfl;have n5:=fun o=>hg o 5 _ rfl;have n6:=fun o=>hg o 6 _ rfl;have n7:=fun o=>hg o 7 _ rfl;have n8:=fun o=>hg o 8 _ rfl;have n9:=fun o=>hg o 9 _ rfl;have n10:=fun o=>hg o 10 _ rfl;clear he hg hr;simp only[Option.getD_none,Option.isSome_none,if_true,qbi]at l3 l4;unfold qap qao at l3 l4;simp only[qdw]at l3 l4;unfold bs at l3 l4;go_region
 have H4:=(show Hid _ from(HI.out.alloc (.cells (qaf Pl.Sx.none) 162)).drew);rw[qdw]at H4;clear l3 l4 b1 b2 m0 m1 m2 m3 m4 m5 m6 m7 m8 m9 m10 n0 n1 n2 n3 n4 n5 n6 n7 n8 n9 n10;generalize World.drew _=w4 at H4 ⊢;have hl:=H4.out.se.len;rw[hf]at hl;have b1:w4.cell? ⟨F.g,2,none⟩=some (.map (some F.be)):=H4.out.se.cell 2 _ rfl;have y5:w4.cell? ⟨F.g,5,none⟩=some _:=H4.out.se.cell 5 _ rfl;have y6:w4.cell? ⟨F.g,6,none⟩=some _:=H4.out.se.cell 6 _ rfl;have y7:w4.cell? ⟨F.g,7,none⟩=some _:=H4.out.se.cell 7 _ rfl;have y8:w4.cell? ⟨F.g,8,none⟩=some _:=H4.out.se.cell 8 _ rfl;have z5:=H4.out.se.thaw 5;have z6:=H4.out.se.thaw 6;have z7:=H4.out.se.thaw 7;have z8:=H4.out.se.thaw 8;have hr:=H4.out.res;have Ha:F.g≠w.heap.size+1:=qae H4.out.se.blk hr qb1.symm;have r0:=hr.at'.mode;have r1:=hr.at'.name;have r2:=hr.at'.elem;have r3:=hr.at'.kind;have r4:=hr.at'.read;have r5:=hr.at'.ref;have r6:=hr.at'.esc;have r7:=hr.at'.hex;have r8:=hr.at'.pct;have r9:=hr.at'.far;have f0:=hr.slot.thaw 0;have f1:=hr.slot.thaw 1;have f2:=hr.slot.thaw 2;have f3:=hr.slot.thaw 3;have f4:=hr.slot.thaw 4;have f5:=hr.slot.thaw 5;have f6:=hr.slot.thaw 6;have f7:=hr.slot.thaw 7;have f8:=hr.slot.thaw 8;have f9:=hr.slot.thaw 9;clear hr;have HF:Hid (Bhi w (qda (qna w4 F.g (.int .i64 3) (.int .i64 0) (.string ⟨#[]⟩) (.int .i64 0)) (w.heap.size+1) (.int .u8 0) (.string ⟨#[]⟩) (.string ⟨#[]⟩) (.int .i64 0) (.int .i64 0) (.bool false) (.bool false) (.int .i64 0) (.int .i64 0) (.int .i64 0)) B F S vv { s with fault:=Pl.qqy } (w.heap.size+1+1) (w.heap.size+1) (i,x) Pl.Sx.none):=by
  have hf:=SeAt.fault H4.out.se Pl.qqy;exact(H4.out.turn hf.1 hf.2).set Pl.Sx.none
 unfold qda qna at HF;go_wp2_with fail
 refine HF.out.post ?_ ?_
 ·rfl
 ·rfl
end Go.Proofs.YtfkhljmiehdgmaaGreatDoor
namespace Go.Proofs.YtfkhljmiehdgmaaGreatDoor
open Go.RowKit Go.Maps
theorem q11(S:List Pl.Src)(hS:SrcsOk S)(w:World)(B:Nat)(F:Fix)(vv:Value)(M:List Nat)(s:Pl.Sr)(e:Pl.En)(h:SvAt w B F S vv M s)(hN:NumsOk S.length s.nums)(hi:e.1<S.length)(he:Pl.SxFit e.2)(hl:s.vis.length≤1000)(hB:B≤w.heap.size) :
  Calls Tryz.prog 105 #[.pointer (some ⟨F.g,0,none⟩),qf7 e] w fun ed w'=>∃g vv',ed=.returned (.tuple #[F.pv e.1,.slice (some ⟨g,0,none⟩) (Pl.qab S e.1).length (Pl.qab S e.1).length])∧SvAt w' B F S vv' (M++[g]) (Pl.begun S s e)∧Cuv B F w w'∧w.heap.size≤g:=by
 obtain⟨src,ha⟩:∃src,S[e.1]?=some src:=⟨S[e.1],List.getElem?_eq_getElem hi⟩;have hP:Pl.qab S e.1=src.parts:=by unfold Pl.qab;rw[ha]
 have Hu:=(hS.parts e.1 src ha).1;obtain⟨ao,cap,hv⟩:=qar (h.se.src.row e.1 src ha);have b0:∀o,(w.alloc o).cell? ⟨F.g,0,none⟩=some (.slice (some ⟨F.bS,0,none⟩) S.length S.length):=fun o=>(h.se.alloc o).cell 0 _ rfl;have b1:∀o,(w.alloc o).cell? ⟨F.bS,e.1*2+1,none⟩=some (.slice ao src.parts.length cap):=fun o=>((h.se.alloc o).src.slice e.1 src ha).trans (by rw[hv]);have b2:∀o o',((w.alloc o).alloc o').cell? ⟨F.g,0,none⟩=some (.slice (some ⟨F.bS,0,none⟩) S.length S.length):=fun o o'=>((h.se.alloc o).alloc o').cell 0 _ rfl;have b3:∀o o',((w.alloc o).alloc o').cell? ⟨F.bS,e.1*2+1,none⟩=some (.slice ao src.parts.length cap):=fun o o'=>(((h.se.alloc o).alloc o').src.slice e.1 src ha).trans (by rw[hv]);have b4:∀o o' o'',(((w.alloc o).alloc o').alloc o'').cell? ⟨F.g,0,none⟩=some (.slice (some ⟨F.bS,0,none⟩) S.length S.length):=fun o o' o''=>(((h.se.alloc o).alloc o').alloc o'').cell 0 _ rfl;have b5:∀o o' o'',(((w.alloc o).alloc o').alloc o'').cell? ⟨F.bS,e.1*2+1,none⟩=some (.slice ao src.parts.length cap):=fun o o' o''=>((((h.se.alloc o).alloc o').alloc o'').src.slice e.1 src ha).trans (by rw[hv]);have c1:(e.1:Int)<(S.length:Int):=by omega
 have ho:=run_make_row' (P:=Tryz.prog) 36 3 (.int .i64 0) 8 Tryz.underlying36 qy6 rfl .i64 .i64 src.parts.length (by omega) (by omega);rw[hP,qbi];unfold qao bs;have HA:Hid (Vis1 w (((w.alloc (.cells #[.int .i64 e.1,.int .u8 (e.2.st.mode:Int),.string ⟨e.2.st.name.toArray⟩,.string ⟨e.2.st.elem.toArray⟩,.int .i64 e.2.st.kind,.int .i64 (e.2.st.read:Int),.bool e.2.ma.ref,.bool e.2.st.esc,.int .i64 e.2.ma.hex,.int .i64 e.2.ma.pct,.int .i64 e.2.ma.far] 180)).alloc (.cells (madeCells #[.int .i64 0] src.parts.length) 3)).alloc (.cells #[.slice ao src.parts.length cap,.slice (some ⟨w.heap.size+1,0,none⟩) src.parts.length src.parts.length] 205)).drew B F S vv M s e src.parts.length (w.heap.size+1+1) (w.heap.size+1)):=by
  have hb:=((((Below.refl w.heap.size w).alloc (Nat.le_refl _) (.cells (qao e) 180)).alloc (by simp) (.cells (madeCells #[.int .i64 0] src.parts.length) 3)).alloc (by simp;omega) (.cells #[.slice ao src.parts.length cap,.slice (some ⟨w.heap.size+1,0,none⟩) src.parts.length src.parts.length] 205)).drew;refine⟨h.below hb,(heap_alloc_old _ _ (by simp;omega)).trans ((heap_alloc_old _ _ (by simp)).trans (heap_alloc_new w _)),?_,?_,by omega,hb⟩
  ·rw[←hv];exact qal (World.alloc (w.alloc _) _) _ _ (by simp)
  ·rw[←qqt];exact(heap_alloc_old _ _ (by simp)).trans (qal (w.alloc _) _ _ (by simp))
 have Hl:Hid (Vis1 w (((w.alloc (.cells #[.int .i64 e.1,.int .u8 (e.2.st.mode:Int),.string ⟨e.2.st.name.toArray⟩,.string ⟨e.2.st.elem.toArray⟩,.int .i64 e.2.st.kind,.int .i64 (e.2.st.read:Int),.bool e.2.ma.ref,.bool e.2.st.esc,.int .i64 e.2.ma.hex,.int .i64 e.2.ma.pct,.int .i64 e.2.ma.far] 180)).alloc (.cells #[.slice ao src.parts.length cap,.slice (some ⟨w.heap.size+1+1,0,none⟩) src.parts.length src.parts.length] 205)).alloc (.cells (madeCells #[.int .i64 0] src.parts.length) 3)).drew B F S vv M s e src.parts.length (w.heap.size+1) (w.heap.size+1+1)):=by
  have hb:=((((Below.refl w.heap.size w).alloc (Nat.le_refl _) (.cells (qao e) 180)).alloc (by simp) (.cells #[.slice ao src.parts.length cap,.slice (some ⟨w.heap.size+1+1,0,none⟩) src.parts.length src.parts.length] 205)).alloc (by simp;omega) (.cells (madeCells #[.int .i64 0] src.parts.length) 3)).drew;refine⟨h.below hb,(heap_alloc_old _ _ (by simp;omega)).trans ((heap_alloc_old _ _ (by simp)).trans (heap_alloc_new w _)),?_,?_,by omega,hb⟩
  ·rw[←hv];exact(heap_alloc_old _ _ (by simp)).trans (qal (w.alloc _) _ _ (by simp))
  ·rw[←qqt];exact qal (World.alloc (w.alloc _) _) _ _ (by simp)
 obtain⟨av,cv,Hi⟩:=qar h.row;have He:∀g∈M,g<w.heap.size:=fun g hg=>by
  obtain⟨k,hk⟩:=List.getElem?_of_mem hg;have Ho:k<s.vis.length:=by rw[←h.len];exact(List.getElem?_eq_some_iff.1 hk).1
  exact(Array.getElem?_eq_some_iff.1 (h.marks k g _ hk (List.getElem?_eq_getElem Ho)).1).1
 have HM:=hd He;have hf:=hd (fun k hk=>(h.row.lt k hk).2);have Hm:=hd hv;have Hj:=hd ha;obtain⟨i0,hp,Hp,hq,Hq⟩:=info_parts q04;have Hv:=Cuv.refl B F w;clear h He;go_enter Tryz.func105,Tryz.ntmps105
 go_wp2_with fail
 go_cut [6] (fun s6 wx=>∃gV gM,s6=.pointer (some ⟨gV,0,none⟩)∧Hid (Vis1 w wx B F S vv M s e src.parts.length gV gM))
 case first=>
  go_region
  all_goals
   go_wp2_with fail
   go_meet
   case rel=>first | exact⟨_,_,rfl,HA.out⟩ | exact⟨_,_,rfl,Hl.out⟩
 case rest=>
  obtain⟨gV,gM,rfl,H1⟩:=hcut;clear HA Hl b0 b1 b2 b3 b4 b5 ho c1;have hn:gM∉M:=fun hm=>by have:=HM.out gM hm;have:=H1.out.old.2;omega
  have hr:=hd hn;obtain⟨w5,Hb,Hn,hj,Hr⟩:=q0q H1.out.sv.drew.nums hN hS.few.2 e he (by have:=hS.few.2;omega) s.vis.length;have h5:=H1.out.sv.drew.numsPut Hn hj;have hs:B≤w5.heap.size:=by
   have h1:=H1.out.below.size;have h2:wc.drew.heap.size=wc.heap.size:=rfl;omega
  clear Hr;simp only[qbi]at Hb;unfold qao bs at Hb;have b3:wc.cell? ⟨F.g,3,none⟩=some (.map (some F.bn)):=H1.out.sv.se.cell 3 _ rfl;have b4:wc.cell? ⟨F.g,4,none⟩=some (.slice av s.vis.length cv):=(H1.out.sv.se.cell 4 _ rfl).trans (by rw[Hi];rfl);have hc:=qcn H1.out.ent;unfold qao bs at hc;have m0:=hc 0 _ rfl;have m1:=hc 1 _ rfl;have m2:=hc 2 _ rfl;have m3:=hc 3 _ rfl;have m4:=hc 4 _ rfl;have m5:=hc 5 _ rfl;have m6:=hc 6 _ rfl;have m7:=hc 7 _ rfl;have m8:=hc 8 _ rfl;have m9:=hc 9 _ rfl;have m10:=hc 10 _ rfl;have Ha:Hid (w5.heap[gV]?=some (.cells #[F.pv e.1,.slice (some ⟨gM,0,none⟩) src.parts.length src.parts.length] 205 (0,0))):=(hj.block gV (Array.getElem?_eq_some_iff.1 H1.out.vis).1 (fun x=>qak H1.out.vis H1.out.sv.nums (Option.some.inj x))).trans H1.out.vis;have Hs:Hid (w5.heap[gM]?=some (.cells (qf5 (List.replicate src.parts.length 0)).toArray 3 (0,0))):=(hj.block gM (Array.getElem?_eq_some_iff.1 H1.out.mks).1 (fun x=>qak H1.out.mks H1.out.sv.nums (Option.some.inj x))).trans H1.out.mks;clear hc hn Hn hj;have H5:=hd h5.1;have ht:=hd h5.2;clear h5;go_wp2_with fail
  go_region
  go_wp2_with fail
  clear b3 b4 m0 m1 m2 m3 m4 m5 m6 m7 m8 m9 m10 Hb;have b4:∀o,(w5.alloc o).cell? ⟨F.g,4,none⟩=some (.slice av s.vis.length cv):=fun o=>((H5.out.se.alloc o).cell 4 _ rfl).trans (by rw[Hi];rfl);have b5:w5.cell? ⟨F.g,4,none⟩=some (.slice av s.vis.length cv):=(H5.out.se.cell 4 _ rfl).trans (by rw[Hi];rfl);have v0:w5.cell? ⟨gV,0,none⟩=some (F.pv e.1):=qaa Ha.out 0 _ rfl;have v1:w5.cell? ⟨gV,1,none⟩=some (.slice (some ⟨gM,0,none⟩) src.parts.length src.parts.length):=qaa Ha.out 1 _ rfl;have v2:∀o,(w5.alloc o).cell? ⟨gV,0,none⟩=some (F.pv e.1):=fun o=>qaa ((heap_alloc_old w5 o (Array.getElem?_eq_some_iff.1 Ha.out).1).trans Ha.out) 0 _ rfl;have v3:∀o,(w5.alloc o).cell? ⟨gV,1,none⟩=some (.slice (some ⟨gM,0,none⟩) src.parts.length src.parts.length):=fun o=>qaa ((heap_alloc_old w5 o (Array.getElem?_eq_some_iff.1 Ha.out).1).trans Ha.out) 1 _ rfl;have Hf:Hid (qh7 F e.1 gM src.parts.length=[.slice ao src.parts.length cap,.slice (some ⟨gM,0,none⟩) src.parts.length src.parts.length]):=by show _=_;unfold qh7;rw[Hm.out]
  rw[Hi]at H5 hf;go_cut [] (fun wx=>∃v',Hid (SvAt wx B F S v' (M++[gM]) (Pl.begun S s e)∧Cuv B F w5 wx∧wx.heap[gV]?=w5.heap[gV]?))
  case first=>
   go_region_law (refine qbr rfl (.tmp 42) (.tmp 44) 75 rfl B 205 i0 (.agg #[.slice none 0 0,.slice none 0 0]) 2 48 Tryz.underlying75 hp Hp hq Hq qv2 (by decide) (.slice av s.vis.length cv) s.vis.length _ (by simp[Act.eval]) (World.ownsRow.alloc H5.out.row _) ⟨_,0,none⟩ 1 1 [.slice ao src.parts.length cap,.slice (some ⟨gM,0,none⟩) src.parts.length src.parts.length] (by simp[Act.eval]) rfl (qc3 _ _ _) (by simp[Value.oneCell']) (by unfold maxLen;omega) (by omega) (by simp;omega) ?_;intro v' w6 Hc Hk Ht;obtain⟨g',cap',rfl,_,_⟩:=qaj Hc (by omega);obtain⟨q4,r4⟩:=SvAt.ahead H5.out (ba _).drew Hk)
   all_goals
    go_wp2_with fail
    go_meet
    case rel=>
     rw[←Hf.out]at Hc;have Hg:=SvAt.visit H5.out (ba _).drew Hs.out (Nat.le_trans hB H1.out.old.2) hr.out Hc Hk;have hu:gV<w5.heap.size:=(Array.getElem?_eq_some_iff.1 Ha.out).1;have e9:Pl.begun S s e={ s with nums:=Pl.qa5 s.nums e s.vis.length,vis:=s.vis++[(e.1,List.replicate src.parts.length 0)] }:=by
      unfold Pl.begun;rw[show Pl.qab S e.1=src.parts by unfold Pl.qab;rw[Hj.out]]
     refine⟨.slice (some ⟨g',0,none⟩) (s.vis.length+1) cap',?_,Hg.2,?_⟩
     ·rw[e9]
      exact Hg.1
     ·refine(Below.heap_setCell _ _ _ _ (qae Ha.out H5.out.se.blk qd8)).trans ((Hk.block gV (by simp;omega) (fun q=>?_)).trans (heap_alloc_old w5 _ hu))
      have:=hf.out gV q.symm;have:=H1.out.old.1;omega
  case rest=>
   obtain⟨v',H9⟩:=hcut;have v4:=H9.out.2.2.trans Ha.out;have v0:=qaa v4 0 _ rfl;have v1:=qaa v4 1 _ rfl;clear v4;go_wp2_with fail
   go_quiet (fail)
   go_wp2_with fail
   go_ret2
   refine⟨gM,v',by rw[Hm.out];rfl,H9.out.1.below (qaz (Below.refl _ _) _),?_,H1.out.old.2⟩;exact((Cuv.of_below H1.out.below hB).trans ((Cuv.of_below (Below.refl _ _).drew (Nat.le_trans hB H1.out.below.size)).trans ht.out)).trans (H9.out.2.1.trans (Cuv.of_below (qaz (Below.refl _ _) _) (Nat.le_trans hs H9.out.2.1.below.size)))
end Go.Proofs.YtfkhljmiehdgmaaGreatDoor
namespace Go.Proofs.YtfkhljmiehdgmaaGreatDoor
open Go.RowKit
theorem qtw(s:ByteArray)(w:World)(h7:Pl.qa0 s.data.toList=7) :
  Calls Tryz.prog 149 #[.string s] w fun e w'=>e=.returned (qea ⟨7,0,[],[],[]⟩)∧Below w.heap.size w w':=by
 have HK:=hd (fun w=>h7▸qgi s w);clear h7;go_enter Tryz.func149,Tryz.ntmps149
 go_wp2_with (go_at_call 193;refine Calls.mono (HK.out _) ?_;rintro e w' ⟨rfl,rfl⟩)
 exact qoa (r:=⟨7,0,[],[],[]⟩) Tryz.results149 rfl rfl (heap_alloc_new w _) (ba _)
theorem q21(s:ByteArray)(w:World)(r:Pl.Tg)(h2:Pl.qa0 s.data.toList=2)
  (hN:∀o,Calls Tryz.prog 195 #[.int .i64 (2:Nat),.string s] (w.alloc o) fun e w'=>e=.returned (qea r)∧Below (w.alloc o).heap.size (w.alloc o) w') :
  Calls Tryz.prog 149 #[.string s] w fun e w'=>e=.returned (qea r)∧Below w.heap.size w w':=by
 have HK:=hd (fun w=>h2▸qgi s w);have HN:=hd hN;have HR:Hid (#[Value.int .i64 r.kind,.int .i64 r.slip,bs r.name,bs r.op,bs r.cl]=qlv r):=rfl;clear h2 hN;unfold qea at HN;unfold bs at HN HR;generalize (r.kind:Int)=r0 at HN HR;generalize (r.slip:Int)=r1 at HN HR;generalize (⟨r.name.toArray⟩:ByteArray)=r2 at HN HR;generalize (⟨r.op.toArray⟩:ByteArray)=r3 at HN HR;generalize (⟨r.cl.toArray⟩:ByteArray)=r4 at HN HR;go_enter Tryz.func149,Tryz.ntmps149
 go_wp2_with (first
   | (go_at_call 193;refine Calls.mono (HK.out _) ?_;rintro e w' ⟨rfl,rfl⟩)
   | (go_at_call 195;refine Calls.mono (HN.out _) ?_;rintro e w' ⟨rfl,hb⟩;have hS:=(qd3 w).next hb;obtain⟨⟨k0,k1,k2,k3,k4⟩,f0,f1,f2,f3,f4⟩:=hS.facts;have HS:=hd hS;clear hb hS))
 exact qgh (w0:=w) r Tryz.results149 rfl rfl HS.out HR.out
theorem q20(s:ByteArray)(w:World)(r:Pl.Tg)(K:Nat)(L:ByteArray)(hk:Pl.qa0 s.data.toList=K)(h2:K≠2)(h7:K≠7)(h8:K≠8)(hs:s.size≠0)(hm:qay w)
  (hT:∀w,Calls Tryz.prog 196 #[.string (s.extract 1 s.size),.string ⟨#[9,10,12,13,32]⟩] w fun e w'=>e=.returned (.string L)∧Below w.heap.size w w')
  (hN:∀w,qay w→Calls Tryz.prog 195 #[.int .i64 K,.string L] w fun e w'=>e=.returned (qea r)∧Below w.heap.size w w') :
  Calls Tryz.prog 149 #[.string s] w fun e w'=>e=.returned (qea r)∧Below w.heap.size w w':=by
 have HK:=hd (fun w=>hk▸qgi s w);have HN:=hd hN;have HT:=hd hT;have HM:=hd hm;have HR:Hid (#[Value.int .i64 r.kind,.int .i64 r.slip,bs r.name,bs r.op,bs r.cl]=qlv r):=rfl;have c1:(1:Int)≤(s.size:Int):=by omega
 have e7:¬(K:Int)=7:=by omega
 have e8:¬(K:Int)=8:=by omega
 have e2:¬(K:Int)=2:=by omega
 clear hk h2 hN hT hm h7 h8 hs;unfold qea at HN;unfold bs at HN HR;generalize (r.kind:Int)=r0 at HN HR;generalize (r.slip:Int)=r1 at HN HR;generalize (⟨r.name.toArray⟩:ByteArray)=r2 at HN HR;generalize (⟨r.op.toArray⟩:ByteArray)=r3 at HN HR;generalize (⟨r.cl.toArray⟩:ByteArray)=r4 at HN HR;go_enter Tryz.func149,Tryz.ntmps149
 go_wp2_with (first
   | (go_at_call 193;refine Calls.mono (HK.out _) ?_;rintro e w' ⟨rfl,rfl⟩)
   | (go_at_call 196;refine Calls.mono (HT.out _) ?_;rintro e w' ⟨rfl,hb⟩;have ha:=(show Hid _ from(qd3 w).next hb);clear hb)
   | (go_at_call 195;refine Calls.mono (HN.out _ (qay.below HM.out (TgSlot.below ha.out))) ?_;rintro e w' ⟨rfl,hb⟩;have hS:=TgSlot.next ha.out hb;obtain⟨⟨k0,k1,k2,k3,k4⟩,f0,f1,f2,f3,f4⟩:=hS.facts;have HS:=hd hS;clear hb hS))
 exact qgh (w0:=w) r Tryz.results149 rfl rfl HS.out HR.out
theorem q0g(s:ByteArray)(w:World)(hs:s.size≤100000)(hm:qay w)(h8:Pl.qa0 s.data.toList≠8) :
  Calls Tryz.prog 149 #[.string s] w fun e w'=>e=.returned (qea (Pl.qa9 s.data.toList))∧Below w.heap.size w w':=by
 by_cases h7:Pl.qa0 s.data.toList=7
 ·have HV:Pl.qa9 s.data.toList=⟨7,0,[],[],[]⟩:=by unfold Pl.qa9;rw[if_pos h7]
  rw[HV];exact qtw s w h7
 by_cases h2:Pl.qa0 s.data.toList=2
 ·have HV:Pl.qa9 s.data.toList=Pl.qb9 2 s.data.toList:=by unfold Pl.qa9;rw[if_neg h7,if_neg h8,if_pos h2]
  rw[HV];exact q21 s w _ h2 fun o=>qob 2 s (w.alloc o) hs (hm.below (ba _))
 have ha:s.size≠0:=fun q=>h2 (by
  have:s.data.toList=[]:=by
   apply List.eq_nil_of_length_eq_zero;simpa using q
  rw[this];rfl)
 have HV:Pl.qa9 s.data.toList=Pl.qb9 (Pl.qa0 s.data.toList) (Lib.trimLeftS (s.data.toList.drop 1) Pl.qah):=by unfold Pl.qa9;rw[if_neg h7,if_neg h8,if_neg h2]
 rw[HV];have hx:(s.extract 1 s.size).data.toList=s.data.toList.drop 1:=by
  rw[Lib.extract_eq];show List.take _ _=_;exact List.take_of_length_le (by simp)
 have Ha:(Lib.trimLeftS (s.data.toList.drop 1) Pl.qah).length≤100000:=by
  have:=Pl.qh9 (s.data.toList.drop 1) Pl.qah;have h3:s.data.toList.length=s.size:=by simp
  rw[List.length_drop]at this;omega
 refine q20 s w _ _ ⟨(Lib.trimLeftS (s.data.toList.drop 1) Pl.qah).toArray⟩ rfl h2 h7 h8 ha hm (fun w=>?_) (fun w hm=>?_)
 ·have:=qn7 (s.extract 1 s.size) w
  rw[hx]at this;exact this
 ·exact qob _ ⟨(Lib.trimLeftS (s.data.toList.drop 1) Pl.qah).toArray⟩ w (by simpa [ByteArray.size] using Ha) hm
theorem qpm{m:Nat}{b:UInt8}(hm:m≤33)(h:Pl.tgt m b=-2):m=2∨m=24∨m=31:=by
 have key:∀k:Fin 34,(k.val=2∨k.val=24∨k.val=31)∨∀r∈Pl.qe1 k.val,¬r.2=-2:=by decide
 rcases key ⟨m,by omega⟩with q | q
 ·exact q
 ·exfalso
  unfold Pl.tgt at h;split at h
  ·next r hr=>exact q r (List.mem_of_find?_eq_some hr) h
  ·omega
theorem q2k(p:Pl.Sp)(m:Nat)(b:UInt8)(w:World)(Hc:p.mode=m)(hm:m≤33)(ht:p.tag.length≤1000)(ha:p.attr.length≤1000)(Hg:p.run.length≤2000000000000000000)
  (hR:Pl.tgt m b=-2→∀w,Calls Tryz.prog 123 #[qat ⟨Pl.qa8 m,p.tag,p.attr,p.inside,[],p.far⟩,.int .u8 b.toNat] w fun e w'=>e=.returned (qat ((Pl.Sp.mk (Pl.qa8 m) p.tag p.attr p.inside [] p.far).step1 (Pl.qa8 m) b))∧Below w.heap.size w w') :
  Calls Tryz.prog 123 #[qat p,.int .u8 b.toNat] w fun e w'=>e=.returned (qat (p.step m b))∧Below w.heap.size w w':=by
 have He:=fun w=>qzy m b w hm;have hN:=fun w=>qwe p m b (Pl.tgt m b) w Hc ht ha;have hf:(p.named m b (Pl.tgt m b)).run=[]∧(p.named m b (Pl.tgt m b)).far=0∧(p.named m b (Pl.tgt m b)).mode=0:=by
  unfold Pl.Sp.named
  repeat' split
  all_goals exact⟨rfl,rfl,rfl⟩
 have hV:p.step m b=if Pl.tgt m b=-2 then(Pl.Sp.mk (Pl.qa8 m) p.tag p.attr p.inside [] p.far).step1 (Pl.qa8 m) b else if Pl.tgt m b=-1 then(if Pl.qav p.tag=1 then Pl.Sp.start else⟨Pl.qav p.tag,p.tag,[],[],[],0⟩)
   else⟨Pl.tgt m b,(p.named m b (Pl.tgt m b)).tag,(p.named m b (Pl.tgt m b)).attr,(p.named m b (Pl.tgt m b)).inside,if(Pl.tgt m b==m && Pl.runs (Pl.tgt m b))=true then Pl.kept (Pl.tgt m b) (p.run++[b]) else[],if(Pl.tgt m b==8 || Pl.tgt m b==9)=true then(if(Pl.tgt m b==m)=true then Pl.qcq p.far b else 2) else 0⟩:=by
  unfold Pl.Sp.step;rw[show p.step1 m b=_ from rfl];unfold Pl.Sp.step1;simp only[Bool.and_eq_true,Bool.or_eq_true,beq_iff_eq]
 have he:=qpm (b:=b) hm;generalize p.step m b=V at hV ⊢;generalize Pl.tgt m b=T at He hN hf hV hR he;generalize p.named m b T=N at hN hf hV;obtain⟨nm,nt,na,ni,nr,nf⟩:=N;obtain⟨rfl,rfl,rfl⟩:=hf;generalize hQ:(fun(e:Ending) (w':World)=>e=.returned (qat V)∧Below w.heap.size w w')=Q;have H0:=hd (Sp2.start w p);have HF:Hid (∀(wx:World) (q:Pl.Sp) (a:Act),wx.heap[w.heap.size+1]?=some (.cells (qag ⟨0,[],[],[],[],0⟩) 94 (0,0))→Below w.heap.size w wx→V=q→a.tmps.getD 4 undef=.pointer (some ⟨w.heap.size+1,0,none⟩)→a.defers=[]→bodyPost Tryz.prog Tryz.f123 Q .ret a (set6 wx (w.heap.size+1) (.int .i64 q.mode) (.string ⟨q.tag.toArray⟩) (.string ⟨q.attr.toArray⟩) (.string ⟨q.inside.toArray⟩) (.string ⟨q.run.toArray⟩) (.int .i64 q.far))):=by
  intro wx q a h hl e h4 hd;refine qfi Tryz.results123 (w.heap.size+1) _ Tryz.underlying94 rfl (by kernel_rfl) h4 ⟨_,_,h,rfl⟩ hd _ _ _ _ _ _ ?_;rw[←hQ,e];exact⟨rfl,qbx hl (by omega) _ _ _ _ _ _⟩
 clear hQ;have HV:=hd hV;have HP:=(show Hid (p.mode=m) from Hc);have Hf:=hd He;have hi:=hd Hg;have hz:(ByteArray.mk p.run.toArray).size=p.run.length:=by simp[ByteArray.size]
 unfold qat at hN ⊢;unfold qag at H0 hN ⊢;rw[Hc]at H0 hN ⊢;simp only at hN;have HN:=hd hN;clear hV Hc He hN ht ha;go_enter Tryz.func123,Tryz.ntmps123
 go_upto_region 2 with (go_at_call 170;refine(Hf.out _).mono ?_;rintro e w1 ⟨rfl,hg⟩;have H1:=hd (H0.out.kept hg);clear hg)
 clear H0 Hf;obtain⟨q0,q1,q2,q3,q4,q5⟩:=qau H1.out.sp;rw[HP.out]at q0;by_cases t2:T=-2
 ·have Ha:Hid (V=(Pl.Sp.mk (Pl.qa8 m) p.tag p.attr p.inside [] p.far).step1 (Pl.qa8 m) b):=HV.out.trans (if_pos t2)
  have hb:=hR t2;generalize (Pl.Sp.mk (Pl.qa8 m) p.tag p.attr p.inside [] p.far).step1 (Pl.qa8 m) b=N at Ha hb;obtain⟨g0,_,_,_,g4,_⟩:=qdx H1.out.sp;have Hi:=he t2;have HX:=hd (fun a:Int=>Sp2.put (q:=⟨a,p.tag,p.attr,p.inside,[],p.far⟩) (Sp2.put (q:=⟨a,p.tag,p.attr,p.inside,p.run,p.far⟩) H1.out 0 (.int .i64 a) (by rfl)) 4 (.string ⟨#[]⟩) (by rfl));subst t2;clear hR he HV;unfold qat qag at hb;simp only at hb;rcases Hi with rfl | rfl | rfl
  all_goals
   have hj:=hd hb;clear hb;go_wp2_with (go_at_call 123;refine(hj.out _).mono ?_;rintro e w3 ⟨rfl,Hb⟩;have H3:=(show Hid _ from(HX.out _).kept Hb);clear Hb;obtain⟨r0,r1,r2,r3,r4,r5⟩:=qau H3.out.res;obtain⟨f0,f1,f2,f3,f4,f5⟩:=qdx H3.out.res)
   exact HF.out _ N _ H3.out.res H3.out.low Ha.out rfl rfl
 have b2:(T==-2)=false:=beq_eq_false_iff_ne.2 t2;clear hR he;by_cases t1:T=-1
 ·have Ha:Hid (V=if Pl.qav p.tag=1 then Pl.Sp.start else⟨Pl.qav p.tag,p.tag,[],[],[],0⟩):=HV.out.trans ((if_neg t2).trans (if_pos t1))
  have hC:=fun w=>q3o p.tag w;generalize Pl.qav p.tag=C at Ha hC;have HC:=hd hC;subst t1;clear HV hC;go_upto_region 13 with (go_at_call 171;refine(HC.out _).mono ?_;rintro e w2 ⟨rfl,hc⟩;have H2:=hd (H1.out.kept hc);clear hc)
  by_cases c1:C=1
  ·subst c1
   have Hb:=(Below.refl w2.heap.size w2).alloc (Nat.le_refl _) (.cells #[.int .i64 1,.string ⟨#[]⟩,.string ⟨#[]⟩,.string ⟨#[]⟩,.string ⟨#[]⟩,.int .i64 0] 94);have H3:=hd (H2.out.kept Hb);clear Hb;obtain⟨r0,r1,r2,r3,r4,r5⟩:=qau H3.out.res;obtain⟨f0,f1,f2,f3,f4,f5⟩:=qdx H3.out.res;go_wp2_with (go_at_call 34;refine(qia _).mono ?_;rintro e w3 ⟨rfl,rfl⟩)
   exact HF.out _ ⟨1,[],[],[],[],0⟩ _ H3.out.res H3.out.low Ha.out rfl rfl
  ·have c1':((C:Int)==1)=false:=beq_eq_false_iff_ne.2 (by omega)
   have Hj:Hid (V=⟨C,p.tag,[],[],[],0⟩):=Ha.out.trans (if_neg c1);obtain⟨_,q1,_,_,_,_⟩:=qau H2.out.sp;obtain⟨r0,r1,r2,r3,r4,r5⟩:=qau H2.out.res;obtain⟨f0,f1,f2,f3,f4,f5⟩:=qdx H2.out.res;go_wp2_with fail
   exact HF.out _ ⟨C,p.tag,[],[],[],0⟩ _ H2.out.res H2.out.low Hj.out rfl rfl
 have b1:(T==-1)=false:=beq_eq_false_iff_ne.2 t1;have Ha:Hid (V=⟨T,nt,na,ni,if(T==m && Pl.runs T)=true then Pl.kept T (p.run++[b]) else[],if(T==8 || T==9)=true then(if(T==m)=true then Pl.qcq p.far b else 2) else 0⟩):=HV.out.trans ((if_neg t2).trans (if_neg t1));clear HV t1 t2;go_upto_region 17 with (go_at_call 172;refine(HN.out _).mono ?_;rintro e w2 ⟨rfl,hc⟩;have H2:=hd (H1.out.kept hc);clear hc)
 have H3:=hd (H2.out.more ⟨0,nt,na,ni,[],0⟩);unfold qag at H3;generalize w2.heap.size=g at H3 ⊢;generalize World.alloc w2 _=w3 at H3 ⊢;clear H2 H1 HN q0 q1 q2 q3 q4 q5;have t0:=qaa H3.out.tt 0 _ rfl;have g0:=frozen_of_row _ _ 0 _ _ H3.out.tt;go_upto_region 18 with fail
 have H4:Hid (Sp3 w (w3.setCell ⟨g,0,none⟩ (.int .i64 T)) g p ⟨T,nt,na,ni,[],0⟩):=H3.out.put 0 _ (by rfl);generalize World.setCell w3 _ _=w4 at H4 ⊢;clear H3 t0 g0;have q0:=qaa H4.out.sp 0 _ rfl;rw[HP.out]at q0;go_cut [64] (fun s wx=>s=.bool (T==m && Pl.runs T)∧wx=w4)
 case first=>
  cases e0:T==(m:Int)
  ·go_wp2_with fail
   go_meet
   exact⟨by rw[e0];rfl,rfl⟩
  cases e1:T==1
  rotate_left
  ·go_wp2_with fail
   go_meet
   exact⟨by rw[e0];unfold Pl.runs;rw[e1];rfl,rfl⟩
  cases e8:T==8
  rotate_left
  ·go_wp2_with fail
   go_meet
   exact⟨by rw[e0];unfold Pl.runs;rw[e1,e8];rfl,rfl⟩
  cases e9:T==9
  rotate_left
  ·go_wp2_with fail
   go_meet
   exact⟨by rw[e0];unfold Pl.runs;rw[e1,e8,e9];rfl,rfl⟩
  go_wp2_with (go_at_call 69;refine(qhc T _).mono ?_;rintro e w' ⟨rfl,rfl⟩)
  go_meet
  exact⟨by rw[e0];unfold Pl.runs;rw[e1,e8,e9];rfl,rfl⟩
 case rest=>
 obtain⟨rfl,rfl⟩:=hcut;generalize (T==(m:Int) && Pl.runs T)=X at Ha ⊢;go_upto_if 64 with fail
 go_cut [] (fun wx=>Hid (Sp3 w wx g p ⟨T,nt,na,ni,if X=true then Pl.kept T (p.run++[b]) else[],0⟩))
 case first=>
  cases X
  ·go_wp2_with fail
   go_meet
   exact H4
  have q4:=fun o=>qaa (H4.out.alloc o).sp 4 _ rfl;have q4':=qaa H4.out.sp 4 _ rfl;have t4:=fun o=>qaa (H4.out.alloc o).tt 4 _ rfl;have g4:=fun o=>frozen_of_row _ _ 4 _ _ (H4.out.alloc o).tt;have cv:=qie b wc _ rfl;go_wp2_with (go_at_call 169;refine(qyz T p.run b _ hi.out).mono ?_;rintro e w' ⟨rfl,rfl⟩)
  go_meet
  exact(H4.out.alloc _).put 4 _ (by rfl)
 case rest=>
 have H5:=hd hcut.out;clear hcut H4 q0;have q0:=qaa H5.out.sp 0 _ rfl;have q5:=qaa H5.out.sp 5 _ rfl;rw[HP.out]at q0;generalize (if X=true then Pl.kept T (p.run++[b]) else[])=R at Ha H5;go_upto_region 20 with fail
 go_cut [79] (fun s wx=>s=.bool (T==8 || T==9)∧wx=wc)
 case first=>
  cases e8:T==8<;>cases e9:T==9
  all_goals
   go_wp2_with fail
   go_meet
   exact⟨by rw[e8,e9];rfl,rfl⟩
 case rest=>
 obtain⟨rfl,rfl⟩:=hcut;generalize (T==8 || T==9)=Y at Ha ⊢;go_upto_if 79 with fail
 go_cut [] (fun wx=>Hid (Sp3 w wx g p ⟨T,nt,na,ni,R,if Y=true then(if(T==m)=true then Pl.qcq p.far b else 2) else 0⟩))
 case first=>
  cases Y
  ·go_wp2_with fail
   go_meet
   exact H5
  have t5:=qaa H5.out.tt 5 _ rfl;have g5:=frozen_of_row _ _ 5 _ _ H5.out.tt;cases e0:T==(m:Int)
  ·go_wp2_with fail
   go_meet
   rw[e0,if_pos trivial,if_neg (by decide)];exact H5.out.put 5 _ (by rfl)
  go_upto_region 22 with fail
  have H6:Hid (Sp3 w (wc.setCell ⟨g,5,none⟩ (.int .i64 2)) g p ⟨T,nt,na,ni,R,2⟩):=H5.out.put 5 _ (by rfl);generalize World.setCell wc _ _=w6 at H6 ⊢;clear q0 q5 t5 g5;obtain⟨q0,q1,q2,q3,q4,q5⟩:=qau H6.out.sp;rw[HP.out]at q0;have t5:=qaa H6.out.tt 5 _ rfl;have g5:=frozen_of_row _ _ 5 _ _ H6.out.tt;go_wp2_with (go_at_call 173;refine(qr0 p.far b _).mono ?_;rintro e w' ⟨rfl,rfl⟩)
  go_meet
  rw[e0,if_pos trivial,if_pos rfl];exact H6.out.put 5 _ (by rfl)
 case rest=>
 have H6:=hd hcut.out;clear hcut H5 q0 q5;generalize (if Y=true then(if(T==m)=true then Pl.qcq p.far b else 2) else 0)=Z at Ha H6;obtain⟨t0,t1,t2,t3,t4,t5⟩:=qau H6.out.tt;obtain⟨r0,r1,r2,r3,r4,r5⟩:=qau H6.out.res;obtain⟨f0,f1,f2,f3,f4,f5⟩:=qdx H6.out.res;go_wp2_with fail
 exact HF.out _ ⟨T,nt,na,ni,R,Z⟩ _ H6.out.res H6.out.low Ha.out rfl rfl
theorem qqc(p:Pl.Sp)(m:Nat)(b:UInt8)(w:World)(hb:p.mode=m)(hm:m≤33)(ht:p.tag.length≤1000)(ha:p.attr.length≤1000)(Hb:p.run.length≤2000000000000000000) :
  Calls Tryz.prog 123 #[qat p,.int .u8 b.toNat] w fun e w'=>e=.returned (qat (p.step m b))∧Below w.heap.size w w':=by
 refine q2k p m b w hb hm ht ha Hb fun _ w=>?_;have Ha:∀m,Pl.qa8 m≤33:=fun m=>by
  unfold Pl.qa8
  repeat' split
  all_goals omega
 have hn:¬Pl.tgt (Pl.qa8 m) b=-2:=fun q=>by
  have:=qpm (Ha m) q
  revert this
  unfold Pl.qa8
  repeat' split
  all_goals omega
 have:=q2k ⟨Pl.qa8 m,p.tag,p.attr,p.inside,[],p.far⟩ (Pl.qa8 m) b w rfl (Ha m) ht ha (by simp) fun q=>absurd q hn;unfold Pl.Sp.step at this
 rwa [if_neg hn]at this
end Go.Proofs.YtfkhljmiehdgmaaGreatDoor

/-
  Steps of the proof.
-/
import Derived.Test.YtfkhljmiehdgmaaGreatDoorCmBH
set_option maxRecDepth 100000
set_option maxHeartbeats 40000000
namespace Go.Proofs.YtfkhljmiehdgmaaGreatDoor
open Go.RowKit
theorem q5y(HB:qg7)(S:List Pl.Src)(hS:SrcsOk S)(k:Nat)(HT:ThrC S k)(w:World)(B:Nat)(F:Fix)(vv:Value)(M:List Nat)(s:Pl.Sr)(n:List UInt8)(x:Pl.Sx)(h:SvAt w B F S vv M s)(hI:Pl.Inv S s)(h1:1≤s.nums.length)(hk:258≤s.nums.length+k)(hx:Pl.SxFit x)(hn:n.length≤2000)(ht:TabB B w) :
  Calls Tryz.prog 110 #[.pointer (some ⟨F.g,0,none⟩),.string ⟨n.toArray⟩,qap x] w fun ed w'=>ed=.returned (.tuple #[.int .i64 ((Pl.nmV S k s n x).2.1:Nat),qap (Pl.nmV S k s n x).2.2])∧(∃vv' ext,SvAt w' B F S vv' (M++ext) (Pl.nmV S k s n x).1)∧Cuv B F w w':=by
 have hB:B≤w.heap.size:=by
  have q1:=h.se.le.1;have q2:=(lta h.se.blk);omega
 have Ha:=fun(w5:World) (h5:SvAt w5 B F S vv M s) (Ho:TabB B w5)=>behC HB S hS 257 w5 B F vv s n x h5.se hI.ends (by omega) hx hn Ho;obtain⟨g1,g2⟩:=Pl.qga S 257 0 (by omega) s n x hI.ends (Nat.zero_le _) hx;obtain⟨i1,i2⟩:=hI.grew g1;have Hi:=fun q0 qf qz=>Pl.qys (n:=n) hI h1 hx q0 qf qz
 have hm:Pl.nmV S k s n x=if Pl.qai S n=0∨(Pl.behV S 257 s n x).1.fault.code≠0 then((Pl.behV S 257 s n x).1,0,(Pl.behV S 257 s n x).2)
  else if Pl.qgz (Pl.behV S 257 s n x).1 (Pl.qai S n,x)=0 then(Pl.qfq S k (Pl.behV S 257 s n x).1 (Pl.qai S n,x),Pl.qgz (Pl.qfq S k (Pl.behV S 257 s n x).1 (Pl.qai S n,x)) (Pl.qai S n,x),(Pl.behV S 257 s n x).2)
  else((Pl.behV S 257 s n x).1,Pl.qgz (Pl.behV S 257 s n x).1 (Pl.qai S n,x),(Pl.behV S 257 s n x).2):=rfl
 generalize Pl.nmV S k s n x=res at hm ⊢;generalize Pl.behV S 257 s n x=r at *;obtain⟨s1,y⟩:=r;simp only at Ha g1 g2 i1 i2 Hi hm;have hj:∀(w5:World) (B:Nat) (F:Fix) (vv:Value),SeAt w5 B F S vv s1→(Instr.lookup 174 (.map (some F.bp)) (.string ⟨n.toArray⟩) false).run Tryz.prog w5=.ok (.int .i64 (Pl.qai S n:Nat)) w5:=fun w5 B F vv h5=>h5.place hS n (by omega);have Hp:Pl.qai S n≤6:=by
  by_cases q:Pl.qai S n=0
  ·omega
  ·have:=Pl.qe2 S n q;have:=hS.few;omega
 have Hs:=fun(w5:World) (vv5:Value) (M5:List Nat) (h5:SvAt w5 B F S vv5 M5 s1) (hp:Pl.Pre S s1 (Pl.qai S n,x)) (Ho:TabB B w5)=>HT w5 B F vv5 M5 s1 (Pl.qai S n,x) h5 hp (by rw[g1.nums];omega) Ho;have Hk:=fun hp=>Pl.qrx S k s1 (Pl.qai S n,x) hp (by rw[g1.nums];omega);generalize hi:Pl.qai S n=i at *;generalize (⟨n.toArray⟩:ByteArray)=N at Ha hj ⊢;unfold qap qaf bs at Ha;have hv:=hd Ha;have Hg:=hd hm;have Hb:=hd Hi;have hc:=hd Hs;have Hc:=hd Hk;have Hm:=hd i1;have HS:=hd h;have Ht:=hd hj;have HG:=hd g1;have Hv:Hid (∀o o' w2,SeAt w2 B F S vv s1→Cue B F ((w.alloc o).alloc o') w2→SvAt w2 B F S vv M s1∧Cuv B F w w2∧TabB B w2):=fun o o' w2 Hn He=>by
  have q1:=((h.alloc o).alloc o');have q2:Below w.heap.size w ((w.alloc o).alloc o'):=(ba _).alloc (by simp) _;exact⟨q1.turn Hn He g1.nums g1.vis,(Cuv.of_below q2 hB).trans (Cuv.of_cue q1.se He),(ht.kept (q2.mono hB)).kept He.below⟩
 clear h Ha hm Hi Hs Hk i1 i2 g1 hj hI hk h1;unfold qap;unfold qaf bs;go_enter Tryz.func110,Tryz.ntmps110
 go_wp2_with (go_at_call 156;refine(hv.out _ ((HS.out.alloc _).alloc _) (ht.kept (((Below.refl _ _).alloc hB _).alloc (by simp;omega) _))).mono ?_;rintro e w2 ⟨rfl,Hn,He⟩)
 have H8:=hd (Hv.out _ _ w2 Hn He);have hu:StIn w2 w.heap.size x:=(He.keep w.heap.size (by simp;omega) (fun q=>by have:=(lta HS.out.se.blk);omega) (fun q=>by have:=HS.out.se.ends.lt;omega)).trans ((heap_alloc_old _ _ (by simp)).trans (heap_alloc_new w _));have Hq:StIn w2 (w.heap.size+1) Pl.Sx.none:=(He.keep (w.heap.size+1) (by simp) (fun q=>by have:=(lta HS.out.se.blk);omega) (fun q=>by have:=HS.out.se.ends.lt;omega)).trans (qal (w.alloc _) _ _ (by simp));have Hr:w.heap.size+1<w2.heap.size:=Hq.lt;have H3:Hid (SvAt (w2.alloc (.cells (qaf y) 162)) B F S vv M s1∧StIn (w2.alloc (.cells (qaf y) 162)) w2.heap.size y∧StIn (w2.alloc (.cells (qaf y) 162)) (w.heap.size+1) Pl.Sx.none∧StIn (w2.alloc (.cells (qaf y) 162)) w.heap.size x∧Cuv B F w (w2.alloc (.cells (qaf y) 162))∧TabB B (w2.alloc (.cells (qaf y) 162))):=by
  have hb:=(Below.refl w2.heap.size w2).alloc (Nat.le_refl _) (.cells (qaf y) 162);have hl:B≤w2.heap.size:=Nat.le_trans hB H8.out.2.1.below.size;exact⟨H8.out.1.alloc _,heap_alloc_new w2 _,Hq.below hb,hu.below hb,H8.out.2.1.trans (Cuv.of_below hb hl),H8.out.2.2.kept (hb.mono hl)⟩
 have hw:w2.heap.size≠w.heap.size+1:=by omega
 unfold qaf bs at H3;clear Hn He H8 hu Hq Hr;generalize hG:w2.heap.size=G at *;generalize World.alloc w2 _=w3 at H3 ⊢;clear hG;have b1:w3.cell? ⟨F.g,1,none⟩=some (.map (some F.bp)):=H3.out.1.se.cell 1 _ rfl;have b2:∀o,(w3.alloc o).cell? ⟨F.g,1,none⟩=some (.map (some F.bp)):=fun o=>(H3.out.1.se.alloc o).cell 1 _ rfl;have l1:=Ht.out w3.drew B F vv H3.out.1.se.drew;have l2:=fun o=>Ht.out (w3.alloc o).drew B F vv (H3.out.1.se.alloc o).drew;have hq:=H3.out.2.2.2.1.at';have Hf:=fun o=>(H3.out.2.2.2.1.below (ba o)).at';have q0:=hq.mode;have q1:=hq.name;have q2:=hq.elem;have q3:=hq.kind;have q4:=hq.read;have q5:=hq.ref;have q6:=hq.esc;have q7:=hq.hex;have q8:=hq.pct;have q9:=hq.far;have g0:=fun o=>(Hf o).mode;have g1:=fun o=>(Hf o).name;have g2:=fun o=>(Hf o).elem;have g3:=fun o=>(Hf o).kind;have g4:=fun o=>(Hf o).read;have g5:=fun o=>(Hf o).ref;have g6:=fun o=>(Hf o).esc;have g7:=fun o=>(Hf o).hex;have g8:=fun o=>(Hf o).pct;have g9:=fun o=>(Hf o).far;clear hq Hf;go_region
 clear b1 b2 l1 l2 q0 q1 q2 q3 q4 q5 q6 q7 q8 q9 g0 g1 g2 g3 g4 g5 g6 g7 g8 g9;have H4:Hid (Nmi w ((w3.alloc (.cells (qao (i,x)) 180)).drew) B F S vv M s1 G y (w.heap.size+1) Pl.Sx.none w3.heap.size (i,x)):=by
  have hb:=((Below.refl w3.heap.size w3).alloc (Nat.le_refl _) (.cells (qao (i,x)) 180)).drew;have hl:B≤w3.heap.size:=Nat.le_trans hB H3.out.2.2.2.2.1.below.size;exact⟨H3.out.1.below hb,H3.out.2.1.below hb,H3.out.2.2.1.below hb,hw,heap_alloc_new w3 _,⟨by omega,hB⟩,H3.out.2.2.2.2.1.trans (Cuv.of_below hb hl),H3.out.2.2.2.2.2.kept (hb.mono hl)⟩
 unfold qao bs at H4;clear H3;generalize hE:w3.heap.size=E at *;generalize World.drew _=w4 at H4 ⊢;clear hE;have he:=qcn H4.out.ent;unfold qao bs at he;have hf:=H4.out.end'.at';have hr:=H4.out.res;have m0:=he 0 _ rfl;have m1:=he 1 _ rfl;have m2:=he 2 _ rfl;have m3:=he 3 _ rfl;have m4:=he 4 _ rfl;have m5:=he 5 _ rfl;have m6:=he 6 _ rfl;have m7:=he 7 _ rfl;have m8:=he 8 _ rfl;have m9:=he 9 _ rfl;have m10:=he 10 _ rfl;have q0:=hf.mode;have q1:=hf.name;have q2:=hf.elem;have q3:=hf.kind;have q4:=hf.read;have q5:=hf.ref;have q6:=hf.esc;have q7:=hf.hex;have q8:=hf.pct;have q9:=hf.far;have r0:=hr.at'.mode;have r1:=hr.at'.name;have r2:=hr.at'.elem;have r3:=hr.at'.kind;have r4:=hr.at'.read;have r5:=hr.at'.ref;have r6:=hr.at'.esc;have r7:=hr.at'.hex;have r8:=hr.at'.pct;have r9:=hr.at'.far;have f0:=hr.slot.thaw 0;have f1:=hr.slot.thaw 1;have f2:=hr.slot.thaw 2;have f3:=hr.slot.thaw 3;have f4:=hr.slot.thaw 4;have f5:=hr.slot.thaw 5;have f6:=hr.slot.thaw 6;have f7:=hr.slot.thaw 7;have f8:=hr.slot.thaw 8;have f9:=hr.slot.thaw 9;clear he hf hr;have b5:w4.cell? ⟨F.g,5,none⟩=some (.int .i64 (s1.fault.code:Nat)):=H4.out.sv.se.cell 5 _ rfl;by_cases hA:i=0
 ·have hR:res=(s1,0,y):=by rw[Hg.out,if_pos (.inl hA)]
  have i0:((i:Int)==0)=true:=by rw[beq_iff_eq];omega
  have HF:=(show Hid _ from(H4.out.set y).drew);clear Hg Hb hc Hc;subst hR;unfold qda at HF;go_wp2_with fail
  go_region
  go_wp2_with fail
  refine Nmi.post (ext:=[]) (by rw[List.append_nil];exact HF.out) ?_ ?_ ?_
  all_goals rfl
 have i0:((i:Int)==0)=false:=by rw[beq_eq_false_iff_ne];omega
 by_cases Hw:s1.fault.code≠0
 ·have hR:res=(s1,0,y):=by rw[Hg.out,if_pos (.inr Hw)]
  have f0:((s1.fault.code:Int)==0)=false:=by rw[beq_eq_false_iff_ne];omega
  have HF:=(show Hid _ from(H4.out.set y).drew);clear Hg Hb hc Hc;subst hR;generalize (s1.fault.code:Int)=fc at b5 f0;unfold qda at HF;go_wp2_with fail
  go_region
  go_wp2_with fail
  refine Nmi.post (ext:=[]) (by rw[List.append_nil];exact HF.out) ?_ ?_ ?_
  all_goals rfl
 have ho:s1.fault.code=0:=by omega
 rw[ho]at b5;have b3:w4.cell? ⟨F.g,3,none⟩=some (.map (some F.bn)):=H4.out.sv.se.cell 3 _ rfl;have l5:=qor H4.out.sv.drew.nums ⟨Hm.out.key,Hm.out.one⟩ hS.few.2 (i,x) hx Hp;simp only[qbi]at l5;unfold qao bs at l5;simp only at l5;have ha:(Pl.qa1 s1.nums (i,x)).getD 0=Pl.qgz s1 (i,x):=rfl;rw[ha]at l5;by_cases hz:Pl.qgz s1 (i,x)=0
 rotate_left
 ·have hR:res=(s1,Pl.qgz s1 (i,x),y):=by rw[Hg.out,if_neg (by simp[hA,ho]),if_neg hz]
  have z0:((Pl.qgz s1 (i,x):Int)==0)=false:=by rw[beq_eq_false_iff_ne];omega
  have HF:=(show Hid _ from((H4.out.set y).drew.drew));clear Hg Hb hc Hc ha hz;subst hR;have l6:=qor H4.out.drew.sv.drew.nums ⟨Hm.out.key,Hm.out.one⟩ hS.few.2 (i,x) hx Hp;simp only[qbi]at l6;unfold qao bs at l6;simp only at l6;have ha:(Pl.qa1 s1.nums (i,x)).getD 0=Pl.qgz s1 (i,x):=rfl;rw[ha]at l6;clear ha;unfold qda at HF;go_wp2_with fail
  go_region
  go_wp2_with fail
  go_region
  go_wp2_with fail
  refine Nmi.post (ext:=[]) (by rw[List.append_nil];exact HF.out) ?_ ?_ ?_
  all_goals rfl
 have hp:Pl.Pre S s1 (i,x):=Hb.out hA ho hz;have hR:res=(Pl.qfq S k s1 (i,x),Pl.qgz (Pl.qfq S k s1 (i,x)) (i,x),y):=by rw[Hg.out,if_neg (by simp[hA,ho]),if_pos hz]
 rw[hz]at l5;have Hj:=hc.out w4.drew vv M H4.out.drew.sv hp H4.out.drew.tabs;have hg:=Hc.out hp;clear Hg Hb hc Hc ha hz hp;subst hR;obtain⟨s2,hs⟩:∃s2,s2=Pl.qfq S k s1 (i,x):=⟨_,rfl⟩;rw[←hs]at Hj hg;have Hx:=hd hs;clear hs;have Hl:∀(w5:World) (vv5:Value) (M5:List Nat),SvAt w5 B F S vv5 M5 s2→(Instr.lookup 176 (.map (some F.bn)) (qf7 (i,x)) false).run Tryz.prog w5=.ok (.int .i64 (Pl.qgz s2 (i,x):Nat)) w5:=fun w5 vv5 M5 h5=>qor h5.nums ⟨hg.1.key,hg.1.one⟩ hS.few.2 (i,x) hx Hp;simp only[qbi]at Hj Hl;unfold qao bs at Hj Hl;simp only at Hj Hl;have hy:=hd Hj;have Hy:=hd Hl;clear Hj Hl hg;go_wp2_with fail
 go_region
 go_wp2_with (go_at_call 75;refine Calls.mono hy.out ?_;rintro e w6 ⟨⟨rr,rfl⟩,⟨vv6,ext,Hu⟩,He⟩)
 have H6:=hd (H4.out.drew.turn Hu He);clear Hu He b3 b5 l5 m0 m1 m2 m3 m4 m5 m6 m7 m8 m9 m10 q0 q1 q2 q3 q4 q5 q6 q7 q8 q9 r0 r1 r2 r3 r4 r5 r6 r7 r8 r9 f0 f1 f2 f3 f4 f5 f6 f7 f8 f9;have b3:w6.cell? ⟨F.g,3,none⟩=some (.map (some F.bn)):=H6.out.sv.se.cell 3 _ rfl;have l7:=Hy.out w6.drew vv6 (M++ext) H6.out.sv.drew;have he:=qcn H6.out.ent;unfold qao bs at he;have hf:=H6.out.end'.at';have hr:=H6.out.res;have m0:=he 0 _ rfl;have m1:=he 1 _ rfl;have m2:=he 2 _ rfl;have m3:=he 3 _ rfl;have m4:=he 4 _ rfl;have m5:=he 5 _ rfl;have m6:=he 6 _ rfl;have m7:=he 7 _ rfl;have m8:=he 8 _ rfl;have m9:=he 9 _ rfl;have m10:=he 10 _ rfl;have q0:=hf.mode;have q1:=hf.name;have q2:=hf.elem;have q3:=hf.kind;have q4:=hf.read;have q5:=hf.ref;have q6:=hf.esc;have q7:=hf.hex;have q8:=hf.pct;have q9:=hf.far;have r0:=hr.at'.mode;have r1:=hr.at'.name;have r2:=hr.at'.elem;have r3:=hr.at'.kind;have r4:=hr.at'.read;have r5:=hr.at'.ref;have r6:=hr.at'.esc;have r7:=hr.at'.hex;have r8:=hr.at'.pct;have r9:=hr.at'.far;have f0:=hr.slot.thaw 0;have f1:=hr.slot.thaw 1;have f2:=hr.slot.thaw 2;have f3:=hr.slot.thaw 3;have f4:=hr.slot.thaw 4;have f5:=hr.slot.thaw 5;have f6:=hr.slot.thaw 6;have f7:=hr.slot.thaw 7;have f8:=hr.slot.thaw 8;have f9:=hr.slot.thaw 9;clear he hf hr;have HF:=(show Hid _ from(H6.out.set y).drew);rw[Hx.out]at HF l7;unfold qda at HF;go_wp2_with fail
 go_region
 go_wp2_with fail
 refine Nmi.post (ext:=ext) HF.out ?_ ?_ ?_
 all_goals rfl
def qfk(b:Pl.Sx×Nat):List Value:=[.int .u8 (b.1.st.mode:Int),bs b.1.st.name,bs b.1.st.elem,.int .i64 b.1.st.kind,.int .i64 (b.1.st.read:Int),.bool b.1.ma.ref,.bool b.1.st.esc,.int .i64 b.1.ma.hex,.int .i64 b.1.ma.pct,.int .i64 b.1.ma.far,.int .i64 (b.2:Nat)]
def qgb(L:List (Pl.Sx×Nat)):List Value:=L.flatMap qfk
theorem qpj(L:List (Pl.Sx×Nat)):(qgb L).length=L.length*11:=by
 induction L with
 | nil=>rfl
 | cons p L ih=>show (qgb L).length+11=_;rw[ih,List.length_cons];omega
theorem qm8(L:List (Pl.Sx×Nat))(b:Pl.Sx×Nat):qgb (L++[b])=qgb L++qfk b:=by simp[qgb]
theorem qra:∀(L:List (Pl.Sx×Nat)) (k:Nat) (b:Pl.Sx×Nat),L[k]?=some b→∀(j:Nat) (v:Value),(qfk b)[j]?=some v→(qgb L)[k*11+j]?=some v
 | [],k,p,e=>by simp at e
 | q::L,0,p,e=>by
   simp only[List.getElem?_cons_zero,Option.some.injEq]at e;subst e;intro j v hv;show (qfk q++qgb L)[0*11+j]?=some v;rw[Nat.zero_mul,Nat.zero_add,List.getElem?_append_left (List.getElem?_eq_some_iff.1 hv).1];exact hv
 | q::L,k+1,p,e=>by
   intro j v hv;have:=qra L k p (by simpa using e) j v hv;show (qfk q++qgb L)[(k+1)*11+j]?=some v;rw[List.getElem?_append_right (by simp[qfk];omega)];have e:(k+1)*11+j - (qfk q).length=k*11+j:=by simp[qfk];omega
   rw[e];exact this
theorem qps:(234:TypeId)≠178:=by decide
theorem qrt:(234:TypeId)≠162:=by decide
structure Thi(w wr:World)(B:Nat)(F:Fix)(S:List Pl.Src)(vv:Value)(M:List Nat)(s:Pl.Sr)(E:Nat)(e:Pl.En)(v g len:Nat)(G:Nat)(x:Pl.Sx)(vb:Value)(L:List (Pl.Sx×Nat)):Prop where
 sv:SvAt wr B F S vv M s
 ent:wr.heap[E]?=some (.cells (qao e) 180 (0,0))
 now:StIn wr G x
 mks:M[v]?=some g
 vis:∃u,s.vis[v]?=some u∧u.2.length=len
 row:wr.ownsRow w.heap.size 234 11 vb L.length (qgb L)
 old:w.heap.size≤G∧B≤w.heap.size
 cuv:Cuv B F w wr
 tabs:TabB B wr
section
variable {w wr w':World}{B:Nat}{F:Fix}{S:List Pl.Src}{vv vv':Value}{M M':List Nat}{s s':Pl.Sr}{E:Nat}{e:Pl.En}{v g len G:Nat}{x:Pl.Sx}{vb:Value}{L:List (Pl.Sx×Nat)}
theorem Thi.below(h:Thi w wr B F S vv M s E e v g len G x vb L)(hb:Below wr.heap.size wr w'):Thi w w' B F S vv M s E e v g len G x vb L:=
 have hB:B≤wr.heap.size:=Nat.le_trans h.old.2 h.cuv.below.size
 ⟨h.sv.below hb,(hb.block _ (Array.getElem?_eq_some_iff.1 h.ent).1).trans h.ent,h.now.below hb,h.mks,h.vis,qac h.row fun k hk=>hb.block k (h.row.lt k hk).2,h.old,h.cuv.trans (Cuv.of_below hb hB),h.tabs.kept (hb.mono hB)⟩
theorem Thi.alloc(h:Thi w wr B F S vv M s E e v g len G x vb L)(o:Obj):Thi w (wr.alloc o) B F S vv M s E e v g len G x vb L:=h.below (ba o)
theorem Thi.drew(h:Thi w wr B F S vv M s E e v g len G x vb L):Thi w wr.drew B F S vv M s E e v g len G x vb L:=h.below (Below.refl _ _).drew
theorem Thi.turn(h:Thi w wr B F S vv M s E e v g len G x vb L){ext:List Nat}(hs:SvAt w' B F S vv' (M++ext) s')(hc:Cuv B F wr w')(hg:Pl.Gv s s'):Thi w w' B F S vv' (M++ext) s' E e v g len G x vb L:=by
 have k1:=hc.keep G _ _ _ h.now (qae h.now h.sv.se.blk qb1) (by decide) (by decide);have k3:=hc.keep E _ _ _ h.ent (qae h.ent h.sv.se.blk qb2) (by decide) (by decide);refine⟨hs,k3.trans h.ent,k1.trans h.now,?_,?_,qac h.row fun k hk=>?_,h.old,h.cuv.trans hc,h.tabs.kept hc.below⟩
 ·rw[List.getElem?_append_left (List.getElem?_eq_some_iff.1 h.mks).1];exact h.mks
 ·obtain⟨u,h1,h2⟩:=h.vis
  obtain⟨u',e1,_,e3⟩:=hg.vis v u h1;exact⟨u',e1,e3.trans h2⟩
 ·obtain⟨cur,ha⟩:=qad h.row k hk
  exact hc.keep k _ _ _ ha (qae ha h.sv.se.blk qps) (by decide) (by decide)
theorem Thi.set(h:Thi w wr B F S vv M s E e v g len G x vb L)(y:Pl.Sx):Thi w (qda wr G (.int .u8 (y.st.mode:Int)) (.string ⟨y.st.name.toArray⟩) (.string ⟨y.st.elem.toArray⟩) (.int .i64 y.st.kind) (.int .i64 (y.st.read:Int)) (.bool y.ma.ref) (.bool y.st.esc) (.int .i64 y.ma.hex) (.int .i64 y.ma.pct) (.int .i64 y.ma.far)) B F S vv M s E e v g len G y vb L:=by
 have ha:=fun k (hk:k≠G)=>qgw (w:=wr) hk (.int .u8 (y.st.mode:Int)) (.string ⟨y.st.name.toArray⟩) (.string ⟨y.st.elem.toArray⟩) (.int .i64 y.st.kind) (.int .i64 (y.st.read:Int)) (.bool y.ma.ref) (.bool y.st.esc) (.int .i64 y.ma.hex) (.int .i64 y.ma.pct) (.int .i64 y.ma.far);have Ha:Below G wr (qda wr G (.int .u8 (y.st.mode:Int)) (.string ⟨y.st.name.toArray⟩) (.string ⟨y.st.elem.toArray⟩) (.int .i64 y.st.kind) (.int .i64 (y.st.read:Int)) (.bool y.ma.ref) (.bool y.st.esc) (.int .i64 y.ma.hex) (.int .i64 y.ma.pct) (.int .i64 y.ma.far)):=qez (Below.refl _ _) (Nat.le_refl _) _ _ _ _ _ _ _ _ _ _;have hs:=h.now.set y;generalize qda wr G _ _ _ _ _ _ _ _ _ _=w' at ha Ha hs ⊢;have hB:=Ha.mono (Nat.le_trans h.old.2 h.old.1);refine⟨h.sv.far h.now ha,(ha _ (qae h.ent h.now qhi)).trans h.ent,hs,h.mks,h.vis,qac h.row fun k hk=>ha k ?_,h.old,⟨h.cuv.below.trans hB,fun k cs t fz hk h1 h2 h3=>(ha k (fun e=>?_)).trans (h.cuv.keep k cs t fz hk h1 h2 h3)⟩,h.tabs.kept hB⟩
 ·obtain⟨cur,hb⟩:=qad h.row k hk
  exact qae hb h.now qrt
 ·have:=(Array.getElem?_eq_some_iff.1 hk).1
  have:=h.old.1;omega
theorem Thi.mark(h:Thi w wr B F S vv M s E e v g len G x vb L)(a:Nat)(m:Int):Thi w (wr.setCell ⟨g,a,none⟩ (.int .i64 m)) B F S vv M (s.mark v a m) E e v g len G x vb L:=by
 obtain⟨h1,h2⟩:=h.sv.mark h.mks a m;have:=h.turn (ext:=[]) (by rw[List.append_nil];exact h1) h2 (Pl.Gv.mark s v a m)
 rwa [List.append_nil]at this
theorem Thi.cell(h:Thi w wr B F S vv M s E e v g len G x vb L)(a:Nat)(ha:a<len):(∃z,wr.cell? ⟨g,a,none⟩=some (.int .i64 z))∧wr.frozen? ⟨g,a,none⟩=false:=by
 obtain⟨u,h1,h2⟩:=h.vis;obtain⟨hb,_⟩:=h.sv.marks v g u h.mks h1;refine⟨⟨u.2[a]'(by omega),?_⟩,by simp[World.frozen?,hb]⟩;refine qaa hb a _ ?_;simp[qf5]
theorem Thi.push(h:Thi w wr B F S vv M s E e v g len G x vb L){w0:World}{vb':Value}(b:Pl.Sx×Nat)(hf:Below wr.heap.size wr w0)(hc:w'.ownsRow w.heap.size 234 11 vb' (L.length+1) (qgb L++qfk b))(ha:w0.grownBy w' vb.ownBlock):Thi w w' B F S vv M s E e v g len G x vb' (L++[b]):=by
 have h0:=h.below hf;have Ha:∀(k:Nat) (cs:Array Value) (t:TypeId) (fz:Nat×Nat),w0.heap[k]?=some (.cells cs t fz)→t≠234→w'.heap[k]?=w0.heap[k]?:=fun k cs t fz hk ht=>ha.block k (Array.getElem?_eq_some_iff.1 hk).1 (fun e=>by
  obtain⟨cur,Hc⟩:=qad h0.row k e.symm;exact qae hk Hc ht rfl)
 have he:∀b Lm,qe8 w0 b Lm→w'.heap[b]?=w0.heap[b]?:=fun b Lm hm=>ha.block b hm.lt (fun e=>by
  obtain⟨cur,Hc⟩:=qad h0.row b e.symm;exact qak Hc hm rfl)
 have hb:∀k,vb.ownBlock=some k→w.heap.size≤k:=fun k hk=>(h0.row.lt k hk).1;obtain⟨cs',fz',Hf⟩:=h0.sv.se.src.blk;have hg:SeAt w' B F S vv s:=by
  refine⟨(Ha _ _ _ _ h0.sv.se.blk (by decide)).trans h0.sv.se.blk,h0.sv.se.src.kept (Ha _ _ _ _ Hf (by decide)) (fun i s' q hs hv=>?_),h0.sv.se.places.heap (he _ _ h0.sv.se.places),h0.sv.se.ends.heap (he _ _ h0.sv.se.ends),h0.sv.se.le,h0.sv.se.apart⟩;obtain⟨cur,He⟩:=qad (h0.sv.se.src.row i s' hs) q hv;exact Ha _ _ _ _ He (by decide)
 have Hg:SvAt w' B F S vv M s:=by
  refine⟨hg,h0.sv.nums.heap (he _ _ h0.sv.nums),qac h0.sv.row fun k hk=>?_,h0.sv.len,fun i g v hi hv=>?_,h0.sv.one,h0.sv.apart⟩
  ·obtain⟨cur,He⟩:=qad h0.sv.row k hk
   exact Ha _ _ _ _ He (by decide)
  ·obtain⟨q1,q2⟩:=h0.sv.marks i g v hi hv
   exact⟨(Ha _ _ _ _ q1 (by decide)).trans q1,q2⟩
 have Hb:Below w.heap.size w0 w':=⟨ha.os,ha.tape,ha.output,ha.size,fun k hk=>ha.block k (by have:=h0.cuv.below.size;omega) (fun e=>by have:=hb k e.symm;omega)⟩;refine⟨Hg,(Ha _ _ _ _ h0.ent (by decide)).trans h0.ent,(Ha _ _ _ _ h0.now (by decide)).trans h0.now,h0.mks,h0.vis,?_,h0.old,⟨h0.cuv.below.trans (Hb.mono h0.old.2),fun k cs t fz hk h1 h2 h3=>?_⟩,h0.tabs.kept (Hb.mono h0.old.2)⟩
 ·rw[List.length_append,qm8];exact hc
 ·have Hi:=(Array.getElem?_eq_some_iff.1 hk).1
  exact(ha.block k (by have:=h0.cuv.below.size;omega) (fun e=>by have:=hb k e.symm;omega)).trans (h0.cuv.keep k cs t fz hk h1 h2 h3)
end
end Go.Proofs.YtfkhljmiehdgmaaGreatDoor
namespace Go.Proofs.YtfkhljmiehdgmaaGreatDoor
open Go.RowKit Go.Maps
theorem q7f{x:Pl.Sx}(h:Pl.SxFit x):∃l,keyOf Tryz.prog 162 (qap x)=some l:=by
 obtain⟨h1,h2,h3,h4,h5,h6,h7⟩:=qwa h.ok;have hf:=h.far;obtain⟨d,hs⟩:∃d,Tryz.prog.types.size+1=d+3:=⟨Tryz.prog.types.size - 2,by
  have:4≤Tryz.prog.types.size:=by decide +kernel
  omega⟩
 obtain⟨l,hl⟩:=q2l d x.st.mode ⟨x.st.name.toArray⟩ ⟨x.st.elem.toArray⟩ x.st.kind x.st.read x.ma.ref x.st.esc x.ma.hex x.ma.pct x.ma.far h1 (by simp[ByteArray.size];unfold maxLen;omega) (by simp[ByteArray.size];unfold maxLen;omega) h4 h5 h6 h7 (WalkArith.wf_i64 (by omega));have hk:Tryz.prog.keyType 162=true:=by kernel_rfl
 have ha:(qap x).formed Tryz.prog 162=true:=by
  unfold qap Value.formed;simp[Tryz.underlying162,qkv,qaf]
 unfold keyOf;simp only[Tryz.underlying162];rw[hk,ha,hs];unfold qap qaf bs;simp[Value.cells,hl]
theorem q2h{x y:Pl.Sx}(h:qap x=qap y):x=y:=by
 have:=@qjb (0,x) (0,y) (by
  unfold qap at h;injection h with h;unfold qf7;simp only[h])
 injection this
theorem qyj(w:World){x y:Pl.Sx}(hx:Pl.SxFit x)(hy:Pl.SxFit y):(Op.equal 162 (qap x) (qap y)).run Tryz.prog w=.ok (decide (x=y)) w:=by
 obtain⟨lx,h1⟩:=q7f hx;obtain⟨ly,h2⟩:=q7f hy;obtain⟨r,hr,ha⟩:=run_equal_deep w (m:=4) (by decide) (by kernel_rfl) (by kernel_rfl) h1 h2;rw[hr];have:r=decide (x=y):=by
  rw[Bool.eq_iff_iff,ha,decide_eq_true_iff];constructor
  ·intro e
   exact q2h (keyOf_inj_deep (m:=4) (k:=162) (by kernel_rfl) (by kernel_rfl) h1 (by rw[h2,e]))
  ·rintro rfl
   rw[h1]at h2;exact Option.some.inj h2
 rw[this]
theorem qqa(w:World)(x y:Pl.Sx)(o1 o2:Operand):(eqGuard .neq 162 o1 o2 (qap x) (qap y)).run Tryz.prog w=.ok () w:=by
 unfold eqGuard qap;simp[run_program]
theorem q7e(w:World){x y:Pl.Sx}(hx:Pl.SxFit x)(hy:Pl.SxFit y):(binOp .neq 162 (qap x) (qap y)).run Tryz.prog w=.ok (.bool (!decide (x=y))) w:=by
 have h:=qyj w hx hy;unfold binOp qap;unfold qap at h;simp[h]
theorem qqb(w:World){x y:Pl.Sx}(hx:Pl.SxFit x)(hy:Pl.SxFit y):(Op.equalIn 10000 162 (qap x) (qap y)).run Tryz.prog w=.ok (decide (x=y)) w:=by
 have h:=qyj w hx hy;unfold qap at h ⊢;simpa [Op.equal,Op.maxDepth] using h
section
variable {w wr w':World}{B:Nat}{F:Fix}{S:List Pl.Src}{vv vv':Value}{M M':List Nat}{s s':Pl.Sr}{E:Nat}{e:Pl.En}{v g len G:Nat}{x:Pl.Sx}{L:List (Pl.Sx×Nat)}{b:Pl.Sx×Nat}{av:Option Addr}{cv:Nat}
theorem qvi(L:List (Pl.Sx×Nat))(b:Pl.Sx×Nat):(qgb (L++[b])).take (L.length*11)=qgb L:=by
 rw[qm8,←qpj,List.take_left]
theorem Thi.pop(h:Thi w wr B F S vv M s E e v g len G x (.slice av (L++[b]).length cv) (L++[b])):Thi w wr B F S vv M s E e v g len G x (.slice av L.length cv) L:=by
 have hl:(L++[b]).length=L.length+1:=by simp
 have hr:=h.row;obtain⟨gb,cb,hg,_⟩:=qaj hr (by omega);injection hg with ha Ha hb;subst ha;refine⟨h.sv,h.ent,h.now,h.mks,h.vis,?_,h.old,h.cuv,h.tabs⟩;have:=qi3 hr L.length (by omega)
 rwa [qvi]at this
theorem Thi.last(h:Thi w wr B F S vv M s E e v g len G x (.slice av (L++[b]).length cv) (L++[b])):∃gb,av=some ⟨gb,0,none⟩∧(L.length+1≤cv∧cv≤maxLen)∧∀j v,(qfk b)[j]?=some v→wr.cell? ⟨gb,L.length*11+j,none⟩=some v:=by
 have hl:(L++[b]).length=L.length+1:=by simp
 have hr:=h.row;have ha:L.length+1≤cv∧cv≤maxLen:=by
  rcases hr.2 with ⟨h1,h2⟩ | ⟨g,cap,cur,hv,_,_,h3,h4,_⟩
  ·omega
  ·injection hv with Hb Hc Ha
   subst Ha;omega
 obtain⟨gb,cb,hg,_⟩:=qaj hr (by omega);injection hg with hb he He;subst hb;refine⟨gb,rfl,ha,fun j v hv=>?_⟩;have hc:=qra (L++[b]) L.length b (by simp) j v hv;exact(h.row.cellAt (L.length*11+j) (by have q:=(List.getElem?_eq_some_iff.1 hc).1;rw[qpj]at q;exact q)).trans hc
end
end Go.Proofs.YtfkhljmiehdgmaaGreatDoor
namespace Go.Proofs.YtfkhljmiehdgmaaGreatDoor
open Go.RowKit
namespace Pl
def qhf(S:List Src)(s:Sr)(e:En)(len:Nat):Sr:=
 if(qde (behV S 257) (qab S e.1) ((qab S e.1).length+1) 0 s e.2).2.isNone=false∧(qde (behV S 257) (qab S e.1) ((qab S e.1).length+1) 0 s e.2).2≠e.2 then(qde (behV S 257) (qab S e.1) ((qab S e.1).length+1) 0 s e.2).1.wrong S e.1 15 len else(qde (behV S 257) (qab S e.1) ((qab S e.1).length+1) 0 s e.2).1
end Pl
theorem qva(HB:qg7)(S:List Pl.Src)(hS:SrcsOk S)(w:World)(B:Nat)(F:Fix)(vv:Value)(s:Pl.Sr)(e:Pl.En)(len:Nat)(h:SeAt w B F S vv s)(ho:Pl.EndsOk S.length s.ends)(he:Pl.SxFit e.2)(hi:e.1<S.length)(hB:B≤w.heap.size)(ht:TabB B w) :
  Calls Tryz.prog 76 #[.pointer (some ⟨F.g,0,none⟩),qf7 e,.int .i64 len] w fun ed w'=>(∃r,ed=.returned r)∧SeAt w' B F S vv (Pl.qhf S s e len)∧Cue B F w w':=by
 have Hi:=Pl.qk2 (Pl.qga S 257 s.ends.length (by omega)) (Pl.qab S e.1) ((Pl.qab S e.1).length+1) 0 s e.2 ho (Nat.le_refl _) (.inr he);have hW:=fun(w5:World) (h5:SeAt w5 B F S vv s) (Hk:B≤w5.heap.size) (t5:TabB B w5)=>qx9 HB S hS 257 (behC HB S hS 257) w5 B F vv s e h5 ho (by omega) he hi Hk t5;unfold Pl.qhf;generalize Pl.qde (Pl.behV S 257) (Pl.qab S e.1) ((Pl.qab S e.1).length+1) 0 s e.2=r at Hi hW ⊢;obtain⟨s2,y⟩:=r;simp only at Hi hW ⊢;obtain⟨R,hR⟩:∃R,R=(if y.isNone=false∧y≠e.2 then s2.wrong S e.1 15 len else s2):=⟨_,rfl⟩;rw[←hR];have HR:=hd hR;clear hR;have Ha:=fun w=>qsa y w;have hl:=hd (fun(w5:World) (h5:SeAt w5 B F S vv s2) (Hk:B≤w5.heap.size)=>qkz S w5 B F vv s2 e 15 len h5 hi Hk);have HA:=hd h;have HT:=hd ht;rw[qbi];rw[qbi]at hW hl;unfold qao bs;unfold qap qao qaf bs at hW;unfold qap qaf bs at Ha;unfold qao bs at hl;have HW:=hd hW;have HE:Hid ((w.alloc (.cells (qao e) 180)).heap[w.heap.size]?=some (.cells (qao e) 180 (0,0))):=heap_alloc_new w _;have hf:Hid (∀w5,Cue B F (w.alloc (.cells (qao e) 180)) w5→w5.heap[w.heap.size]?=some (.cells (qao e) 180 (0,0))):=fun w5 hc=>(hc.keep w.heap.size (by simp) (qae HE.out (h.alloc _).blk qb2) (qak HE.out (h.alloc _).ends)).trans HE.out;have Hl:Hid (∀w5,Cue B F (w.alloc (.cells (qao e) 180)) w5→Cue B F w w5):=fun w5 hc=>(Cue.of_below ((Below.refl w.heap.size w).alloc (Nat.le_refl _) _) hB).trans hc;unfold qao bs at hf Hl;have hm:=hd hB;clear h ht hW HE;go_enter Tryz.func76,Tryz.ntmps76
 go_wp2_with fail
 refine(HW.out _ (HA.out.alloc _) (Nat.le_trans hm.out (by simp)) (TabB.kept HT.out (((Below.refl w.heap.size w).alloc (Nat.le_refl _) _).mono hm.out))).mono ?_;rintro ed w2 ⟨rfl,hj,Hg⟩;have Hf:=hd hj;have He:=hd (hf.out w2 Hg);have Hj:=hd (Hl.out w2 Hg);clear hj Hg;have Ho:B≤w2.heap.size:=Nat.le_trans hm.out Hj.out.below.size;have hk:=(show Hid (B≤w2.heap.size) from Ho);clear Ho HW hf Hl HA HT;by_cases hn:y.isNone=true
 ·have hb:(y.st.mode==0)=true:=hn
  rw[hb]at Ha;have HN:=hd hn;have HQ:Hid (R=s2):=by show _=_;rw[HR.out,if_neg (by rintro⟨h1,_⟩;rw[hn]at h1;cases h1)]
  clear hb hn;go_wp2_with fail
  refine(Ha _).mono ?_;rintro ed w3 ⟨rfl,Hc⟩;have H3:Hid (SeAt w3 B F S vv s2∧Cue B F w2 w3):=by rw[←Hc];exact⟨(Hf.out.alloc _).alloc _,Cue.of_below ((ba _).alloc (by simp) _) hk.out⟩
  clear Hc;go_wp2_with fail
  go_end0
  exact⟨⟨_,rfl⟩,by rw[HQ.out];exact H3.out.1,Hj.out.trans H3.out.2⟩
 ·have Hm:=Pl.qkr Hi.2 hn
  have Hn:y.isNone=false:=Bool.eq_false_iff.2 hn;have hb:(y.st.mode==0)=false:=Hn;rw[hb]at Ha;have heq:=fun w=>q7e w Hm he;have hp:=fun w=>qqa w y e.2;have hg:=fun w=>qqb w Hm he;unfold qap qaf bs at heq hp hg;have HN:=hd Hn;clear hb hn Hn Hm Hi;by_cases hx:y=e.2
  ·rw[decide_eq_true hx]at heq hg
   have HQ:Hid (R=s2):=by show _=_;rw[HR.out,if_neg (fun q=>q.2 hx)]
   clear hx;go_wp2_with fail
   refine(Ha _).mono ?_;rintro ed w3 ⟨rfl,Hc⟩;have H3:Hid (SeAt w3 B F S vv s2∧Cue B F w2 w3):=by rw[←Hc];exact⟨(Hf.out.alloc _).alloc _,Cue.of_below ((ba _).alloc (by simp) _) hk.out⟩
   have hy:StIn w3 w2.heap.size y:=by rw[←Hc];exact(heap_alloc_old _ _ (by simp)).trans (heap_alloc_new _ _)
   have Hb:w3.heap[w.heap.size]?=some (.cells (qao e) 180 (0,0)):=(H3.out.2.keep w.heap.size (Array.getElem?_eq_some_iff.1 He.out).1 (qae He.out Hf.out.blk qb2) (qak He.out Hf.out.ends)).trans He.out;have ha:=qcn Hb;unfold qao bs at ha;have m0:=ha 0 _ rfl;have m1:=ha 1 _ rfl;have m2:=ha 2 _ rfl;have m3:=ha 3 _ rfl;have m4:=ha 4 _ rfl;have m5:=ha 5 _ rfl;have m6:=ha 6 _ rfl;have m7:=ha 7 _ rfl;have m8:=ha 8 _ rfl;have m9:=ha 9 _ rfl;have m10:=ha 10 _ rfl;have q0:=hy.at'.mode;have q1:=hy.at'.name;have q2:=hy.at'.elem;have q3:=hy.at'.kind;have q4:=hy.at'.read;have q5:=hy.at'.ref;have q6:=hy.at'.esc;have q7:=hy.at'.hex;have q8:=hy.at'.pct;have q9:=hy.at'.far;clear ha Hb hy Hc;go_wp2_with fail
   go_end0
   exact⟨⟨_,rfl⟩,by rw[HQ.out];exact H3.out.1,Hj.out.trans H3.out.2⟩
  ·rw[decide_eq_false hx]at heq hg
   have HQ:Hid (R=s2.wrong S e.1 15 len):=by show _=_;rw[HR.out,if_pos ⟨HN.out,hx⟩]
   clear hx;go_wp2_with fail
   refine(Ha _).mono ?_;rintro ed w3 ⟨rfl,Hc⟩;have H3:Hid (SeAt w3 B F S vv s2∧Cue B F w2 w3):=by rw[←Hc];exact⟨(Hf.out.alloc _).alloc _,Cue.of_below ((ba _).alloc (by simp) _) hk.out⟩
   have hy:StIn w3 w2.heap.size y:=by rw[←Hc];exact(heap_alloc_old _ _ (by simp)).trans (heap_alloc_new _ _)
   have Hb:w3.heap[w.heap.size]?=some (.cells (qao e) 180 (0,0)):=(H3.out.2.keep w.heap.size (Array.getElem?_eq_some_iff.1 He.out).1 (qae He.out Hf.out.blk qb2) (qak He.out Hf.out.ends)).trans He.out;have ha:=qcn Hb;unfold qao bs at ha;have m0:=ha 0 _ rfl;have m1:=ha 1 _ rfl;have m2:=ha 2 _ rfl;have m3:=ha 3 _ rfl;have m4:=ha 4 _ rfl;have m5:=ha 5 _ rfl;have m6:=ha 6 _ rfl;have m7:=ha 7 _ rfl;have m8:=ha 8 _ rfl;have m9:=ha 9 _ rfl;have m10:=ha 10 _ rfl;have q0:=hy.at'.mode;have q1:=hy.at'.name;have q2:=hy.at'.elem;have q3:=hy.at'.kind;have q4:=hy.at'.read;have q5:=hy.at'.ref;have q6:=hy.at'.esc;have q7:=hy.at'.hex;have q8:=hy.at'.pct;have q9:=hy.at'.far;clear ha Hb hy Hc;go_wp2_with fail
   refine(hl.out _ H3.out.1 (Nat.le_trans hk.out H3.out.2.below.size)).mono ?_;rintro ed w4 ⟨⟨r,rfl⟩,hj,Hg⟩;go_wp2_with fail
   go_end0
   exact⟨⟨_,rfl⟩,by rw[HQ.out];exact hj,Hj.out.trans (H3.out.2.trans Hg)⟩
end Go.Proofs.YtfkhljmiehdgmaaGreatDoor

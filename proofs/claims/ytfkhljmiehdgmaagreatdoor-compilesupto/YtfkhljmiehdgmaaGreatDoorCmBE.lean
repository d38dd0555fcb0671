/-
  Steps of the proof.
-/
import Derived.Deep.RegionHeld3
import Derived.Test.YtfkhljmiehdgmaaGreatDoorCmBC
set_option maxRecDepth 100000
set_option maxHeartbeats 40000000
namespace Go.Proofs.YtfkhljmiehdgmaaGreatDoor
open Go.RowKit
theorem qrg:(Value.agg #[.int .u8 0,.string ⟨#[]⟩,.string ⟨#[]⟩,.int .i64 0,.int .i64 0,.bool false,.bool false,.int .i64 0,.int .i64 0,.int .i64 0,.int .i64 0]).cells.size=11:=rfl
theorem q36:(Tryz.prog.info? 234).map (fun i=>(i.zero,i.size,i.bytes))=some (some (.agg #[.int .u8 0,.string ⟨#[]⟩,.string ⟨#[]⟩,.int .i64 0,.int .i64 0,.bool false,.bool false,.int .i64 0,.int .i64 0,.int .i64 0,.int .i64 0]),11,96):=by kernel_rfl
theorem q8d(HB:qg9)(S:List Pl.Src)(hS:SrcsOk S)(k:Nat)(HT:ThrC S k):ThrC S (k+1):=by
 intro w B F vv M s e h hp hk ht;have H1:=hp;have hB:B<=w.heap.size:=by
  have q1:=h.se.le.1;have q2:=(lta h.se.blk);omega
 have hfew:=hp.inv.few;have hef:=hp.inv.ends.few;have hvl:s.vis.length<=1000:=by rw[hp.inv.vis];omega
 obtain⟨src,hi⟩:∃src,S[e.1]?=some src:=⟨S[e.1]'hp.lt,List.getElem?_eq_getElem hp.lt⟩;have hP:Pl.qab S e.1=src.parts:=by unfold Pl.qab;rw[hi]
 have hpl:=(hS.parts e.1 src hi).1;obtain⟨ao,cap,hv⟩:=qas (h.se.src.row e.1 src hi);obtain⟨bg1,bg2,bg3⟩:=hp.begun;have hr:=hd (fun o=>q2h S hS (w.alloc o) B F vv M s e (h.alloc o) ⟨hp.inv.key,hp.inv.one⟩ hp.lt hp.fit hvl (by simp;omega));rw[hP,qbi,hv]at hr;rw[Pl.qla,hP];generalize hQ:Pl.goV (Pl.nmV S k) S e.1 s.vis.length src.parts (src.parts.length+1) 0 (Pl.begun S s e) e.2 []=Q;have HQ0:=hd hQ;clear hQ;have HI:Hid (∀(w2:World) (vv2:Value) (g:Nat),SvAt w2 B F S vv2 (M++[g]) (Pl.begun S s e)->Cuv B F (w.alloc (.cells (qao e) 180)) w2->Thi w (w2.alloc (.cells (qaf e.2) 162)) B F S vv2 (M++[g]) (Pl.begun S s e) w.heap.size e s.vis.length g src.parts.length w2.heap.size e.2 (.slice none 0 0) []):=by
  intro w2 vv2 g Hj Hc;have q1:Below w.heap.size w (w.alloc (.cells (qao e) 180)):=ba _;have hF:w.heap.size<=w2.heap.size:=by have:=Hc.below.size;simp at this;omega
  have q2:Below w2.heap.size w2 (w2.alloc (.cells (qaf e.2) 162)):=ba _;have q3:(w.alloc (.cells (qao e) 180)).heap[w.heap.size]?=some (.cells (qao e) 180 (0,0)):=heap_alloc_new w _;have q4:=(Hc.keep w.heap.size _ _ _ q3 (qae q3 (h.alloc _).se.blk qb2) (by decide) (by decide)).trans q3;refine⟨Hj.below q2,(heap_alloc_old _ _ (Array.getElem?_eq_some_iff.1 q4).1).trans q4,heap_alloc_new w2 _,?_,?_,World.ownsRow_nil _ _ _ _,⟨hF,hB⟩,((Cuv.of_below q1 hB).trans Hc).trans (Cuv.of_below q2 (by omega)),(ht.kept (q1.mono hB)).kept (Hc.below.trans (q2.mono (by omega)))⟩
  ·rw[List.getElem?_append_right (by rw[h.len];exact Nat.le_refl _),h.len,Nat.sub_self];rfl
  ·refine⟨(e.1,List.replicate src.parts.length 0),?_,by simp⟩
   unfold Pl.begun;rw[hP];simp
 have HE:Hid (∀(w2:World),Cuv B F (w.alloc (.cells (qao e) 180)) w2->w2.heap[w.heap.size]?=some (.cells (qao e) 180 (0,0))):=fun w2 Hc=>by
  have q3:(w.alloc (.cells (qao e) 180)).heap[w.heap.size]?=some (.cells (qao e) 180 (0,0)):=heap_alloc_new w _;exact(Hc.keep w.heap.size _ _ _ q3 (qae q3 (h.alloc _).se.blk qb2) (by decide) (by decide)).trans q3
 rw[qbi];unfold qao bs;unfold qao qaf bs at HI;unfold qao bs at HE;unfold qao bs at hr;clear h;go_enter Tryz.func75,Tryz.ntmps75
 go_wp2_with fail
 refine wp_scope_straight ?_
 go_wp2_with (go_at_call 105;refine Calls.mono (hr.out _) ?_;rintro ed w2 ⟨g,vv2,rfl,Hj,Hc,hge⟩
              have he:=qcn (HE.out w2 Hc);unfold qao bs at he;have m0:=he 0 _ rfl;have m1:=he 1 _ rfl;have m2:=he 2 _ rfl;have m3:=he 3 _ rfl;have m4:=he 4 _ rfl;have m5:=he 5 _ rfl;have m6:=he 6 _ rfl;have m7:=he 7 _ rfl;have m8:=he 8 _ rfl;have m9:=he 9 _ rfl;have m10:=he 10 _ rfl;clear he)
 have H0:=hd (HI.out w2 vv2 g Hj Hc);clear Hj Hc hge HI hr HE m0 m1 m2 m3 m4 m5 m6 m7 m8 m9 m10;generalize w2.heap.size=G at *;generalize World.alloc w2 _=w4 at H0 |-;refine wp_label ?_;go_wp2_with fail
 have H2:=hp.fit;have H3:258<=(Pl.begun S s e).nums.length+k:=by omega
 have h1n:1<=(Pl.begun S s e).nums.length:=by omega
 go_loopw [7,8] (fun b i wr=>∃(a n:Nat) (s':Pl.Sr) (x':Pl.Sx) (L:List (Pl.Sx×Nat)) (vv':Value) (ext:List Nat) (av:Option Addr) (cv:Nat),b=.slice av L.length cv/\i=.int .i64 a/\src.parts.length<a+n/\Hid (Thi w wr B F S vv' ((M++[g])++ext) s' w.heap.size e s.vis.length g src.parts.length G x' (.slice av L.length cv) L/\Pl.Inv S s'/\258<=s'.nums.length+k/\1<=s'.nums.length/\Pl.SxFit x'/\(∀b∈L,Pl.SxFit b.1)/\(L.map (·.2)).reverse=Pl.stk (src.parts.take a) []/\Pl.goV (Pl.nmV S k) S e.1 s.vis.length src.parts n a s' x' L=Q)) (fun _ i _=>src.parts.length - (intOf i).toNat)
 case atStart=>exact⟨0,src.parts.length+1,Pl.begun S s e,e.2,[],vv2,[],none,0,rfl,rfl,by omega,by rw[List.append_nil];exact H0.out,bg1,H3,h1n,H2,(fun b hb=>by cases hb),rfl,HQ0.out⟩
 case round=>
  obtain⟨a,n,s',x',L,vv',ext,av,cv,rfl,rfl,hn,HR⟩:=hrel;clear HQ0 H0;have Hf:=HR.out.1.now.at';have q0:=Hf.mode;have q1:=Hf.name;have q2:=Hf.elem;have q3:=Hf.kind;have q4:=Hf.read;have q5:=Hf.ref;have q6:=Hf.esc;have q7:=Hf.hex;have q8:=Hf.pct;have q9:=Hf.far;clear Hf;by_cases Hr:a<src.parts.length
  rotate_left
  ·have c1:¬(a:Int)<(src.parts.length:Int):=by omega
   have hq:s'=Q:=by
    have:=HR.out.2.2.2.2.2.2.2;rw[<-this];cases n with
    |zero=>rfl
    |succ n=>
      have hp:src.parts[a]?=none:=List.getElem?_eq_none (by omega);unfold Pl.goV;rw[hp]
   have HQ:=hd hq;clear hq;go_wp2_with fail
   go_end0
   exact⟨⟨_,rfl⟩,⟨vv',[g]++ext,by rw[<-HQ.out,<-List.append_assoc];exact HR.out.1.sv⟩,HR.out.1.cuv⟩
  have c1:(a:Int)<(src.parts.length:Int):=by omega
  obtain⟨p,hp⟩:∃p,src.parts[a]?=some p:=⟨src.parts[a],List.getElem?_eq_getElem Hr⟩;obtain⟨m,rfl⟩:∃m,n=m+1:=⟨n - 1,by omega⟩;have hl:=HR.out.2.2.2.2.2.2.2;unfold Pl.goV at hl;rw[hp]at hl;simp only at hl;have hy:p∈src.parts:=List.mem_of_getElem? hp;have hpm:=(hS.parts e.1 src hi).2 p hy;have hkp:=Pl.qk5 (hS.wf e.1 src hi) p hy;have Hy:wr.ownsRow B 229 4 (.slice ao src.parts.length cap) src.parts.length (qb0 src.parts):=by
   have:=HR.out.1.sv.se.src.row e.1 src hi;rw[hv]at this;exact this
  obtain⟨gp,cap',hg,d0,d1,d2,d3⟩:=qg0 Hy hp;injection hg with hg1 hg2 hg3;subst hg1 hg3;have Hp:=hd hl;have HP:=hd hpm;have htk:src.parts.take (a+1)=src.parts.take a++[p]:=by rw[List.take_succ_eq_append_getElem Hr];congr 2;rw[List.getElem?_eq_getElem Hr]at hp;exact Option.some.inj hp
  have h4:=hd htk;have HRow:=hd Hy;clear hl hy hpm htk Hy;have c2:(a:Int)<=2000:=by omega
  have hLl:L.length<=2000:=by
   have q1:=Pl.q8j (src.parts.take a) [];rw[<-HR.out.2.2.2.2.2.2.1]at q1;simp at q1;omega
  by_cases k3:p.kind=3\/p.kind=4
  ·have Hg:Hid (Pl.goV (Pl.nmV S k) S e.1 s.vis.length src.parts m (a+1) s' x' (L++[(x',p.mate)])=Q):=by
    have:=Hp.out;rw[if_neg (by omega),if_neg (by omega),if_pos k3]at this;exact this
   have HSt:Hid (((L++[(x',p.mate)]).map (·.2)).reverse=Pl.stk (src.parts.take (a+1)) []):=by
    show _=_;rw[h4.out,Pl.qgq,<-HR.out.2.2.2.2.2.2.1,Pl.qf0,if_pos k3];simp[Pl.stk]
   obtain⟨i0,hi0,hz0,hz1,hz2⟩:=info_parts q36;have q2:=fun o=>(HR.out.1.alloc o).now.at';have f0:=fun o=>(q2 o).mode;have f1:=fun o=>(q2 o).name;have f2:=fun o=>(q2 o).elem;have f3:=fun o=>(q2 o).kind;have f4:=fun o=>(q2 o).read;have f5:=fun o=>(q2 o).ref;have f6:=fun o=>(q2 o).esc;have f7:=fun o=>(q2 o).hex;have f8:=fun o=>(q2 o).pct;have f9:=fun o=>(q2 o).far;clear q2;clear Hp;rcases k3 with k3|k3
   ·rw[k3]at d0
    go_wp2_with (at_builtin;refine wpList_append_own_at _ rfl _ _ 227 rfl w.heap.size 234 i0 (.agg #[.int .u8 0,.string ⟨#[]⟩,.string ⟨#[]⟩,.int .i64 0,.int .i64 0,.bool false,.bool false,.int .i64 0,.int .i64 0,.int .i64 0,.int .i64 0]) 11 96 Tryz.underlying227 hi0 hz0 hz1 hz2 qrg (by decide) _ _ _ rfl (World.ownsRow.alloc (World.ownsRow.alloc HR.out.1.row _) _) ⟨_,0,none⟩ 1 1 [.int .u8 (x'.st.mode:Int),.string ⟨x'.st.name.toArray⟩,.string ⟨x'.st.elem.toArray⟩,.int .i64 x'.st.kind,.int .i64 (x'.st.read:Int),.bool x'.ma.ref,.bool x'.st.esc,.int .i64 x'.ma.hex,.int .i64 x'.ma.pct,.int .i64 x'.ma.far,.int .i64 (p.mate:Int)] rfl rfl ?c1 ?c2 ?c3 ?c4 ?c5 ?_)
    case c2=>simp[Value.oneCell']
    case c3=>unfold maxLen;omega
    case c4=>omega
    case c5=>have:=HR.out.1.cuv.below.size;first|omega|(simp;omega)
    ·intro vb' w6 hm HF _ _
     have H4:=hd (HR.out.1.push (x',p.mate) ((ba _).alloc (by simp) _) hm HF);obtain⟨gb,cb,rfl,_⟩:=qaj hm (by omega);clear hm HF;go_wp2_with fail
     go_roundw
     case rel=>exact⟨a+1,m,s',x',L++[(x',p.mate)],vv',ext,some ⟨gb,0,none⟩,cb,by simp,by go_num,by omega,by simpa using H4.out,HR.out.2.1,HR.out.2.2.1,HR.out.2.2.2.1,HR.out.2.2.2.2.1,(fun b hb=>by rcases List.mem_append.1 hb with hb|hb;exact HR.out.2.2.2.2.2.1 b hb;simp at hb;subst hb;exact HR.out.2.2.2.2.1),HSt.out,Hg.out⟩
     case measure=>simp[intOf];omega
   ·rw[k3]at d0
    go_wp2_with (at_builtin;refine wpList_append_own_at _ rfl _ _ 227 rfl w.heap.size 234 i0 (.agg #[.int .u8 0,.string ⟨#[]⟩,.string ⟨#[]⟩,.int .i64 0,.int .i64 0,.bool false,.bool false,.int .i64 0,.int .i64 0,.int .i64 0,.int .i64 0]) 11 96 Tryz.underlying227 hi0 hz0 hz1 hz2 qrg (by decide) _ _ _ rfl (World.ownsRow.alloc (World.ownsRow.alloc HR.out.1.row _) _) ⟨_,0,none⟩ 1 1 [.int .u8 (x'.st.mode:Int),.string ⟨x'.st.name.toArray⟩,.string ⟨x'.st.elem.toArray⟩,.int .i64 x'.st.kind,.int .i64 (x'.st.read:Int),.bool x'.ma.ref,.bool x'.st.esc,.int .i64 x'.ma.hex,.int .i64 x'.ma.pct,.int .i64 x'.ma.far,.int .i64 (p.mate:Int)] rfl rfl ?e1 ?e2 ?e3 ?e4 ?e5 ?_)
    case e2=>simp[Value.oneCell']
    case e3=>unfold maxLen;omega
    case e4=>omega
    case e5=>have:=HR.out.1.cuv.below.size;first|omega|(simp;omega)
    ·intro vb' w6 hm HF _ _
     have H4:=hd (HR.out.1.push (x',p.mate) ((ba _).alloc (by simp) _) hm HF);obtain⟨gb,cb,rfl,_⟩:=qaj hm (by omega);clear hm HF;go_wp2_with fail
     go_roundw
     case rel=>exact⟨a+1,m,s',x',L++[(x',p.mate)],vv',ext,some ⟨gb,0,none⟩,cb,by simp,by go_num,by omega,by simpa using H4.out,HR.out.2.1,HR.out.2.2.1,HR.out.2.2.2.1,HR.out.2.2.2.2.1,(fun b hb=>by rcases List.mem_append.1 hb with hb|hb;exact HR.out.2.2.2.2.2.1 b hb;simp at hb;subst hb;exact HR.out.2.2.2.2.1),HSt.out,Hg.out⟩
     case measure=>simp[intOf];omega
  have Hk:Hid (p.kind≠5->(L.map (·.2)).reverse=Pl.stk (src.parts.take (a+1)) []):=fun h5=>by
   rw[h4.out,Pl.qgq,<-HR.out.2.2.2.2.2.2.1,Pl.qf0,if_neg k3,if_neg h5];rfl
  have k3a:((p.kind:Int)==3)=false:=by rw[beq_eq_false_iff_ne];omega
  have k3b:((p.kind:Int)==4)=false:=by rw[beq_eq_false_iff_ne];omega
  have q2:=fun o=>(HR.out.1.alloc o).now.at';have f0:=fun o=>(q2 o).mode;have f1:=fun o=>(q2 o).name;have f2:=fun o=>(q2 o).elem;have f3:=fun o=>(q2 o).kind;have f4:=fun o=>(q2 o).read;have f5:=fun o=>(q2 o).ref;have f6:=fun o=>(q2 o).esc;have f7:=fun o=>(q2 o).hex;have f8:=fun o=>(q2 o).pct;have f9:=fun o=>(q2 o).far;clear q2;by_cases k2:p.kind=2
  ·have Hl:=fun w=>q4c x' w
   have hW:=fun w=>qjj x' w;have Ha:=Hp.out;rw[if_neg (by omega),if_pos k2]at Ha;have hG:=hd (Pl.qim HR.out.2.2.2.2.1);rw[k2]at d0;generalize x'.behindHole=y at hW Ha hG;obtain⟨h1,h2,hh⟩:∃h1 h2,x'.hole=(h1,h2):=⟨_,_,rfl⟩;rw[hh]at Hl Ha;simp only at Hl Ha;unfold qap qaf bs at Hl hW;have Ht:=hd Hl;have HBe:=hd hW;have Hk:=hd (Hk.out (by omega));clear Hl hW hh Hp k3 k3a k3b k2;by_cases HG:h2=0
   rotate_left
   ·rw[if_pos HG]at Ha
    have Hg:=hd Ha;have hc:(h2==0)=false:=by rw[beq_eq_false_iff_ne];exact HG
    clear Ha HG;have hI:Hid (∀w5,SvAt w5 B F S vv' (M++[g]++ext) s'->B<=w5.heap.size->Calls Tryz.prog 107 #[.pointer (some ⟨F.g,0,none⟩),.agg #[.int .i64 e.1,.int .u8 (e.2.st.mode:Int),.string ⟨e.2.st.name.toArray⟩,.string ⟨e.2.st.elem.toArray⟩,.int .i64 e.2.st.kind,.int .i64 (e.2.st.read:Int),.bool e.2.ma.ref,.bool e.2.st.esc,.int .i64 e.2.ma.hex,.int .i64 e.2.ma.pct,.int .i64 e.2.ma.far],.int .i64 h2,.int .i64 p.pos] w5 fun ed w'=>(∃r,ed=.returned r)/\SeAt w' B F S vv' Q/\Cue B F w5 w'):=fun w5 h5 hJ=>by
     have:=qk3 S w5 B F vv' s' e h2 p.pos h5.se H1.lt hJ;rw[Hg.out]at this;exact this
    go_wp2_with (first
     | (go_at_call 108;refine(Ht.out _).mono ?_;rintro ed w2 ⟨rfl,Hq⟩
        have H8:=(show Hid _ from(HR.out.1.alloc _).below Hq);have hpc:w2.cell? ⟨wr.heap.size,1,none⟩=some (.int .i64 p.pos):=qaa ((Hq.block wr.heap.size (by simp)).trans (heap_alloc_new wr _)) 1 _ rfl;have he:=qcn H8.out.ent;unfold qao bs at he;have m0:=he 0 _ rfl;have m1:=he 1 _ rfl;have m2:=he 2 _ rfl;have m3:=he 3 _ rfl;have m4:=he 4 _ rfl;have m5:=he 5 _ rfl;have m6:=he 6 _ rfl;have m7:=he 7 _ rfl;have m8:=he 8 _ rfl;have m9:=he 9 _ rfl;have m10:=he 10 _ rfl;clear he Hq)
     | (go_at_call 107;refine(hI.out _ H8.out.sv (Nat.le_trans hB (Nat.le_trans H8.out.old.1 (Nat.le_of_lt H8.out.now.lt)))).mono ?_;rintro ed w3 ⟨⟨r,rfl⟩,HJ,Hc⟩))
    show Exit.noGoto _ _ _ _;simp only[Exit.noGoto];go_wp2_with fail
    go_end0
    have hu:Q.nums=s'.nums/\Q.vis=s'.vis:=by rw[<-Hg.out];exact⟨rfl,rfl⟩
    exact⟨⟨_,rfl⟩,⟨vv',[g]++ext,by rw[<-List.append_assoc];exact H8.out.sv.turn HJ Hc hu.1 hu.2⟩,H8.out.cuv.trans (Cuv.of_cue H8.out.sv.se Hc)⟩
   ·rw[if_neg (fun q=>q HG)]at Ha
    have Hg:=hd Ha;subst HG;clear Ha;have hT:=fun(w5:World) (hw:Thi w w5 B F S vv' (M++[g]++ext) s' w.heap.size e s.vis.length g src.parts.length G x' (.slice av L.length cv) L)=>(hw.mark a h1).set y;have Hu:g≠G:=fun q=>by
     obtain⟨u,h1,h2⟩:=HR.out.1.vis;obtain⟨hb,_⟩:=HR.out.1.sv.marks _ g u HR.out.1.mks h1;exact absurd q (qae hb HR.out.1.now (by decide))
    unfold qcs at hT;have Hz:=hd hT;clear hT
    go_wp2_with (first
     | (go_at_call 108;refine(Ht.out _).mono ?_;rintro ed w2 ⟨rfl,Hq⟩
        have H8:=(show Hid _ from(HR.out.1.alloc _).below Hq);have q2:=H8.out.now.at';have p0:=q2.mode;have p1:=q2.name;have p2:=q2.elem;have p3:=q2.kind;have p4:=q2.read;have p5:=q2.ref;have p6:=q2.esc;have p7:=q2.hex;have p8:=q2.pct;have p9:=q2.far;clear q2 Hq f0 f1 f2 f3 f4 f5 f6 f7 f8 f9)
     | (go_at_call 109;refine(HBe.out _).mono ?_;rintro ed w3 ⟨rfl,Hq⟩
        have H9:=hd (H8.out.below Hq);obtain⟨⟨z,hz⟩,hK⟩:=H9.out.cell a Hr;have q2:=H9.out.now;have r0:=q2.at'.mode;have r1:=q2.at'.name;have r2:=q2.at'.elem;have r3:=q2.at'.kind;have r4:=q2.at'.read;have r5:=q2.at'.ref;have r6:=q2.at'.esc;have r7:=q2.at'.hex;have r8:=q2.at'.pct;have r9:=q2.at'.far;have t0:=q2.slot.thaw 0;have t1:=q2.slot.thaw 1;have t2:=q2.slot.thaw 2;have t3:=q2.slot.thaw 3;have t4:=q2.slot.thaw 4;have t5:=q2.slot.thaw 5;have t6:=q2.slot.thaw 6;have t7:=q2.slot.thaw 7;have t8:=q2.slot.thaw 8;have t9:=q2.slot.thaw 9;clear q2 Hq))
    go_roundw
    case rel=>exact⟨a+1,m,s'.mark s.vis.length a h1,y,L,vv',ext,av,cv,rfl,by go_num,by omega,Hz.out _ H9.out,HR.out.2.1.mark _ _ _,HR.out.2.2.1,HR.out.2.2.2.1,hG.out,HR.out.2.2.2.2.2.1,Hk.out,Hg.out⟩
    case measure=>simp[intOf];omega
  have k2a:((p.kind:Int)==2)=false:=by rw[beq_eq_false_iff_ne];omega
  by_cases k5:p.kind=5
  ·have Hv:=Pl.q4u (hS.wf e.1 src hi) [] 0 rfl
   have Hu:L≠[]:=fun q=>by
    have h1:src.parts=src.parts.take a++(p::src.parts.drop (a+1)):=by
     rw[List.getElem?_eq_getElem Hr]at hp;rw[<-Option.some.inj hp,List.getElem_cons_drop,List.take_append_drop]
    have:=Pl.q7c (src.parts.take a) (p::src.parts.drop (a+1)) [] (by rw[<-h1];simpa using Hv);rw[<-HR.out.2.2.2.2.2.2.1,q]at this;unfold Pl.deep at this;rw[if_neg (by omega),if_pos k5]at this;simp at this
   obtain⟨L',b,hL⟩:∃L' b,L=L'++[b]:=⟨L.dropLast,L.getLast Hu,(List.dropLast_concat_getLast Hu).symm⟩;have hm5:=(Pl.q5h (hS.wf e.1 src hi) a p hp k5).1;obtain⟨p5,hp5⟩:∃p5,src.parts[p.mate]?=some p5:=⟨src.parts[p.mate]'(by omega),List.getElem?_eq_getElem (by omega)⟩;have H5:Pl.qi4 src.parts p.mate=p5.pos:=by unfold Pl.qi4;rw[hp5]
   have Ha:=Hp.out;rw[if_neg (by omega),if_neg (by omega),if_neg k3,if_pos k5,hL]at Ha;simp only[List.getLast?_append,List.getLast?_singleton,Option.some_or,H5,List.dropLast_concat]at Ha;have HK:L.length=L'.length+1:=by rw[hL];simp
   have h6:Hid (∀b∈L',Pl.SxFit b.1):=fun c hc=>HR.out.2.2.2.2.2.1 c (by rw[hL];exact List.mem_append_left _ hc);have H6:Hid ((L'.map (·.2)).reverse=Pl.stk (src.parts.take (a+1)) []):=by
    show _=_;rw[h4.out,Pl.qgq,<-HR.out.2.2.2.2.2.2.1,hL,Pl.qf0,if_neg k3,if_pos k5];simp[Pl.stk]
   have HL:=(show Hid _ from(by have:=HR.out.1;rw[hL]at this;exact this:Thi w wr B F S vv' (M++[g]++ext) s' w.heap.size e s.vis.length g src.parts.length G x' (.slice av (L'++[b]).length cv) (L'++[b])));obtain⟨gb,rfl,⟨hcv,hcv2⟩,hM⟩:=HL.out.last;have hcv3:(L'.length:Int)<=(cv:Int):=by omega
   have hcv4:(cv:Int)<=(maxLen:Int):=by omega
   have Hm:=fun o=>(HL.out.alloc o).last;have Ho:=fun o=>(fun j v hv=>by
    obtain⟨gb',e1,_,e2⟩:=Hm o;injection e1 with e1;injection e1 with e1;subst e1;exact e2 j v hv:∀j v,(qfm b)[j]?=some v->(wr.alloc o).cell? ⟨gb,L'.length*11+j,none⟩=some v)
   have l0:=fun o=>Ho o 0 _ rfl;have l1:=fun o=>Ho o 1 _ rfl;have l2:=fun o=>Ho o 2 _ rfl;have l3:=fun o=>Ho o 3 _ rfl;have l4:=fun o=>Ho o 4 _ rfl;have l5:=fun o=>Ho o 5 _ rfl;have l6:=fun o=>Ho o 6 _ rfl;have l7:=fun o=>Ho o 7 _ rfl;have l8:=fun o=>Ho o 8 _ rfl;have l9:=fun o=>Ho o 9 _ rfl;have l10:=fun o=>Ho o 10 _ rfl;simp only[Nat.add_zero]at l0;unfold bs at l1 l2;have Hw:∀o,(wr.alloc o).ownsRow B 229 4 (.slice (some ⟨gp,0,none⟩) src.parts.length cap) src.parts.length (qb0 src.parts):=fun o=>by
    have:=(HR.out.1.alloc o).sv.se.src.row e.1 src hi;rw[hv]at this;exact this
   have d5:∀o,(wr.alloc o).cell? ⟨gp,p.mate*4+1,none⟩=some (.int .i64 p5.pos):=fun o=>by
    obtain⟨g',_,e1,_,e2,_⟩:=qg0 (Hw o) hp5;injection e1 with e1;injection e1 with e1;injection e1 with e1;subst e1;exact e2
   have hm5':(p.mate:Int)<(src.parts.length:Int):=by omega
   have hfb:Pl.SxFit b.1:=HR.out.2.2.2.2.2.1 b (by rw[hL];simp);have heq:=fun w=>q7u w HR.out.2.2.2.2.1 hfb;have hgd:=fun w=>qqi w x' b.1;have hA:=fun w=>qqj w HR.out.2.2.2.2.1 hfb;unfold qap qaf bs at heq hgd hA;have h7:(L'.length:Int)<=2000:=by omega
   rw[k5]at d0;rw[HK];clear Hv Hu hM Hm Ho Hw k3 k2;by_cases hx:x'=b.1
   ·rw[if_neg (fun q=>q hx)]at Ha
    have Hg:=hd Ha;have HX:=hd hx;rw[decide_eq_true hx]at heq hA;clear Ha hx Hp;go_wp2_with fail
    obtain⟨n1,H7⟩:∃n1,n1=L'.length+1:=⟨_,rfl⟩;have hb1:(L'.length:Int)<(n1:Int):=by omega
    rw[<-H7];go_region
    all_goals
     go_wp2_with fail
     go_roundw
     case rel=>exact⟨a+1,m,s',x',L',vv',ext,_,cv,rfl,by go_num,by omega,(HL.out.pop.alloc _).drew,HR.out.2.1,HR.out.2.2.1,HR.out.2.2.2.1,HR.out.2.2.2.2.1,h6.out,H6.out,Hg.out⟩
     case measure=>simp[intOf];omega
   ·rw[if_pos hx]at Ha
    have Hg:=hd Ha;rw[decide_eq_false hx]at heq hA;have hI:Hid (∀w5,SvAt w5 B F S vv' (M++[g]++ext) s'->B<=w5.heap.size->Calls Tryz.prog 107 #[.pointer (some ⟨F.g,0,none⟩),.agg #[.int .i64 e.1,.int .u8 (e.2.st.mode:Int),.string ⟨e.2.st.name.toArray⟩,.string ⟨e.2.st.elem.toArray⟩,.int .i64 e.2.st.kind,.int .i64 (e.2.st.read:Int),.bool e.2.ma.ref,.bool e.2.st.esc,.int .i64 e.2.ma.hex,.int .i64 e.2.ma.pct,.int .i64 e.2.ma.far],.int .i64 13,.int .i64 p5.pos] w5 fun ed w'=>(∃r,ed=.returned r)/\SeAt w' B F S vv' Q/\Cue B F w5 w'):=fun w5 h5 hJ=>by
     have:=qk3 S w5 B F vv' s' e 13 p5.pos h5.se H1.lt hJ;rw[Hg.out]at this;exact this
    have he:=fun o=>qcn (HR.out.1.alloc o).ent;unfold qao bs at he;have m0:=fun o=>he o 0 _ rfl;have m1:=fun o=>he o 1 _ rfl;have m2:=fun o=>he o 2 _ rfl;have m3:=fun o=>he o 3 _ rfl;have m4:=fun o=>he o 4 _ rfl;have m5:=fun o=>he o 5 _ rfl;have m6:=fun o=>he o 6 _ rfl;have m7:=fun o=>he o 7 _ rfl;have m8:=fun o=>he o 8 _ rfl;have m9:=fun o=>he o 9 _ rfl;have m10:=fun o=>he o 10 _ rfl;have hbw:B<=wr.heap.size:=Nat.le_trans hB (Nat.le_trans HR.out.1.old.1 (Nat.le_of_lt HR.out.1.now.lt));have hHD:=fun o=>(HR.out.1.alloc o).drew;have HW:=hd hHD;clear Ha hx Hp he hHD;go_wp2_with fail
    obtain⟨n1,H7⟩:∃n1,n1=L'.length+1:=⟨_,rfl⟩;have hb1:(L'.length:Int)<(n1:Int):=by omega
    rw[<-H7];go_region
    all_goals
     go_wp2_with fail
     go_region_with (go_at_call 107;refine(hI.out _ (HW.out _).drew.sv (by simp;omega)).mono ?_;rintro ed w3 ⟨⟨r,rfl⟩,HJ,Hc⟩)
     all_goals
      go_wp2_with fail
      show Exit.noGoto _ _ _ _;simp only[Exit.noGoto];go_wp2_with fail
      go_end0
      have hu:Q.nums=s'.nums/\Q.vis=s'.vis:=by rw[<-Hg.out];exact⟨rfl,rfl⟩
      exact⟨⟨_,rfl⟩,⟨vv',[g]++ext,by rw[<-List.append_assoc];exact(HW.out _).drew.sv.turn HJ Hc hu.1 hu.2⟩,(HW.out _).drew.cuv.trans (Cuv.of_cue (HW.out _).drew.sv.se Hc)⟩
  have k5a:((p.kind:Int)==5)=false:=by rw[beq_eq_false_iff_ne];omega
  have Hk:=hd (Hk.out k5);by_cases k6:p.kind=6
  ·have Ha:=Hp.out
   rw[if_neg (by omega),if_neg k2,if_neg k3,if_neg k5,if_pos k6]at Ha
   try simp only at Ha
   have hC:=Pl.zap S k s'.nums.length HR.out.2.2.1 HR.out.2.2.2.1 s' p.text x' HR.out.2.1 (Nat.le_refl _) HR.out.2.2.2.2.1;have hN:=fun(w5:World) (h5:SvAt w5 B F S vv' (M++[g]++ext) s') (t5:TabB B w5)=>q6e HB S hS k HT w5 B F vv' (M++[g]++ext) s' p.text x' h5 HR.out.2.1 HR.out.2.2.2.1 HR.out.2.2.1 HR.out.2.2.2.2.1 HP.out.1 t5;generalize Pl.nmV S k s' p.text x'=r at Ha hC hN;obtain⟨s2,z,y⟩:=r;simp only at Ha hC;have Hb:=fun w=>qsi y w;have hT:=fun(w5:World) (vv5:Value) (M5:List Nat) (hw:Thi w w5 B F S vv5 M5 s2 w.heap.size e s.vis.length g src.parts.length G x' (.slice av L.length cv) L)=>(hw.mark a z).set y;have Hu:g≠G/\g≠F.g:=by
    obtain⟨u,h1,h2⟩:=HR.out.1.vis;obtain⟨hb,_⟩:=HR.out.1.sv.marks _ g u HR.out.1.mks h1;exact⟨qae hb HR.out.1.now (by decide),qae hb HR.out.1.sv.se.blk (by decide)⟩
   have h8:G≠F.g:=qae HR.out.1.now HR.out.1.sv.se.blk qb1;obtain⟨Hu,h9⟩:=Hu;have He:Hid (Pl.Inv S (s2.mark s.vis.length a z)/\258<=(s2.mark s.vis.length a z).nums.length+k/\1<=(s2.mark s.vis.length a z).nums.length):=by
    have h1:=hC.2.1.nums;have h2:=HR.out.2.2.1;have h3:=HR.out.2.2.2.1;exact⟨hC.1.mark _ _ _,by show 258<=s2.nums.length+k;omega,by show 1<=s2.nums.length;omega⟩
   unfold qap qaf bs at hN Hb;unfold qcs at hT;have HN:=hd hN;have Hn:=hd Hb;have Hz:=hd hT;have HM:=hd hC;have hX:=hd Ha;rw[k6]at d0;clear Hp Ha hC hN Hb hT k3 k3a k3b k2 k2a k5 k5a k6;by_cases hf:s2.fault.code=0
   rotate_left
   ·have f5:((s2.fault.code:Int)==0)=false:=by rw[beq_eq_false_iff_ne];omega
    have Hg:Hid (s2.mark s.vis.length a z=Q):=by
     have:=hX.out;rw[if_pos (Or.inl (show(s2.mark s.vis.length a z).fault.code≠0 from hf))]at this;exact this
    clear hf
    go_wp2_with (go_at_call 110;refine Calls.mono (HN.out _ (HR.out.1.alloc _).sv (HR.out.1.alloc _).tabs) ?_;rintro ed w2 ⟨rfl,⟨vv2,ext2,Hj⟩,Hc⟩
                 have H9:=(show Hid _ from(HR.out.1.alloc _).turn Hj Hc HM.out.2.1);obtain⟨⟨zz,hz⟩,hK⟩:=H9.out.cell a Hr;have b5:w2.cell? ⟨F.g,5,none⟩=some (.int .i64 (s2.fault.code:Nat)):=Hj.se.cell 5 _ rfl;have f6:¬(s2.fault.code:Int)=0:=by rw[beq_eq_false_iff_ne]at f5;exact f5
                 generalize (s2.fault.code:Int)=fc at b5 f5 f6;have q2:=H9.out.now;have r0:=q2.at'.mode;have r1:=q2.at'.name;have r2:=q2.at'.elem;have r3:=q2.at'.kind;have r4:=q2.at'.read;have r5:=q2.at'.ref;have r6:=q2.at'.esc;have r7:=q2.at'.hex;have r8:=q2.at'.pct;have r9:=q2.at'.far;have t0:=q2.slot.thaw 0;have t1:=q2.slot.thaw 1;have t2:=q2.slot.thaw 2;have t3:=q2.slot.thaw 3;have t4:=q2.slot.thaw 4;have t5:=q2.slot.thaw 5;have t6:=q2.slot.thaw 6;have t7:=q2.slot.thaw 7;have t8:=q2.slot.thaw 8;have t9:=q2.slot.thaw 9;clear q2 Hj Hc)
    show Exit.noGoto _ _ _ _;simp only[Exit.noGoto];go_wp2_with fail
    go_end0
    exact⟨⟨_,rfl⟩,⟨vv2,[g]++ext++ext2,by rw[<-Hg.out,<-List.append_assoc,<-List.append_assoc];exact(Hz.out _ _ _ H9.out).sv⟩,(Hz.out _ _ _ H9.out).cuv⟩
   ·have hO:(s2.mark s.vis.length a z).fault.code=0:=hf
    by_cases hs:y.isNone=true
    rotate_left
    ·have hb:(y.st.mode==0)=false:=by cases q:(y.st.mode==0)with | true=>exact absurd q hs | false=>rfl
     have HO:y.isNone=false:=hb;have Hg:Hid (Pl.goV (Pl.nmV S k) S e.1 s.vis.length src.parts m (a+1) (s2.mark s.vis.length a z) y L=Q):=by
      have:=hX.out;rw[if_neg (by rintro(h1|⟨h1,_⟩);exact h1 hO;exact hs h1),if_pos HO]at this;exact this
     have HFy:=hd (Pl.qkv HM.out.2.2 hs);have Hb:=Hn.out;rw[hb]at Hb;have HC:=hd Hb;clear Hn Hb hs HO hb hO
     go_wp2_with (first
      | (go_at_call 110;refine Calls.mono (HN.out _ (HR.out.1.alloc _).sv (HR.out.1.alloc _).tabs) ?_;rintro ed w2 ⟨rfl,⟨vv2,ext2,Hj⟩,Hc⟩
         have H9:=(show Hid _ from(HR.out.1.alloc _).turn Hj Hc HM.out.2.1);obtain⟨⟨zz,hz⟩,hK⟩:=H9.out.cell a Hr;have b5:w2.cell? ⟨F.g,5,none⟩=some (.int .i64 (s2.fault.code:Nat)):=Hj.se.cell 5 _ rfl;rw[hf]at b5;have q2:=H9.out.now;have r0:=q2.at'.mode;have r1:=q2.at'.name;have r2:=q2.at'.elem;have r3:=q2.at'.kind;have r4:=q2.at'.read;have r5:=q2.at'.ref;have r6:=q2.at'.esc;have r7:=q2.at'.hex;have r8:=q2.at'.pct;have r9:=q2.at'.far;have t0:=q2.slot.thaw 0;have t1:=q2.slot.thaw 1;have t2:=q2.slot.thaw 2;have t3:=q2.slot.thaw 3;have t4:=q2.slot.thaw 4;have t5:=q2.slot.thaw 5;have t6:=q2.slot.thaw 6;have t7:=q2.slot.thaw 7;have t8:=q2.slot.thaw 8;have t9:=q2.slot.thaw 9;clear q2 Hj Hc)
      | (go_at_call 111;refine(HC.out _).mono ?_;rintro ed w5 ⟨rfl,hR⟩
         have hD:Hid (Thi w w5 B F S vv2 (M++[g]++ext++ext2) (s2.mark s.vis.length a z) w.heap.size e s.vis.length g src.parts.length G y (.slice av L.length cv) L):=by rw[<-hR];exact H10.out.alloc _
         clear hR)
      | (fail_if_success (have HS:=H10.out)
         go_at_call 111;refine(HC.out _).mono ?_;rintro ed w4 ⟨rfl,Hx⟩
         have H10:Hid (Thi w w4 B F S vv2 (M++[g]++ext++ext2) (s2.mark s.vis.length a z) w.heap.size e s.vis.length g src.parts.length G y (.slice av L.length cv) L):=by rw[<-Hx];exact(Hz.out _ _ _ H9.out).alloc _
         have q3:=H10.out.now;have x0:=q3.at'.mode;have x1:=q3.at'.name;have x2:=q3.at'.elem;have x3:=q3.at'.kind;have x4:=q3.at'.read;have x5:=q3.at'.ref;have x6:=q3.at'.esc;have x7:=q3.at'.hex;have x8:=q3.at'.pct;have x9:=q3.at'.far;clear q3 Hx))
     go_roundw
     case rel=>exact⟨a+1,m,s2.mark s.vis.length a z,y,L,vv2,ext++ext2,av,cv,rfl,by go_num,by omega,by rw[<-List.append_assoc];exact hD.out,He.out.1,He.out.2.1,He.out.2.2,HFy.out,HR.out.2.2.2.2.2.1,Hk.out,Hg.out⟩
     case measure=>simp[intOf];omega
    ·have hb:(y.st.mode==0)=true:=hs
     have Hb:=Hn.out;rw[hb]at Hb;have HC:=hd Hb;clear Hn Hb hb;by_cases HA:L=[]
     ·have Hg:Hid (s2.mark s.vis.length a z=Q):=by
       have:=hX.out;rw[if_pos (Or.inr ⟨hs,HA⟩)]at this;exact this
      have hl0:L.length=0:=by rw[HA];rfl
      rw[hl0];clear hs HA hO;go_wp2_with (first
      | (go_at_call 110;refine Calls.mono (HN.out _ (HR.out.1.alloc _).sv (HR.out.1.alloc _).tabs) ?_;rintro ed w2 ⟨rfl,⟨vv2,ext2,Hj⟩,Hc⟩
         have H9:=(show Hid _ from(HR.out.1.alloc _).turn Hj Hc HM.out.2.1);obtain⟨⟨zz,hz⟩,hK⟩:=H9.out.cell a Hr;have b5:w2.cell? ⟨F.g,5,none⟩=some (.int .i64 (s2.fault.code:Nat)):=Hj.se.cell 5 _ rfl;rw[hf]at b5;have q2:=H9.out.now;have r0:=q2.at'.mode;have r1:=q2.at'.name;have r2:=q2.at'.elem;have r3:=q2.at'.kind;have r4:=q2.at'.read;have r5:=q2.at'.ref;have r6:=q2.at'.esc;have r7:=q2.at'.hex;have r8:=q2.at'.pct;have r9:=q2.at'.far;have t0:=q2.slot.thaw 0;have t1:=q2.slot.thaw 1;have t2:=q2.slot.thaw 2;have t3:=q2.slot.thaw 3;have t4:=q2.slot.thaw 4;have t5:=q2.slot.thaw 5;have t6:=q2.slot.thaw 6;have t7:=q2.slot.thaw 7;have t8:=q2.slot.thaw 8;have t9:=q2.slot.thaw 9;clear q2 Hj Hc)
      | (fail_if_success (have HS:=H10.out)
         go_at_call 111;refine(HC.out _).mono ?_;rintro ed w4 ⟨rfl,Hx⟩
         have H10:Hid (Thi w w4 B F S vv2 (M++[g]++ext++ext2) (s2.mark s.vis.length a z) w.heap.size e s.vis.length g src.parts.length G y (.slice av L.length cv) L):=by rw[<-Hx];exact(Hz.out _ _ _ H9.out).alloc _
         have q3:=H10.out.now;have x0:=q3.at'.mode;have x1:=q3.at'.name;have x2:=q3.at'.elem;have x3:=q3.at'.kind;have x4:=q3.at'.read;have x5:=q3.at'.ref;have x6:=q3.at'.esc;have x7:=q3.at'.hex;have x8:=q3.at'.pct;have x9:=q3.at'.far;clear q3 Hx))
      show Exit.noGoto _ _ _ _;simp only[Exit.noGoto];go_wp2_with fail
      go_end0
      exact⟨⟨_,rfl⟩,⟨vv2,[g]++ext++ext2,by rw[<-Hg.out,<-List.append_assoc,<-List.append_assoc];exact H10.out.sv⟩,H10.out.cuv⟩
     ·obtain⟨L',b,hL⟩:∃L' b,L=L'++[b]:=⟨L.dropLast,L.getLast HA,(List.dropLast_concat_getLast HA).symm⟩
      have Hg:Hid (Pl.goV (Pl.nmV S k) S e.1 s.vis.length src.parts m b.2 (s2.mark s.vis.length a z) b.1 L=Q):=by
       have:=hX.out;rw[if_neg (by rintro(h1|⟨_,h1⟩);exact h1 hO;exact HA h1),if_neg (by rw[hs];simp)]at this;rw[hL]at this |-;simp only[List.getLast?_append,List.getLast?_singleton,Option.some_or]at this;exact this
      obtain⟨ex,hx1,hx2,hx3⟩:=(Pl.zab (hS.wf e.1 src hi)).2 (a+1) (by omega) [];have hx4:ex=b.2::(L'.map (·.2)).reverse:=by
       have:=Hk.out;rw[hx1,hL]at this;simpa using this.symm
      have hx5:=hx2 b.2 (by rw[hx4];simp);have HSt6:Hid ((L.map (·.2)).reverse=Pl.stk (src.parts.take b.2) []):=by
       have:=hx3 b.2 _ hx4;rw[Nat.sub_zero]at this;show _=_;rw[this,Hk.out,hx1]
      have HX5:=hd hx5;have hb1:(1:Int)<=(b.2:Int):=by omega
      have Hq:(b.2:Int)<=2000:=by omega
      have h6:=hd (HR.out.2.2.2.2.2.1 b (by rw[hL];simp));have HK:L.length=L'.length+1:=by rw[hL];simp
      have h7:(L'.length:Int)<=2000:=by omega
      have hln3:¬(L'.length:Int)+1=0:=by omega
      have hln4:((L'.length:Int)+1==0)=false:=by rw[beq_eq_false_iff_ne];exact hln3
      have HL:=(show Hid _ from(by have:=HR.out.1;rw[hL]at this;exact this:Thi w wr B F S vv' (M++[g]++ext) s' w.heap.size e s.vis.length g src.parts.length G x' (.slice av (L'++[b]).length cv) (L'++[b])));obtain⟨gb,hgb,_,_⟩:=HL.out.last;have hTb:=fun(w6:World) (vv5:Value) (M5:List Nat) (hw:Thi w w6 B F S vv5 M5 (s2.mark s.vis.length a z) w.heap.size e s.vis.length g src.parts.length G y (.slice av L.length cv) L)=>hw.set b.1;unfold qcs at hTb;have HTb:=hd hTb;have HGb:=hd hgb;have HLL:=hd hL;have HLn:=hd HK;clear hTb hx1 hx2 hx3 hx4 hx5 hs HA hO hL;rw[HK,hgb];clear HK hgb;go_wp2_with (first
      | (go_at_call 110;refine Calls.mono (HN.out _ (HR.out.1.alloc _).sv (HR.out.1.alloc _).tabs) ?_;rintro ed w2 ⟨rfl,⟨vv2,ext2,Hj⟩,Hc⟩
         have H9:=(show Hid _ from(HR.out.1.alloc _).turn Hj Hc HM.out.2.1);obtain⟨⟨zz,hz⟩,hK⟩:=H9.out.cell a Hr;have b5:w2.cell? ⟨F.g,5,none⟩=some (.int .i64 (s2.fault.code:Nat)):=Hj.se.cell 5 _ rfl;rw[hf]at b5;have q2:=H9.out.now;have r0:=q2.at'.mode;have r1:=q2.at'.name;have r2:=q2.at'.elem;have r3:=q2.at'.kind;have r4:=q2.at'.read;have r5:=q2.at'.ref;have r6:=q2.at'.esc;have r7:=q2.at'.hex;have r8:=q2.at'.pct;have r9:=q2.at'.far;have t0:=q2.slot.thaw 0;have t1:=q2.slot.thaw 1;have t2:=q2.slot.thaw 2;have t3:=q2.slot.thaw 3;have t4:=q2.slot.thaw 4;have t5:=q2.slot.thaw 5;have t6:=q2.slot.thaw 6;have t7:=q2.slot.thaw 7;have t8:=q2.slot.thaw 8;have t9:=q2.slot.thaw 9;clear q2 Hj Hc)
      | (go_at_call 111;refine(HC.out _).mono ?_;rintro ed w5 ⟨rfl,hR⟩
         have hD:Hid (Thi w w5 B F S vv2 (M++[g]++ext++ext2) (s2.mark s.vis.length a z) w.heap.size e s.vis.length g src.parts.length G y (.slice av L.length cv) L):=by rw[<-hR];exact H10.out.alloc _
         have hl1:=hD.out;rw[HLL.out]at hl1;obtain⟨gb',e1,_,Hm⟩:=hl1.last;rw[HGb.out]at e1;injection e1 with e1;injection e1 with e1;subst e1;have l0:=Hm 0 _ rfl;have l1:=Hm 1 _ rfl;have l2:=Hm 2 _ rfl;have l3:=Hm 3 _ rfl;have l4:=Hm 4 _ rfl;have l5:=Hm 5 _ rfl;have l6:=Hm 6 _ rfl;have l7:=Hm 7 _ rfl;have l8:=Hm 8 _ rfl;have l9:=Hm 9 _ rfl;have l10:=Hm 10 _ rfl;simp only[Nat.add_zero]at l0;unfold bs at l1 l2;have q4:=fun o=>(hD.out.alloc o).now;have t0:=fun o=>(q4 o).slot.thaw 0;have t1:=fun o=>(q4 o).slot.thaw 1;have t2:=fun o=>(q4 o).slot.thaw 2;have t3:=fun o=>(q4 o).slot.thaw 3;have t4:=fun o=>(q4 o).slot.thaw 4;have t5:=fun o=>(q4 o).slot.thaw 5;have t6:=fun o=>(q4 o).slot.thaw 6;have t7:=fun o=>(q4 o).slot.thaw 7;have t8:=fun o=>(q4 o).slot.thaw 8;have t9:=fun o=>(q4 o).slot.thaw 9;have r0:=fun o=>(q4 o).at'.mode;have r1:=fun o=>(q4 o).at'.name;have r2:=fun o=>(q4 o).at'.elem;have r3:=fun o=>(q4 o).at'.kind;have r4:=fun o=>(q4 o).at'.read;have r5:=fun o=>(q4 o).at'.ref;have r6:=fun o=>(q4 o).at'.esc;have r7:=fun o=>(q4 o).at'.hex;have r8:=fun o=>(q4 o).at'.pct;have r9:=fun o=>(q4 o).at'.far;clear hR hl1 Hm q4)
      | (fail_if_success (have HS:=H10.out)
         go_at_call 111;refine(HC.out _).mono ?_;rintro ed w4 ⟨rfl,Hx⟩
         have H10:Hid (Thi w w4 B F S vv2 (M++[g]++ext++ext2) (s2.mark s.vis.length a z) w.heap.size e s.vis.length g src.parts.length G y (.slice av L.length cv) L):=by rw[<-Hx];exact(Hz.out _ _ _ H9.out).alloc _
         have q3:=H10.out.now;have x0:=q3.at'.mode;have x1:=q3.at'.name;have x2:=q3.at'.elem;have x3:=q3.at'.kind;have x4:=q3.at'.read;have x5:=q3.at'.ref;have x6:=q3.at'.esc;have x7:=q3.at'.hex;have x8:=q3.at'.pct;have x9:=q3.at'.far;clear q3 Hx))
      obtain⟨o6,ho6⟩:∃o6,o6=Obj.cells #[.int .u8 (b.1.st.mode:Int),.string ⟨b.1.st.name.toArray⟩,.string ⟨b.1.st.elem.toArray⟩,.int .i64 b.1.st.kind,.int .i64 (b.1.st.read:Int),.bool b.1.ma.ref,.bool b.1.st.esc,.int .i64 b.1.ma.hex,.int .i64 b.1.ma.pct,.int .i64 b.1.ma.far,.int .i64 (b.2:Nat)] 234:=⟨_,rfl⟩;rw[<-ho6];have ho:∀(j:Nat) (v:Value),#[.int .u8 (b.1.st.mode:Int),.string ⟨b.1.st.name.toArray⟩,.string ⟨b.1.st.elem.toArray⟩,.int .i64 b.1.st.kind,.int .i64 (b.1.st.read:Int),.bool b.1.ma.ref,.bool b.1.st.esc,.int .i64 b.1.ma.hex,.int .i64 b.1.ma.pct,.int .i64 b.1.ma.far,.int .i64 (b.2:Nat)][j]?=some v->(w5.alloc o6).cell? ⟨w5.heap.size,j,none⟩=some v:=fun j v hv=>by
       rw[ho6];exact qaa (heap_alloc_new w5 _) j _ (by rw[Array.getElem?_toList];exact hv)
      have hne6:G≠w5.heap.size:=Nat.ne_of_lt hD.out.now.lt;have Hs:=hD.out.alloc o6;clear ho6;generalize w5.heap.size=E6 at ho hne6 |-;generalize World.alloc w5 o6=w6 at ho Hs |-;have H12:=hd Hs;have ha:=Hs.now;have x0:=ha.at'.mode;have x1:=ha.at'.name;have x2:=ha.at'.elem;have x3:=ha.at'.kind;have x4:=ha.at'.read;have x5:=ha.at'.ref;have x6:=ha.at'.esc;have x7:=ha.at'.hex;have x8:=ha.at'.pct;have x9:=ha.at'.far;have y0:=ha.slot.thaw 0;have y1:=ha.slot.thaw 1;have y2:=ha.slot.thaw 2;have y3:=ha.slot.thaw 3;have y4:=ha.slot.thaw 4;have y5:=ha.slot.thaw 5;have y6:=ha.slot.thaw 6;have y7:=ha.slot.thaw 7;have y8:=ha.slot.thaw 8;have y9:=ha.slot.thaw 9;have k0:=ho 0 _ rfl;have k1:=ho 1 _ rfl;have k2:=ho 2 _ rfl;have k3:=ho 3 _ rfl;have k4:=ho 4 _ rfl;have k5:=ho 5 _ rfl;have k6:=ho 6 _ rfl;have k7:=ho 7 _ rfl;have k8:=ho 8 _ rfl;have k9:=ho 9 _ rfl;have k10:=ho 10 _ rfl;clear ho Hs ha l0 l1 l2 l3 l4 l5 l6 l7 l8 l9 l10 t0 t1 t2 t3 t4 t5 t6 t7 t8 t9 r0 r1 r2 r3 r4 r5 r6 r7 r8 r9 q0 q1 q2 q3 q4 q5 q6 q7 q8 q9 f0 f1 f2 f3 f4 f5 f6 f7 f8 f9 d0 d1 d2 d3 b5 hz hK Hu h9 h8;go_region_held3 (fun w'=>w'.cell? ⟨E6,0,none⟩=some (.int .u8 (b.1.st.mode:Int))/\w'.cell? ⟨E6,1,none⟩=some (.string ⟨b.1.st.name.toArray⟩)/\w'.cell? ⟨E6,2,none⟩=some (.string ⟨b.1.st.elem.toArray⟩)/\w'.cell? ⟨E6,3,none⟩=some (.int .i64 b.1.st.kind)/\w'.cell? ⟨E6,4,none⟩=some (.int .i64 (b.1.st.read:Int))/\w'.cell? ⟨E6,5,none⟩=some (.bool b.1.ma.ref)/\w'.cell? ⟨E6,6,none⟩=some (.bool b.1.st.esc)/\w'.cell? ⟨E6,7,none⟩=some (.int .i64 b.1.ma.hex)/\w'.cell? ⟨E6,8,none⟩=some (.int .i64 b.1.ma.pct)/\w'.cell? ⟨E6,9,none⟩=some (.int .i64 b.1.ma.far)/\w'.cell? ⟨E6,10,none⟩=some (.int .i64 (b.2:Nat))) (go_keep) (fail)
      all_goals
       go_wp2_with fail
       go_roundw
       case rel=>exact⟨b.2,m,s2.mark s.vis.length a z,b.1,L,vv2,ext++ext2,av,cv,by rw[HLn.out,HGb.out],by rw[Int.sub_add_cancel],by have:=HX5.out;omega,by rw[<-List.append_assoc];exact(HTb.out _ _ _ H12.out).drew,He.out.1,He.out.2.1,He.out.2.2,h6.out,HR.out.2.2.2.2.2.1,HSt6.out,Hg.out⟩
       case measure=>have:=HX5.out;simp[intOf];omega
  have k1:p.kind=1:=by have:=hkp;omega
  have Ha:=Hp.out;rw[if_pos k1]at Ha;generalize wr=wo at *;clear wr;obtain⟨T,hT⟩:∃T:ByteArray,T=⟨p.text.toArray⟩:=⟨_,rfl⟩;have hTl:T.data.toList=p.text:=by rw[hT]
  have hTs:(T.size:Int)<=2000:=by have:=HP.out.1;rw[<-hTl]at this;simp at this;omega
  rw[k1]at d0;rw[<-hT]at d2;rw[<-hTl]at Ha;have Hg:=hd Ha;clear hTl hT Hp Ha k3 k3a k3b k2 k2a k5 k5a k6 k1;go_wp2_with fail
  clear d0 d1 d2 d3 q0 q1 q2 q3 q4 q5 q6 q7 q8 q9 f0 f1 f2 f3 f4 f5 f6 f7 f8 f9;go_hide hQ
  have HQh:=hd hQ;clear hQ;go_loopw [40,10] (fun i _ wr=>∃j:Nat,j<=T.size/\i=.int .i64 j/\Hid (Thi w wr B F S vv' (M++[g]++ext) s' w.heap.size e s.vis.length g src.parts.length G (Pl.qav x' (T.data.toList.take j)) (.slice av L.length cv) L/\wr.heap[wo.heap.size]?=some (.cells #[.int .i64 1,.int .i64 p.pos,.string T,.int .i64 p.mate] 229 (0,0))/\Pl.qbj x' (T.data.toList.take j)=none)) (fun i _ _=>T.size - (intOf i).toNat)
  case atStart=>exact⟨0,Nat.zero_le _,rfl,HR.out.1.alloc _,heap_alloc_new wo _,rfl⟩
  case round=>
   obtain⟨j,hj,rfl,HI⟩:=hrel;by_cases hjl:j<T.size
   rotate_left
   ·have hjt:j=T.size:=by omega
    have c5:¬(j:Int)<(T.size:Int):=by omega
    have HD:Pl.qbj x' T.data.toList=none:=by
     have:=HI.out.2.2;rw[hjt,Pl.qeu T T.size (by omega)]at this;exact this
    have HX2:Hid (Thi w wr B F S vv' (M++[g]++ext) s' w.heap.size e s.vis.length g src.parts.length G (Pl.qav x' T.data.toList) (.slice av L.length cv) L):=by
     have:=HI.out.1;rw[hjt,Pl.qeu T T.size (by omega)]at this;exact this
    have hZ:Hid (Pl.goV (Pl.nmV S k) S e.1 s.vis.length src.parts m (a+1) s' (Pl.qav x' T.data.toList) L=Q):=by
     have:=Hg.out;rw[HD]at this;exact this
    clear hjt HD;go_wp2_with fail
    rw[<-HQh.out];go_wp2_with fail
    go_roundw
    case rel=>exact⟨a+1,m,s',Pl.qav x' T.data.toList,L,vv',ext,av,cv,rfl,by go_num,by omega,HX2.out,HR.out.2.1,HR.out.2.2.1,HR.out.2.2.2.1,Pl.qhf _ _ HR.out.2.2.2.2.1,HR.out.2.2.2.2.2.1,Hk.out,hZ.out⟩
    case measure=>simp[intOf];omega
   ·have c5:(j:Int)<(T.size:Int):=by omega
    have hfj:=Pl.qhf (T.data.toList.take j) _ HR.out.2.2.2.2.1;have hU:j<T.data.toList.length:=by simpa using hjl
    have HZ:Pl.qbv (Pl.qav x' (T.data.toList.take j)).st.kind (Pl.qav x' (T.data.toList.take j)).st.mode (Pl.qav x' (T.data.toList.take j)).ma.far T[j]=true->Pl.qbj x' T.data.toList=some j:=Pl.qt4 T.data.toList x' j hU HI.out.2.2;have hso:Pl.qbv (Pl.qav x' (T.data.toList.take j)).st.kind (Pl.qav x' (T.data.toList.take j)).st.mode (Pl.qav x' (T.data.toList.take j)).ma.far T[j]=false->Pl.qbj x' (T.data.toList.take (j+1))=none:=Pl.qt3 T.data.toList x' j hU HI.out.2.2;have h0:=fun w=>qi8 (Pl.qav x' (T.data.toList.take j)) T[j] w;have HU:=fun w1 h1=>HB (Pl.qav x' (T.data.toList.take j)) T[j] w1 h1 hfj.ok;have hV:=fun(w5:World) (hw:Thi w w5 B F S vv' (M++[g]++ext) s' w.heap.size e s.vis.length g src.parts.length G (Pl.qav x' (T.data.toList.take j)) (.slice av L.length cv) L)=>hw.set ((Pl.qav x' (T.data.toList.take j)).behind T[j]);have hnx:Pl.qav x' (T.data.toList.take (j+1))=(Pl.qav x' (T.data.toList.take j)).behind T[j]:=by rw[Pl.qc9 T j hjl,Pl.qkg]
    rw[<-hnx]at HU hV;obtain⟨Y,hY⟩:∃Y,Y=Pl.qav x' (T.data.toList.take (j+1)):=⟨_,rfl⟩;rw[<-hY]at HU hV;have HY:=hd hY;have Hf:=HI.out.1.now.at';have t1:wr.cell? ⟨wo.heap.size,1,none⟩=some (.int .i64 p.pos):=qaa HI.out.2.1 1 _ rfl;have t2:wr.cell? ⟨wo.heap.size,2,none⟩=some (.string T):=qaa HI.out.2.1 2 _ rfl;have hGlt:=HR.out.1.now.lt;have hTid:Hid (TabB B wr):=HI.out.1.tabs;have HSch:=hd hso;clear hY hnx hfj;generalize Pl.qav x' (T.data.toList.take j)=X at *;obtain⟨ms,hms⟩:∃ms,Pl.qbv X.st.kind X.st.mode X.ma.far T[j]=ms:=⟨_,rfl⟩;rw[hms]at h0 HZ;have HD:ms=false->Pl.qbj x' (T.data.toList.take (j+1))=none:=fun q=>hso (hms.trans q);have q0:=Hf.mode;have q1:=Hf.name;have q2:=Hf.elem;have q3:=Hf.kind;have q4:=Hf.read;have q5:=Hf.ref;have q6:=Hf.esc;have q7:=Hf.hex;have q8:=Hf.pct;have q9:=Hf.far;unfold qap qaf bs at h0 HU;unfold qcs at hV;have HMS:=hd h0;have HB1:=hd HU;have HTT:=hd hV;have hE:Hid (Thi w wr B F S vv' (M++[g]++ext) s' w.heap.size e s.vis.length g src.parts.length G X (.slice av L.length cv) L/\wr.heap[wo.heap.size]?=some (.cells #[.int .i64 1,.int .i64 p.pos,.string T,.int .i64 p.mate] 229 (0,0))):=⟨HI.out.1,HI.out.2.1⟩;clear HU hV Hf h0 hms hso HSch HI;cases ms with
    |true=>
      have Ha:=Hg.out;rw[HZ rfl]at Ha;have hZ:Hid (s'.wrong S e.1 14 (p.pos+j)=Q):=Ha;have hpp:(p.pos:Int)<=2000:=by have:=HP.out.2.1;omega
      have hI:Hid (∀w5,SvAt w5 B F S vv' (M++[g]++ext) s'->B<=w5.heap.size->Calls Tryz.prog 107 #[.pointer (some ⟨F.g,0,none⟩),.agg #[.int .i64 e.1,.int .u8 (e.2.st.mode:Int),.string ⟨e.2.st.name.toArray⟩,.string ⟨e.2.st.elem.toArray⟩,.int .i64 e.2.st.kind,.int .i64 (e.2.st.read:Int),.bool e.2.ma.ref,.bool e.2.st.esc,.int .i64 e.2.ma.hex,.int .i64 e.2.ma.pct,.int .i64 e.2.ma.far],.int .i64 14,.int .i64 ((p.pos:Int)+(j:Int))] w5 fun ed w'=>(∃r,ed=.returned r)/\SeAt w' B F S vv' Q/\Cue B F w5 w'):=fun w5 h5 hJ=>by
       have:=qk3 S w5 B F vv' s' e 14 (p.pos+j) h5.se H1.lt hJ;rw[hZ.out]at this;exact this
      clear Ha HZ HD;go_wp2_with fail
      go_cut [48] (fun s48 wx=>s48=.bool true/\Hid (Thi w wx B F S vv' (M++[g]++ext) s' w.heap.size e s.vis.length g src.parts.length G X (.slice av L.length cv) L/\wx.heap[wo.heap.size]?=some (.cells #[.int .i64 1,.int .i64 p.pos,.string T,.int .i64 p.mate] 229 (0,0))))
      case first=>
       first|go_region_with (go_at_call 106;refine(HMS.out _).mono ?_;rintro ed w2 ⟨rfl,hF⟩)|fail
       all_goals
        have HV:Below wr.drew.heap.size wr.drew w2:=by rw[<-hF];exact qo2 _ _ _
        have He:Hid (Thi w w2 B F S vv' (M++[g]++ext) s' w.heap.size e s.vis.length g src.parts.length G X (.slice av L.length cv) L/\w2.heap[wo.heap.size]?=some (.cells #[.int .i64 1,.int .i64 p.pos,.string T,.int .i64 p.mate] 229 (0,0))):=
         ⟨hE.out.1.drew.below HV,(HV.block _ (Array.getElem?_eq_some_iff.1 hE.out.2).1).trans hE.out.2⟩
        go_wp2_with fail
        go_meet
        case rel=>exact⟨rfl,He.out⟩
      case rest=>
       obtain⟨rfl,He⟩:=hcut;have t3:wc.cell? ⟨wo.heap.size,2,none⟩=some (.string T):=qaa He.out.2 2 _ rfl;have t4:wc.cell? ⟨wo.heap.size,1,none⟩=some (.int .i64 p.pos):=qaa He.out.2 1 _ rfl;clear q0 q1 q2 q3 q4 q5 q6 q7 q8 q9 t1 t2;have he:=qcn He.out.1.ent;unfold qao bs at he;have m0:=he 0 _ rfl;have m1:=he 1 _ rfl;have m2:=he 2 _ rfl;have m3:=he 3 _ rfl;have m4:=he 4 _ rfl;have m5:=he 5 _ rfl;have m6:=he 6 _ rfl;have m7:=he 7 _ rfl;have m8:=he 8 _ rfl;have m9:=he 9 _ rfl;have m10:=he 10 _ rfl;have hBw:B<=wc.heap.size:=Nat.le_trans hB (Nat.le_trans He.out.1.old.1 (Nat.le_of_lt He.out.1.now.lt));clear he t3;go_wp2_with (go_at_call 107;refine(hI.out _ He.out.1.sv hBw).mono ?_;rintro ed w3 ⟨⟨r,rfl⟩,HJ,Hc⟩)
       rw[<-HQh.out];go_wp2_with fail
       show Exit.noGoto _ _ _ _;simp only[Exit.noGoto];go_wp2_with fail
       go_end0
       have hu:Q.nums=s'.nums/\Q.vis=s'.vis:=by rw[<-hZ.out];exact⟨rfl,rfl⟩
       exact⟨⟨_,rfl⟩,⟨vv',[g]++ext,by rw[<-List.append_assoc];exact He.out.1.sv.turn HJ Hc hu.1 hu.2⟩,He.out.1.cuv.trans (Cuv.of_cue He.out.1.sv.se Hc)⟩
    |false=>
      have HSn:=hd (HD rfl);clear HZ HD;go_wp2_with fail
      go_cut [48] (fun s48 wx=>s48=.bool false/\Hid (Thi w wx B F S vv' (M++[g]++ext) s' w.heap.size e s.vis.length g src.parts.length G X (.slice av L.length cv) L/\wx.heap[wo.heap.size]?=some (.cells #[.int .i64 1,.int .i64 p.pos,.string T,.int .i64 p.mate] 229 (0,0))))
      case first=>
       first|go_region_with (go_at_call 106;refine(HMS.out _).mono ?_;rintro ed w2 ⟨rfl,hF⟩)|fail
       all_goals
        have HV:Below wr.drew.heap.size wr.drew w2:=by rw[<-hF];exact qo2 _ _ _
        have He:Hid (Thi w w2 B F S vv' (M++[g]++ext) s' w.heap.size e s.vis.length g src.parts.length G X (.slice av L.length cv) L/\w2.heap[wo.heap.size]?=some (.cells #[.int .i64 1,.int .i64 p.pos,.string T,.int .i64 p.mate] 229 (0,0))):=
         ⟨hE.out.1.drew.below HV,(HV.block _ (Array.getElem?_eq_some_iff.1 hE.out.2).1).trans hE.out.2⟩
        go_wp2_with fail
        go_meet
        case rel=>exact⟨rfl,He.out⟩
      case rest=>
       obtain⟨rfl,He⟩:=hcut;have t3:wc.cell? ⟨wo.heap.size,2,none⟩=some (.string T):=qaa He.out.2 2 _ rfl;have t4:wc.cell? ⟨wo.heap.size,1,none⟩=some (.int .i64 p.pos):=qaa He.out.2 1 _ rfl;clear q0 q1 q2 q3 q4 q5 q6 q7 q8 q9 t1 t2;have ht1:PTabs wc:=He.out.1.tabs.1;have q5:=He.out.1.now.at';have r0:=q5.mode;have r1:=q5.name;have r2:=q5.elem;have r3:=q5.kind;have r4:=q5.read;have r5:=q5.ref;have r6:=q5.esc;have r7:=q5.hex;have r8:=q5.pct;have r9:=q5.far;clear q5 t4;have HY2:Hid (Y=Pl.qav x' (T.data.toList.take (j+1))):=HY.out;go_wp2_with fail
       first | go_region_with (go_at_call 63;refine(HB1.out _ ht1.drew).mono ?_;rintro ed w3 ⟨rfl,hb3⟩
                               have HW3:=hd (He.out.1.drew.below hb3);have HP3:=(show Hid _ from(hb3.block _ (Array.getElem?_eq_some_iff.1 He.out.2).1).trans He.out.2);have Hi:=HW3.out.now;have x0:=Hi.at'.mode;have x1:=Hi.at'.name;have x2:=Hi.at'.elem;have x3:=Hi.at'.kind;have x4:=Hi.at'.read;have x5:=Hi.at'.ref;have x6:=Hi.at'.esc;have x7:=Hi.at'.hex;have x8:=Hi.at'.pct;have x9:=Hi.at'.far;have z0:=Hi.slot.thaw 0;have z1:=Hi.slot.thaw 1;have z2:=Hi.slot.thaw 2;have z3:=Hi.slot.thaw 3;have z4:=Hi.slot.thaw 4;have z5:=Hi.slot.thaw 5;have z6:=Hi.slot.thaw 6;have z7:=Hi.slot.thaw 7;have z8:=Hi.slot.thaw 8;have z9:=Hi.slot.thaw 9;clear Hi hb3 r0 r1 r2 r3 r4 r5 r6 r7 r8 r9 t3) | fail
       all_goals
        go_wp2_with fail
        go_roundw
        case rel=>exact⟨j+1,by omega,by go_num,by rw[<-HY2.out];exact HTT.out _ HW3.out,(qgy (Nat.ne_of_gt hGlt) _ _ _ _ _ _ _ _ _ _).trans HP3.out,HSn.out⟩
        case measure=>simp[intOf];omega
end Go.Proofs.YtfkhljmiehdgmaaGreatDoor

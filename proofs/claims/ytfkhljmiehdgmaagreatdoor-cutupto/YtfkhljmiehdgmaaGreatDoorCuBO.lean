/-
  Steps of the proof.
-/
import Derived.Test.YtfkhljmiehdgmaaGreatDoorCuBM
set_option maxRecDepth 100000
set_option maxHeartbeats 40000000
namespace Go.Proofs.YtfkhljmiehdgmaaGreatDoor
open Go.RowKit Go.Proofs.Tryz Pl
theorem qtu:(Value.agg #[zJ 0,zS,zS,zI 0,zI 0,.bool false,.bool false,zI 0,zI 0,zI 0,zI 0]).cells.size=11:=rfl
theorem q9b:(prog.info? 234).map (fun i=>(i.zero,i.size,i.bytes))=some (some (.agg #[zJ 0,zS,zS,zI 0,zI 0,.bool false,.bool false,zI 0,zI 0,zI 0,zI 0]),11,96):=by kernel_rfl
theorem zeu(HB:qhp)(S:List Src)(hS:SrcsOk S)(k:Nat)(HT:ThrC S k):ThrC S (k+1):=by
 intro w B F vv M s e h hp hk ht;have hV:=hp;have hB:B<=w.heap.size:=by
  have q1:=h.se.le.1;have q2:=(zL h.se.blk);omega
 have hfew:=hp.inv.few;have hef:=hp.inv.ends.few;have hvl:s.vis.length<=1000:=by rw[hp.inv.vis];omega
 obtain⟨src,Z⟩:∃src,S[e.1]?=some src:=⟨S[e.1]'hp.lt,yc hp.lt⟩;have hP:qah S e.1=src.parts:=by unfold qah;rw[Z]
 have hpl:=(hS.parts e.1 src Z).1;obtain⟨ao,cap,hv⟩:=qaq (h.se.src.row e.1 src Z);obtain⟨bg1,bg2,bg3⟩:=hp.begun;have hl:=zH (fun o=>q63 S hS (w.alloc o) B F vv M s e (h.alloc o) ⟨hp.inv.key,hp.inv.one⟩ hp.lt hp.fit hvl (by simp;omega));rw[hP,qbj,hv]at hl;rw[qug,hP];generalize hQ:goV (nmV S k) S e.1 s.vis.length src.parts (src.parts.length+1) 0 (Pl.begun S s e) e.2 []=Q;have HQ0:=zH hQ;clear hQ;have HI:Hid (∀(w2:World) (vv2:Value) (g:Nat),SvAt w2 B F S vv2 (M++[g]) (Pl.begun S s e)->Cuv B F (w.alloc (.cells (qao e) 180)) w2->Thi w (w2.alloc (.cells (qaf e.2) 162)) B F S vv2 (M++[g]) (Pl.begun S s e) w.heap.size e s.vis.length g src.parts.length w2.heap.size e.2 (zN) []):=by
  intro w2 vv2 g ha J;have q1:zW w (w.alloc (.cells (qao e) 180)):=zB _;have Hz:w.heap.size<=w2.heap.size:=by have:=J.below.size;simp at this;omega
  have q2:zW w2 (w2.alloc (.cells (qaf e.2) 162)):=zB _;have q3:(w.alloc (.cells (qao e) 180)).heap[w.heap.size]?=zK (qao e) 180:=xF w _;have q4:=(J.keep w.heap.size _ _ _ q3 (qae q3 (h.alloc _).se.blk qb6) (by decide) (by decide)).trans q3;refine⟨ha.below q2,(xI _ _ (ya.1 q4).1).trans q4,xF w2 _,?_,?_,World.ownsRow_nil _ _ _ _,⟨Hz,hB⟩,((Cuv.of_below q1 hB).trans J).trans (Cuv.of_below q2 (by omega)),(ht.kept (q1.mono hB)).kept (J.below.trans (q2.mono (by omega)))⟩
  ·rw[yt (by rw[h.len];exact yg _),h.len,xz];rfl
  ·refine⟨(e.1,List.replicate src.parts.length 0),?_,by simp⟩
   unfold Pl.begun;rw[hP];simp
 have HE:Hid (∀(w2:World),Cuv B F (w.alloc (.cells (qao e) 180)) w2->w2.heap[w.heap.size]?=zK (qao e) 180):=fun w2 J=>by
  have q3:(w.alloc (.cells (qao e) 180)).heap[w.heap.size]?=zK (qao e) 180:=xF w _;exact(J.keep w.heap.size _ _ _ q3 (qae q3 (h.alloc _).se.blk qb6) (by decide) (by decide)).trans q3
 rw[qbj];unfold qao bs;unfold qao qaf bs at HI;unfold qao bs at HE;unfold qao bs at hl;clear h;go_enter func75,ntmps75
 go_wp2
 refine wp_scope_straight ?_
 go_wp2_with (go_at_call 105;refine xQ (hl.out _) ?_;rintro ed w2 ⟨g,vv2,rfl,ha,J,hge⟩
              have he:=qct (HE.out w2 J);unfold qao bs at he;have m0:=al he;clear he)
 have H0:=zH (HI.out w2 vv2 g ha J);clear ha J hge HI hl HE m0;generalize w2.heap.size=G at *;generalize World.alloc w2 _=w4 at H0 |-;refine wp_label ?_;go_wp2
 have HV:=hp.fit;have hW:258<=(Pl.begun S s e).nums.length+k:=by omega
 have h1n:1<=(Pl.begun S s e).nums.length:=by omega
 go_loopw [7,8] (fun b i wr=>∃(a n:Nat) (s':Sr) (x':Sx) (L:List (Sx×Nat)) (vv':Value) (ext:List Nat) (av:Option Addr) (cv:Nat),b=.slice av L.length cv/\i=zI a/\src.parts.length<a+n/\Hid (Thi w wr B F S vv' ((M++[g])++ext) s' w.heap.size e s.vis.length g src.parts.length G x' (.slice av L.length cv) L/\Inv S s'/\258<=s'.nums.length+k/\1<=s'.nums.length/\SxFit x'/\(∀b∈L,SxFit b.1)/\(L.map (·.2)).reverse=stk (src.parts.take a) []/\goV (nmV S k) S e.1 s.vis.length src.parts n a s' x' L=Q)) (fun _ i _=>src.parts.length - (intOf i).toNat)
 case atStart=>exact⟨0,src.parts.length+1,Pl.begun S s e,e.2,[],vv2,[],none,0,rfl,rfl,by omega,by rw[yw];exact H0.out,bg1,hW,h1n,HV,(fun b hb=>by cases hb),rfl,HQ0.out⟩
 case round=>
  obtain⟨a,n,s',x',L,vv',ext,av,cv,rfl,rfl,hn,HR⟩:=hrel;clear HQ0 H0;have U:=HR.out.1.now.at';have q0:=U.mode;have q1:=U.name;have q2:=U.elem;have q3:=U.kind;have q4:=U.read;have q5:=U.ref;have q6:=U.esc;have q7:=U.hex;have q8:=U.pct;have q9:=U.far;clear U;by_cases Hl:a<src.parts.length
  rotate_left
  ·have c1:¬(a:Int)<(src.parts.length:Int):=by omega
   have hq:s'=Q:=by
    have:=HR.out.2.2.2.2.2.2.2;rw[<-this];cases n with
    |zero=>rfl
    |succ n=>
      have hp:src.parts[a]?=none:=yd (by omega);unfold goV;rw[hp]
   have HQ:=zH hq;clear hq;go_wp2
   go_end0
   exact⟨⟨_,rfl⟩,⟨vv',[g]++ext,by rw[<-HQ.out,<-yq];exact HR.out.1.sv⟩,HR.out.1.cuv⟩
  have c1:(a:Int)<(src.parts.length:Int):=by omega
  obtain⟨p,hp⟩:∃p,src.parts[a]?=some p:=⟨src.parts[a],yc Hl⟩;obtain⟨m,rfl⟩:∃m,n=m+1:=⟨n - 1,by omega⟩;have Hb:=HR.out.2.2.2.2.2.2.2;unfold goV at Hb;rw[hp]at Hb;simp only at Hb;have Hr:p∈src.parts:=yl hp;have hpm:=(hS.parts e.1 src Z).2 p Hr;have hkp:=qo5 (hS.wf e.1 src Z) p Hr;have hs:wr.ownsRow B 229 4 (.slice ao src.parts.length cap) src.parts.length (qbp src.parts):=by
   have:=HR.out.1.sv.se.src.row e.1 src Z;rw[hv]at this;exact this
  obtain⟨gp,cap',hg,d0,d1,d2,d3⟩:=qhb hs hp;injection hg with hg1 hg2 hg3;subst hg1 hg3;have Hj:=zH Hb;have HP:=zH hpm;have htk:src.parts.take (a+1)=src.parts.take a++[p]:=by rw[yB Hl];congr 2;rw[yc Hl]at hp;exact yk hp
  have HW:=zH htk;have HRow:=zH hs;clear Hb Hr hpm htk hs;have c2:(a:Int)<=2000:=by omega
  have hLl:L.length<=2000:=by
   have q1:=ze1 (src.parts.take a) [];rw[<-HR.out.2.2.2.2.2.2.1]at q1;simp at q1;omega
  by_cases k3:p.kind=3\/p.kind=4
  ·have V:Hid (goV (nmV S k) S e.1 s.vis.length src.parts m (a+1) s' x' (L++[(x',p.mate)])=Q):=by
    have:=Hj.out;rw[if_neg (by omega),if_neg (by omega),if_pos k3]at this;exact this
   have HSt:Hid (((L++[(x',p.mate)]).map (·.2)).reverse=stk (src.parts.take (a+1)) []):=by
    show _=_;rw[HW.out,qg1,<-HR.out.2.2.2.2.2.2.1,qf6,if_pos k3];simp[stk]
   obtain⟨i0,hi0,hz0,hz1,hz2⟩:=info_parts q9b;have q2:=fun o=>(HR.out.1.alloc o).now.at';have f0:=fun o=>(q2 o).mode;have f1:=fun o=>(q2 o).name;have f2:=fun o=>(q2 o).elem;have f3:=fun o=>(q2 o).kind;have f4:=fun o=>(q2 o).read;have f5:=fun o=>(q2 o).ref;have f6:=fun o=>(q2 o).esc;have f7:=fun o=>(q2 o).hex;have f8:=fun o=>(q2 o).pct;have f9:=fun o=>(q2 o).far;clear q2;clear Hj;rcases k3 with k3|k3
   ·rw[k3]at d0
    go_wp2_with (at_builtin;refine wpList_append_own_at _ rfl _ _ 227 rfl w.heap.size 234 i0 (.agg #[zJ 0,zS,zS,zI 0,zI 0,.bool false,.bool false,zI 0,zI 0,zI 0,zI 0]) 11 96 underlying227 hi0 hz0 hz1 hz2 qtu (by decide) _ _ _ rfl (World.ownsRow.alloc (World.ownsRow.alloc HR.out.1.row _) _) (zO _ 0) 1 1 [zJ (x'.st.mode:Int),.string ⟨x'.st.name.toArray⟩,.string ⟨x'.st.elem.toArray⟩,zI x'.st.kind,zI (x'.st.read:Int),.bool x'.ma.ref,.bool x'.st.esc,zI x'.ma.hex,zI x'.ma.pct,zI x'.ma.far,zI (p.mate:Int)] rfl rfl ?c1 ?c2 ?c3 ?c4 ?c5 ?_)
    case c2=>simp[Value.oneCell']
    case c3=>unfold maxLen;omega
    case c4=>omega
    case c5=>have:=HR.out.1.cuv.below.size;first|omega|(simp;omega)
    ·intro vb' w6 He hA _ _
     have hX:=zH (HR.out.1.push (x',p.mate) ((zB _).alloc (by simp) _) He hA);obtain⟨gb,cb,rfl,_⟩:=qai He (by omega);clear He hA;go_wp2
     go_roundw
     case rel=>exact⟨a+1,m,s',x',L++[(x',p.mate)],vv',ext,some (zO gb 0),cb,by simp,by go_num,by omega,by simpa using hX.out,HR.out.2.1,HR.out.2.2.1,HR.out.2.2.2.1,HR.out.2.2.2.2.1,(fun b hb=>by rcases yn.1 hb with hb|hb;exact HR.out.2.2.2.2.2.1 b hb;simp at hb;subst hb;exact HR.out.2.2.2.2.1),HSt.out,V.out⟩
     case measure=>simp[intOf];omega
   ·rw[k3]at d0
    go_wp2_with (at_builtin;refine wpList_append_own_at _ rfl _ _ 227 rfl w.heap.size 234 i0 (.agg #[zJ 0,zS,zS,zI 0,zI 0,.bool false,.bool false,zI 0,zI 0,zI 0,zI 0]) 11 96 underlying227 hi0 hz0 hz1 hz2 qtu (by decide) _ _ _ rfl (World.ownsRow.alloc (World.ownsRow.alloc HR.out.1.row _) _) (zO _ 0) 1 1 [zJ (x'.st.mode:Int),.string ⟨x'.st.name.toArray⟩,.string ⟨x'.st.elem.toArray⟩,zI x'.st.kind,zI (x'.st.read:Int),.bool x'.ma.ref,.bool x'.st.esc,zI x'.ma.hex,zI x'.ma.pct,zI x'.ma.far,zI (p.mate:Int)] rfl rfl ?e1 ?e2 ?e3 ?e4 ?e5 ?_)
    case e2=>simp[Value.oneCell']
    case e3=>unfold maxLen;omega
    case e4=>omega
    case e5=>have:=HR.out.1.cuv.below.size;first|omega|(simp;omega)
    ·intro vb' w6 He hA _ _
     have hX:=zH (HR.out.1.push (x',p.mate) ((zB _).alloc (by simp) _) He hA);obtain⟨gb,cb,rfl,_⟩:=qai He (by omega);clear He hA;go_wp2
     go_roundw
     case rel=>exact⟨a+1,m,s',x',L++[(x',p.mate)],vv',ext,some (zO gb 0),cb,by simp,by go_num,by omega,by simpa using hX.out,HR.out.2.1,HR.out.2.2.1,HR.out.2.2.2.1,HR.out.2.2.2.2.1,(fun b hb=>by rcases yn.1 hb with hb|hb;exact HR.out.2.2.2.2.2.1 b hb;simp at hb;subst hb;exact HR.out.2.2.2.2.1),HSt.out,V.out⟩
     case measure=>simp[intOf];omega
  have Ha:Hid (p.kind≠5->(L.map (·.2)).reverse=stk (src.parts.take (a+1)) []):=fun h5=>by
   rw[HW.out,qg1,<-HR.out.2.2.2.2.2.2.1,qf6,if_neg k3,if_neg h5];rfl
  have k3a:((p.kind:Int)==3)=false:=by rw[yf];omega
  have k3b:((p.kind:Int)==4)=false:=by rw[yf];omega
  have q2:=fun o=>(HR.out.1.alloc o).now.at';have f0:=fun o=>(q2 o).mode;have f1:=fun o=>(q2 o).name;have f2:=fun o=>(q2 o).elem;have f3:=fun o=>(q2 o).kind;have f4:=fun o=>(q2 o).read;have f5:=fun o=>(q2 o).ref;have f6:=fun o=>(q2 o).esc;have f7:=fun o=>(q2 o).hex;have f8:=fun o=>(q2 o).pct;have f9:=fun o=>(q2 o).far;clear q2;by_cases k2:p.kind=2
  ·have Hc:=fun w=>q9f x' w
   have hO:=fun w=>qkd x' w;have D:=Hj.out;rw[if_neg (by omega),if_pos k2]at D;have HA:=zH (qmy HR.out.2.2.2.2.1);rw[k2]at d0;generalize x'.behindHole=y at hO D HA;obtain⟨h1,h2,hh⟩:∃h1 h2,x'.hole=(h1,h2):=⟨_,_,rfl⟩;rw[hh]at Hc D;simp only at Hc D;unfold qar qaf bs at Hc hO;have Hn:=zH Hc;have HBe:=zH hO;have Ha:=zH (Ha.out (by omega));clear Hc hO hh Hj k3 k3a k3b k2;by_cases hC:h2=0
   rotate_left
   ·rw[if_pos hC]at D
    have V:=zH D;have hc:(h2==0)=false:=by rw[yf];exact hC
    clear D hC;have HC:Hid (∀w5,SvAt w5 B F S vv' (M++[g]++ext) s'->B<=w5.heap.size->zC 107 #[zP F.g,.agg #[zI e.1,zJ (e.2.st.mode:Int),.string ⟨e.2.st.name.toArray⟩,.string ⟨e.2.st.elem.toArray⟩,zI e.2.st.kind,zI (e.2.st.read:Int),.bool e.2.ma.ref,.bool e.2.st.esc,zI e.2.ma.hex,zI e.2.ma.pct,zI e.2.ma.far],zI h2,zI p.pos] w5 fun ed w'=>(∃r,ed=.returned r)/\SeAt w' B F S vv' Q/\Cue B F w5 w'):=fun w5 h5 hD=>by
     have:=ql7 S w5 B F vv' s' e h2 p.pos h5.se hV.lt hD;rw[V.out]at this;exact this
    go_wp2_with (first
     | (go_at_call 108;refine(Hn.out _).mono ?_;rintro ed w2 ⟨rfl,Hk⟩
        have H8:=(show Hid _ from(HR.out.1.alloc _).below Hk);have hpc:w2.cell? (zO wr.heap.size 1)=some (zI p.pos):=qaa ((Hk.block wr.heap.size (by simp)).trans (xF wr _)) 1 _ rfl;have he:=qct H8.out.ent;unfold qao bs at he;have m0:=al he;clear he Hk)
     | (go_at_call 107;refine(HC.out _ H8.out.sv (yh hB (yh H8.out.old.1 (yj H8.out.now.lt)))).mono ?_;rintro ed w3 ⟨⟨r,rfl⟩,HD,J⟩))
    show Exit.noGoto _ _ _ _;simp only[Exit.noGoto];go_wp2
    go_end0
    have ho:Q.nums=s'.nums/\Q.vis=s'.vis:=by rw[<-V.out];exact⟨rfl,rfl⟩
    exact⟨⟨_,rfl⟩,⟨vv',[g]++ext,by rw[<-yq];exact H8.out.sv.turn HD J ho.1 ho.2⟩,H8.out.cuv.trans (Cuv.of_cue H8.out.sv.se J)⟩
   ·rw[if_neg (fun q=>q hC)]at D
    have V:=zH D;subst hC;clear D;have hT:=fun(w5:World) (hw:Thi w w5 B F S vv' (M++[g]++ext) s' w.heap.size e s.vis.length g src.parts.length G x' (.slice av L.length cv) L)=>(hw.mark a h1).set y;have Ho:g≠G:=fun q=>by
     obtain⟨u,h1,h2⟩:=HR.out.1.vis;obtain⟨hb,_⟩:=HR.out.1.sv.marks _ g u HR.out.1.mks h1;exact absurd q (qae hb HR.out.1.now (by decide))
    unfold qdf at hT;have Hs:=zH hT;clear hT
    go_wp2_with (first
     | (go_at_call 108;refine(Hn.out _).mono ?_;rintro ed w2 ⟨rfl,Hk⟩
        have H8:=(show Hid _ from(HR.out.1.alloc _).below Hk);have q2:=H8.out.now.at';have p0:=q2.mode;have p1:=q2.name;have p2:=q2.elem;have p3:=q2.kind;have p4:=q2.read;have p5:=q2.ref;have p6:=q2.esc;have p7:=q2.hex;have p8:=q2.pct;have p9:=q2.far;clear q2 Hk f0 f1 f2 f3 f4 f5 f6 f7 f8 f9)
     | (go_at_call 109;refine(HBe.out _).mono ?_;rintro ed w3 ⟨rfl,Hk⟩
        have H9:=zH (H8.out.below Hk);obtain⟨⟨z,hz⟩,hE⟩:=H9.out.cell a Hl;have q2:=H9.out.now;have r0:=q2.at'.all;have t0:=q2.slot.thaw 0;have t1:=q2.slot.thaw 1;have t2:=q2.slot.thaw 2;have t3:=q2.slot.thaw 3;have t4:=q2.slot.thaw 4;have t5:=q2.slot.thaw 5;have t6:=q2.slot.thaw 6;have t7:=q2.slot.thaw 7;have t8:=q2.slot.thaw 8;have t9:=q2.slot.thaw 9;clear q2 Hk))
    go_roundw
    case rel=>exact⟨a+1,m,s'.mark s.vis.length a h1,y,L,vv',ext,av,cv,rfl,by go_num,by omega,Hs.out _ H9.out,HR.out.2.1.mark _ _ _,HR.out.2.2.1,HR.out.2.2.2.1,HA.out,HR.out.2.2.2.2.2.1,Ha.out,V.out⟩
    case measure=>simp[intOf];omega
  have k2a:((p.kind:Int)==2)=false:=by rw[yf];omega
  by_cases k5:p.kind=5
  ·have Hp:=q96 (hS.wf e.1 src Z) [] 0 rfl
   have Ho:L≠[]:=fun q=>by
    have h1:src.parts=src.parts.take a++(p::src.parts.drop (a+1)):=by
     rw[yc Hl]at hp;rw[<-yk hp,List.getElem_cons_drop,yu]
    have:=zde (src.parts.take a) (p::src.parts.drop (a+1)) [] (by rw[<-h1];simpa using Hp);rw[<-HR.out.2.2.2.2.2.2.1,q]at this;unfold deep at this;rw[if_neg (by omega),if_pos k5]at this;simp at this
   obtain⟨L',b,hL⟩:∃L' b,L=L'++[b]:=⟨L.dropLast,L.getLast Ho,(List.dropLast_concat_getLast Ho).symm⟩;have hm5:=(za0 (hS.wf e.1 src Z) a p hp k5).1;obtain⟨p5,hp5⟩:∃p5,src.parts[p.mate]?=some p5:=⟨src.parts[p.mate]'(by omega),yc (by omega)⟩;have hZ:qk2 src.parts p.mate=p5.pos:=by unfold qk2;rw[hp5]
   have D:=Hj.out;rw[if_neg (by omega),if_neg (by omega),if_neg k3,if_pos k5,hL]at D;simp only[List.getLast?_append,List.getLast?_singleton,Option.some_or,hZ,List.dropLast_concat]at D;have hF:L.length=L'.length+1:=by rw[hL];simp
   have HZ:Hid (∀b∈L',SxFit b.1):=fun c hc=>HR.out.2.2.2.2.2.1 c (by rw[hL];exact List.mem_append_left _ hc);have h0:Hid ((L'.map (·.2)).reverse=stk (src.parts.take (a+1)) []):=by
    show _=_;rw[HW.out,qg1,<-HR.out.2.2.2.2.2.2.1,hL,qf6,if_neg k3,if_pos k5];simp[stk]
   have HF:=(show Hid _ from(by have:=HR.out.1;rw[hL]at this;exact this:Thi w wr B F S vv' (M++[g]++ext) s' w.heap.size e s.vis.length g src.parts.length G x' (.slice av (L'++[b]).length cv) (L'++[b])));obtain⟨gb,rfl,⟨hcv,hcv2⟩,hG⟩:=HF.out.last;have hcv3:(L'.length:Int)<=(cv:Int):=by omega
   have hcv4:(cv:Int)<=(maxLen:Int):=by omega
   have Hf:=fun o=>(HF.out.alloc o).last;have Hi:=fun o=>(fun j v hv=>by
    obtain⟨gb',e1,_,e2⟩:=Hf o;injection e1 with e1;injection e1 with e1;subst e1;exact e2 j v hv:∀j v,(qft b)[j]?=some v->(wr.alloc o).cell? (zO gb (L'.length*11+j))=some v)
   have l0:=fun o=>Hi o 0 _ rfl;have l1:=fun o=>Hi o 1 _ rfl;have l2:=fun o=>Hi o 2 _ rfl;have l3:=fun o=>Hi o 3 _ rfl;have l4:=fun o=>Hi o 4 _ rfl;have l5:=fun o=>Hi o 5 _ rfl;have l6:=fun o=>Hi o 6 _ rfl;have l7:=fun o=>Hi o 7 _ rfl;have l8:=fun o=>Hi o 8 _ rfl;have l9:=fun o=>Hi o 9 _ rfl;have l10:=fun o=>Hi o 10 _ rfl;simp only[Nat.add_zero]at l0;unfold bs at l1 l2;have Hq:∀o,(wr.alloc o).ownsRow B 229 4 (zF gp src.parts.length cap) src.parts.length (qbp src.parts):=fun o=>by
    have:=(HR.out.1.alloc o).sv.se.src.row e.1 src Z;rw[hv]at this;exact this
   have d5:∀o,(wr.alloc o).cell? (zO gp (p.mate*4+1))=some (zI p5.pos):=fun o=>by
    obtain⟨g',_,e1,_,e2,_⟩:=qhb (Hq o) hp5;injection e1 with e1;injection e1 with e1;injection e1 with e1;subst e1;exact e2
   have hm5':(p.mate:Int)<(src.parts.length:Int):=by omega
   have hfb:SxFit b.1:=HR.out.2.2.2.2.2.1 b (by rw[hL];simp);have heq:=fun w=>zd2 w HR.out.2.2.2.2.1 hfb;have hgd:=fun w=>qsk w x' b.1;have Ht:=fun w=>qsl w HR.out.2.2.2.2.1 hfb;unfold qar qaf bs at heq hgd Ht;have H1:(L'.length:Int)<=2000:=by omega
   rw[k5]at d0;rw[hF];clear Hp Ho hG Hf Hi Hq k3 k2;by_cases hx:x'=b.1
   ·rw[if_neg (fun q=>q hx)]at D
    have V:=zH D;have HX:=zH hx;rw[yV hx]at heq Ht;clear D hx Hj;go_wp2
    obtain⟨n1,H2⟩:∃n1,n1=L'.length+1:=⟨_,rfl⟩;have hb1:(L'.length:Int)<(n1:Int):=by omega
    rw[<-H2];go_region
    all_goals
     go_wp2
     go_roundw
     case rel=>exact⟨a+1,m,s',x',L',vv',ext,_,cv,rfl,by go_num,by omega,(HF.out.pop.alloc _).drew,HR.out.2.1,HR.out.2.2.1,HR.out.2.2.2.1,HR.out.2.2.2.2.1,HZ.out,h0.out,V.out⟩
     case measure=>simp[intOf];omega
   ·rw[if_pos hx]at D
    have V:=zH D;rw[yx hx]at heq Ht;have HC:Hid (∀w5,SvAt w5 B F S vv' (M++[g]++ext) s'->B<=w5.heap.size->zC 107 #[zP F.g,.agg #[zI e.1,zJ (e.2.st.mode:Int),.string ⟨e.2.st.name.toArray⟩,.string ⟨e.2.st.elem.toArray⟩,zI e.2.st.kind,zI (e.2.st.read:Int),.bool e.2.ma.ref,.bool e.2.st.esc,zI e.2.ma.hex,zI e.2.ma.pct,zI e.2.ma.far],zI 13,zI p5.pos] w5 fun ed w'=>(∃r,ed=.returned r)/\SeAt w' B F S vv' Q/\Cue B F w5 w'):=fun w5 h5 hD=>by
     have:=ql7 S w5 B F vv' s' e 13 p5.pos h5.se hV.lt hD;rw[V.out]at this;exact this
    have he:=fun o=>qct (HR.out.1.alloc o).ent;unfold qao bs at he;have m0:=fun o=>al (he o);have hbw:B<=wr.heap.size:=yh hB (yh HR.out.1.old.1 (yj HR.out.1.now.lt));have hHD:=fun o=>(HR.out.1.alloc o).drew;have HO:=zH hHD;clear D hx Hj he hHD;go_wp2
    obtain⟨n1,H2⟩:∃n1,n1=L'.length+1:=⟨_,rfl⟩;have hb1:(L'.length:Int)<(n1:Int):=by omega
    rw[<-H2];go_region
    all_goals
     go_wp2
     go_region_with (go_at_call 107;refine(HC.out _ (HO.out _).drew.sv (by simp;omega)).mono ?_;rintro ed w3 ⟨⟨r,rfl⟩,HD,J⟩)
     all_goals
      go_wp2
      show Exit.noGoto _ _ _ _;simp only[Exit.noGoto];go_wp2
      go_end0
      have ho:Q.nums=s'.nums/\Q.vis=s'.vis:=by rw[<-V.out];exact⟨rfl,rfl⟩
      exact⟨⟨_,rfl⟩,⟨vv',[g]++ext,by rw[<-yq];exact(HO.out _).drew.sv.turn HD J ho.1 ho.2⟩,(HO.out _).drew.cuv.trans (Cuv.of_cue (HO.out _).drew.sv.se J)⟩
  have k5a:((p.kind:Int)==5)=false:=by rw[yf];omega
  have Ha:=zH (Ha.out k5);by_cases k6:p.kind=6
  ·have D:=Hj.out
   rw[if_neg (by omega),if_neg k2,if_neg k3,if_neg k5,if_pos k6]at D
   try simp only at D
   have Hv:=zhb S k s'.nums.length HR.out.2.2.1 HR.out.2.2.2.1 s' p.text x' HR.out.2.1 (yg _) HR.out.2.2.2.2.1;have hN:=fun(w5:World) (h5:SvAt w5 B F S vv' (M++[g]++ext) s') (t5:TabB B w5)=>zb9 HB S hS k HT w5 B F vv' (M++[g]++ext) s' p.text x' h5 HR.out.2.1 HR.out.2.2.2.1 HR.out.2.2.1 HR.out.2.2.2.2.1 HP.out.1 t5;generalize nmV S k s' p.text x'=r at D Hv hN;obtain⟨s2,z,y⟩:=r;simp only at D Hv;have I:=fun w=>qu0 y w;have hT:=fun(w5:World) (vv5:Value) (M5:List Nat) (hw:Thi w w5 B F S vv5 M5 s2 w.heap.size e s.vis.length g src.parts.length G x' (.slice av L.length cv) L)=>(hw.mark a z).set y;have Ho:g≠G/\g≠F.g:=by
    obtain⟨u,h1,h2⟩:=HR.out.1.vis;obtain⟨hb,_⟩:=HR.out.1.sv.marks _ g u HR.out.1.mks h1;exact⟨qae hb HR.out.1.now (by decide),qae hb HR.out.1.sv.se.blk (by decide)⟩
   have H3:G≠F.g:=qae HR.out.1.now HR.out.1.sv.se.blk qb5;obtain⟨Ho,h4⟩:=Ho;have O:Hid (Inv S (s2.mark s.vis.length a z)/\258<=(s2.mark s.vis.length a z).nums.length+k/\1<=(s2.mark s.vis.length a z).nums.length):=by
    have h1:=Hv.2.1.nums;have h2:=HR.out.2.2.1;have h3:=HR.out.2.2.2.1;exact⟨Hv.1.mark _ _ _,by show 258<=s2.nums.length+k;omega,by show 1<=s2.nums.length;omega⟩
   unfold qar qaf bs at hN I;unfold qdf at hT;have HN:=zH hN;have Hg:=zH I;have Hs:=zH hT;have HG:=zH Hv;have hR:=zH D;rw[k6]at d0;clear Hj D Hv hN I hT k3 k3a k3b k2 k2a k5 k5a k6;by_cases hf:s2.fault.code=0
   rotate_left
   ·have f5:((s2.fault.code:Int)==0)=false:=by rw[yf];omega
    have V:Hid (s2.mark s.vis.length a z=Q):=by
     have:=hR.out;rw[if_pos (Or.inl (show(s2.mark s.vis.length a z).fault.code≠0 from hf))]at this;exact this
    clear hf
    go_wp2_with (go_at_call 110;refine xQ (HN.out _ (HR.out.1.alloc _).sv (HR.out.1.alloc _).tabs) ?_;rintro ed w2 ⟨rfl,⟨vv2,ext2,ha⟩,J⟩
                 have H9:=(show Hid _ from(HR.out.1.alloc _).turn ha J HG.out.2.1);obtain⟨⟨zz,hz⟩,hE⟩:=H9.out.cell a Hl;have b5:w2.cell? (zO F.g 5)=some (zI (s2.fault.code:Nat)):=ha.se.cell 5 _ rfl;have f6:¬(s2.fault.code:Int)=0:=by rw[yf]at f5;exact f5
                 generalize (s2.fault.code:Int)=fc at b5 f5 f6;have q2:=H9.out.now;have r0:=q2.at'.all;have t0:=q2.slot.thaw 0;have t1:=q2.slot.thaw 1;have t2:=q2.slot.thaw 2;have t3:=q2.slot.thaw 3;have t4:=q2.slot.thaw 4;have t5:=q2.slot.thaw 5;have t6:=q2.slot.thaw 6;have t7:=q2.slot.thaw 7;have t8:=q2.slot.thaw 8;have t9:=q2.slot.thaw 9;clear q2 ha J)
    show Exit.noGoto _ _ _ _;simp only[Exit.noGoto];go_wp2
    go_end0
    exact⟨⟨_,rfl⟩,⟨vv2,[g]++ext++ext2,by rw[<-V.out,<-yq,<-yq];exact(Hs.out _ _ _ H9.out).sv⟩,(Hs.out _ _ _ H9.out).cuv⟩
   ·have hI:(s2.mark s.vis.length a z).fault.code=0:=hf
    by_cases hm:y.isNone=true
    rotate_left
    ·have hb:(y.st.mode==0)=false:=by cases q:(y.st.mode==0)with | true=>exact absurd q hm | false=>rfl
     have hJ:y.isNone=false:=hb;have V:Hid (goV (nmV S k) S e.1 s.vis.length src.parts m (a+1) (s2.mark s.vis.length a z) y L=Q):=by
      have:=hR.out;rw[if_neg (by rintro(h1|⟨h1,_⟩);exact h1 hI;exact hm h1),if_pos hJ]at this;exact this
     have HFy:=zH (qq9 HG.out.2.2 hm);have I:=Hg.out;rw[hb]at I;have Hw:=zH I;clear Hg I hm hJ hb hI
     go_wp2_with (first
      | (go_at_call 110;refine xQ (HN.out _ (HR.out.1.alloc _).sv (HR.out.1.alloc _).tabs) ?_;rintro ed w2 ⟨rfl,⟨vv2,ext2,ha⟩,J⟩
         have H9:=(show Hid _ from(HR.out.1.alloc _).turn ha J HG.out.2.1);obtain⟨⟨zz,hz⟩,hE⟩:=H9.out.cell a Hl;have b5:w2.cell? (zO F.g 5)=some (zI (s2.fault.code:Nat)):=ha.se.cell 5 _ rfl;rw[hf]at b5;have q2:=H9.out.now;have r0:=q2.at'.all;have t0:=q2.slot.thaw 0;have t1:=q2.slot.thaw 1;have t2:=q2.slot.thaw 2;have t3:=q2.slot.thaw 3;have t4:=q2.slot.thaw 4;have t5:=q2.slot.thaw 5;have t6:=q2.slot.thaw 6;have t7:=q2.slot.thaw 7;have t8:=q2.slot.thaw 8;have t9:=q2.slot.thaw 9;clear q2 ha J)
      | (go_at_call 111;refine(Hw.out _).mono ?_;rintro ed w5 ⟨rfl,HJ⟩
         have Hx:Hid (Thi w w5 B F S vv2 (M++[g]++ext++ext2) (s2.mark s.vis.length a z) w.heap.size e s.vis.length g src.parts.length G y (.slice av L.length cv) L):=by rw[<-HJ];exact H10.out.alloc _
         clear HJ)
      | (fail_if_success (have hK:=H10.out)
         go_at_call 111;refine(Hw.out _).mono ?_;rintro ed w4 ⟨rfl,hr⟩
         have H10:Hid (Thi w w4 B F S vv2 (M++[g]++ext++ext2) (s2.mark s.vis.length a z) w.heap.size e s.vis.length g src.parts.length G y (.slice av L.length cv) L):=by rw[<-hr];exact(Hs.out _ _ _ H9.out).alloc _
         have q3:=H10.out.now;have x0:=q3.at'.all;clear q3 hr))
     go_roundw
     case rel=>exact⟨a+1,m,s2.mark s.vis.length a z,y,L,vv2,ext++ext2,av,cv,rfl,by go_num,by omega,by rw[<-yq];exact Hx.out,O.out.1,O.out.2.1,O.out.2.2,HFy.out,HR.out.2.2.2.2.2.1,Ha.out,V.out⟩
     case measure=>simp[intOf];omega
    ·have hb:(y.st.mode==0)=true:=hm
     have I:=Hg.out;rw[hb]at I;have Hw:=zH I;clear Hg I hb;by_cases hu:L=[]
     ·have V:Hid (s2.mark s.vis.length a z=Q):=by
       have:=hR.out;rw[if_pos (Or.inr ⟨hm,hu⟩)]at this;exact this
      have hl0:L.length=0:=by rw[hu];rfl
      rw[hl0];clear hm hu hI;go_wp2_with (first
      | (go_at_call 110;refine xQ (HN.out _ (HR.out.1.alloc _).sv (HR.out.1.alloc _).tabs) ?_;rintro ed w2 ⟨rfl,⟨vv2,ext2,ha⟩,J⟩
         have H9:=(show Hid _ from(HR.out.1.alloc _).turn ha J HG.out.2.1);obtain⟨⟨zz,hz⟩,hE⟩:=H9.out.cell a Hl;have b5:w2.cell? (zO F.g 5)=some (zI (s2.fault.code:Nat)):=ha.se.cell 5 _ rfl;rw[hf]at b5;have q2:=H9.out.now;have r0:=q2.at'.all;have t0:=q2.slot.thaw 0;have t1:=q2.slot.thaw 1;have t2:=q2.slot.thaw 2;have t3:=q2.slot.thaw 3;have t4:=q2.slot.thaw 4;have t5:=q2.slot.thaw 5;have t6:=q2.slot.thaw 6;have t7:=q2.slot.thaw 7;have t8:=q2.slot.thaw 8;have t9:=q2.slot.thaw 9;clear q2 ha J)
      | (fail_if_success (have hK:=H10.out)
         go_at_call 111;refine(Hw.out _).mono ?_;rintro ed w4 ⟨rfl,hr⟩
         have H10:Hid (Thi w w4 B F S vv2 (M++[g]++ext++ext2) (s2.mark s.vis.length a z) w.heap.size e s.vis.length g src.parts.length G y (.slice av L.length cv) L):=by rw[<-hr];exact(Hs.out _ _ _ H9.out).alloc _
         have q3:=H10.out.now;have x0:=q3.at'.all;clear q3 hr))
      show Exit.noGoto _ _ _ _;simp only[Exit.noGoto];go_wp2
      go_end0
      exact⟨⟨_,rfl⟩,⟨vv2,[g]++ext++ext2,by rw[<-V.out,<-yq,<-yq];exact H10.out.sv⟩,H10.out.cuv⟩
     ·obtain⟨L',b,hL⟩:∃L' b,L=L'++[b]:=⟨L.dropLast,L.getLast hu,(List.dropLast_concat_getLast hu).symm⟩
      have V:Hid (goV (nmV S k) S e.1 s.vis.length src.parts m b.2 (s2.mark s.vis.length a z) b.1 L=Q):=by
       have:=hR.out;rw[if_neg (by rintro(h1|⟨_,h1⟩);exact h1 hI;exact hu h1),if_neg (by rw[hm];simp)]at this;rw[hL]at this |-;simp only[List.getLast?_append,List.getLast?_singleton,Option.some_or]at this;exact this
      obtain⟨ex,H4,hx2,hx3⟩:=(zgp (hS.wf e.1 src Z)).2 (a+1) (by omega) [];have H5:ex=b.2::(L'.map (·.2)).reverse:=by
       have:=Ha.out;rw[H4,hL]at this;simpa using this.symm
      have hx5:=hx2 b.2 (by rw[H5];simp);have h6:Hid ((L.map (·.2)).reverse=stk (src.parts.take b.2) []):=by
       have:=hx3 b.2 _ H5;rw[Nat.sub_zero]at this;show _=_;rw[this,Ha.out,H4]
      have HX5:=zH hx5;have hb1:(1:Int)<=(b.2:Int):=by omega
      have Hk:(b.2:Int)<=2000:=by omega
      have HZ:=zH (HR.out.2.2.2.2.2.1 b (by rw[hL];simp));have hF:L.length=L'.length+1:=by rw[hL];simp
      have H1:(L'.length:Int)<=2000:=by omega
      have H6:¬(L'.length:Int)+1=0:=by omega
      have hln4:((L'.length:Int)+1==0)=false:=by rw[yf];exact H6
      have HF:=(show Hid _ from(by have:=HR.out.1;rw[hL]at this;exact this:Thi w wr B F S vv' (M++[g]++ext) s' w.heap.size e s.vis.length g src.parts.length G x' (.slice av (L'++[b]).length cv) (L'++[b])));obtain⟨gb,h7,_,_⟩:=HF.out.last;have H7:=fun(w6:World) (vv5:Value) (M5:List Nat) (hw:Thi w w6 B F S vv5 M5 (s2.mark s.vis.length a z) w.heap.size e s.vis.length g src.parts.length G y (.slice av L.length cv) L)=>hw.set b.1;unfold qdf at H7;have HTb:=zH H7;have HGb:=zH h7;have HLL:=zH hL;have HLn:=zH hF;clear H7 H4 hx2 hx3 H5 hx5 hm hu hI hL;rw[hF,h7];clear hF h7;go_wp2_with (first
      | (go_at_call 110;refine xQ (HN.out _ (HR.out.1.alloc _).sv (HR.out.1.alloc _).tabs) ?_;rintro ed w2 ⟨rfl,⟨vv2,ext2,ha⟩,J⟩
         have H9:=(show Hid _ from(HR.out.1.alloc _).turn ha J HG.out.2.1);obtain⟨⟨zz,hz⟩,hE⟩:=H9.out.cell a Hl;have b5:w2.cell? (zO F.g 5)=some (zI (s2.fault.code:Nat)):=ha.se.cell 5 _ rfl;rw[hf]at b5;have q2:=H9.out.now;have r0:=q2.at'.all;have t0:=q2.slot.thaw 0;have t1:=q2.slot.thaw 1;have t2:=q2.slot.thaw 2;have t3:=q2.slot.thaw 3;have t4:=q2.slot.thaw 4;have t5:=q2.slot.thaw 5;have t6:=q2.slot.thaw 6;have t7:=q2.slot.thaw 7;have t8:=q2.slot.thaw 8;have t9:=q2.slot.thaw 9;clear q2 ha J)
      | (go_at_call 111;refine(Hw.out _).mono ?_;rintro ed w5 ⟨rfl,HJ⟩
         have Hx:Hid (Thi w w5 B F S vv2 (M++[g]++ext++ext2) (s2.mark s.vis.length a z) w.heap.size e s.vis.length g src.parts.length G y (.slice av L.length cv) L):=by rw[<-HJ];exact H10.out.alloc _
         have h8:=Hx.out;rw[HLL.out]at h8;obtain⟨gb',e1,_,Hf⟩:=h8.last;rw[HGb.out]at e1;injection e1 with e1;injection e1 with e1;subst e1;have l0:=Hf 0 _ rfl;have l1:=Hf 1 _ rfl;have l2:=Hf 2 _ rfl;have l3:=Hf 3 _ rfl;have l4:=Hf 4 _ rfl;have l5:=Hf 5 _ rfl;have l6:=Hf 6 _ rfl;have l7:=Hf 7 _ rfl;have l8:=Hf 8 _ rfl;have l9:=Hf 9 _ rfl;have l10:=Hf 10 _ rfl;simp only[Nat.add_zero]at l0;unfold bs at l1 l2;have q4:=fun o=>(Hx.out.alloc o).now;have t0:=fun o=>(q4 o).slot.thaw 0;have t1:=fun o=>(q4 o).slot.thaw 1;have t2:=fun o=>(q4 o).slot.thaw 2;have t3:=fun o=>(q4 o).slot.thaw 3;have t4:=fun o=>(q4 o).slot.thaw 4;have t5:=fun o=>(q4 o).slot.thaw 5;have t6:=fun o=>(q4 o).slot.thaw 6;have t7:=fun o=>(q4 o).slot.thaw 7;have t8:=fun o=>(q4 o).slot.thaw 8;have t9:=fun o=>(q4 o).slot.thaw 9;have r0:=fun o=>(q4 o).at'.all;clear HJ h8 Hf q4)
      | (fail_if_success (have hK:=H10.out)
         go_at_call 111;refine(Hw.out _).mono ?_;rintro ed w4 ⟨rfl,hr⟩
         have H10:Hid (Thi w w4 B F S vv2 (M++[g]++ext++ext2) (s2.mark s.vis.length a z) w.heap.size e s.vis.length g src.parts.length G y (.slice av L.length cv) L):=by rw[<-hr];exact(Hs.out _ _ _ H9.out).alloc _
         have q3:=H10.out.now;have x0:=q3.at'.all;clear q3 hr))
      obtain⟨o6,h9⟩:∃o6,o6=Obj.cells #[zJ (b.1.st.mode:Int),.string ⟨b.1.st.name.toArray⟩,.string ⟨b.1.st.elem.toArray⟩,zI b.1.st.kind,zI (b.1.st.read:Int),.bool b.1.ma.ref,.bool b.1.st.esc,zI b.1.ma.hex,zI b.1.ma.pct,zI b.1.ma.far,zI (b.2:Nat)] 234:=⟨_,rfl⟩;rw[<-h9];have hi:∀(j:Nat) (v:Value),#[zJ (b.1.st.mode:Int),.string ⟨b.1.st.name.toArray⟩,.string ⟨b.1.st.elem.toArray⟩,zI b.1.st.kind,zI (b.1.st.read:Int),.bool b.1.ma.ref,.bool b.1.st.esc,zI b.1.ma.hex,zI b.1.ma.pct,zI b.1.ma.far,zI (b.2:Nat)][j]?=some v->(w5.alloc o6).cell? (zO w5.heap.size j)=some v:=fun j v hv=>by
       rw[h9];exact qaa (xF w5 _) j _ (by rw[Array.getElem?_toList];exact hv)
      have hne6:G≠w5.heap.size:=Nat.ne_of_lt Hx.out.now.lt;have Hm:=Hx.out.alloc o6;clear h9;generalize w5.heap.size=E6 at hi hne6 |-;generalize World.alloc w5 o6=w6 at hi Hm |-;have H12:=zH Hm;have Hu:=Hm.now;have x0:=Hu.at'.all;have y0:=Hu.slot.thaw;have k0:=hi 0 _ rfl;have k1:=hi 1 _ rfl;have k2:=hi 2 _ rfl;have k3:=hi 3 _ rfl;have k4:=hi 4 _ rfl;have k5:=hi 5 _ rfl;have k6:=hi 6 _ rfl;have k7:=hi 7 _ rfl;have k8:=hi 8 _ rfl;have k9:=hi 9 _ rfl;have k10:=hi 10 _ rfl;clear hi Hm Hu l0 l1 l2 l3 l4 l5 l6 l7 l8 l9 l10 t0 t1 t2 t3 t4 t5 t6 t7 t8 t9 r0 q0 q1 q2 q3 q4 q5 q6 q7 q8 q9 f0 f1 f2 f3 f4 f5 f6 f7 f8 f9 d0 d1 d2 d3 b5 hz hE Ho h4 H3;go_region_held3 (fun w'=>w'.cell? (zO E6 0)=some (zJ (b.1.st.mode:Int))/\w'.cell? (zO E6 1)=some (.string ⟨b.1.st.name.toArray⟩)/\w'.cell? (zO E6 2)=some (.string ⟨b.1.st.elem.toArray⟩)/\w'.cell? (zO E6 3)=some (zI b.1.st.kind)/\w'.cell? (zO E6 4)=some (zI (b.1.st.read:Int))/\w'.cell? (zO E6 5)=some (.bool b.1.ma.ref)/\w'.cell? (zO E6 6)=some (.bool b.1.st.esc)/\w'.cell? (zO E6 7)=some (zI b.1.ma.hex)/\w'.cell? (zO E6 8)=some (zI b.1.ma.pct)/\w'.cell? (zO E6 9)=some (zI b.1.ma.far)/\w'.cell? (zO E6 10)=some (zI (b.2:Nat))) (go_keep) (fail)
      all_goals
       go_wp2
       go_roundw
       case rel=>exact⟨b.2,m,s2.mark s.vis.length a z,b.1,L,vv2,ext++ext2,av,cv,by rw[HLn.out,HGb.out],by rw[Int.sub_add_cancel],by have:=HX5.out;omega,by rw[<-yq];exact(HTb.out _ _ _ H12.out).drew,O.out.1,O.out.2.1,O.out.2.2,HZ.out,HR.out.2.2.2.2.2.1,h6.out,V.out⟩
       case measure=>have:=HX5.out;simp[intOf];omega
  have k1:p.kind=1:=by have:=hkp;omega
  have D:=Hj.out;rw[if_pos k1]at D;generalize wr=wo at *;clear wr;obtain⟨T,hT⟩:∃T:zT,T=⟨p.text.toArray⟩:=⟨_,rfl⟩;have hTl:T.data.toList=p.text:=by rw[hT]
  have hTs:(T.size:Int)<=2000:=by have:=HP.out.1;rw[<-hTl]at this;simp at this;omega
  rw[k1]at d0;rw[<-hT]at d2;rw[<-hTl]at D;have V:=zH D;clear hTl hT Hj D k3 k3a k3b k2 k2a k5 k5a k6 k1;go_wp2
  clear d0 d1 d2 d3 q0 q1 q2 q3 q4 q5 q6 q7 q8 q9 f0 f1 f2 f3 f4 f5 f6 f7 f8 f9;go_hide hQ
  have HQh:=zH hQ;clear hQ;go_loopw [40,10] (fun i _ wr=>∃j:Nat,j<=T.size/\i=zI j/\Hid (Thi w wr B F S vv' (M++[g]++ext) s' w.heap.size e s.vis.length g src.parts.length G (qax x' (T.data.toList.take j)) (.slice av L.length cv) L/\wr.heap[wo.heap.size]?=zK #[zI 1,zI p.pos,.string T,zI p.mate] 229/\qcy x' (T.data.toList.take j)=none)) (fun i _ _=>T.size - (intOf i).toNat)
  case atStart=>exact⟨0,yH _,rfl,HR.out.1.alloc _,xF wo _,rfl⟩
  case round=>
   obtain⟨j,hj,rfl,HI⟩:=hrel;by_cases hjl:j<T.size
   rotate_left
   ·have hjt:j=T.size:=by omega
    have c5:¬(j:Int)<(T.size:Int):=by omega
    have hy:qcy x' T.data.toList=none:=by
     have:=HI.out.2.2;rw[hjt,qeo T T.size (by omega)]at this;exact this
    have HX2:Hid (Thi w wr B F S vv' (M++[g]++ext) s' w.heap.size e s.vis.length g src.parts.length G (qax x' T.data.toList) (.slice av L.length cv) L):=by
     have:=HI.out.1;rw[hjt,qeo T T.size (by omega)]at this;exact this
    have HS:Hid (goV (nmV S k) S e.1 s.vis.length src.parts m (a+1) s' (qax x' T.data.toList) L=Q):=by
     have:=V.out;rw[hy]at this;exact this
    clear hjt hy;go_wp2
    rw[<-HQh.out];go_wp2
    go_roundw
    case rel=>exact⟨a+1,m,s',qax x' T.data.toList,L,vv',ext,av,cv,rfl,by go_num,by omega,HX2.out,HR.out.2.1,HR.out.2.2.1,HR.out.2.2.2.1,qku _ _ HR.out.2.2.2.2.1,HR.out.2.2.2.2.2.1,Ha.out,HS.out⟩
    case measure=>simp[intOf];omega
   ·have c5:(j:Int)<(T.size:Int):=by omega
    have hfj:=qku (T.data.toList.take j) _ HR.out.2.2.2.2.1;have HK:j<T.data.toList.length:=by simpa using hjl
    have hU:qcd (qax x' (T.data.toList.take j)).st.kind (qax x' (T.data.toList.take j)).st.mode (qax x' (T.data.toList.take j)).ma.far T[j]=true->qcy x' T.data.toList=some j:=qww T.data.toList x' j HK HI.out.2.2;have hso:qcd (qax x' (T.data.toList.take j)).st.kind (qax x' (T.data.toList.take j)).st.mode (qax x' (T.data.toList.take j)).ma.far T[j]=false->qcy x' (T.data.toList.take (j+1))=none:=qwv T.data.toList x' j HK HI.out.2.2;have HU:=fun w=>qjx (qax x' (T.data.toList.take j)) T[j] w;have HL:=fun w1 h1=>HB (qax x' (T.data.toList.take j)) T[j] w1 h1 hfj.ok;have hM:=fun(w5:World) (hw:Thi w w5 B F S vv' (M++[g]++ext) s' w.heap.size e s.vis.length g src.parts.length G (qax x' (T.data.toList.take j)) (.slice av L.length cv) L)=>hw.set ((qax x' (T.data.toList.take j)).behind T[j]);have hnx:qax x' (T.data.toList.take (j+1))=(qax x' (T.data.toList.take j)).behind T[j]:=by rw[qdn T j hjl,qp5]
    rw[<-hnx]at HL hM;obtain⟨Y,hY⟩:∃Y,Y=qax x' (T.data.toList.take (j+1)):=⟨_,rfl⟩;rw[<-hY]at HL hM;have HY:=zH hY;have U:=HI.out.1.now.at';have t1:wr.cell? (zO wo.heap.size 1)=some (zI p.pos):=qaa HI.out.2.1 1 _ rfl;have t2:wr.cell? (zO wo.heap.size 2)=some (.string T):=qaa HI.out.2.1 2 _ rfl;have hGlt:=HR.out.1.now.lt;have hTid:Hid (TabB B wr):=HI.out.1.tabs;have HSch:=zH hso;clear hY hnx hfj;generalize qax x' (T.data.toList.take j)=X at *;obtain⟨ms,hms⟩:∃ms,qcd X.st.kind X.st.mode X.ma.far T[j]=ms:=⟨_,rfl⟩;rw[hms]at HU hU;have hy:ms=false->qcy x' (T.data.toList.take (j+1))=none:=fun q=>hso (hms.trans q);have q0:=U.mode;have q1:=U.name;have q2:=U.elem;have q3:=U.kind;have q4:=U.read;have q5:=U.ref;have q6:=U.esc;have q7:=U.hex;have q8:=U.pct;have q9:=U.far;unfold qar qaf bs at HU HL;unfold qdf at hM;have HMS:=zH HU;have HB1:=zH HL;have HTT:=zH hM;have Hy:Hid (Thi w wr B F S vv' (M++[g]++ext) s' w.heap.size e s.vis.length g src.parts.length G X (.slice av L.length cv) L/\wr.heap[wo.heap.size]?=zK #[zI 1,zI p.pos,.string T,zI p.mate] 229):=⟨HI.out.1,HI.out.2.1⟩;clear HL hM U HU hms hso HSch HI;cases ms with
    |true=>
      have D:=V.out;rw[hU rfl]at D;have HS:Hid (s'.wrong S e.1 14 (p.pos+j)=Q):=D;have hpp:(p.pos:Int)<=2000:=by have:=HP.out.2.1;omega
      have HC:Hid (∀w5,SvAt w5 B F S vv' (M++[g]++ext) s'->B<=w5.heap.size->zC 107 #[zP F.g,.agg #[zI e.1,zJ (e.2.st.mode:Int),.string ⟨e.2.st.name.toArray⟩,.string ⟨e.2.st.elem.toArray⟩,zI e.2.st.kind,zI (e.2.st.read:Int),.bool e.2.ma.ref,.bool e.2.st.esc,zI e.2.ma.hex,zI e.2.ma.pct,zI e.2.ma.far],zI 14,zI ((p.pos:Int)+(j:Int))] w5 fun ed w'=>(∃r,ed=.returned r)/\SeAt w' B F S vv' Q/\Cue B F w5 w'):=fun w5 h5 hD=>by
       have:=ql7 S w5 B F vv' s' e 14 (p.pos+j) h5.se hV.lt hD;rw[HS.out]at this;exact this
      clear D hU hy;go_wp2
      go_cut [48] (fun s48 wx=>s48=.bool true/\Hid (Thi w wx B F S vv' (M++[g]++ext) s' w.heap.size e s.vis.length g src.parts.length G X (.slice av L.length cv) L/\wx.heap[wo.heap.size]?=zK #[zI 1,zI p.pos,.string T,zI p.mate] 229))
      case first=>
       first|go_region_with (go_at_call 106;refine(HMS.out _).mono ?_;rintro ed w2 ⟨rfl,Hz⟩)|fail
       all_goals
        have HM:Below wr.drew.heap.size wr.drew w2:=by rw[<-Hz];exact qqs _ _ _
        have O:Hid (Thi w w2 B F S vv' (M++[g]++ext) s' w.heap.size e s.vis.length g src.parts.length G X (.slice av L.length cv) L/\w2.heap[wo.heap.size]?=zK #[zI 1,zI p.pos,.string T,zI p.mate] 229):=
         ⟨Hy.out.1.drew.below HM,(HM.block _ (ya.1 Hy.out.2).1).trans Hy.out.2⟩
        go_wp2
        go_meet
        case rel=>exact⟨rfl,O.out⟩
      case rest=>
       obtain⟨rfl,O⟩:=hcut;have t3:wc.cell? (zO wo.heap.size 2)=some (.string T):=qaa O.out.2 2 _ rfl;have t4:wc.cell? (zO wo.heap.size 1)=some (zI p.pos):=qaa O.out.2 1 _ rfl;clear q0 q1 q2 q3 q4 q5 q6 q7 q8 q9 t1 t2;have he:=qct O.out.1.ent;unfold qao bs at he;have m0:=al he;have hBw:B<=wc.heap.size:=yh hB (yh O.out.1.old.1 (yj O.out.1.now.lt));clear he t3;go_wp2_with (go_at_call 107;refine(HC.out _ O.out.1.sv hBw).mono ?_;rintro ed w3 ⟨⟨r,rfl⟩,HD,J⟩)
       rw[<-HQh.out];go_wp2
       show Exit.noGoto _ _ _ _;simp only[Exit.noGoto];go_wp2
       go_end0
       have ho:Q.nums=s'.nums/\Q.vis=s'.vis:=by rw[<-HS.out];exact⟨rfl,rfl⟩
       exact⟨⟨_,rfl⟩,⟨vv',[g]++ext,by rw[<-yq];exact O.out.1.sv.turn HD J ho.1 ho.2⟩,O.out.1.cuv.trans (Cuv.of_cue O.out.1.sv.se J)⟩
    |false=>
      have HSn:=zH (hy rfl);clear hU hy;go_wp2
      go_cut [48] (fun s48 wx=>s48=.bool false/\Hid (Thi w wx B F S vv' (M++[g]++ext) s' w.heap.size e s.vis.length g src.parts.length G X (.slice av L.length cv) L/\wx.heap[wo.heap.size]?=zK #[zI 1,zI p.pos,.string T,zI p.mate] 229))
      case first=>
       first|go_region_with (go_at_call 106;refine(HMS.out _).mono ?_;rintro ed w2 ⟨rfl,Hz⟩)|fail
       all_goals
        have HM:Below wr.drew.heap.size wr.drew w2:=by rw[<-Hz];exact qqs _ _ _
        have O:Hid (Thi w w2 B F S vv' (M++[g]++ext) s' w.heap.size e s.vis.length g src.parts.length G X (.slice av L.length cv) L/\w2.heap[wo.heap.size]?=zK #[zI 1,zI p.pos,.string T,zI p.mate] 229):=
         ⟨Hy.out.1.drew.below HM,(HM.block _ (ya.1 Hy.out.2).1).trans Hy.out.2⟩
        go_wp2
        go_meet
        case rel=>exact⟨rfl,O.out⟩
      case rest=>
       obtain⟨rfl,O⟩:=hcut;have t3:wc.cell? (zO wo.heap.size 2)=some (.string T):=qaa O.out.2 2 _ rfl;have t4:wc.cell? (zO wo.heap.size 1)=some (zI p.pos):=qaa O.out.2 1 _ rfl;clear q0 q1 q2 q3 q4 q5 q6 q7 q8 q9 t1 t2;have ht1:PTabs wc:=O.out.1.tabs.1;have q5:=O.out.1.now.at';have r0:=q5.all;clear q5 t4;have HY2:Hid (Y=qax x' (T.data.toList.take (j+1))):=HY.out;go_wp2
       first | go_region_with (go_at_call 63;refine(HB1.out _ ht1.drew).mono ?_;rintro ed w3 ⟨rfl,hb3⟩
                               have HW3:=zH (O.out.1.drew.below hb3);have HP3:=(show Hid _ from(hb3.block _ (ya.1 O.out.2).1).trans O.out.2);have hs3:=HW3.out.now;have x0:=hs3.at'.all;have z0:=hs3.slot.thaw;clear hs3 hb3 r0 t3) | fail
       all_goals
        go_wp2
        go_roundw
        case rel=>exact⟨j+1,by omega,by go_num,by rw[<-HY2.out];exact HTT.out _ HW3.out,(qha (Nat.ne_of_gt hGlt) _ _ _ _ _ _ _ _ _ _).trans HP3.out,HSn.out⟩
        case measure=>simp[intOf];omega
end Go.Proofs.YtfkhljmiehdgmaaGreatDoor

/-
  Steps of the proof.
-/
import Derived.Test.YtfkhljmiehdgmaaGreatDoorCuBM
set_option maxRecDepth 100000
set_option maxHeartbeats 40000000
namespace Go.Proofs.YtfkhljmiehdgmaaGreatDoor
open Go.RowKit Go.Proofs.Tryz Pl
theorem qtu:(Value.agg #[zJ 0,zS,zS,zI 0,zI 0,.bool false,.bool false,zI 0,zI 0,zI 0,zI 0]).cells.size=11:=rfl
theorem q9b:(prog.info? 234).map (fun i=>(i.zero,i.size,i.bytes))=some (some (.agg #[zJ 0,zS,zS,zI 0,zI 0,.bool false,.bool false,zI 0,zI 0,zI 0,zI 0]),11,96):=by kernel_rfl
theorem zeu(HB:qhp)(S:List Src)(hS:SrcsOk S)(k:Nat)(HT:ThrC S k):ThrC S (k+1):=by
 intro w B F vv M s e h hp hk ht;have h0:=hp;have hB:B<=w.heap.size:=by
  have q1:=h.se.le.1;have q2:=(zL h.se.blk);omega
 have hfew:=hp.inv.few;have hef:=hp.inv.ends.few;have hvl:s.vis.length<=1000:=by rw[hp.inv.vis];omega
 obtain⟨src,Hg⟩:∃src,S[e.1]?=some src:=⟨S[e.1]'hp.lt,yc hp.lt⟩;have hP:qah S e.1=src.parts:=by unfold qah;rw[Hg]
 have hpl:=(hS.parts e.1 src Hg).1;obtain⟨ao,cap,hv⟩:=qaq (h.se.src.row e.1 src Hg);obtain⟨bg1,bg2,bg3⟩:=hp.begun;have Hp:=zH (fun o=>q63 S hS (w.alloc o) B F vv M s e (h.alloc o) ⟨hp.inv.key,hp.inv.one⟩ hp.lt hp.fit hvl (by simp;omega));rw[hP,qbj,hv]at Hp;rw[qug,hP];generalize hQ:goV (nmV S k) S e.1 s.vis.length src.parts (src.parts.length+1) 0 (begun S s e) e.2 []=Q;have HQ0:=zH hQ;clear hQ;have HI:Hid (∀(w2:World) (vv2:Value) (g:Nat),SvAt w2 B F S vv2 (M++[g]) (begun S s e)->Cuv B F (w.alloc (.cells (qao e) 180)) w2->Thi w (w2.alloc (.cells (qaf e.2) 162)) B F S vv2 (M++[g]) (begun S s e) w.heap.size e s.vis.length g src.parts.length w2.heap.size e.2 (zN) []):=by
  intro w2 vv2 g hi Hb;have q1:zW w (w.alloc (.cells (qao e) 180)):=zB _;have hE:w.heap.size<=w2.heap.size:=by have:=Hb.below.size;simp at this;omega
  have q2:zW w2 (w2.alloc (.cells (qaf e.2) 162)):=zB _;have q3:(w.alloc (.cells (qao e) 180)).heap[w.heap.size]?=zK (qao e) 180:=xF w _;have q4:=(Hb.keep w.heap.size _ _ _ q3 (qae q3 (h.alloc _).se.blk qb6) (by decide) (by decide)).trans q3;refine⟨hi.below q2,(xI _ _ (ya.1 q4).1).trans q4,xF w2 _,?_,?_,World.ownsRow_nil _ _ _ _,⟨hE,hB⟩,((Cuv.of_below q1 hB).trans Hb).trans (Cuv.of_below q2 (by omega)),(ht.kept (q1.mono hB)).kept (Hb.below.trans (q2.mono (by omega)))⟩
  ·rw[yt (by rw[h.len];exact yg _),h.len,xz];rfl
  ·refine⟨(e.1,List.replicate src.parts.length 0),?_,by simp⟩
   unfold begun;rw[hP];simp
 have HE:Hid (∀(w2:World),Cuv B F (w.alloc (.cells (qao e) 180)) w2->w2.heap[w.heap.size]?=zK (qao e) 180):=fun w2 Hb=>by
  have q3:(w.alloc (.cells (qao e) 180)).heap[w.heap.size]?=zK (qao e) 180:=xF w _;exact(Hb.keep w.heap.size _ _ _ q3 (qae q3 (h.alloc _).se.blk qb6) (by decide) (by decide)).trans q3
 rw[qbj];unfold qao bs;unfold qao qaf bs at HI;unfold qao bs at HE;unfold qao bs at Hp;clear h;go_enter func75,ntmps75
 go_wp2
 refine wp_scope_straight ?_
 go_wp2_with (go_at_call 105;refine xQ (Hp.out _) ?_;rintro ed w2 ⟨g,vv2,rfl,hi,Hb,hge⟩
              have he:=qct (HE.out w2 Hb);unfold qao bs at he;have m0:=al he;clear he)
 have H0:=zH (HI.out w2 vv2 g hi Hb);clear hi Hb hge HI Hp HE m0;generalize w2.heap.size=G at *;generalize World.alloc w2 _=w4 at H0 |-;refine wp_label ?_;go_wp2
 have H1:=hp.fit;have H2:258<=(begun S s e).nums.length+k:=by omega
 have h1n:1<=(begun S s e).nums.length:=by omega
 go_loopw [7,8] (fun b i wr=>∃(a n:Nat) (s':Sr) (x':Sx) (L:List (Sx×Nat)) (vv':Value) (ext:List Nat) (av:Option Addr) (cv:Nat),b=.slice av L.length cv/\i=zI a/\src.parts.length<a+n/\Hid (Thi w wr B F S vv' ((M++[g])++ext) s' w.heap.size e s.vis.length g src.parts.length G x' (.slice av L.length cv) L/\Inv S s'/\258<=s'.nums.length+k/\1<=s'.nums.length/\SxFit x'/\(∀b∈L,SxFit b.1)/\(L.map (·.2)).reverse=stk (src.parts.take a) []/\goV (nmV S k) S e.1 s.vis.length src.parts n a s' x' L=Q)) (fun _ i _=>src.parts.length - (intOf i).toNat)
 case atStart=>exact⟨0,src.parts.length+1,begun S s e,e.2,[],vv2,[],none,0,rfl,rfl,by omega,by rw[yw];exact H0.out,bg1,H2,h1n,H1,(fun b hb=>by cases hb),rfl,HQ0.out⟩
 case round=>
  obtain⟨a,n,s',x',L,vv',ext,av,cv,rfl,rfl,hn,HR⟩:=hrel;clear HQ0 H0;have He:=HR.out.1.now.at';have q0:=He.mode;have q1:=He.name;have q2:=He.elem;have q3:=He.kind;have q4:=He.read;have q5:=He.ref;have q6:=He.esc;have q7:=He.hex;have q8:=He.pct;have q9:=He.far;clear He;by_cases Hq:a<src.parts.length
  rotate_left
  ·have c1:¬(a:Int)<(src.parts.length:Int):=by omega
   have hq:s'=Q:=by
    have:=HR.out.2.2.2.2.2.2.2;rw[<-this];cases n with
    |zero=>rfl
    |succ n=>
      have hp:src.parts[a]?=none:=yd (by omega);unfold goV;rw[hp]
   have HQ:=zH hq;clear hq;go_wp2
   go_end0
   exact⟨⟨_,rfl⟩,⟨vv',[g]++ext,by rw[<-HQ.out,<-yq];exact HR.out.1.sv⟩,HR.out.1.cuv⟩
  have c1:(a:Int)<(src.parts.length:Int):=by omega
  obtain⟨p,hp⟩:∃p,src.parts[a]?=some p:=⟨src.parts[a],yc Hq⟩;obtain⟨m,rfl⟩:∃m,n=m+1:=⟨n - 1,by omega⟩;have Hj:=HR.out.2.2.2.2.2.2.2;unfold goV at Hj;rw[hp]at Hj;simp only at Hj;have Hw:p∈src.parts:=yl hp;have hpm:=(hS.parts e.1 src Hg).2 p Hw;have hkp:=qo5 (hS.wf e.1 src Hg) p Hw;have Hx:wr.ownsRow B 229 4 (.slice ao src.parts.length cap) src.parts.length (qbp src.parts):=by
   have:=HR.out.1.sv.se.src.row e.1 src Hg;rw[hv]at this;exact this
  obtain⟨gp,cap',hg,d0,d1,d2,d3⟩:=qhb Hx hp;injection hg with hg1 hg2 hg3;subst hg1 hg3;have ho:=zH Hj;have HP:=zH hpm;have htk:src.parts.take (a+1)=src.parts.take a++[p]:=by rw[yB Hq];congr 2;rw[yc Hq]at hp;exact yk hp
  have H3:=zH htk;have HRow:=zH Hx;clear Hj Hw hpm htk Hx;have c2:(a:Int)<=2000:=by omega
  have hLl:L.length<=2000:=by
   have q1:=ze1 (src.parts.take a) [];rw[<-HR.out.2.2.2.2.2.2.1]at q1;simp at q1;omega
  by_cases k3:p.kind=3\/p.kind=4
  ·have Hf:Hid (goV (nmV S k) S e.1 s.vis.length src.parts m (a+1) s' x' (L++[(x',p.mate)])=Q):=by
    have:=ho.out;rw[if_neg (by omega),if_neg (by omega),if_pos k3]at this;exact this
   have HSt:Hid (((L++[(x',p.mate)]).map (·.2)).reverse=stk (src.parts.take (a+1)) []):=by
    show _=_;rw[H3.out,qg1,<-HR.out.2.2.2.2.2.2.1,qf6,if_pos k3];simp[stk]
   obtain⟨i0,hi0,hz0,hz1,hz2⟩:=info_parts q9b;have q2:=fun o=>(HR.out.1.alloc o).now.at';have f0:=fun o=>(q2 o).mode;have f1:=fun o=>(q2 o).name;have f2:=fun o=>(q2 o).elem;have f3:=fun o=>(q2 o).kind;have f4:=fun o=>(q2 o).read;have f5:=fun o=>(q2 o).ref;have f6:=fun o=>(q2 o).esc;have f7:=fun o=>(q2 o).hex;have f8:=fun o=>(q2 o).pct;have f9:=fun o=>(q2 o).far;clear q2;clear ho;rcases k3 with k3|k3
   ·rw[k3]at d0
    go_wp2_with (at_builtin;refine wpList_append_own_at _ rfl _ _ 227 rfl w.heap.size 234 i0 (.agg #[zJ 0,zS,zS,zI 0,zI 0,.bool false,.bool false,zI 0,zI 0,zI 0,zI 0]) 11 96 underlying227 hi0 hz0 hz1 hz2 qtu (by decide) _ _ _ rfl (World.ownsRow.alloc (World.ownsRow.alloc HR.out.1.row _) _) (zO _ 0) 1 1 [zJ (x'.st.mode:Int),zV x'.st.name,zV x'.st.elem,zI x'.st.kind,zI (x'.st.read:Int),.bool x'.ma.ref,.bool x'.st.esc,zI x'.ma.hex,zI x'.ma.pct,zI x'.ma.far,zI (p.mate:Int)] rfl rfl ?c1 ?c2 ?c3 ?c4 ?c5 ?_)
    case c2=>simp[Value.oneCell']
    case c3=>unfold maxLen;omega
    case c4=>omega
    case c5=>have:=HR.out.1.cuv.below.size;first|omega|(simp;omega)
    ·intro vb' w6 hl hF _ _
     have h4:=zH (HR.out.1.push (x',p.mate) ((zB _).alloc (by simp) _) hl hF);obtain⟨gb,cb,rfl,_⟩:=qai hl (by omega);clear hl hF;go_wp2
     go_roundw
     case rel=>exact⟨a+1,m,s',x',L++[(x',p.mate)],vv',ext,some (zO gb 0),cb,by simp,by go_num,by omega,by simpa using h4.out,HR.out.2.1,HR.out.2.2.1,HR.out.2.2.2.1,HR.out.2.2.2.2.1,(fun b hb=>by rcases yn.1 hb with hb|hb;exact HR.out.2.2.2.2.2.1 b hb;simp at hb;subst hb;exact HR.out.2.2.2.2.1),HSt.out,Hf.out⟩
     case measure=>simp[intOf];omega
   ·rw[k3]at d0
    go_wp2_with (at_builtin;refine wpList_append_own_at _ rfl _ _ 227 rfl w.heap.size 234 i0 (.agg #[zJ 0,zS,zS,zI 0,zI 0,.bool false,.bool false,zI 0,zI 0,zI 0,zI 0]) 11 96 underlying227 hi0 hz0 hz1 hz2 qtu (by decide) _ _ _ rfl (World.ownsRow.alloc (World.ownsRow.alloc HR.out.1.row _) _) (zO _ 0) 1 1 [zJ (x'.st.mode:Int),zV x'.st.name,zV x'.st.elem,zI x'.st.kind,zI (x'.st.read:Int),.bool x'.ma.ref,.bool x'.st.esc,zI x'.ma.hex,zI x'.ma.pct,zI x'.ma.far,zI (p.mate:Int)] rfl rfl ?e1 ?e2 ?e3 ?e4 ?e5 ?_)
    case e2=>simp[Value.oneCell']
    case e3=>unfold maxLen;omega
    case e4=>omega
    case e5=>have:=HR.out.1.cuv.below.size;first|omega|(simp;omega)
    ·intro vb' w6 hl hF _ _
     have h4:=zH (HR.out.1.push (x',p.mate) ((zB _).alloc (by simp) _) hl hF);obtain⟨gb,cb,rfl,_⟩:=qai hl (by omega);clear hl hF;go_wp2
     go_roundw
     case rel=>exact⟨a+1,m,s',x',L++[(x',p.mate)],vv',ext,some (zO gb 0),cb,by simp,by go_num,by omega,by simpa using h4.out,HR.out.2.1,HR.out.2.2.1,HR.out.2.2.2.1,HR.out.2.2.2.2.1,(fun b hb=>by rcases yn.1 hb with hb|hb;exact HR.out.2.2.2.2.2.1 b hb;simp at hb;subst hb;exact HR.out.2.2.2.2.1),HSt.out,Hf.out⟩
     case measure=>simp[intOf];omega
  have Hi:Hid (p.kind≠5->(L.map (·.2)).reverse=stk (src.parts.take (a+1)) []):=fun h5=>by
   rw[H3.out,qg1,<-HR.out.2.2.2.2.2.2.1,qf6,if_neg k3,if_neg h5];rfl
  have k3a:((p.kind:Int)==3)=false:=by rw[yf];omega
  have k3b:((p.kind:Int)==4)=false:=by rw[yf];omega
  have q2:=fun o=>(HR.out.1.alloc o).now.at';have f0:=fun o=>(q2 o).mode;have f1:=fun o=>(q2 o).name;have f2:=fun o=>(q2 o).elem;have f3:=fun o=>(q2 o).kind;have f4:=fun o=>(q2 o).read;have f5:=fun o=>(q2 o).ref;have f6:=fun o=>(q2 o).esc;have f7:=fun o=>(q2 o).hex;have f8:=fun o=>(q2 o).pct;have f9:=fun o=>(q2 o).far;clear q2;by_cases k2:p.kind=2
  ·have Hk:=fun w=>q9f x' w
   have HV:=fun w=>qkd x' w;have ha:=ho.out;rw[if_neg (by omega),if_pos k2]at ha;have HF:=zH (qmy HR.out.2.2.2.2.1);rw[k2]at d0;generalize x'.behindHole=y at HV ha HF;obtain⟨h1,h2,hh⟩:∃h1 h2,x'.hole=(h1,h2):=⟨_,_,rfl⟩;rw[hh]at Hk ha;simp only at Hk ha;unfold qar qaf bs at Hk HV;have hs:=zH Hk;have HBe:=zH HV;have Hi:=zH (Hi.out (by omega));clear Hk HV hh ho k3 k3a k3b k2;by_cases hG:h2=0
   rotate_left
   ·rw[if_pos hG]at ha
    have Hf:=zH ha;have hc:(h2==0)=false:=by rw[yf];exact hG
    clear ha hG;have HG:Hid (∀w5,SvAt w5 B F S vv' (M++[g]++ext) s'->B<=w5.heap.size->zC 107 #[zP F.g,.agg #[zI e.1,zJ (e.2.st.mode:Int),zV e.2.st.name,zV e.2.st.elem,zI e.2.st.kind,zI (e.2.st.read:Int),.bool e.2.ma.ref,.bool e.2.st.esc,zI e.2.ma.hex,zI e.2.ma.pct,zI e.2.ma.far],zI h2,zI p.pos] w5 fun ed w'=>(∃r,ed=.returned r)/\SeAt w' B F S vv' Q/\Cue B F w5 w'):=fun w5 h5 hI=>by
     have:=ql7 S w5 B F vv' s' e h2 p.pos h5.se h0.lt hI;rw[Hf.out]at this;exact this
    go_wp2_with (first
     | (go_at_call 108;refine(hs.out _).mono ?_;rintro ed w2 ⟨rfl,Ho⟩
        have H8:=(show Hid _ from(HR.out.1.alloc _).below Ho);have hpc:w2.cell? (zO wr.heap.size 1)=some (zI p.pos):=qaa ((Ho.block wr.heap.size (by simp)).trans (xF wr _)) 1 _ rfl;have he:=qct H8.out.ent;unfold qao bs at he;have m0:=al he;clear he Ho)
     | (go_at_call 107;refine(HG.out _ H8.out.sv (yh hB (yh H8.out.old.1 (yj H8.out.now.lt)))).mono ?_;rintro ed w3 ⟨⟨r,rfl⟩,hJ,Hb⟩))
    show Exit.noGoto _ _ _ _;simp only[Exit.noGoto];go_wp2
    go_end0
    have Hs:Q.nums=s'.nums/\Q.vis=s'.vis:=by rw[<-Hf.out];exact⟨rfl,rfl⟩
    exact⟨⟨_,rfl⟩,⟨vv',[g]++ext,by rw[<-yq];exact H8.out.sv.turn hJ Hb Hs.1 Hs.2⟩,H8.out.cuv.trans (Cuv.of_cue H8.out.sv.se Hb)⟩
   ·rw[if_neg (fun q=>q hG)]at ha
    have Hf:=zH ha;subst hG;clear ha;have hT:=fun(w5:World) (hw:Thi w w5 B F S vv' (M++[g]++ext) s' w.heap.size e s.vis.length g src.parts.length G x' (.slice av L.length cv) L)=>(hw.mark a h1).set y;have Ht:g≠G:=fun q=>by
     obtain⟨u,h1,h2⟩:=HR.out.1.vis;obtain⟨hb,_⟩:=HR.out.1.sv.marks _ g u HR.out.1.mks h1;exact absurd q (qae hb HR.out.1.now (by decide))
    unfold qdf at hT;have hy:=zH hT;clear hT
    go_wp2_with (first
     | (go_at_call 108;refine(hs.out _).mono ?_;rintro ed w2 ⟨rfl,Ho⟩
        have H8:=(show Hid _ from(HR.out.1.alloc _).below Ho);have q2:=H8.out.now.at';have p0:=q2.mode;have p1:=q2.name;have p2:=q2.elem;have p3:=q2.kind;have p4:=q2.read;have p5:=q2.ref;have p6:=q2.esc;have p7:=q2.hex;have p8:=q2.pct;have p9:=q2.far;clear q2 Ho f0 f1 f2 f3 f4 f5 f6 f7 f8 f9)
     | (go_at_call 109;refine(HBe.out _).mono ?_;rintro ed w3 ⟨rfl,Ho⟩
        have H9:=zH (H8.out.below Ho);obtain⟨⟨z,hz⟩,HJ⟩:=H9.out.cell a Hq;have q2:=H9.out.now;have r0:=q2.at'.all;have t0:=q2.slot.thaw 0;have t1:=q2.slot.thaw 1;have t2:=q2.slot.thaw 2;have t3:=q2.slot.thaw 3;have t4:=q2.slot.thaw 4;have t5:=q2.slot.thaw 5;have t6:=q2.slot.thaw 6;have t7:=q2.slot.thaw 7;have t8:=q2.slot.thaw 8;have t9:=q2.slot.thaw 9;clear q2 Ho))
    go_roundw
    case rel=>exact⟨a+1,m,s'.mark s.vis.length a h1,y,L,vv',ext,av,cv,rfl,by go_num,by omega,hy.out _ H9.out,HR.out.2.1.mark _ _ _,HR.out.2.2.1,HR.out.2.2.2.1,HF.out,HR.out.2.2.2.2.2.1,Hi.out,Hf.out⟩
    case measure=>simp[intOf];omega
  have k2a:((p.kind:Int)==2)=false:=by rw[yf];omega
  by_cases k5:p.kind=5
  ·have hu:=q96 (hS.wf e.1 src Hg) [] 0 rfl
   have Ht:L≠[]:=fun q=>by
    have h1:src.parts=src.parts.take a++(p::src.parts.drop (a+1)):=by
     rw[yc Hq]at hp;rw[<-yk hp,List.getElem_cons_drop,yu]
    have:=zde (src.parts.take a) (p::src.parts.drop (a+1)) [] (by rw[<-h1];simpa using hu);rw[<-HR.out.2.2.2.2.2.2.1,q]at this;unfold deep at this;rw[if_neg (by omega),if_pos k5]at this;simp at this
   obtain⟨L',b,hL⟩:∃L' b,L=L'++[b]:=⟨L.dropLast,L.getLast Ht,(List.dropLast_concat_getLast Ht).symm⟩;have hm5:=(za0 (hS.wf e.1 src Hg) a p hp k5).1;obtain⟨p5,hp5⟩:∃p5,src.parts[p.mate]?=some p5:=⟨src.parts[p.mate]'(by omega),yc (by omega)⟩;have H4:qk2 src.parts p.mate=p5.pos:=by unfold qk2;rw[hp5]
   have ha:=ho.out;rw[if_neg (by omega),if_neg (by omega),if_neg k3,if_pos k5,hL]at ha;simp only[List.getLast?_append,List.getLast?_singleton,Option.some_or,H4,List.dropLast_concat]at ha;have hK:L.length=L'.length+1:=by rw[hL];simp
   have H5:Hid (∀b∈L',SxFit b.1):=fun c hc=>HR.out.2.2.2.2.2.1 c (by rw[hL];exact List.mem_append_left _ hc);have h6:Hid ((L'.map (·.2)).reverse=stk (src.parts.take (a+1)) []):=by
    show _=_;rw[H3.out,qg1,<-HR.out.2.2.2.2.2.2.1,hL,qf6,if_neg k3,if_pos k5];simp[stk]
   have HK:=(show Hid _ from(by have:=HR.out.1;rw[hL]at this;exact this:Thi w wr B F S vv' (M++[g]++ext) s' w.heap.size e s.vis.length g src.parts.length G x' (.slice av (L'++[b]).length cv) (L'++[b])));obtain⟨gb,rfl,⟨hcv,hcv2⟩,HL⟩:=HK.out.last;have hcv3:(L'.length:Int)<=(cv:Int):=by omega
   have hcv4:(cv:Int)<=(maxLen:Int):=by omega
   have Hl:=fun o=>(HK.out.alloc o).last;have Hn:=fun o=>(fun j v hv=>by
    obtain⟨gb',e1,_,e2⟩:=Hl o;injection e1 with e1;injection e1 with e1;subst e1;exact e2 j v hv:∀j v,(qft b)[j]?=some v->(wr.alloc o).cell? (zO gb (L'.length*11+j))=some v)
   have l0:=fun o=>Hn o 0 _ rfl;have l1:=fun o=>Hn o 1 _ rfl;have l2:=fun o=>Hn o 2 _ rfl;have l3:=fun o=>Hn o 3 _ rfl;have l4:=fun o=>Hn o 4 _ rfl;have l5:=fun o=>Hn o 5 _ rfl;have l6:=fun o=>Hn o 6 _ rfl;have l7:=fun o=>Hn o 7 _ rfl;have l8:=fun o=>Hn o 8 _ rfl;have l9:=fun o=>Hn o 9 _ rfl;have l10:=fun o=>Hn o 10 _ rfl;simp only[Nat.add_zero]at l0;unfold bs at l1 l2;have Hu:∀o,(wr.alloc o).ownsRow B 229 4 (zF gp src.parts.length cap) src.parts.length (qbp src.parts):=fun o=>by
    have:=(HR.out.1.alloc o).sv.se.src.row e.1 src Hg;rw[hv]at this;exact this
   have d5:∀o,(wr.alloc o).cell? (zO gp (p.mate*4+1))=some (zI p5.pos):=fun o=>by
    obtain⟨g',_,e1,_,e2,_⟩:=qhb (Hu o) hp5;injection e1 with e1;injection e1 with e1;injection e1 with e1;subst e1;exact e2
   have hm5':(p.mate:Int)<(src.parts.length:Int):=by omega
   have hfb:SxFit b.1:=HR.out.2.2.2.2.2.1 b (by rw[hL];simp);have heq:=fun w=>zd2 w HR.out.2.2.2.2.1 hfb;have hgd:=fun w=>qsk w x' b.1;have Hy:=fun w=>qsl w HR.out.2.2.2.2.1 hfb;unfold qar qaf bs at heq hgd Hy;have H6:(L'.length:Int)<=2000:=by omega
   rw[k5]at d0;rw[hK];clear hu Ht HL Hl Hn Hu k3 k2;by_cases hx:x'=b.1
   ·rw[if_neg (fun q=>q hx)]at ha
    have Hf:=zH ha;have HX:=zH hx;rw[yV hx]at heq Hy;clear ha hx ho;go_wp2
    obtain⟨n1,h7⟩:∃n1,n1=L'.length+1:=⟨_,rfl⟩;have hb1:(L'.length:Int)<(n1:Int):=by omega
    rw[<-h7];go_region
    all_goals
     go_wp2
     go_roundw
     case rel=>exact⟨a+1,m,s',x',L',vv',ext,_,cv,rfl,by go_num,by omega,(HK.out.pop.alloc _).drew,HR.out.2.1,HR.out.2.2.1,HR.out.2.2.2.1,HR.out.2.2.2.2.1,H5.out,h6.out,Hf.out⟩
     case measure=>simp[intOf];omega
   ·rw[if_pos hx]at ha
    have Hf:=zH ha;rw[yx hx]at heq Hy;have HG:Hid (∀w5,SvAt w5 B F S vv' (M++[g]++ext) s'->B<=w5.heap.size->zC 107 #[zP F.g,.agg #[zI e.1,zJ (e.2.st.mode:Int),zV e.2.st.name,zV e.2.st.elem,zI e.2.st.kind,zI (e.2.st.read:Int),.bool e.2.ma.ref,.bool e.2.st.esc,zI e.2.ma.hex,zI e.2.ma.pct,zI e.2.ma.far],zI 13,zI p5.pos] w5 fun ed w'=>(∃r,ed=.returned r)/\SeAt w' B F S vv' Q/\Cue B F w5 w'):=fun w5 h5 hI=>by
     have:=ql7 S w5 B F vv' s' e 13 p5.pos h5.se h0.lt hI;rw[Hf.out]at this;exact this
    have he:=fun o=>qct (HR.out.1.alloc o).ent;unfold qao bs at he;have m0:=fun o=>al (he o);have hbw:B<=wr.heap.size:=yh hB (yh HR.out.1.old.1 (yj HR.out.1.now.lt));have hHD:=fun o=>(HR.out.1.alloc o).drew;have hW:=zH hHD;clear ha hx ho he hHD;go_wp2
    obtain⟨n1,h7⟩:∃n1,n1=L'.length+1:=⟨_,rfl⟩;have hb1:(L'.length:Int)<(n1:Int):=by omega
    rw[<-h7];go_region
    all_goals
     go_wp2
     go_region_with (go_at_call 107;refine(HG.out _ (hW.out _).drew.sv (by simp;omega)).mono ?_;rintro ed w3 ⟨⟨r,rfl⟩,hJ,Hb⟩)
     all_goals
      go_wp2
      show Exit.noGoto _ _ _ _;simp only[Exit.noGoto];go_wp2
      go_end0
      have Hs:Q.nums=s'.nums/\Q.vis=s'.vis:=by rw[<-Hf.out];exact⟨rfl,rfl⟩
      exact⟨⟨_,rfl⟩,⟨vv',[g]++ext,by rw[<-yq];exact(hW.out _).drew.sv.turn hJ Hb Hs.1 Hs.2⟩,(hW.out _).drew.cuv.trans (Cuv.of_cue (hW.out _).drew.sv.se Hb)⟩
  have k5a:((p.kind:Int)==5)=false:=by rw[yf];omega
  have Hi:=zH (Hi.out k5);by_cases k6:p.kind=6
  ·have ha:=ho.out
   rw[if_neg (by omega),if_neg k2,if_neg k3,if_neg k5,if_pos k6]at ha
   try simp only at ha
   have HA:=zhb S k s'.nums.length HR.out.2.2.1 HR.out.2.2.2.1 s' p.text x' HR.out.2.1 (yg _) HR.out.2.2.2.2.1;have hN:=fun(w5:World) (h5:SvAt w5 B F S vv' (M++[g]++ext) s') (t5:TabB B w5)=>zb9 HB S hS k HT w5 B F vv' (M++[g]++ext) s' p.text x' h5 HR.out.2.1 HR.out.2.2.2.1 HR.out.2.2.1 HR.out.2.2.2.2.1 HP.out.1 t5;generalize nmV S k s' p.text x'=r at ha HA hN;obtain⟨s2,z,y⟩:=r;simp only at ha HA;have Ha:=fun w=>qu0 y w;have hT:=fun(w5:World) (vv5:Value) (M5:List Nat) (hw:Thi w w5 B F S vv5 M5 s2 w.heap.size e s.vis.length g src.parts.length G x' (.slice av L.length cv) L)=>(hw.mark a z).set y;have Ht:g≠G/\g≠F.g:=by
    obtain⟨u,h1,h2⟩:=HR.out.1.vis;obtain⟨hb,_⟩:=HR.out.1.sv.marks _ g u HR.out.1.mks h1;exact⟨qae hb HR.out.1.now (by decide),qae hb HR.out.1.sv.se.blk (by decide)⟩
   have H7:G≠F.g:=qae HR.out.1.now HR.out.1.sv.se.blk qb5;obtain⟨Ht,h8⟩:=Ht;have Hc:Hid (Inv S (s2.mark s.vis.length a z)/\258<=(s2.mark s.vis.length a z).nums.length+k/\1<=(s2.mark s.vis.length a z).nums.length):=by
    have h1:=HA.2.1.nums;have h2:=HR.out.2.2.1;have h3:=HR.out.2.2.2.1;exact⟨HA.1.mark _ _ _,by show 258<=s2.nums.length+k;omega,by show 1<=s2.nums.length;omega⟩
   unfold qar qaf bs at hN Ha;unfold qdf at hT;have HN:=zH hN;have hm:=zH Ha;have hy:=zH hT;have hM:=zH HA;have HW:=zH ha;rw[k6]at d0;clear ho ha HA hN Ha hT k3 k3a k3b k2 k2a k5 k5a k6;by_cases hf:s2.fault.code=0
   rotate_left
   ·have f5:((s2.fault.code:Int)==0)=false:=by rw[yf];omega
    have Hf:Hid (s2.mark s.vis.length a z=Q):=by
     have:=HW.out;rw[if_pos (Or.inl (show(s2.mark s.vis.length a z).fault.code≠0 from hf))]at this;exact this
    clear hf
    go_wp2_with (go_at_call 110;refine xQ (HN.out _ (HR.out.1.alloc _).sv (HR.out.1.alloc _).tabs) ?_;rintro ed w2 ⟨rfl,⟨vv2,ext2,hi⟩,Hb⟩
                 have H9:=(show Hid _ from(HR.out.1.alloc _).turn hi Hb hM.out.2.1);obtain⟨⟨zz,hz⟩,HJ⟩:=H9.out.cell a Hq;have b5:w2.cell? (zO F.g 5)=some (zI (s2.fault.code:Nat)):=hi.se.cell 5 _ rfl;have f6:¬(s2.fault.code:Int)=0:=by rw[yf]at f5;exact f5
                 generalize (s2.fault.code:Int)=fc at b5 f5 f6;have q2:=H9.out.now;have r0:=q2.at'.all;have t0:=q2.slot.thaw 0;have t1:=q2.slot.thaw 1;have t2:=q2.slot.thaw 2;have t3:=q2.slot.thaw 3;have t4:=q2.slot.thaw 4;have t5:=q2.slot.thaw 5;have t6:=q2.slot.thaw 6;have t7:=q2.slot.thaw 7;have t8:=q2.slot.thaw 8;have t9:=q2.slot.thaw 9;clear q2 hi Hb)
    show Exit.noGoto _ _ _ _;simp only[Exit.noGoto];go_wp2
    go_end0
    exact⟨⟨_,rfl⟩,⟨vv2,[g]++ext++ext2,by rw[<-Hf.out,<-yq,<-yq];exact(hy.out _ _ _ H9.out).sv⟩,(hy.out _ _ _ H9.out).cuv⟩
   ·have HM:(s2.mark s.vis.length a z).fault.code=0:=hf
    by_cases hr:y.isNone=true
    rotate_left
    ·have hb:(y.st.mode==0)=false:=by cases q:(y.st.mode==0)with | true=>exact absurd q hr | false=>rfl
     have hO:y.isNone=false:=hb;have Hf:Hid (goV (nmV S k) S e.1 s.vis.length src.parts m (a+1) (s2.mark s.vis.length a z) y L=Q):=by
      have:=HW.out;rw[if_neg (by rintro(h1|⟨h1,_⟩);exact h1 HM;exact hr h1),if_pos hO]at this;exact this
     have HFy:=zH (qq9 hM.out.2.2 hr);have Ha:=hm.out;rw[hb]at Ha;have hC:=zH Ha;clear hm Ha hr hO hb HM
     go_wp2_with (first
      | (go_at_call 110;refine xQ (HN.out _ (HR.out.1.alloc _).sv (HR.out.1.alloc _).tabs) ?_;rintro ed w2 ⟨rfl,⟨vv2,ext2,hi⟩,Hb⟩
         have H9:=(show Hid _ from(HR.out.1.alloc _).turn hi Hb hM.out.2.1);obtain⟨⟨zz,hz⟩,HJ⟩:=H9.out.cell a Hq;have b5:w2.cell? (zO F.g 5)=some (zI (s2.fault.code:Nat)):=hi.se.cell 5 _ rfl;rw[hf]at b5;have q2:=H9.out.now;have r0:=q2.at'.all;have t0:=q2.slot.thaw 0;have t1:=q2.slot.thaw 1;have t2:=q2.slot.thaw 2;have t3:=q2.slot.thaw 3;have t4:=q2.slot.thaw 4;have t5:=q2.slot.thaw 5;have t6:=q2.slot.thaw 6;have t7:=q2.slot.thaw 7;have t8:=q2.slot.thaw 8;have t9:=q2.slot.thaw 9;clear q2 hi Hb)
      | (go_at_call 111;refine(hC.out _).mono ?_;rintro ed w5 ⟨rfl,HO⟩
         have HC:Hid (Thi w w5 B F S vv2 (M++[g]++ext++ext2) (s2.mark s.vis.length a z) w.heap.size e s.vis.length g src.parts.length G y (.slice av L.length cv) L):=by rw[<-HO];exact H10.out.alloc _
         clear HO)
      | (fail_if_success (have hR:=H10.out)
         go_at_call 111;refine(hC.out _).mono ?_;rintro ed w4 ⟨rfl,Hv⟩
         have H10:Hid (Thi w w4 B F S vv2 (M++[g]++ext++ext2) (s2.mark s.vis.length a z) w.heap.size e s.vis.length g src.parts.length G y (.slice av L.length cv) L):=by rw[<-Hv];exact(hy.out _ _ _ H9.out).alloc _
         have q3:=H10.out.now;have x0:=q3.at'.all;clear q3 Hv))
     go_roundw
     case rel=>exact⟨a+1,m,s2.mark s.vis.length a z,y,L,vv2,ext++ext2,av,cv,rfl,by go_num,by omega,by rw[<-yq];exact HC.out,Hc.out.1,Hc.out.2.1,Hc.out.2.2,HFy.out,HR.out.2.2.2.2.2.1,Hi.out,Hf.out⟩
     case measure=>simp[intOf];omega
    ·have hb:(y.st.mode==0)=true:=hr
     have Ha:=hm.out;rw[hb]at Ha;have hC:=zH Ha;clear hm Ha hb;by_cases Hz:L=[]
     ·have Hf:Hid (s2.mark s.vis.length a z=Q):=by
       have:=HW.out;rw[if_pos (Or.inr ⟨hr,Hz⟩)]at this;exact this
      have hl0:L.length=0:=by rw[Hz];rfl
      rw[hl0];clear hr Hz HM;go_wp2_with (first
      | (go_at_call 110;refine xQ (HN.out _ (HR.out.1.alloc _).sv (HR.out.1.alloc _).tabs) ?_;rintro ed w2 ⟨rfl,⟨vv2,ext2,hi⟩,Hb⟩
         have H9:=(show Hid _ from(HR.out.1.alloc _).turn hi Hb hM.out.2.1);obtain⟨⟨zz,hz⟩,HJ⟩:=H9.out.cell a Hq;have b5:w2.cell? (zO F.g 5)=some (zI (s2.fault.code:Nat)):=hi.se.cell 5 _ rfl;rw[hf]at b5;have q2:=H9.out.now;have r0:=q2.at'.all;have t0:=q2.slot.thaw 0;have t1:=q2.slot.thaw 1;have t2:=q2.slot.thaw 2;have t3:=q2.slot.thaw 3;have t4:=q2.slot.thaw 4;have t5:=q2.slot.thaw 5;have t6:=q2.slot.thaw 6;have t7:=q2.slot.thaw 7;have t8:=q2.slot.thaw 8;have t9:=q2.slot.thaw 9;clear q2 hi Hb)
      | (fail_if_success (have hR:=H10.out)
         go_at_call 111;refine(hC.out _).mono ?_;rintro ed w4 ⟨rfl,Hv⟩
         have H10:Hid (Thi w w4 B F S vv2 (M++[g]++ext++ext2) (s2.mark s.vis.length a z) w.heap.size e s.vis.length g src.parts.length G y (.slice av L.length cv) L):=by rw[<-Hv];exact(hy.out _ _ _ H9.out).alloc _
         have q3:=H10.out.now;have x0:=q3.at'.all;clear q3 Hv))
      show Exit.noGoto _ _ _ _;simp only[Exit.noGoto];go_wp2
      go_end0
      exact⟨⟨_,rfl⟩,⟨vv2,[g]++ext++ext2,by rw[<-Hf.out,<-yq,<-yq];exact H10.out.sv⟩,H10.out.cuv⟩
     ·obtain⟨L',b,hL⟩:∃L' b,L=L'++[b]:=⟨L.dropLast,L.getLast Hz,(List.dropLast_concat_getLast Hz).symm⟩
      have Hf:Hid (goV (nmV S k) S e.1 s.vis.length src.parts m b.2 (s2.mark s.vis.length a z) b.1 L=Q):=by
       have:=HW.out;rw[if_neg (by rintro(h1|⟨_,h1⟩);exact h1 HM;exact Hz h1),if_neg (by rw[hr];simp)]at this;rw[hL]at this |-;simp only[List.getLast?_append,List.getLast?_singleton,Option.some_or]at this;exact this
      obtain⟨ex,h9,hx2,hx3⟩:=(zgp (hS.wf e.1 src Hg)).2 (a+1) (by omega) [];have hx4:ex=b.2::(L'.map (·.2)).reverse:=by
       have:=Hi.out;rw[h9,hL]at this;simpa using this.symm
      have hx5:=hx2 b.2 (by rw[hx4];simp);have HSt6:Hid ((L.map (·.2)).reverse=stk (src.parts.take b.2) []):=by
       have:=hx3 b.2 _ hx4;rw[Nat.sub_zero]at this;show _=_;rw[this,Hi.out,h9]
      have HX5:=zH hx5;have hb1:(1:Int)<=(b.2:Int):=by omega
      have Ho:(b.2:Int)<=2000:=by omega
      have H5:=zH (HR.out.2.2.2.2.2.1 b (by rw[hL];simp));have hK:L.length=L'.length+1:=by rw[hL];simp
      have H6:(L'.length:Int)<=2000:=by omega
      have hln3:¬(L'.length:Int)+1=0:=by omega
      have hln4:((L'.length:Int)+1==0)=false:=by rw[yf];exact hln3
      have HK:=(show Hid _ from(by have:=HR.out.1;rw[hL]at this;exact this:Thi w wr B F S vv' (M++[g]++ext) s' w.heap.size e s.vis.length g src.parts.length G x' (.slice av (L'++[b]).length cv) (L'++[b])));obtain⟨gb,hgb,_,_⟩:=HK.out.last;have hTb:=fun(w6:World) (vv5:Value) (M5:List Nat) (hw:Thi w w6 B F S vv5 M5 (s2.mark s.vis.length a z) w.heap.size e s.vis.length g src.parts.length G y (.slice av L.length cv) L)=>hw.set b.1;unfold qdf at hTb;have HTb:=zH hTb;have HGb:=zH hgb;have HLL:=zH hL;have HLn:=zH hK;clear hTb h9 hx2 hx3 hx4 hx5 hr Hz HM hL;rw[hK,hgb];clear hK hgb;go_wp2_with (first
      | (go_at_call 110;refine xQ (HN.out _ (HR.out.1.alloc _).sv (HR.out.1.alloc _).tabs) ?_;rintro ed w2 ⟨rfl,⟨vv2,ext2,hi⟩,Hb⟩
         have H9:=(show Hid _ from(HR.out.1.alloc _).turn hi Hb hM.out.2.1);obtain⟨⟨zz,hz⟩,HJ⟩:=H9.out.cell a Hq;have b5:w2.cell? (zO F.g 5)=some (zI (s2.fault.code:Nat)):=hi.se.cell 5 _ rfl;rw[hf]at b5;have q2:=H9.out.now;have r0:=q2.at'.all;have t0:=q2.slot.thaw 0;have t1:=q2.slot.thaw 1;have t2:=q2.slot.thaw 2;have t3:=q2.slot.thaw 3;have t4:=q2.slot.thaw 4;have t5:=q2.slot.thaw 5;have t6:=q2.slot.thaw 6;have t7:=q2.slot.thaw 7;have t8:=q2.slot.thaw 8;have t9:=q2.slot.thaw 9;clear q2 hi Hb)
      | (go_at_call 111;refine(hC.out _).mono ?_;rintro ed w5 ⟨rfl,HO⟩
         have HC:Hid (Thi w w5 B F S vv2 (M++[g]++ext++ext2) (s2.mark s.vis.length a z) w.heap.size e s.vis.length g src.parts.length G y (.slice av L.length cv) L):=by rw[<-HO];exact H10.out.alloc _
         have hl1:=HC.out;rw[HLL.out]at hl1;obtain⟨gb',e1,_,Hl⟩:=hl1.last;rw[HGb.out]at e1;injection e1 with e1;injection e1 with e1;subst e1;have l0:=Hl 0 _ rfl;have l1:=Hl 1 _ rfl;have l2:=Hl 2 _ rfl;have l3:=Hl 3 _ rfl;have l4:=Hl 4 _ rfl;have l5:=Hl 5 _ rfl;have l6:=Hl 6 _ rfl;have l7:=Hl 7 _ rfl;have l8:=Hl 8 _ rfl;have l9:=Hl 9 _ rfl;have l10:=Hl 10 _ rfl;simp only[Nat.add_zero]at l0;unfold bs at l1 l2;have q4:=fun o=>(HC.out.alloc o).now;have t0:=fun o=>(q4 o).slot.thaw 0;have t1:=fun o=>(q4 o).slot.thaw 1;have t2:=fun o=>(q4 o).slot.thaw 2;have t3:=fun o=>(q4 o).slot.thaw 3;have t4:=fun o=>(q4 o).slot.thaw 4;have t5:=fun o=>(q4 o).slot.thaw 5;have t6:=fun o=>(q4 o).slot.thaw 6;have t7:=fun o=>(q4 o).slot.thaw 7;have t8:=fun o=>(q4 o).slot.thaw 8;have t9:=fun o=>(q4 o).slot.thaw 9;have r0:=fun o=>(q4 o).at'.all;clear HO hl1 Hl q4)
      | (fail_if_success (have hR:=H10.out)
         go_at_call 111;refine(hC.out _).mono ?_;rintro ed w4 ⟨rfl,Hv⟩
         have H10:Hid (Thi w w4 B F S vv2 (M++[g]++ext++ext2) (s2.mark s.vis.length a z) w.heap.size e s.vis.length g src.parts.length G y (.slice av L.length cv) L):=by rw[<-Hv];exact(hy.out _ _ _ H9.out).alloc _
         have q3:=H10.out.now;have x0:=q3.at'.all;clear q3 Hv))
      obtain⟨o6,ho6⟩:∃o6,o6=Obj.cells #[zJ (b.1.st.mode:Int),zV b.1.st.name,zV b.1.st.elem,zI b.1.st.kind,zI (b.1.st.read:Int),.bool b.1.ma.ref,.bool b.1.st.esc,zI b.1.ma.hex,zI b.1.ma.pct,zI b.1.ma.far,zI (b.2:Nat)] 234:=⟨_,rfl⟩;rw[<-ho6];have Hm:∀(j:Nat) (v:Value),#[zJ (b.1.st.mode:Int),zV b.1.st.name,zV b.1.st.elem,zI b.1.st.kind,zI (b.1.st.read:Int),.bool b.1.ma.ref,.bool b.1.st.esc,zI b.1.ma.hex,zI b.1.ma.pct,zI b.1.ma.far,zI (b.2:Nat)][j]?=some v->(w5.alloc o6).cell? (zO w5.heap.size j)=some v:=fun j v hv=>by
       rw[ho6];exact qaa (xF w5 _) j _ (by rw[Array.getElem?_toList];exact hv)
      have hne6:G≠w5.heap.size:=Nat.ne_of_lt HC.out.now.lt;have Hr:=HC.out.alloc o6;clear ho6;generalize w5.heap.size=E6 at Hm hne6 |-;generalize World.alloc w5 o6=w6 at Hm Hr |-;have H12:=zH Hr;have hA:=Hr.now;have x0:=hA.at'.all;have y0:=hA.slot.thaw;have k0:=Hm 0 _ rfl;have k1:=Hm 1 _ rfl;have k2:=Hm 2 _ rfl;have k3:=Hm 3 _ rfl;have k4:=Hm 4 _ rfl;have k5:=Hm 5 _ rfl;have k6:=Hm 6 _ rfl;have k7:=Hm 7 _ rfl;have k8:=Hm 8 _ rfl;have k9:=Hm 9 _ rfl;have k10:=Hm 10 _ rfl;clear Hm Hr hA l0 l1 l2 l3 l4 l5 l6 l7 l8 l9 l10 t0 t1 t2 t3 t4 t5 t6 t7 t8 t9 r0 q0 q1 q2 q3 q4 q5 q6 q7 q8 q9 f0 f1 f2 f3 f4 f5 f6 f7 f8 f9 d0 d1 d2 d3 b5 hz HJ Ht h8 H7;go_region_held3 (fun w'=>w'.cell? (zO E6 0)=some (zJ (b.1.st.mode:Int))/\w'.cell? (zO E6 1)=some (zV b.1.st.name)/\w'.cell? (zO E6 2)=some (zV b.1.st.elem)/\w'.cell? (zO E6 3)=some (zI b.1.st.kind)/\w'.cell? (zO E6 4)=some (zI (b.1.st.read:Int))/\w'.cell? (zO E6 5)=some (.bool b.1.ma.ref)/\w'.cell? (zO E6 6)=some (.bool b.1.st.esc)/\w'.cell? (zO E6 7)=some (zI b.1.ma.hex)/\w'.cell? (zO E6 8)=some (zI b.1.ma.pct)/\w'.cell? (zO E6 9)=some (zI b.1.ma.far)/\w'.cell? (zO E6 10)=some (zI (b.2:Nat))) (go_keep) (fail)
      all_goals
       go_wp2
       go_roundw
       case rel=>exact⟨b.2,m,s2.mark s.vis.length a z,b.1,L,vv2,ext++ext2,av,cv,by rw[HLn.out,HGb.out],by rw[Int.sub_add_cancel],by have:=HX5.out;omega,by rw[<-yq];exact(HTb.out _ _ _ H12.out).drew,Hc.out.1,Hc.out.2.1,Hc.out.2.2,H5.out,HR.out.2.2.2.2.2.1,HSt6.out,Hf.out⟩
       case measure=>have:=HX5.out;simp[intOf];omega
  have k1:p.kind=1:=by have:=hkp;omega
  have ha:=ho.out;rw[if_pos k1]at ha;generalize wr=wo at *;clear wr;obtain⟨T,hT⟩:∃T:zT,T=⟨p.text.toArray⟩:=⟨_,rfl⟩;have hTl:T.data.toList=p.text:=by rw[hT]
  have hTs:(T.size:Int)<=2000:=by have:=HP.out.1;rw[<-hTl]at this;simp at this;omega
  rw[k1]at d0;rw[<-hT]at d2;rw[<-hTl]at ha;have Hf:=zH ha;clear hTl hT ho ha k3 k3a k3b k2 k2a k5 k5a k6 k1;go_wp2
  clear d0 d1 d2 d3 q0 q1 q2 q3 q4 q5 q6 q7 q8 q9 f0 f1 f2 f3 f4 f5 f6 f7 f8 f9;go_hide hQ
  have HQh:=zH hQ;clear hQ;go_loopw [40,10] (fun i _ wr=>∃j:Nat,j<=T.size/\i=zI j/\Hid (Thi w wr B F S vv' (M++[g]++ext) s' w.heap.size e s.vis.length g src.parts.length G (qax x' (T.data.toList.take j)) (.slice av L.length cv) L/\wr.heap[wo.heap.size]?=zK #[zI 1,zI p.pos,.string T,zI p.mate] 229/\qcy x' (T.data.toList.take j)=none)) (fun i _ _=>T.size - (intOf i).toNat)
  case atStart=>exact⟨0,yH _,rfl,HR.out.1.alloc _,xF wo _,rfl⟩
  case round=>
   obtain⟨j,hj,rfl,HI⟩:=hrel;by_cases hjl:j<T.size
   rotate_left
   ·have hjt:j=T.size:=by omega
    have c5:¬(j:Int)<(T.size:Int):=by omega
    have hD:qcy x' T.data.toList=none:=by
     have:=HI.out.2.2;rw[hjt,qeo T T.size (by omega)]at this;exact this
    have HX2:Hid (Thi w wr B F S vv' (M++[g]++ext) s' w.heap.size e s.vis.length g src.parts.length G (qax x' T.data.toList) (.slice av L.length cv) L):=by
     have:=HI.out.1;rw[hjt,qeo T T.size (by omega)]at this;exact this
    have hX:Hid (goV (nmV S k) S e.1 s.vis.length src.parts m (a+1) s' (qax x' T.data.toList) L=Q):=by
     have:=Hf.out;rw[hD]at this;exact this
    clear hjt hD;go_wp2
    rw[<-HQh.out];go_wp2
    go_roundw
    case rel=>exact⟨a+1,m,s',qax x' T.data.toList,L,vv',ext,av,cv,rfl,by go_num,by omega,HX2.out,HR.out.2.1,HR.out.2.2.1,HR.out.2.2.2.1,qku _ _ HR.out.2.2.2.2.1,HR.out.2.2.2.2.2.1,Hi.out,hX.out⟩
    case measure=>simp[intOf];omega
   ·have c5:(j:Int)<(T.size:Int):=by omega
    have hfj:=qku (T.data.toList.take j) _ HR.out.2.2.2.2.1;have HS:j<T.data.toList.length:=by simpa using hjl
    have hZ:qcd (qax x' (T.data.toList.take j)).st.kind (qax x' (T.data.toList.take j)).st.mode (qax x' (T.data.toList.take j)).ma.far T[j]=true->qcy x' T.data.toList=some j:=qww T.data.toList x' j HS HI.out.2.2;have hso:qcd (qax x' (T.data.toList.take j)).st.kind (qax x' (T.data.toList.take j)).st.mode (qax x' (T.data.toList.take j)).ma.far T[j]=false->qcy x' (T.data.toList.take (j+1))=none:=qwv T.data.toList x' j HS HI.out.2.2;have HZ:=fun w=>qjx (qax x' (T.data.toList.take j)) T[j] w;have hU:=fun w1 h1=>HB (qax x' (T.data.toList.take j)) T[j] w1 h1 hfj.ok;have HU:=fun(w5:World) (hw:Thi w w5 B F S vv' (M++[g]++ext) s' w.heap.size e s.vis.length g src.parts.length G (qax x' (T.data.toList.take j)) (.slice av L.length cv) L)=>hw.set ((qax x' (T.data.toList.take j)).behind T[j]);have hnx:qax x' (T.data.toList.take (j+1))=(qax x' (T.data.toList.take j)).behind T[j]:=by rw[qdn T j hjl,qp5]
    rw[<-hnx]at hU HU;obtain⟨Y,hY⟩:∃Y,Y=qax x' (T.data.toList.take (j+1)):=⟨_,rfl⟩;rw[<-hY]at hU HU;have HY:=zH hY;have He:=HI.out.1.now.at';have t1:wr.cell? (zO wo.heap.size 1)=some (zI p.pos):=qaa HI.out.2.1 1 _ rfl;have t2:wr.cell? (zO wo.heap.size 2)=some (.string T):=qaa HI.out.2.1 2 _ rfl;have hGlt:=HR.out.1.now.lt;have hTid:Hid (TabB B wr):=HI.out.1.tabs;have HSch:=zH hso;clear hY hnx hfj;generalize qax x' (T.data.toList.take j)=X at *;obtain⟨ms,hms⟩:∃ms,qcd X.st.kind X.st.mode X.ma.far T[j]=ms:=⟨_,rfl⟩;rw[hms]at HZ hZ;have hD:ms=false->qcy x' (T.data.toList.take (j+1))=none:=fun q=>hso (hms.trans q);have q0:=He.mode;have q1:=He.name;have q2:=He.elem;have q3:=He.kind;have q4:=He.read;have q5:=He.ref;have q6:=He.esc;have q7:=He.hex;have q8:=He.pct;have q9:=He.far;unfold qar qaf bs at HZ hU;unfold qdf at HU;have HMS:=zH HZ;have HB1:=zH hU;have HTT:=zH HU;have HD:Hid (Thi w wr B F S vv' (M++[g]++ext) s' w.heap.size e s.vis.length g src.parts.length G X (.slice av L.length cv) L/\wr.heap[wo.heap.size]?=zK #[zI 1,zI p.pos,.string T,zI p.mate] 229):=⟨HI.out.1,HI.out.2.1⟩;clear hU HU He HZ hms hso HSch HI;cases ms with
    |true=>
      have ha:=Hf.out;rw[hZ rfl]at ha;have hX:Hid (s'.wrong S e.1 14 (p.pos+j)=Q):=ha;have hpp:(p.pos:Int)<=2000:=by have:=HP.out.2.1;omega
      have HG:Hid (∀w5,SvAt w5 B F S vv' (M++[g]++ext) s'->B<=w5.heap.size->zC 107 #[zP F.g,.agg #[zI e.1,zJ (e.2.st.mode:Int),zV e.2.st.name,zV e.2.st.elem,zI e.2.st.kind,zI (e.2.st.read:Int),.bool e.2.ma.ref,.bool e.2.st.esc,zI e.2.ma.hex,zI e.2.ma.pct,zI e.2.ma.far],zI 14,zI ((p.pos:Int)+(j:Int))] w5 fun ed w'=>(∃r,ed=.returned r)/\SeAt w' B F S vv' Q/\Cue B F w5 w'):=fun w5 h5 hI=>by
       have:=ql7 S w5 B F vv' s' e 14 (p.pos+j) h5.se h0.lt hI;rw[hX.out]at this;exact this
      clear ha hZ hD;go_wp2
      go_cut [48] (fun s48 wx=>s48=.bool true/\Hid (Thi w wx B F S vv' (M++[g]++ext) s' w.heap.size e s.vis.length g src.parts.length G X (.slice av L.length cv) L/\wx.heap[wo.heap.size]?=zK #[zI 1,zI p.pos,.string T,zI p.mate] 229))
      case first=>
       first|go_region_with (go_at_call 106;refine(HMS.out _).mono ?_;rintro ed w2 ⟨rfl,hE⟩)|fail
       all_goals
        have hV:Below wr.drew.heap.size wr.drew w2:=by rw[<-hE];exact qqs _ _ _
        have Hc:Hid (Thi w w2 B F S vv' (M++[g]++ext) s' w.heap.size e s.vis.length g src.parts.length G X (.slice av L.length cv) L/\w2.heap[wo.heap.size]?=zK #[zI 1,zI p.pos,.string T,zI p.mate] 229):=
         ⟨HD.out.1.drew.below hV,(hV.block _ (ya.1 HD.out.2).1).trans HD.out.2⟩
        go_wp2
        go_meet
        case rel=>exact⟨rfl,Hc.out⟩
      case rest=>
       obtain⟨rfl,Hc⟩:=hcut;have t3:wc.cell? (zO wo.heap.size 2)=some (.string T):=qaa Hc.out.2 2 _ rfl;have t4:wc.cell? (zO wo.heap.size 1)=some (zI p.pos):=qaa Hc.out.2 1 _ rfl;clear q0 q1 q2 q3 q4 q5 q6 q7 q8 q9 t1 t2;have he:=qct Hc.out.1.ent;unfold qao bs at he;have m0:=al he;have hBw:B<=wc.heap.size:=yh hB (yh Hc.out.1.old.1 (yj Hc.out.1.now.lt));clear he t3;go_wp2_with (go_at_call 107;refine(HG.out _ Hc.out.1.sv hBw).mono ?_;rintro ed w3 ⟨⟨r,rfl⟩,hJ,Hb⟩)
       rw[<-HQh.out];go_wp2
       show Exit.noGoto _ _ _ _;simp only[Exit.noGoto];go_wp2
       go_end0
       have Hs:Q.nums=s'.nums/\Q.vis=s'.vis:=by rw[<-hX.out];exact⟨rfl,rfl⟩
       exact⟨⟨_,rfl⟩,⟨vv',[g]++ext,by rw[<-yq];exact Hc.out.1.sv.turn hJ Hb Hs.1 Hs.2⟩,Hc.out.1.cuv.trans (Cuv.of_cue Hc.out.1.sv.se Hb)⟩
    |false=>
      have HSn:=zH (hD rfl);clear hZ hD;go_wp2
      go_cut [48] (fun s48 wx=>s48=.bool false/\Hid (Thi w wx B F S vv' (M++[g]++ext) s' w.heap.size e s.vis.length g src.parts.length G X (.slice av L.length cv) L/\wx.heap[wo.heap.size]?=zK #[zI 1,zI p.pos,.string T,zI p.mate] 229))
      case first=>
       first|go_region_with (go_at_call 106;refine(HMS.out _).mono ?_;rintro ed w2 ⟨rfl,hE⟩)|fail
       all_goals
        have hV:Below wr.drew.heap.size wr.drew w2:=by rw[<-hE];exact qqs _ _ _
        have Hc:Hid (Thi w w2 B F S vv' (M++[g]++ext) s' w.heap.size e s.vis.length g src.parts.length G X (.slice av L.length cv) L/\w2.heap[wo.heap.size]?=zK #[zI 1,zI p.pos,.string T,zI p.mate] 229):=
         ⟨HD.out.1.drew.below hV,(hV.block _ (ya.1 HD.out.2).1).trans HD.out.2⟩
        go_wp2
        go_meet
        case rel=>exact⟨rfl,Hc.out⟩
      case rest=>
       obtain⟨rfl,Hc⟩:=hcut;have t3:wc.cell? (zO wo.heap.size 2)=some (.string T):=qaa Hc.out.2 2 _ rfl;have t4:wc.cell? (zO wo.heap.size 1)=some (zI p.pos):=qaa Hc.out.2 1 _ rfl;clear q0 q1 q2 q3 q4 q5 q6 q7 q8 q9 t1 t2;have ht1:PTabs wc:=Hc.out.1.tabs.1;have q5:=Hc.out.1.now.at';have r0:=q5.all;clear q5 t4;have HY2:Hid (Y=qax x' (T.data.toList.take (j+1))):=HY.out;go_wp2
       first | go_region_with (go_at_call 63;refine(HB1.out _ ht1.drew).mono ?_;rintro ed w3 ⟨rfl,hb3⟩
                               have HW3:=zH (Hc.out.1.drew.below hb3);have HP3:=(show Hid _ from(hb3.block _ (ya.1 Hc.out.2).1).trans Hc.out.2);have hs3:=HW3.out.now;have x0:=hs3.at'.all;have z0:=hs3.slot.thaw;clear hs3 hb3 r0 t3) | fail
       all_goals
        go_wp2
        go_roundw
        case rel=>exact⟨j+1,by omega,by go_num,by rw[<-HY2.out];exact HTT.out _ HW3.out,(qha (Nat.ne_of_gt hGlt) _ _ _ _ _ _ _ _ _ _).trans HP3.out,HSn.out⟩
        case measure=>simp[intOf];omega
end Go.Proofs.YtfkhljmiehdgmaaGreatDoor

/-
  Steps of the proof.
-/
import Derived.Test.YtfkhljmiehdgmaaGreatDoorCuAG
set_option maxRecDepth 100000
set_option maxHeartbeats 40000000
namespace Go.Proofs.YtfkhljmiehdgmaaGreatDoor
open Go.RowKit Go.Proofs.Tryz Pl
variable{w:World}{B:Nat}{v:Value}
theorem qaq{n k:Nat}{e:TypeId}{xs:List Value}(h:w.ownsRow B e k v n xs):∃ao cap,v=.slice ao n cap:=by
 rcases h.2 with⟨y,z⟩|⟨g,cap,cur,D,_⟩
 ·exact⟨none,0,by rw[y,z]⟩
 ·exact⟨_,cap,D⟩
theorem qhb{P:List Pt}(h:w.ownsRow B 229 4 v P.length (qbp P)){a:Nat}{p:Pt}(y:P[a]?=some p):∃g cap,v=zF g P.length cap/\(w.cell? (zO g (a*4))=some (zI p.kind)/\w.cell? (zO g (a*4+1))=some (zI p.pos)/\w.cell? (zO g (a*4+2))=some (.string ⟨p.text.toArray⟩)/\w.cell? (zO g (a*4+3))=some (zI p.mate)):=by
 have z:=(yb.1 y).1;obtain⟨g,cap,rfl,_⟩:=qai h (by omega);have D:=fun j v I=>(h.cellAt (a*4+j) (by have:=qeq P a p y j v I;have:=(yb.1 this).1;rw[q0x]at this;exact this)).trans (qeq P a p y j v I);exact⟨g,cap,rfl,D 0 _ rfl,D 1 _ rfl,D 2 _ rfl,D 3 _ rfl⟩
theorem qh1{o:Nat}{l:List Pt}(h:Wf o l):∀(i:Nat) (p:Pt),l[i]?=some p->(p.kind=3\/p.kind=4)->o+i<p.mate/\p.mate<o+l.length:=by
 induction h with
 |nil o=>intro i p D;simp at D
 |leaf o q l hk _ ih=>
   intro i p D y;cases i with
   |zero=>simp at D;subst D;omega
   |succ i=>
     have:=ih i p (by simpa using D) y;simp only[yK];omega
 |sec o q z b l hq hz h1 h2 hb _ ihb ihl=>
   intro i p D y;have e:q::b++z::l=q::(b++z::l):=by simp
   rw[e]at D |-;simp only[yK,yJ];cases i with
   |zero=>simp at D;subst D;omega
   |succ i=>
     simp only[yT]at D;rw[yI]at D;split at D
     ·have:=ihb i p D y;omega
     ·rename_i I
      cases J:i - b.length with
      |zero=>rw[J]at D;simp at D;subst D;omega
      |succ j=>
        rw[J]at D;have:=ihl j p (by simpa using D) y;omega
theorem q5h:qaf Sx.none=#[zJ 0,zS,zS,zI 0,zI 0,.bool false,.bool false,zI 0,zI 0,zI 0]:=rfl
theorem q2j(HB:qhp)(S:List Src)(hS:SrcsOk S)(k:Nat)(HC:BehC S k)(w:World)(B:Nat)(F:Fix)(vv:Value)(s:Sr)(e:En)(h:SeAt w B F S vv s)(ho:EndsOk S.length s.ends)(hk:257<=s.ends.length+k)(he:SxFit e.2)(hi:e.1<S.length)(hB:B<=w.heap.size)(ht:TabB B w) :
  zC 112 #[zP F.g,qge e] w fun ed w'=>ed=.returned (qar (qd7 (behV S k) (qah S e.1) ((qah S e.1).length+1) 0 s e.2).2)/\SeAt w' B F S vv (qd7 (behV S k) (qah S e.1) ((qah S e.1).length+1) 0 s e.2).1/\Cue B F w w':=by
 obtain⟨src,J⟩:∃src,S[e.1]?=some src:=⟨S[e.1],yc hi⟩;have hP:qah S e.1=src.parts:=by unfold qah;rw[J]
 rw[hP];obtain⟨ao,cap,hv⟩:=qaq (h.src.row e.1 src J);have b0:∀o o',((w.alloc o).alloc o').cell? (zO F.g 0)=some (zF F.bS S.length S.length):=fun o o'=>((h.alloc o).alloc o').cell 0 _ rfl;have b1:∀o o',((w.alloc o).alloc o').cell? (zO F.bS (e.1*2+1))=some (.slice ao src.parts.length cap):=fun o o'=>(((h.alloc o).alloc o').src.slice e.1 src J).trans (by rw[hv]);have c1:(e.1:Int)<(S.length:Int):=by omega
 generalize hQ:qd7 (behV S k) src.parts (src.parts.length+1) 0 s e.2=Q;have hm:=zH hQ;clear hQ;rw[qbj];unfold qao bs;have HS:=zH h;clear h;go_enter func112,ntmps112
 go_wp2
 go_quiet (fail)
 go_wp2
 have HW:Hid (Wki w ((((w.alloc (.cells (qao e) 180)).alloc (.cells (qaf Sx.none) 162)).drewN nq).alloc (.cells (qaf e.2) 162)) B F S vv s (w.heap.size+1+1) (w.heap.size+1) e.2):=by
  have Hm:zW w (((w.alloc (.cells (qao e) 180)).alloc (.cells (qaf Sx.none) 162)).drewN nq):=qat ((zB _).alloc (by simp) _) nq;have Z:=Hm.alloc (o:=.cells (qaf e.2) 162) (by have:=Hm.size;omega);exact⟨HS.out.below Z,qap _ _ _ (by simp[World.drewN]),(xI _ _ (by simp[World.drewN])).trans (qap (w.alloc _) _ _ (by simp)),by omega,⟨by omega,by omega,hB⟩,Cue.of_below Z hB,ht.kept (Z.mono hB)⟩
 rw[q5h]at HW;unfold qao qaf bs at HW;obtain⟨G,hG⟩:∃G,G=w.heap.size+1+1:=⟨_,rfl⟩;obtain⟨R,hR⟩:∃R,R=w.heap.size+1:=⟨_,rfl⟩;rw[<-hG,<-hR]at HW |-;generalize (World.alloc (World.drewN _ nq) _)=w4 at HW |-;clear b0 b1 hG hR;go_loopw [7] (fun i wr=>∃(a n:Nat) (s':Sr) (x':Sx),i=zI a/\src.parts.length<a+n/\Hid (Wki w wr B F S vv s' G R x'/\EndsOk S.length s'.ends/\257<=s'.ends.length+k/\qv7 x'/\qd7 (behV S k) src.parts n a s' x'=Q)) (fun i _=>src.parts.length - (intOf i).toNat)
 case atStart=>exact⟨0,src.parts.length+1,s,e.2,rfl,by omega,HW.out,ho,hk,.inr he,hm.out⟩
 case round=>
  obtain⟨a,n,s',x',rfl,hn,HR⟩:=hrel;clear HW hm ho hk;have Hc:=HR.out.1.now.at';have z:=zH (fun w=>qu0 x' w);have q0:=Hc.all;unfold qar qaf bs at z;clear Hc
  have exit:∀(w5:World) (ac:Act),Wki w w5 B F S vv s' G R x'->Q=(s',x')->ac.tmps.getD 4 undef=zP R->ac.defers=[] ->
    bodyPost prog f112 (fun ed w'=>ed=.returned (qar Q.2)/\SeAt w' B F S vv Q.1/\Cue B F w w') .ret ac (qdf w5 R (zJ (x'.st.mode:Int)) (.string ⟨x'.st.name.toArray⟩) (.string ⟨x'.st.elem.toArray⟩) (zI x'.st.kind) (zI (x'.st.read:Int)) (.bool x'.ma.ref) (.bool x'.st.esc) (zI x'.ma.hex) (zI x'.ma.pct) (zI x'.ma.far)):=by
   intro w5 ac hw hq h4 hd;subst hq;have hs:=hw.res.set x';have Hb:=fun k (hk:k≠R)=>qha (w:=w5) hk (zJ (x'.st.mode:Int)) (.string ⟨x'.st.name.toArray⟩) (.string ⟨x'.st.elem.toArray⟩) (zI x'.st.kind) (zI (x'.st.read:Int)) (.bool x'.ma.ref) (.bool x'.st.esc) (zI x'.ma.hex) (zI x'.ma.pct) (zI x'.ma.far);have He:Below R w5 (qdf w5 R (zJ (x'.st.mode:Int)) (.string ⟨x'.st.name.toArray⟩) (.string ⟨x'.st.elem.toArray⟩) (zI x'.st.kind) (zI (x'.st.read:Int)) (.bool x'.ma.ref) (.bool x'.st.esc) (zI x'.ma.hex) (zI x'.ma.pct) (zI x'.ma.far)):=qfe (xL _ _) (yg _) _ _ _ _ _ _ _ _ _ _;generalize qdf w5 R _ _ _ _ _ _ _ _ _ _=w6 at hs Hb He |-;refine bodyPost_ret (qbn results112 _ _ R _ _ h4 (qaa hs) underlying162 rfl (by kernel_rfl)) hd ⟨rfl,hw.se.far hw.res Hb,⟨hw.cue.below.trans (He.mono (yh hw.old.2.2 hw.old.2.1)),fun k hk h1 h2=>(Hb k (by have:=hw.old.2.1;omega)).trans (hw.cue.keep k hk h1 h2)⟩⟩
  have HX:=zH exit;clear exit;by_cases Hk:a<src.parts.length
  rotate_left
  ·have c1:¬(a:Int)<(src.parts.length:Int):=by omega
   have hq:Q=(s',x'):=by
    have:=HR.out.2.2.2.2;rw[<-this];cases n with
    |zero=>rfl
    |succ n=>
      have hp:src.parts[a]?=none:=yd (by omega);unfold qd7;rw[hp];split<;>rfl
   have HQ:=zH hq;have hs:=HR.out.1.res;have r0:=hs.at'.all;have f0:=hs.slot.thaw;clear Hk hs z hq;go_wp2
   unfold qdf at HX;refine HX.out wr _ HR.out.1 HQ.out ?_ ?_
   ·rfl
   ·rfl
  have c1:(a:Int)<(src.parts.length:Int):=by omega
  by_cases hc:x'.isNone=true
  ·have hb:(x'.st.mode==0)=true:=hc
   have hq:Q=(s',x'):=by
    have:=HR.out.2.2.2.2;rw[<-this];obtain⟨n,rfl⟩:∃m,n=m+1:=⟨n - 1,by omega⟩;unfold qd7;rw[if_pos hc]
   have HQ:=zH hq;have hs:=fun o=>HR.out.1.res.below (zB o);have Hn:=fun o=>(HR.out.1.now.below (zB o)).at';have r0:=fun o=>(hs o).at'.all;have g0:=fun o=>(Hn o).all;have f0:=fun o=>(hs o).slot.thaw;rw[hb]at z;clear Hk hs Hn hq hc hb;go_wp2_with (go_at_call 111;refine(z.out _).mono ?_;rintro e w' ⟨rfl,rfl⟩)
   unfold qdf at HX;refine HX.out _ _ (HR.out.1.alloc _) HQ.out ?_ ?_
   ·rfl
   ·rfl
  have D:=qq9 HR.out.2.2.2.1 hc;have hb:(x'.st.mode==0)=false:=by cases q:(x'.st.mode==0)with|true=>exact absurd q hc|false=>rfl
  rw[hb]at z;obtain⟨p,hp⟩:∃p,src.parts[a]?=some p:=⟨src.parts[a],yc Hk⟩;obtain⟨m,rfl⟩:∃m,n=m+1:=⟨n - 1,by omega⟩;have I:=HR.out.2.2.2.2;unfold qd7 at I;rw[if_neg hc,hp]at I;simp only at I;have hf:p∈src.parts:=yl hp;have Ho:=(hS.parts e.1 src J).2 p hf;have O:∀o,(wr.alloc o).ownsRow B 229 4 (.slice ao src.parts.length cap) src.parts.length (qbp src.parts):=fun o=>by
   have:=(HR.out.1.se.alloc o).src.row e.1 src J;rw[hv]at this;exact this
  obtain⟨g,cap',hg,_⟩:=qhb (O (.cells #[] 0)) hp;injection hg with Hv HA Hw;subst Hv Hw;have d0:∀o,(wr.alloc o).cell? (zO g (a*4))=some (zI p.kind):=fun o=>by
   obtain⟨g',_,e1,e2,_⟩:=qhb (O o) hp;injection e1 with e1;injection e1 with e1;injection e1 with e1;subst e1;exact e2
  have d1:∀o,(wr.alloc o).cell? (zO g (a*4+1))=some (zI p.pos):=fun o=>by
   obtain⟨g',_,e1,_,e2,_⟩:=qhb (O o) hp;injection e1 with e1;injection e1 with e1;injection e1 with e1;subst e1;exact e2
  have d2:∀o,(wr.alloc o).cell? (zO g (a*4+2))=some (.string ⟨p.text.toArray⟩):=fun o=>by
   obtain⟨g',_,e1,_,_,e2,_⟩:=qhb (O o) hp;injection e1 with e1;injection e1 with e1;injection e1 with e1;subst e1;exact e2
  have d3:∀o,(wr.alloc o).cell? (zO g (a*4+3))=some (zI p.mate):=fun o=>by
   obtain⟨g',_,e1,_,_,_,e2⟩:=qhb (O o) hp;injection e1 with e1;injection e1 with e1;injection e1 with e1;subst e1;exact e2
  have ha:=zH I;have HP:=zH Ho;clear I O hv hf hc hb HX Ho;have c2:(a:Int)<=2000:=by have:=(hS.parts e.1 src J).1;omega
  by_cases k3:p.kind=3\/p.kind=4
  ·have U:Hid (qd7 (behV S k) src.parts m (p.mate+1) s' x'=Q):=by
    have:=ha.out;rw[if_neg (by omega),if_neg (by omega),if_pos k3]at this;exact this
   have Hp:=qh1 (hS.wf e.1 src J) a p hp k3;have Hq:=zH Hp;have c3:(p.mate:Int)<=2000:=by have:=HP.out.2.2;omega
   clear ha Hp;rcases k3 with k3|k3
   all_goals
    rw[k3]at d0;go_wp2_with (go_at_call 111;refine(z.out _).mono ?_;rintro e w' ⟨rfl,rfl⟩)
    go_roundw
    case rel=>exact⟨p.mate+1,m,s',x',by go_num,by have:=Hq.out.1;omega,(HR.out.1.alloc _).alloc _,HR.out.2.1,HR.out.2.2.1,HR.out.2.2.2.1,U.out⟩
    case measure=>have:=Hq.out;simp[intOf];omega
  have hr:=fun o o'=>(((HR.out.1.alloc o).alloc o').now).at';have g0:=fun o o'=>(hr o o').all;clear hr;have k3a:((p.kind:Int)==3)=false:=by rw[yf];omega
  have k3b:((p.kind:Int)==4)=false:=by rw[yf];omega
  by_cases k2:p.kind=2
  ·have U:Hid (qd7 (behV S k) src.parts m (a+1) s' x'.behindHole=Q):=by
    have:=ha.out;rw[if_neg (by omega),if_pos k2]at this;exact this
   have HF:=zH (qmy D);rw[k2]at d0;have hH:=fun w=>qkd x' w;have hT:=fun(w5:World) (hw:Wki w w5 B F S vv s' G R x')=>hw.set x'.behindHole;generalize x'.behindHole=y at hH hT HF U;unfold qar qaf bs at hH;unfold qdf at hT;have HH:=zH hH;have HT:=zH hT;clear ha k3 k3a k3b k2 D hH hT
   go_wp2_with (first
    |(go_at_call 111;refine(z.out _).mono ?_;rintro e w' ⟨rfl,rfl⟩)
    | (go_at_call 109;refine(HH.out _).mono ?_;rintro e w2 ⟨rfl,Z⟩;have Ha:=(show Hid _ from((HR.out.1.alloc _).alloc _).below Z);clear Z
       have V:=Ha.out.now;have p0:=V.at'.all;have z0:=V.slot.thaw;clear V))
   go_roundw
   case rel=>exact⟨a+1,m,s',y,by go_num,by omega,HT.out _ Ha.out,HR.out.2.1,HR.out.2.2.1,.inr HF.out,U.out⟩
   case measure=>simp[intOf];omega
  have k2a:((p.kind:Int)==2)=false:=by rw[yf];omega
  by_cases k6:p.kind=6
  ·have U:Hid (qd7 (behV S k) src.parts m (a+1) (behV S k s' p.text x').1 (behV S k s' p.text x').2=Q):=by
    have:=ha.out;rw[if_neg (by omega),if_neg (by omega),if_neg (by omega),if_pos k6]at this;exact this
   have Hj:=qke S k s'.ends.length HR.out.2.2.1 s' p.text x' HR.out.2.1 (yg _) D;rw[k6]at d0;have hH:=fun(w5:World) (hw:Wki w w5 B F S vv s' G R x')=>HC w5 B F vv s' p.text x' hw.se HR.out.2.1 HR.out.2.2.1 D HP.out.1 hw.tabs;generalize behV S k s' p.text x'=r at hH Hj U;obtain⟨s2,y⟩:=r;simp only at hH Hj U;have hT:=fun(w5:World) (hw:Wki w w5 B F S vv s2 G R x')=>hw.set y;unfold qar qaf bs at hH;unfold qdf at hT;have HH:=zH hH;have HT:=zH hT;have hl:=zH Hj;clear ha k3 k3a k3b k2 k2a k6 D hH hT Hj
   go_wp2_with (first
    |(go_at_call 111;refine(z.out _).mono ?_;rintro e w' ⟨rfl,rfl⟩)
    | (go_at_call 156;refine(HH.out _ ((HR.out.1.alloc _).alloc _)).mono ?_;rintro e w2 ⟨rfl,Hr,Hs⟩;have Ha:=(show Hid _ from((HR.out.1.alloc _).alloc _).turn Hr Hs);clear Hr Hs
       have V:=Ha.out.now;have p0:=V.at'.all;have z0:=V.slot.thaw;clear V))
   go_roundw
   case rel=>exact⟨a+1,m,s2,y,by go_num,by omega,HT.out _ Ha.out,hl.out.1.ok,yh HR.out.2.2.1 (Nat.add_le_add_right hl.out.1.more k),hl.out.2,U.out⟩
   case measure=>simp[intOf];omega
  have k6a:((p.kind:Int)==6)=false:=by rw[yf];omega
  by_cases k1:p.kind=1
  rotate_left
  ·have k1a:((p.kind:Int)==1)=false:=by rw[yf];omega
   have U:Hid (qd7 (behV S k) src.parts m (a+1) s' x'=Q):=by
    have:=ha.out;rw[if_neg (by omega),if_neg (by omega),if_neg (by omega),if_neg (by omega)]at this;exact this
   clear ha k3 k2 k6 k1 D;generalize (p.kind:Int)=K at d0 k3a k3b k2a k6a k1a;go_wp2_with (go_at_call 111;refine(z.out _).mono ?_;rintro e w' ⟨rfl,rfl⟩)
   go_roundw
   case rel=>exact⟨a+1,m,s',x',by go_num,by omega,(HR.out.1.alloc _).alloc _,HR.out.2.1,HR.out.2.2.1,HR.out.2.2.2.1,U.out⟩
   case measure=>simp[intOf];omega
  have U:Hid (qd7 (behV S k) src.parts m (a+1) s' (qax x' p.text)=Q):=by
   have:=ha.out;rw[if_pos k1]at this;exact this
  generalize wr=wo at *;clear wr;obtain⟨T,hT⟩:∃T:zT,T=⟨p.text.toArray⟩:=⟨_,rfl⟩;have Hl:T.data.toList=p.text:=by rw[hT]
  have hC:(T.size:Int)<=2000:=by have:=HP.out.1;rw[<-Hl]at this;simp at this;omega
  rw[k1]at d0;rw[<-hT]at d2;rw[<-Hl]at U;clear Hl hT ha k3 k3a k3b k2 k2a k6 k6a k1;have Hf:=zH D;clear D;go_wp2_with (go_at_call 111;refine(z.out _).mono ?_;rintro e w' ⟨rfl,rfl⟩)
  clear g0 q0 d0 d1 d2 d3 z;go_hide hQ
  have HQ:=zH hQ;clear hQ;go_loopw [43,9] (fun i _ wr=>∃j:Nat,j<=T.size/\i=zI j/\Hid (Wki w wr B F S vv s' G R (qax x' (T.data.toList.take j))/\wr.heap[wo.heap.size+1]?=zK #[zI 1,zI p.pos,.string T,zI p.mate] 229)) (fun i _ _=>T.size - (intOf i).toNat)
  case atStart=>exact⟨0,yH _,rfl,(HR.out.1.alloc _).alloc _,qap (wo.alloc _) _ _ (by simp)⟩
  case round=>
   obtain⟨j,hj,rfl,HI⟩:=hrel;by_cases hx:j<T.size
   rotate_left
   ·have Ht:j=T.size:=by omega
    have c5:¬(j:Int)<(T.size:Int):=by omega
    have Hx:Hid (Wki w wr B F S vv s' G R (qax x' T.data.toList)):=by
     have:=HI.out.1;rw[Ht,qeo T T.size (by omega)]at this;exact this
    clear Ht;go_wp2
    rw[<-HQ.out];go_wp2
    go_roundw
    case rel=>exact⟨a+1,m,s',qax x' T.data.toList,by go_num,by omega,Hx.out,HR.out.2.1,HR.out.2.2.1,.inr (qku _ _ Hf.out),U.out⟩
    case measure=>simp[intOf];omega
   ·have c5:(j:Int)<(T.size:Int):=by omega
    have hu:=qku (T.data.toList.take j) _ Hf.out;have Hg:=fun w1 h1=>HB (qax x' (T.data.toList.take j)) T[j] w1 h1 hu.ok;have Hi:=fun(w5:World) (hw:Wki w w5 B F S vv s' G R (qax x' (T.data.toList.take j)))=>hw.set ((qax x' (T.data.toList.take j)).behind T[j]);have Hu:qax x' (T.data.toList.take (j+1))=(qax x' (T.data.toList.take j)).behind T[j]:=by rw[qdn T j hx,qp5]
    have Hc:=HI.out.1.now.at';have hy:=HI.out.1.tabs.1;have t2:wr.cell? (zO (wo.heap.size+1) 2)=some (.string T):=qaa HI.out.2 2 _ rfl;rw[<-Hu]at Hg Hi;obtain⟨Y,hY⟩:∃Y,Y=qax x' (T.data.toList.take (j+1)):=⟨_,rfl⟩;rw[<-hY]at Hg Hi;have HY:=zH hY;clear hY;have Hy:=HR.out.1.now.lt;generalize qax x' (T.data.toList.take j)=X at *;have q0:=Hc.all;unfold qar qaf bs at Hg;unfold qdf at Hi;have hz:=zH Hg;have Hz:=zH Hi;clear Hg Hi Hc hu Hu;go_wp2
    first | go_region_with (first
     | (go_at_call 63;refine(hz.out _ hy.drew).mono ?_;rintro e w2 ⟨rfl,Z⟩
        have Ha:=(show Hid _ from(HI.out.1.drewN 1).below Z);have hA:=(show Hid _ from(Z.block _ (ya.1 HI.out.2).1).trans HI.out.2);have V:=Ha.out.now;have p0:=V.at'.all;have z0:=V.slot.thaw;clear V Z q0)) | fail
    all_goals
     go_wp2
     go_roundw
     case rel=>exact⟨j+1,by omega,by go_num,by rw[<-HY.out];exact⟨Hz.out _ Ha.out,(qha (by omega) _ _ _ _ _ _ _ _ _ _).trans hA.out⟩⟩
     case measure=>simp[intOf];omega
end Go.Proofs.YtfkhljmiehdgmaaGreatDoor

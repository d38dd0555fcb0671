/-
  Steps of the proof.
-/
import Derived.Test.YtfkhljmiehdgmaaGreatDoorCmAG
set_option maxRecDepth 100000
set_option maxHeartbeats 40000000
namespace Go.Proofs.YtfkhljmiehdgmaaGreatDoor
open Go.RowKit
variable{w:World}{B:Nat}{v:Value}
theorem qas{n k:Nat}{e:TypeId}{xs:List Value}(h:w.ownsRow B e k v n xs):∃ao cap,v=.slice ao n cap:=by
 rcases h.2 with⟨h1,h2⟩|⟨g,cap,cur,hv,_⟩
 ·exact⟨none,0,by rw[h1,h2]⟩
 ·exact⟨_,cap,hv⟩
theorem qg0{P:List Pl.Pt}(h:w.ownsRow B 229 4 v P.length (qb0 P)){a:Nat}{p:Pl.Pt}(hp:P[a]?=some p):∃g cap,v=.slice (some ⟨g,0,none⟩) P.length cap/\(w.cell? ⟨g,a*4,none⟩=some (.int .i64 p.kind)/\w.cell? ⟨g,a*4+1,none⟩=some (.int .i64 p.pos)/\w.cell? ⟨g,a*4+2,none⟩=some (.string ⟨p.text.toArray⟩)/\w.cell? ⟨g,a*4+3,none⟩=some (.int .i64 p.mate)):=by
 have ha:=(List.getElem?_eq_some_iff.1 hp).1;obtain⟨g,cap,rfl,_⟩:=qaj h (by omega);have hc:=fun j v hv=>(h.cellAt (a*4+j) (by have:=qft P a p hp j v hv;have:=(List.getElem?_eq_some_iff.1 this).1;rw[qw6]at this;exact this)).trans (qft P a p hp j v hv);exact⟨g,cap,rfl,hc 0 _ rfl,hc 1 _ rfl,hc 2 _ rfl,hc 3 _ rfl⟩
theorem qhj{o:Nat}{l:List Pl.Pt}(h:Pl.Wf o l):∀(i:Nat) (p:Pl.Pt),l[i]?=some p->(p.kind=3\/p.kind=4)->o+i<p.mate/\p.mate<o+l.length:=by
 induction h with
 |nil o=>intro i p hp;simp at hp
 |leaf o q l hk _ ih=>
   intro i p hp ha;cases i with
   |zero=>simp at hp;subst hp;omega
   |succ i=>
     have:=ih i p (by simpa using hp) ha;simp only[List.length_cons];omega
 |sec o q z b l hq hz h1 h2 hb _ ihb ihl=>
   intro i p hp ha;have e:q::b++z::l=q::(b++z::l):=by simp
   rw[e]at hp |-;simp only[List.length_cons,List.length_append];cases i with
   |zero=>simp at hp;subst hp;omega
   |succ i=>
     simp only[List.getElem?_cons_succ]at hp;rw[List.getElem?_append]at hp;split at hp
     ·have:=ihb i p hp ha;omega
     ·rename_i hi
      cases hx:i - b.length with
      |zero=>rw[hx]at hp;simp at hp;subst hp;omega
      |succ j=>
        rw[hx]at hp;have:=ihl j p (by simpa using hp) ha;omega
theorem q05:qaf Pl.Sx.none=#[.int .u8 0,.string ⟨#[]⟩,.string ⟨#[]⟩,.int .i64 0,.int .i64 0,.bool false,.bool false,.int .i64 0,.int .i64 0,.int .i64 0]:=rfl
theorem qyl(HB:qg9)(S:List Pl.Src)(hS:SrcsOk S)(k:Nat)(HC:BehC S k)(w:World)(B:Nat)(F:Fix)(vv:Value)(s:Pl.Sr)(e:Pl.En)(h:SeAt w B F S vv s)(ho:Pl.EndsOk S.length s.ends)(hk:257<=s.ends.length+k)(he:Pl.SxFit e.2)(hi:e.1<S.length)(hB:B<=w.heap.size)(ht:TabB B w) :
  Calls Tryz.prog 112 #[.pointer (some ⟨F.g,0,none⟩),qf9 e] w fun ed w'=>ed=.returned (qap (Pl.qdh (Pl.behV S k) (Pl.qab S e.1) ((Pl.qab S e.1).length+1) 0 s e.2).2)/\SeAt w' B F S vv (Pl.qdh (Pl.behV S k) (Pl.qab S e.1) ((Pl.qab S e.1).length+1) 0 s e.2).1/\Cue B F w w':=by
 obtain⟨src,He⟩:∃src,S[e.1]?=some src:=⟨S[e.1],List.getElem?_eq_getElem hi⟩;have hP:Pl.qab S e.1=src.parts:=by unfold Pl.qab;rw[He]
 rw[hP];obtain⟨ao,cap,hv⟩:=qas (h.src.row e.1 src He);have b0:∀o o',((w.alloc o).alloc o').cell? ⟨F.g,0,none⟩=some (.slice (some ⟨F.bS,0,none⟩) S.length S.length):=fun o o'=>((h.alloc o).alloc o').cell 0 _ rfl;have b1:∀o o',((w.alloc o).alloc o').cell? ⟨F.bS,e.1*2+1,none⟩=some (.slice ao src.parts.length cap):=fun o o'=>(((h.alloc o).alloc o').src.slice e.1 src He).trans (by rw[hv]);have c1:(e.1:Int)<(S.length:Int):=by omega
 generalize hQ:Pl.qdh (Pl.behV S k) src.parts (src.parts.length+1) 0 s e.2=Q;have hu:=hd hQ;clear hQ;rw[qbi];unfold qao bs;have HS:=hd h;clear h;go_enter Tryz.func112,Tryz.ntmps112
 go_wp2_with fail
 go_quiet (fail)
 go_wp2_with fail
 have HW:Hid (Wki w ((((w.alloc (.cells (qao e) 180)).alloc (.cells (qaf Pl.Sx.none) 162)).drewN nq).alloc (.cells (qaf e.2) 162)) B F S vv s (w.heap.size+1+1) (w.heap.size+1) e.2):=by
  have Hu:Below w.heap.size w (((w.alloc (.cells (qao e) 180)).alloc (.cells (qaf Pl.Sx.none) 162)).drewN nq):=qay ((ba _).alloc (by simp) _) nq;have Hj:=Hu.alloc (o:=.cells (qaf e.2) 162) (by have:=Hu.size;omega);exact⟨HS.out.below Hj,qal _ _ _ (by simp[World.drewN]),(heap_alloc_old _ _ (by simp[World.drewN])).trans (qal (w.alloc _) _ _ (by simp)),by omega,⟨by omega,by omega,hB⟩,Cue.of_below Hj hB,ht.kept (Hj.mono hB)⟩
 rw[q05]at HW;unfold qao qaf bs at HW;obtain⟨G,hG⟩:∃G,G=w.heap.size+1+1:=⟨_,rfl⟩;obtain⟨R,hR⟩:∃R,R=w.heap.size+1:=⟨_,rfl⟩;rw[<-hG,<-hR]at HW |-;generalize (World.alloc (World.drewN _ nq) _)=w4 at HW |-;clear b0 b1 hG hR;go_loopw [7] (fun i wr=>∃(a n:Nat) (s':Pl.Sr) (x':Pl.Sx),i=.int .i64 a/\src.parts.length<a+n/\Hid (Wki w wr B F S vv s' G R x'/\Pl.EndsOk S.length s'.ends/\257<=s'.ends.length+k/\Pl.qp8 x'/\Pl.qdh (Pl.behV S k) src.parts n a s' x'=Q)) (fun i _=>src.parts.length - (intOf i).toNat)
 case atStart=>exact⟨0,src.parts.length+1,s,e.2,rfl,by omega,HW.out,ho,hk,.inr he,hu.out⟩
 case round=>
  obtain⟨a,n,s',x',rfl,hn,HR⟩:=hrel;clear HW hu ho hk;have Hb:=HR.out.1.now.at';have Ha:=hd (fun w=>qsi x' w);have q0:=Hb.mode;have q1:=Hb.name;have q2:=Hb.elem;have q3:=Hb.kind;have q4:=Hb.read;have q5:=Hb.ref;have q6:=Hb.esc;have q7:=Hb.hex;have q8:=Hb.pct;have q9:=Hb.far;unfold qap qaf bs at Ha;clear Hb
  have exit:∀(w5:World) (ac:Act),Wki w w5 B F S vv s' G R x'->Q=(s',x')->ac.tmps.getD 4 undef=.pointer (some ⟨R,0,none⟩)->ac.defers=[] ->
    bodyPost Tryz.prog Tryz.f112 (fun ed w'=>ed=.returned (qap Q.2)/\SeAt w' B F S vv Q.1/\Cue B F w w') .ret ac (qcs w5 R (.int .u8 (x'.st.mode:Int)) (.string ⟨x'.st.name.toArray⟩) (.string ⟨x'.st.elem.toArray⟩) (.int .i64 x'.st.kind) (.int .i64 (x'.st.read:Int)) (.bool x'.ma.ref) (.bool x'.st.esc) (.int .i64 x'.ma.hex) (.int .i64 x'.ma.pct) (.int .i64 x'.ma.far)):=by
   intro w5 ac hw hq h4 hd;subst hq;have hs:=hw.res.set x';have Hl:=fun k (hk:k≠R)=>qgy (w:=w5) hk (.int .u8 (x'.st.mode:Int)) (.string ⟨x'.st.name.toArray⟩) (.string ⟨x'.st.elem.toArray⟩) (.int .i64 x'.st.kind) (.int .i64 (x'.st.read:Int)) (.bool x'.ma.ref) (.bool x'.st.esc) (.int .i64 x'.ma.hex) (.int .i64 x'.ma.pct) (.int .i64 x'.ma.far);have Hm:Below R w5 (qcs w5 R (.int .u8 (x'.st.mode:Int)) (.string ⟨x'.st.name.toArray⟩) (.string ⟨x'.st.elem.toArray⟩) (.int .i64 x'.st.kind) (.int .i64 (x'.st.read:Int)) (.bool x'.ma.ref) (.bool x'.st.esc) (.int .i64 x'.ma.hex) (.int .i64 x'.ma.pct) (.int .i64 x'.ma.far)):=qei (Below.refl _ _) (Nat.le_refl _) _ _ _ _ _ _ _ _ _ _;generalize qcs w5 R _ _ _ _ _ _ _ _ _ _=w6 at hs Hl Hm |-;refine bodyPost_ret (qbk Tryz.results112 _ _ R _ _ h4 (qaa hs) Tryz.underlying162 rfl (by kernel_rfl)) hd ⟨rfl,hw.se.far hw.res Hl,⟨hw.cue.below.trans (Hm.mono (Nat.le_trans hw.old.2.2 hw.old.2.1)),fun k hk h1 h2=>(Hl k (by have:=hw.old.2.1;omega)).trans (hw.cue.keep k hk h1 h2)⟩⟩
  have HX:=hd exit;clear exit;by_cases Hr:a<src.parts.length
  rotate_left
  ·have c1:¬(a:Int)<(src.parts.length:Int):=by omega
   have hq:Q=(s',x'):=by
    have:=HR.out.2.2.2.2;rw[<-this];cases n with
    |zero=>rfl
    |succ n=>
      have hp:src.parts[a]?=none:=List.getElem?_eq_none (by omega);unfold Pl.qdh;rw[hp];split<;>rfl
   have HQ:=hd hq;have hs:=HR.out.1.res;have r0:=hs.at'.mode;have r1:=hs.at'.name;have r2:=hs.at'.elem;have r3:=hs.at'.kind;have r4:=hs.at'.read;have r5:=hs.at'.ref;have r6:=hs.at'.esc;have r7:=hs.at'.hex;have r8:=hs.at'.pct;have r9:=hs.at'.far;have f0:=hs.slot.thaw 0;have f1:=hs.slot.thaw 1;have f2:=hs.slot.thaw 2;have f3:=hs.slot.thaw 3;have f4:=hs.slot.thaw 4;have f5:=hs.slot.thaw 5;have f6:=hs.slot.thaw 6;have f7:=hs.slot.thaw 7;have f8:=hs.slot.thaw 8;have f9:=hs.slot.thaw 9;clear Hr hs Ha hq;go_wp2_with fail
   unfold qcs at HX;refine HX.out wr _ HR.out.1 HQ.out ?_ ?_
   ·rfl
   ·rfl
  have c1:(a:Int)<(src.parts.length:Int):=by omega
  by_cases hm:x'.isNone=true
  ·have hb:(x'.st.mode==0)=true:=hm
   have hq:Q=(s',x'):=by
    have:=HR.out.2.2.2.2;rw[<-this];obtain⟨n,rfl⟩:∃m,n=m+1:=⟨n - 1,by omega⟩;unfold Pl.qdh;rw[if_pos hm]
   have HQ:=hd hq;have hs:=fun o=>HR.out.1.res.below (ba o);have Hg:=fun o=>(HR.out.1.now.below (ba o)).at';have r0:=fun o=>(hs o).at'.mode;have r1:=fun o=>(hs o).at'.name;have r2:=fun o=>(hs o).at'.elem;have r3:=fun o=>(hs o).at'.kind;have r4:=fun o=>(hs o).at'.read;have r5:=fun o=>(hs o).at'.ref;have r6:=fun o=>(hs o).at'.esc;have r7:=fun o=>(hs o).at'.hex;have r8:=fun o=>(hs o).at'.pct;have r9:=fun o=>(hs o).at'.far;have g0:=fun o=>(Hg o).mode;have g1:=fun o=>(Hg o).name;have g2:=fun o=>(Hg o).elem;have g3:=fun o=>(Hg o).kind;have g4:=fun o=>(Hg o).read;have g5:=fun o=>(Hg o).ref;have g6:=fun o=>(Hg o).esc;have g7:=fun o=>(Hg o).hex;have g8:=fun o=>(Hg o).pct;have g9:=fun o=>(Hg o).far;have f0:=fun o=>(hs o).slot.thaw 0;have f1:=fun o=>(hs o).slot.thaw 1;have f2:=fun o=>(hs o).slot.thaw 2;have f3:=fun o=>(hs o).slot.thaw 3;have f4:=fun o=>(hs o).slot.thaw 4;have f5:=fun o=>(hs o).slot.thaw 5;have f6:=fun o=>(hs o).slot.thaw 6;have f7:=fun o=>(hs o).slot.thaw 7;have f8:=fun o=>(hs o).slot.thaw 8;have f9:=fun o=>(hs o).slot.thaw 9;rw[hb]at Ha;clear Hr hs Hg hq hm hb;go_wp2_with (go_at_call 111;refine(Ha.out _).mono ?_;rintro e w' ⟨rfl,rfl⟩)
   unfold qcs at HX;refine HX.out _ _ (HR.out.1.alloc _) HQ.out ?_ ?_
   ·rfl
   ·rfl
  have hc:=Pl.qkv HR.out.2.2.2.1 hm;have hb:(x'.st.mode==0)=false:=by cases q:(x'.st.mode==0)with|true=>exact absurd q hm|false=>rfl
  rw[hb]at Ha;obtain⟨p,hp⟩:∃p,src.parts[a]?=some p:=⟨src.parts[a],List.getElem?_eq_getElem Hr⟩;obtain⟨m,rfl⟩:∃m,n=m+1:=⟨n - 1,by omega⟩;have Hc:=HR.out.2.2.2.2;unfold Pl.qdh at Hc;rw[if_neg hm,hp]at Hc;simp only at Hc;have Hn:p∈src.parts:=List.mem_of_getElem? hp;have Hv:=(hS.parts e.1 src He).2 p Hn;have hf:∀o,(wr.alloc o).ownsRow B 229 4 (.slice ao src.parts.length cap) src.parts.length (qb0 src.parts):=fun o=>by
   have:=(HR.out.1.se.alloc o).src.row e.1 src He;rw[hv]at this;exact this
  obtain⟨g,cap',hg,_⟩:=qg0 (hf (.cells #[] 0)) hp;injection hg with hA hI HA;subst hA HA;have d0:∀o,(wr.alloc o).cell? ⟨g,a*4,none⟩=some (.int .i64 p.kind):=fun o=>by
   obtain⟨g',_,e1,e2,_⟩:=qg0 (hf o) hp;injection e1 with e1;injection e1 with e1;injection e1 with e1;subst e1;exact e2
  have d1:∀o,(wr.alloc o).cell? ⟨g,a*4+1,none⟩=some (.int .i64 p.pos):=fun o=>by
   obtain⟨g',_,e1,_,e2,_⟩:=qg0 (hf o) hp;injection e1 with e1;injection e1 with e1;injection e1 with e1;subst e1;exact e2
  have d2:∀o,(wr.alloc o).cell? ⟨g,a*4+2,none⟩=some (.string ⟨p.text.toArray⟩):=fun o=>by
   obtain⟨g',_,e1,_,_,e2,_⟩:=qg0 (hf o) hp;injection e1 with e1;injection e1 with e1;injection e1 with e1;subst e1;exact e2
  have d3:∀o,(wr.alloc o).cell? ⟨g,a*4+3,none⟩=some (.int .i64 p.mate):=fun o=>by
   obtain⟨g',_,e1,_,_,_,e2⟩:=qg0 (hf o) hp;injection e1 with e1;injection e1 with e1;injection e1 with e1;subst e1;exact e2
  have Hk:=hd Hc;have HP:=hd Hv;clear Hc hf hv Hn hm hb HX Hv;have c2:(a:Int)<=2000:=by have:=(hS.parts e.1 src He).1;omega
  by_cases k3:p.kind=3\/p.kind=4
  ·have Hf:Hid (Pl.qdh (Pl.behV S k) src.parts m (p.mate+1) s' x'=Q):=by
    have:=Hk.out;rw[if_neg (by omega),if_neg (by omega),if_pos k3]at this;exact this
   have Hw:=qhj (hS.wf e.1 src He) a p hp k3;have hx:=hd Hw;have c3:(p.mate:Int)<=2000:=by have:=HP.out.2.2;omega
   clear Hk Hw;rcases k3 with k3|k3
   all_goals
    rw[k3]at d0;go_wp2_with (go_at_call 111;refine(Ha.out _).mono ?_;rintro e w' ⟨rfl,rfl⟩)
    go_roundw
    case rel=>exact⟨p.mate+1,m,s',x',by go_num,by have:=hx.out.1;omega,(HR.out.1.alloc _).alloc _,HR.out.2.1,HR.out.2.2.1,HR.out.2.2.2.1,Hf.out⟩
    case measure=>have:=hx.out;simp[intOf];omega
  have Hi:=fun o o'=>(((HR.out.1.alloc o).alloc o').now).at';have g0:=fun o o'=>(Hi o o').mode;have g1:=fun o o'=>(Hi o o').name;have g2:=fun o o'=>(Hi o o').elem;have g3:=fun o o'=>(Hi o o').kind;have g4:=fun o o'=>(Hi o o').read;have g5:=fun o o'=>(Hi o o').ref;have g6:=fun o o'=>(Hi o o').esc;have g7:=fun o o'=>(Hi o o').hex;have g8:=fun o o'=>(Hi o o').pct;have g9:=fun o o'=>(Hi o o').far;clear Hi;have k3a:((p.kind:Int)==3)=false:=by rw[beq_eq_false_iff_ne];omega
  have k3b:((p.kind:Int)==4)=false:=by rw[beq_eq_false_iff_ne];omega
  by_cases k2:p.kind=2
  ·have Hf:Hid (Pl.qdh (Pl.behV S k) src.parts m (a+1) s' x'.behindHole=Q):=by
    have:=Hk.out;rw[if_neg (by omega),if_pos k2]at this;exact this
   have HF:=hd (Pl.qim hc);rw[k2]at d0;have hH:=fun w=>qjj x' w;have hT:=fun(w5:World) (hw:Wki w w5 B F S vv s' G R x')=>hw.set x'.behindHole;generalize x'.behindHole=y at hH hT HF Hf;unfold qap qaf bs at hH;unfold qcs at hT;have HH:=hd hH;have HT:=hd hT;clear Hk k3 k3a k3b k2 hc hH hT
   go_wp2_with (first
    |(go_at_call 111;refine(Ha.out _).mono ?_;rintro e w' ⟨rfl,rfl⟩)
    | (go_at_call 109;refine(HH.out _).mono ?_;rintro e w2 ⟨rfl,Hj⟩;have hl:=(show Hid _ from((HR.out.1.alloc _).alloc _).below Hj);clear Hj
       have ha:=hl.out.now;have p0:=ha.at'.mode;have p1:=ha.at'.name;have p2:=ha.at'.elem;have p3:=ha.at'.kind;have p4:=ha.at'.read;have p5:=ha.at'.ref;have p6:=ha.at'.esc;have p7:=ha.at'.hex;have p8:=ha.at'.pct;have p9:=ha.at'.far;have z0:=ha.slot.thaw 0;have z1:=ha.slot.thaw 1;have z2:=ha.slot.thaw 2;have z3:=ha.slot.thaw 3;have z4:=ha.slot.thaw 4;have z5:=ha.slot.thaw 5;have z6:=ha.slot.thaw 6;have z7:=ha.slot.thaw 7;have z8:=ha.slot.thaw 8;have z9:=ha.slot.thaw 9;clear ha))
   go_roundw
   case rel=>exact⟨a+1,m,s',y,by go_num,by omega,HT.out _ hl.out,HR.out.2.1,HR.out.2.2.1,.inr HF.out,Hf.out⟩
   case measure=>simp[intOf];omega
  have k2a:((p.kind:Int)==2)=false:=by rw[beq_eq_false_iff_ne];omega
  by_cases k6:p.kind=6
  ·have Hf:Hid (Pl.qdh (Pl.behV S k) src.parts m (a+1) (Pl.behV S k s' p.text x').1 (Pl.behV S k s' p.text x').2=Q):=by
    have:=Hk.out;rw[if_neg (by omega),if_neg (by omega),if_neg (by omega),if_pos k6]at this;exact this
   have hr:=Pl.qgd S k s'.ends.length HR.out.2.2.1 s' p.text x' HR.out.2.1 (Nat.le_refl _) hc;rw[k6]at d0;have hH:=fun(w5:World) (hw:Wki w w5 B F S vv s' G R x')=>HC w5 B F vv s' p.text x' hw.se HR.out.2.1 HR.out.2.2.1 hc HP.out.1 hw.tabs;generalize Pl.behV S k s' p.text x'=r at hH hr Hf;obtain⟨s2,y⟩:=r;simp only at hH hr Hf;have hT:=fun(w5:World) (hw:Wki w w5 B F S vv s2 G R x')=>hw.set y;unfold qap qaf bs at hH;unfold qcs at hT;have HH:=hd hH;have HT:=hd hT;have Hs:=hd hr;clear Hk k3 k3a k3b k2 k2a k6 hc hH hT hr
   go_wp2_with (first
    |(go_at_call 111;refine(Ha.out _).mono ?_;rintro e w' ⟨rfl,rfl⟩)
    | (go_at_call 156;refine(HH.out _ ((HR.out.1.alloc _).alloc _)).mono ?_;rintro e w2 ⟨rfl,Hx,hy⟩;have hl:=(show Hid _ from((HR.out.1.alloc _).alloc _).turn Hx hy);clear Hx hy
       have ha:=hl.out.now;have p0:=ha.at'.mode;have p1:=ha.at'.name;have p2:=ha.at'.elem;have p3:=ha.at'.kind;have p4:=ha.at'.read;have p5:=ha.at'.ref;have p6:=ha.at'.esc;have p7:=ha.at'.hex;have p8:=ha.at'.pct;have p9:=ha.at'.far;have z0:=ha.slot.thaw 0;have z1:=ha.slot.thaw 1;have z2:=ha.slot.thaw 2;have z3:=ha.slot.thaw 3;have z4:=ha.slot.thaw 4;have z5:=ha.slot.thaw 5;have z6:=ha.slot.thaw 6;have z7:=ha.slot.thaw 7;have z8:=ha.slot.thaw 8;have z9:=ha.slot.thaw 9;clear ha))
   go_roundw
   case rel=>exact⟨a+1,m,s2,y,by go_num,by omega,HT.out _ hl.out,Hs.out.1.ok,Nat.le_trans HR.out.2.2.1 (Nat.add_le_add_right Hs.out.1.more k),Hs.out.2,Hf.out⟩
   case measure=>simp[intOf];omega
  have k6a:((p.kind:Int)==6)=false:=by rw[beq_eq_false_iff_ne];omega
  by_cases k1:p.kind=1
  rotate_left
  ·have k1a:((p.kind:Int)==1)=false:=by rw[beq_eq_false_iff_ne];omega
   have Hf:Hid (Pl.qdh (Pl.behV S k) src.parts m (a+1) s' x'=Q):=by
    have:=Hk.out;rw[if_neg (by omega),if_neg (by omega),if_neg (by omega),if_neg (by omega)]at this;exact this
   clear Hk k3 k2 k6 k1 hc;generalize (p.kind:Int)=K at d0 k3a k3b k2a k6a k1a;go_wp2_with (go_at_call 111;refine(Ha.out _).mono ?_;rintro e w' ⟨rfl,rfl⟩)
   go_roundw
   case rel=>exact⟨a+1,m,s',x',by go_num,by omega,(HR.out.1.alloc _).alloc _,HR.out.2.1,HR.out.2.2.1,HR.out.2.2.2.1,Hf.out⟩
   case measure=>simp[intOf];omega
  have Hf:Hid (Pl.qdh (Pl.behV S k) src.parts m (a+1) s' (Pl.qav x' p.text)=Q):=by
   have:=Hk.out;rw[if_pos k1]at this;exact this
  generalize wr=wo at *;clear wr;obtain⟨T,hT⟩:∃T:ByteArray,T=⟨p.text.toArray⟩:=⟨_,rfl⟩;have Ht:T.data.toList=p.text:=by rw[hT]
  have hJ:(T.size:Int)<=2000:=by have:=HP.out.1;rw[<-Ht]at this;simp at this;omega
  rw[k1]at d0;rw[<-hT]at d2;rw[<-Ht]at Hf;clear Ht hT Hk k3 k3a k3b k2 k2a k6 k6a k1;have Ho:=hd hc;clear hc;go_wp2_with (go_at_call 111;refine(Ha.out _).mono ?_;rintro e w' ⟨rfl,rfl⟩)
  clear g0 g1 g2 g3 g4 g5 g6 g7 g8 g9 q0 q1 q2 q3 q4 q5 q6 q7 q8 q9 d0 d1 d2 d3 Ha;go_hide hQ
  have HQ:=hd hQ;clear hQ;go_loopw [43,9] (fun i _ wr=>∃j:Nat,j<=T.size/\i=.int .i64 j/\Hid (Wki w wr B F S vv s' G R (Pl.qav x' (T.data.toList.take j))/\wr.heap[wo.heap.size+1]?=some (.cells #[.int .i64 1,.int .i64 p.pos,.string T,.int .i64 p.mate] 229 (0,0)))) (fun i _ _=>T.size - (intOf i).toNat)
  case atStart=>exact⟨0,Nat.zero_le _,rfl,(HR.out.1.alloc _).alloc _,qal (wo.alloc _) _ _ (by simp)⟩
  case round=>
   obtain⟨j,hj,rfl,HI⟩:=hrel;by_cases hC:j<T.size
   rotate_left
   ·have Hy:j=T.size:=by omega
    have c5:¬(j:Int)<(T.size:Int):=by omega
    have hD:Hid (Wki w wr B F S vv s' G R (Pl.qav x' T.data.toList)):=by
     have:=HI.out.1;rw[Hy,Pl.qeu T T.size (by omega)]at this;exact this
    clear Hy;go_wp2_with fail
    rw[<-HQ.out];go_wp2_with fail
    go_roundw
    case rel=>exact⟨a+1,m,s',Pl.qav x' T.data.toList,by go_num,by omega,hD.out,HR.out.2.1,HR.out.2.2.1,.inr (Pl.qhf _ _ Ho.out),Hf.out⟩
    case measure=>simp[intOf];omega
   ·have c5:(j:Int)<(T.size:Int):=by omega
    have hz:=Pl.qhf (T.data.toList.take j) _ Ho.out;have Hp:=fun w1 h1=>HB (Pl.qav x' (T.data.toList.take j)) T[j] w1 h1 hz.ok;have Hq:=fun(w5:World) (hw:Wki w w5 B F S vv s' G R (Pl.qav x' (T.data.toList.take j)))=>hw.set ((Pl.qav x' (T.data.toList.take j)).behind T[j]);have Hz:Pl.qav x' (T.data.toList.take (j+1))=(Pl.qav x' (T.data.toList.take j)).behind T[j]:=by rw[Pl.qc9 T j hC,Pl.qkg]
    have Hb:=HI.out.1.now.at';have HD:=HI.out.1.tabs.1;have t2:wr.cell? ⟨wo.heap.size+1,2,none⟩=some (.string T):=qaa HI.out.2 2 _ rfl;rw[<-Hz]at Hp Hq;obtain⟨Y,hY⟩:∃Y,Y=Pl.qav x' (T.data.toList.take (j+1)):=⟨_,rfl⟩;rw[<-hY]at Hp Hq;have HY:=hd hY;clear hY;have hE:=HR.out.1.now.lt;generalize Pl.qav x' (T.data.toList.take j)=X at *;have q0:=Hb.mode;have q1:=Hb.name;have q2:=Hb.elem;have q3:=Hb.kind;have q4:=Hb.read;have q5:=Hb.ref;have q6:=Hb.esc;have q7:=Hb.hex;have q8:=Hb.pct;have q9:=Hb.far;unfold qap qaf bs at Hp;unfold qcs at Hq;have HE:=hd Hp;have hF:=hd Hq;clear Hp Hq Hb hz Hz;go_wp2_with fail
    first | go_region_with (first
     | (go_at_call 63;refine(HE.out _ HD.drew).mono ?_;rintro e w2 ⟨rfl,Hj⟩
        have hl:=(show Hid _ from(HI.out.1.drewN 1).below Hj);have HG:=(show Hid _ from(Hj.block _ (Array.getElem?_eq_some_iff.1 HI.out.2).1).trans HI.out.2);have ha:=hl.out.now;have p0:=ha.at'.mode;have p1:=ha.at'.name;have p2:=ha.at'.elem;have p3:=ha.at'.kind;have p4:=ha.at'.read;have p5:=ha.at'.ref;have p6:=ha.at'.esc;have p7:=ha.at'.hex;have p8:=ha.at'.pct;have p9:=ha.at'.far;have z0:=ha.slot.thaw 0;have z1:=ha.slot.thaw 1;have z2:=ha.slot.thaw 2;have z3:=ha.slot.thaw 3;have z4:=ha.slot.thaw 4;have z5:=ha.slot.thaw 5;have z6:=ha.slot.thaw 6;have z7:=ha.slot.thaw 7;have z8:=ha.slot.thaw 8;have z9:=ha.slot.thaw 9;clear ha Hj q0 q1 q2 q3 q4 q5 q6 q7 q8 q9)) | fail
    all_goals
     go_wp2_with fail
     go_roundw
     case rel=>exact⟨j+1,by omega,by go_num,by rw[<-HY.out];exact⟨hF.out _ hl.out,(qgy (by omega) _ _ _ _ _ _ _ _ _ _).trans HG.out⟩⟩
     case measure=>simp[intOf];omega
end Go.Proofs.YtfkhljmiehdgmaaGreatDoor

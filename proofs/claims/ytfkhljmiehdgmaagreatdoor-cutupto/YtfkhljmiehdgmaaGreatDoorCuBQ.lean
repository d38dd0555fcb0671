/-
  Steps of the proof.
-/
import Derived.Test.YtfkhljmiehdgmaaGreatDoorCuBM
set_option maxRecDepth 100000
set_option maxHeartbeats 40000000
namespace Go.Proofs.YtfkhljmiehdgmaaGreatDoor
open Go.RowKit Go.Proofs.Tryz Pl
section
open Go Go.Lib Go.Shelf
variable{e:Ev}{M g:Nat}{w0:World}{vv dv:Value}
theorem zbr(e:Ev)(f v a tz:Nat)(qad:Int)(K:List Pc)(o:Wt)(h:a<tz)(hs:o.steps≠5000)(p:Pt)(hp:(e.parts v)[a]?=some p)(r:Wt×Int)(next:Nat)
  (hr:r=(if p.kind=1 then e.put { o with steps:=o.steps+1 } p.text else if p.kind=2 then e.hole K { o with steps:=o.steps+1 } p.text ((e.marks v).getD a 0)
   else if p.kind=3\/p.kind=4 then e.section (fun K o=>qdo (e.run f v (a+1) p.mate qad K) o) K p.kind p.text { o with steps:=o.steps+1 }
   else if p.kind=6 then(if(e.marks v).getD a 0=0 then({ o with steps:=o.steps+1 },0) else if e.depth<qad+1 then({ o with steps:=o.steps+1 },4) else e.run f ((e.marks v).getD a 0).toNat 0 (e.parts ((e.marks v).getD a 0).toNat).length (qad+1) K { o with steps:=o.steps+1 }) else({ o with steps:=o.steps+1 },0)))
  (hn:next=if p.kind=3\/p.kind=4 then p.mate+1 else a+1) :
  e.run (f+1) v a tz qad K o=if r.2≠0 then r else e.run f v next tz qad K r.1:=by
 have h1:e.run (f+1) v a tz qad K o=qdo (fun w=>
   match (e.parts v)[a]? with
   |none=>(w,0)
   |some p=>
     let mark:=(e.marks v).getD a 0
     let on:=fun(r:Wt×Int) (next:Nat)=>if r.2≠0 then r else e.run f v next tz qad K r.1
     if p.kind=1 then on (e.put w p.text) (a+1)
     else if p.kind=2 then on (e.hole K w p.text mark) (a+1)
     else if p.kind=3\/p.kind=4 then on (e.section (fun K w=>qdo (e.run f v (a+1) p.mate qad K) w) K p.kind p.text w) (p.mate+1)
     else if p.kind=6 then on (if mark=0 then(w,0)else if e.depth<qad+1 then(w,4)else e.run f mark.toNat 0 (e.parts mark.toNat).length (qad+1) K w) (a+1)
     else on (w,0) (a+1)) o:=by
  conv=>lhs;rw[Ev.run]
  rw[if_neg (by omega)];rfl
 rw[h1];unfold qdo;rw[if_neg hs];simp only[hp];subst hr hn;rcases(show p.kind=1\/p.kind=2\/p.kind=3\/p.kind=4\/p.kind=6\/(p.kind≠1/\p.kind≠2/\p.kind≠3/\p.kind≠4/\p.kind≠6) by omega)with k|k|k|k|k|⟨k1,k2,k3,k4,k6⟩
 ·simp only[k,if_true];rfl
 ·simp[k]
 ·simp[k];rfl
 ·simp[k];rfl
 ·simp[k]
 ·simp[k1,k2,k3,k4,k6]
theorem ze8(e:Ev)(f v a tz:Nat)(qad:Int)(K:List Pc)(o:Wt)(h:tz<=a):e.run (f+1) v a tz qad K o=(o,0):=by
 show(if tz<=a then(o,(0:Int))else _)=_;rw[if_pos h]
theorem zbs(e:Ev)(f v a tz:Nat)(qad:Int)(K:List Pc)(o:Wt)(h:a<tz)(hs:o.steps=5000):e.run (f+1) v a tz qad K o=(o,5):=by
 show(if tz<=a then(o,(0:Int))else qdo _ o)=_;rw[if_neg (by omega)];unfold qdo;rw[if_pos hs]
def qk3(e:Ev)(f v a:Nat)(qad:Int)(K:List Pc)(o:Wt)(p:Pt):Wt×Int:=
 if p.kind=1 then e.put o p.text else if p.kind=2 then e.hole K o p.text ((e.marks v).getD a 0)
 else if p.kind=3\/p.kind=4 then e.section (fun K o=>qdo (e.run f v (a+1) p.mate qad K) o) K p.kind p.text o
 else if p.kind=6 then(if(e.marks v).getD a 0=0 then(o,0)else if e.depth<qad+1 then(o,4)else e.run f ((e.marks v).getD a 0).toNat 0 (e.parts ((e.marks v).getD a 0).toNat).length (qad+1) K o)else(o,0)
theorem q8j(hM:e.Small M)(f v a:Nat)(qad:Int)(K:List Pc)(o:Wt)(p:Pt)(hp:p∈e.parts v)(h:FinS e M o):Fin e M (qk3 e f v a qad K o p).1/\o.steps<=(qk3 e f v a qad K o p).1.steps:=by
 unfold qk3;split
 ·exact⟨h.put (hM.1 v p hp),by rw[qfp];exact yg _⟩
 split
 ·exact⟨h.hole hM _ _ _,by rw[qtc];exact yg _⟩
 split
 ·exact⟨qqb (fun K o h=>qkl h fun h=>qup hM _ _ _ _ _ _ _ h.fin) K _ _ o h.fin,(qmj e (fun K w h=>qht (fun w h=>qqd e _ _ _ _ _ _ w h) w h) K _ _ o h.steps).1⟩
 split
 ·split
  ·exact⟨h.fin,yg _⟩
  ·split
   ·exact⟨h.fin,yg _⟩
   ·exact⟨qup hM _ _ _ _ _ _ _ h.fin,(qqd e _ _ _ _ _ _ o h.steps).1⟩
 ·exact⟨h.fin,yg _⟩
structure PaL(w0:World)(g:Nat)(vv dv:Value)(e:Ev)(M:Nat)(K:List Pc)(w:World)(sp:Array Value)(o:Wt)(wr:World):Prop where
 st:Wst w0 g vv dv e M K o wr
 rn:Rn w0.heap.size g w wr
 sp:Mine g wr w.heap.size sp 208
theorem q5b{F:Nat}(hE:Evm w0 vv dv e M)(HP:∀k,k<F->qrx w0 g vv dv e M k):qrx w0 g vv dv e M F:=by
 intro v at' tz qad K o w po pcap gm hv HD ho hu h hf hK;obtain⟨r,HR⟩:∃r,Hid (e.run F v at' tz qad K o=r):=⟨_,rfl⟩;rw[HR.out];have HV:=zH hv;have HH:=zH h;have hg:zW w (w.alloc (.cells #[.slice po (e.parts v).length pcap,zF gm (e.parts v).length (e.parts v).length,zI (at':Nat),zI (tz:Nat),zI qad] 208)):=zB _
 have Hu:Hid (PaL w0 g vv dv e M K w #[.slice po (e.parts v).length pcap,zF gm (e.parts v).length (e.parts v).length,zI (at':Nat),zI (tz:Nat),zI qad] o (w.alloc (.cells #[.slice po (e.parts v).length pcap,zF gm (e.parts v).length (e.parts v).length,zI (at':Nat),zI (tz:Nat),zI qad] 208))):=
  ⟨h.below hg,h.rn hg,Mine.new h.at' _ _ (by decide)⟩
 obtain⟨s,hs⟩:∃s,w.heap.size=s:=⟨_,rfl⟩;have HE:Hid (w0.heap.size<=w.heap.size):=h.base.size;have hF:(e.parts v).length<=100000:=hE.ok.small.2 v;clear hv h hg;unfold qjl;go_enter func90,ntmps90
 go_wp2
 go_loopw [5] (fun x wr=>∃(a f:Nat) (o':Wt),x=zI a/\Hid (f<=F/\5001<=f+o'.steps/\K.length<=o'.steps+1/\e.run f v a tz qad K o'=r)/\Hid (PaL w0 g vv dv e M K w #[.slice po (e.parts v).length pcap,zF gm (e.parts v).length (e.parts v).length,zI (at':Nat),zI (tz:Nat),zI qad] o' wr)) (fun x _=>tz - (intOf x).toNat)
 case atStart=>exact⟨at',F,o,rfl,⟨yg _,hf,hK,HR.out⟩,Hu.out⟩
 case round=>
  obtain⟨a,f,o',rfl,HF,HL⟩:=hrel;have d2:wr.cell? (zO s 3)=some (zI (tz:Nat)):=by rw[<-hs];exact HL.out.sp.cell 3 _ rfl
  have hG:=HL.out.st.fin.steps;obtain⟨f,rfl⟩:∃f',f=f'+1:=⟨f - 1,by have:=HF.out.2.1;omega⟩;by_cases HG:(a:Int)<(tz:Int)
  rotate_left
  ·have HO:Hid (OutC w0 g vv dv e K r w (.returned (zI 0)) wr):=by
    have h1:=HF.out.2.2.2;rw[ze8 e f v a tz qad K o' (by omega)]at h1;show OutC _ _ _ _ _ _ _ _ _ _;rw[<-h1];exact⟨rfl,⟨K,HL.out.st.at',fun _=>rfl⟩,HL.out.rn⟩
   go_wp2
   go_ret
   exact HO.out
  ·have Hv:a<tz:=by omega
   have hg:a<(e.parts v).length:=by omega
   obtain⟨p,hp⟩:∃p,(e.parts v)[a]?=some p:=⟨_,yc hg⟩;by_cases hl:o'.steps=5000
   ·have HO:Hid (OutC w0 g vv dv e K r w (.returned (zI 5)) wr):=by
     have h1:=HF.out.2.2.2;rw[zbs e f v a tz qad K o' Hv hl]at h1;show OutC _ _ _ _ _ _ _ _ _ _;rw[<-h1];exact⟨rfl,⟨K,HL.out.st.at',fun _=>rfl⟩,HL.out.rn⟩
    have HS:Hid (zC 124 #[zP g] wr (zQ (zI 5) wr)):=by
     refine(qpb HL.out.st).mono ?_;rintro ed w' (⟨_,rfl,rfl⟩|⟨h1,_⟩)
     ·exact⟨rfl,rfl⟩
     ·exact absurd hl h1
    go_wp2_with (go_at_call 124;refine cm HS.out ?_)
    go_ret
    exact HO.out
   ·have HS:Hid (zC 124 #[zP g] wr fun ed w'=>ed=.returned (zI 0)/\Hid (PaL w0 g vv dv e M K w #[.slice po (e.parts v).length pcap,zF gm (e.parts v).length (e.parts v).length,zI (at':Nat),zI (tz:Nat),zI qad] { o' with steps:=o'.steps+1 } w'/\FinS e M { o' with steps:=o'.steps+1 })):=by
     refine(qpb HL.out.st).mono ?_;rintro ed w' (⟨h1,_⟩|⟨_,rfl,h2,h3,h4⟩)
     ·exact absurd h1 hl
     ·have hw:=HL.out.st.fin.step hl
      exact⟨rfl,⟨⟨h2,h3,hw.fin,HL.out.st.ne⟩,HL.out.rn.trans h4,HL.out.sp.rn h4⟩,hw⟩
    go_wp2_with (go_at_call 124;refine xR HS.out ?_;rintro ed w1 ⟨rfl,H1⟩)
    obtain⟨o1,Ho⟩:∃o1:Wt,({ o' with steps:=o'.steps+1 }:Wt)=o1:=⟨_,rfl⟩;rw[Ho]at H1;obtain⟨m,hm⟩:∃m,(e.marks v).getD a 0=m:=⟨_,rfl⟩;have Hz:(e.marks v)[a]?=some m:=by
     have h1:a<(e.marks v).length:=by rw[hE.ok.len v];exact hg
     rw[<-hm,xy,yc h1];rfl
    have Hm:=HV.out.below H1.out.1.st.base;obtain⟨pb,hA,y0⟩:=Hm.1 _ _ (qeq _ a p hp 0 _ rfl);subst hA;have hy:∀j q,(qc4 p)[j]?=some q->w1.cell? (zO pb (a*4+j))=some q:=fun j q hj=>by
     obtain⟨pb',h1,h2⟩:=Hm.1 _ _ (qeq _ a p hp j q hj);cases h1;exact h2
    have y0:w1.cell? (zO pb (a*4))=some (zI (p.kind:Nat)):=hy 0 _ rfl;have y1:w1.cell? (zO pb (a*4+1))=some (zI (p.pos:Nat)):=hy 1 _ rfl;have y2:w1.cell? (zO pb (a*4+2))=some (bs p.text):=hy 2 _ rfl;have y3:w1.cell? (zO pb (a*4+3))=some (zI (p.mate:Nat)):=hy 3 _ rfl;have ym:w1.cell? (zO gm a)=some (zI m):=Hm.2 _ _ Hz;have z0:w1.cell? (zO s 0)=some (zF pb (e.parts v).length pcap):=by rw[<-hs];exact H1.out.1.sp.cell 0 _ rfl
    have z1:w1.cell? (zO s 1)=some (zF gm (e.parts v).length (e.parts v).length):=by rw[<-hs];exact H1.out.1.sp.cell 1 _ rfl
    unfold bs at y2;obtain⟨tx,Hf⟩:∃tx:zT,(⟨p.text.toArray⟩:zT)=tx:=⟨_,rfl⟩;rw[Hf]at y2;have Hg:pb<w1.heap.size/\gm<w1.heap.size:=⟨qka y0,qka ym⟩;have Hp:s<w1.heap.size:=qka z0
    have hq:∀X,zW w1 X->X.cell? (zO s 0)=some (zF pb (e.parts v).length pcap)/\X.cell? (zO s 1)=some (zF gm (e.parts v).length (e.parts v).length)/\X.cell? (zO pb (a*4))=some (zI (p.kind:Nat))/\X.cell? (zO pb (a*4+1))=some (zI (p.pos:Nat))/\X.cell? (zO pb (a*4+2))=some (.string tx)/\X.cell? (zO pb (a*4+3))=some (zI (p.mate:Nat))/\X.cell? (zO gm a)=some (zI m):=fun X hb=>
     ⟨(hb.cell (p:=zO s 0) Hp).trans z0,(hb.cell (p:=zO s 1) Hp).trans z1,(hb.cell (p:=zO pb (a*4)) Hg.1).trans y0,(hb.cell (p:=zO pb (a*4+1)) Hg.1).trans y1,(hb.cell (p:=zO pb (a*4+2)) Hg.1).trans y2,(hb.cell (p:=zO pb (a*4+3)) Hg.1).trans y3,(hb.cell (p:=zO gm a) Hg.2).trans ym⟩
    have Hw:=zH (hq w1.drew (xM _ _).drew);have hx:=zH (fun ob=>hq (w1.alloc ob).drew (zB ob).drew);clear hq hy Hm;go_region_held3 (fun X=>X.cell? (zO s 0)=some (zF pb (e.parts v).length pcap)/\X.cell? (zO s 1)=some (zF gm (e.parts v).length (e.parts v).length)/\X.cell? (zO pb (a*4))=some (zI (p.kind:Nat))/\X.cell? (zO pb (a*4+1))=some (zI (p.pos:Nat))/\X.cell? (zO pb (a*4+2))=some (.string tx)/\X.cell? (zO pb (a*4+3))=some (zI (p.mate:Nat))/\X.cell? (zO gm a)=some (zI m)) (first|assumption|exact Hw.out|exact hx.out _) (fail)
    have Hq:p∈e.parts v:=yl hp;have hI:qc4 p=[zI (p.kind:Nat),zI (p.pos:Nat),.string tx,zI (p.mate:Nat)]:=by rw[<-Hf];rfl
    have hn:zW w1 (w1.alloc (.cells #[zI (p.kind:Nat),zI (p.pos:Nat),.string tx,zI (p.mate:Nat)] 229)).drew:=(zB _).drew;have Hn:Hid (Mine g (w1.alloc (.cells #[zI (p.kind:Nat),zI (p.pos:Nat),.string tx,zI (p.mate:Nat)] 229)).drew w1.heap.size #[zI (p.kind:Nat),zI (p.pos:Nat),.string tx,zI (p.mate:Nat)] 229):=by
     have h1:=Mine.new H1.out.1.st.at' #[zI (p.kind:Nat),zI (p.pos:Nat),.string tx,zI (p.mate:Nat)] 229 (by decide);exact⟨h1.blk,h1.far,h1.ty⟩
    have H2:Hid (PaL w0 g vv dv e M K w #[zF pb (e.parts v).length pcap,zF gm (e.parts v).length (e.parts v).length,zI (at':Nat),zI (tz:Nat),zI qad] o1 (w1.alloc (.cells #[zI (p.kind:Nat),zI (p.pos:Nat),.string tx,zI (p.mate:Nat)] 229)).drew/\FinS e M o1):=
     ⟨⟨H1.out.1.st.below hn,H1.out.1.rn.trans (H1.out.1.st.rn hn),H1.out.1.sp.rn (H1.out.1.st.rn hn)⟩,H1.out.2⟩
    have Hl:=qaa (show(w1.alloc (.cells #[zI (p.kind:Nat),zI (p.pos:Nat),.string tx,zI (p.mate:Nat)] 229)).drew.heap[w1.heap.size]?=_ from xG w1 _);have q0:=Hl 0 _ rfl;have q1:=Hl 1 _ rfl;have q2:=Hl 2 _ rfl;have q3:=Hl 3 _ rfl;clear Hl hn hx Hw y0 y1 y2 y3 ym z0 z1 Hg Hp H1;generalize (w1.alloc (.cells #[zI (p.kind:Nat),zI (p.pos:Nat),.string tx,zI (p.mate:Nat)] 229)).drew=w2 at H2 Hn q0 q1 q2 q3 |-;generalize w1.heap.size=b7 at Hn q0 q1 q2 q3 |-;have z0:w2.cell? (zO s 0)=some (zF pb (e.parts v).length pcap):=by rw[<-hs];exact H2.out.1.sp.cell 0 _ rfl
    have z1:w2.cell? (zO s 1)=some (zF gm (e.parts v).length (e.parts v).length):=by rw[<-hs];exact H2.out.1.sp.cell 1 _ rfl
    have z4:w2.cell? (zO s 4)=some (zI qad):=by rw[<-hs];exact H2.out.1.sp.cell 4 _ rfl
    obtain⟨r1,He⟩:∃r1,qk3 e f v a qad K o1 p=r1:=⟨_,rfl⟩;have hr:=q8j hE.small f v a qad K o1 p Hq H2.out.2;rw[He]at hr;have HA:=HF.out;have Hb:r=if r1.2≠0 then r1 else e.run f v (if p.kind=3\/p.kind=4 then p.mate+1 else a+1) tz qad K r1.1:=by
     rw[<-HA.2.2.2];refine zbr e f v a tz qad K o' Hv hl p hp r1 _ ?_ rfl;rw[Ho,<-He];rfl
    have HI:o1.steps=o'.steps+1:=by rw[<-Ho]
    have Hr:=HP f (by omega);have Hx:K.length<=o1.steps:=by omega
    have Hs:5001<=f+o1.steps:=by omega
    have hc:Hid (∀w3,OutC w0 g vv dv e K r1 w2 (.returned (zI r1.2)) w3->r1.2≠0->OutC w0 g vv dv e K r w (.returned (zI r1.2)) w3):=fun w3 hO hz=>by
     rw[if_pos hz]at Hb;rw[Hb];exact hO.from H2.out.1.rn
    have ha:Hid (∀w3,OutC w0 g vv dv e K r1 w2 (.returned (zI r1.2)) w3->r1.2=0->Hid (f<=F/\5001<=f+r1.1.steps/\K.length<=r1.1.steps+1/\e.run f v (if p.kind=3\/p.kind=4 then p.mate+1 else a+1) tz qad K r1.1=r)/\Hid (PaL w0 g vv dv e M K w #[zF pb (e.parts v).length pcap,zF gm (e.parts v).length (e.parts v).length,zI (at':Nat),zI (tz:Nat),zI qad] r1.1 w3)):=fun w3 hO hz=>by
     rw[if_neg (by simpa using hz)]at Hb;obtain⟨_,⟨K',h1,h2⟩,h3⟩:=hO;rw[h2 hz]at h1;exact⟨⟨by omega,by omega,by omega,Hb.symm⟩,⟨⟨H2.out.1.st.base.trans h3.below,h1,hr.1,H2.out.1.st.ne⟩,H2.out.1.rn.trans h3,H2.out.1.sp.rn h3⟩⟩
    have hJ:IntKind.i64.wrap ((a:Int)+1)=(a:Int)+1:=by rw[IntKind.wrap_i64]<;>omega
    have HJ:IntKind.i64.wrap (qad+1)=qad+1:=by rw[IntKind.wrap_i64]<;>omega
    have Hy:p.kind=3\/p.kind=4->a<p.mate/\p.mate<(e.parts v).length:=hE.ok.mate v a p hp;have ht:=hE.names v p Hq;have HK:=HR;clear HS HF HR HL Hu Hb hr;have hB:(((p.kind:Int)==1)=decide (p.kind=1))/\(((p.kind:Int)==2)=decide (p.kind=2))/\(((p.kind:Int)==3)=decide (p.kind=3))/\(((p.kind:Int)==4)=decide (p.kind=4))/\(((p.kind:Int)==6)=decide (p.kind=6)):=by
     refine⟨?_,?_,?_,?_,?_⟩<;>(rw[xi,yF,decide_eq_true_iff];omega)
    obtain⟨hi,Hi,Hj,hk,Hk⟩:=hB;rcases(show p.kind=1\/p.kind=2\/p.kind=3\/p.kind=4\/p.kind=6\/(p.kind≠1/\p.kind≠2/\p.kind≠3/\p.kind≠4/\p.kind≠6) by omega)with k|k|k|k|k|⟨k1,k2,k3,k4,k6⟩
    ·have hC:=zfe hE K o1 w2 H2.out.1.st H2.out.2 p.text (hE.small.1 v p Hq)
     have e1:qk3 e f v a qad K o1 p=e.put o1 p.text:=by unfold qk3;rw[if_pos k]
     rw[<-e1,He]at hC;unfold bs at hC;rw[Hf]at hC;have HC:Hid (zC 125 #[zP g,.string tx] w2 fun ed w3=>ed=.returned (zI r1.2)/\Hid (OutC w0 g vv dv e K r1 w2 (.returned (zI r1.2)) w3)):=hC.mono fun ed w3 hO=>⟨hO.1,hO.1▸hO⟩;have Hc:(if p.kind=3\/p.kind=4 then p.mate+1 else a+1)=a+1:=if_neg (by omega);rw[show decide (p.kind=1)=true by simp[k]]at hi;rw[show decide (p.kind=2)=false by simp[k]]at Hi;rw[show decide (p.kind=3)=false by simp[k]]at Hj;rw[show decide (p.kind=4)=false by simp[k]]at hk;rw[show decide (p.kind=6)=false by simp[k]]at Hk;clear hC k;by_cases hz:r1.2=0
     ·have HN:=ha.out
      rw[hz]at HC HN;go_wp2_with (go_at_call 125;refine xR HC.out ?_;rintro ed w3 ⟨rfl,HO⟩)
      obtain⟨Ha,he⟩:=HN w3 HO.out trivial;rw[Hc]at Ha;go_roundw
      case rel=>exact⟨a+1,f,r1.1,by go_num,Ha,he⟩
      case measure=>simp[intOf];omega
     ·go_wp2_with (go_at_call 125;refine xR HC.out ?_;rintro ed w3 ⟨rfl,HO⟩)
      go_ret
      exact hc.out _ HO.out hz
    ·have hC:=zcv hE K o1 w2 H2.out.1.st H2.out.2 tx (by rw[<-Hf];simp only[ByteArray.size,List.size_toArray];exact ht) m
     have e1:qk3 e f v a qad K o1 p=e.hole K o1 tx.data.toList m:=by unfold qk3;rw[if_neg (by omega),if_pos k,hm,<-Hf]
     rw[<-e1,He]at hC;have HC:Hid (zC 126 #[zP g,.string tx,zI m] w2 fun ed w3=>ed=.returned (zI r1.2)/\Hid (OutC w0 g vv dv e K r1 w2 (.returned (zI r1.2)) w3)):=hC.mono fun ed w3 hO=>⟨hO.1,hO.1▸hO⟩;have Hc:(if p.kind=3\/p.kind=4 then p.mate+1 else a+1)=a+1:=if_neg (by omega);rw[show decide (p.kind=1)=false by simp[k]]at hi;rw[show decide (p.kind=2)=true by simp[k]]at Hi;rw[show decide (p.kind=3)=false by simp[k]]at Hj;rw[show decide (p.kind=4)=false by simp[k]]at hk;rw[show decide (p.kind=6)=false by simp[k]]at Hk;clear hC k;by_cases hz:r1.2=0
     ·have HN:=ha.out
      rw[hz]at HC HN;go_wp2_with (go_at_call 126;refine xR HC.out ?_;rintro ed w3 ⟨rfl,HO⟩)
      obtain⟨Ha,he⟩:=HN w3 HO.out trivial;rw[Hc]at Ha;go_roundw
      case rel=>exact⟨a+1,f,r1.1,by go_num,Ha,he⟩
      case measure=>simp[intOf];omega
     ·go_wp2_with (go_at_call 126;refine xR HC.out ?_;rintro ed w3 ⟨rfl,HO⟩)
      go_ret
      exact hc.out _ HO.out hz
    ·have HB:=Hy (by omega)
     have hC:=qqc hE Hr v (a+1) qad p K o1 w2 (some (zO pb 0)) pcap gm HV.out (by omega) (by omega) ht ho hu H2.out.1.st Hs Hx;have e1:qk3 e f v a qad K o1 p=e.section (fun K o=>qdo (e.run f v (a+1) p.mate qad K) o) K p.kind p.text o1:=by unfold qk3;rw[if_neg (by omega),if_neg (by omega),if_pos (by omega)]
     rw[<-e1,He]at hC;unfold bs qjl at hC;rw[Hf,show((a+1:Nat):Int)=(a:Int)+1 from rfl]at hC;have HC:Hid (zC 127 #[zP g,.agg #[zI (p.kind:Nat),zI (p.pos:Nat),.string tx,zI (p.mate:Nat)],.agg #[zF pb (e.parts v).length pcap,zF gm (e.parts v).length (e.parts v).length,zI ((a:Int)+1),zI (p.mate:Nat),zI qad]] w2 fun ed w3=>ed=.returned (zI r1.2)/\Hid (OutC w0 g vv dv e K r1 w2 (.returned (zI r1.2)) w3)/\w3.cell? (zO b7 3)=some (zI (p.mate:Nat))):=hC.mono fun ed w3 hO=>⟨hO.1,hO.1▸hO,(Hn.out.rn hO.2.2).cell 3 _ rfl⟩;have Hc:(if p.kind=3\/p.kind=4 then p.mate+1 else a+1)=p.mate+1:=if_pos (by omega);have hD:IntKind.i64.wrap ((p.mate:Int)+1)=(p.mate:Int)+1:=by rw[IntKind.wrap_i64]<;>omega
     rw[show decide (p.kind=1)=false by simp[k]]at hi;rw[show decide (p.kind=2)=false by simp[k]]at Hi;rw[show decide (p.kind=3)=true by simp[k]]at Hj;rw[show decide (p.kind=4)=false by simp[k]]at hk;rw[show decide (p.kind=6)=false by simp[k]]at Hk;clear hC k;by_cases hz:r1.2=0
     ·have HN:=ha.out
      rw[hz]at HC HN;go_wp2_with (go_at_call 127;refine xR HC.out ?_;rintro ed w3 ⟨rfl,HO,HX⟩;have q3:=HX)
      obtain⟨Ha,he⟩:=HN w3 HO.out trivial;rw[Hc]at Ha;go_roundw
      case rel=>exact⟨p.mate+1,f,r1.1,by go_num,Ha,he⟩
      case measure=>simp[intOf];omega
     ·go_wp2_with (go_at_call 127;refine xR HC.out ?_;rintro ed w3 ⟨rfl,HO,HX⟩;have q3:=HX)
      go_ret
      exact hc.out _ HO.out hz
    ·have HB:=Hy (by omega)
     have hC:=qqc hE Hr v (a+1) qad p K o1 w2 (some (zO pb 0)) pcap gm HV.out (by omega) (by omega) ht ho hu H2.out.1.st Hs Hx;have e1:qk3 e f v a qad K o1 p=e.section (fun K o=>qdo (e.run f v (a+1) p.mate qad K) o) K p.kind p.text o1:=by unfold qk3;rw[if_neg (by omega),if_neg (by omega),if_pos (by omega)]
     rw[<-e1,He]at hC;unfold bs qjl at hC;rw[Hf,show((a+1:Nat):Int)=(a:Int)+1 from rfl]at hC;have HC:Hid (zC 127 #[zP g,.agg #[zI (p.kind:Nat),zI (p.pos:Nat),.string tx,zI (p.mate:Nat)],.agg #[zF pb (e.parts v).length pcap,zF gm (e.parts v).length (e.parts v).length,zI ((a:Int)+1),zI (p.mate:Nat),zI qad]] w2 fun ed w3=>ed=.returned (zI r1.2)/\Hid (OutC w0 g vv dv e K r1 w2 (.returned (zI r1.2)) w3)/\w3.cell? (zO b7 3)=some (zI (p.mate:Nat))):=hC.mono fun ed w3 hO=>⟨hO.1,hO.1▸hO,(Hn.out.rn hO.2.2).cell 3 _ rfl⟩;have Hc:(if p.kind=3\/p.kind=4 then p.mate+1 else a+1)=p.mate+1:=if_pos (by omega);have hD:IntKind.i64.wrap ((p.mate:Int)+1)=(p.mate:Int)+1:=by rw[IntKind.wrap_i64]<;>omega
     rw[show decide (p.kind=1)=false by simp[k]]at hi;rw[show decide (p.kind=2)=false by simp[k]]at Hi;rw[show decide (p.kind=3)=false by simp[k]]at Hj;rw[show decide (p.kind=4)=true by simp[k]]at hk;rw[show decide (p.kind=6)=false by simp[k]]at Hk;clear hC k;by_cases hz:r1.2=0
     ·have HN:=ha.out
      rw[hz]at HC HN;go_wp2_with (go_at_call 127;refine xR HC.out ?_;rintro ed w3 ⟨rfl,HO,HX⟩;have q3:=HX)
      obtain⟨Ha,he⟩:=HN w3 HO.out trivial;rw[Hc]at Ha;go_roundw
      case rel=>exact⟨p.mate+1,f,r1.1,by go_num,Ha,he⟩
      case measure=>simp[intOf];omega
     ·go_wp2_with (go_at_call 127;refine xR HC.out ?_;rintro ed w3 ⟨rfl,HO,HX⟩;have q3:=HX)
      go_ret
      exact hc.out _ HO.out hz
    ·have Ht:=hE.ok.mark v a p hp k
     rw[hm]at Ht;have hC:=q04 hE Hr m Ht.1 Ht.2 qad K o1 w2 ho H2.out.1.st Hs (by omega);have e1:qk3 e f v a qad K o1 p=(if m=0 then(o1,0)else if e.depth<qad+1 then(o1,4)else e.run f m.toNat 0 (e.parts m.toNat).length (qad+1) K o1):=by unfold qk3;rw[if_neg (by omega),if_neg (by omega),if_neg (by omega),if_pos k,hm]
     rw[<-e1,He]at hC;have HC:Hid (zC 128 #[zP g,zI m,zI (qad+1)] w2 fun ed w3=>ed=.returned (zI r1.2)/\Hid (OutC w0 g vv dv e K r1 w2 (.returned (zI r1.2)) w3)):=hC.mono fun ed w3 hO=>⟨hO.1,hO.1▸hO⟩;have Hc:(if p.kind=3\/p.kind=4 then p.mate+1 else a+1)=a+1:=if_neg (by omega);rw[show decide (p.kind=1)=false by simp[k]]at hi;rw[show decide (p.kind=2)=false by simp[k]]at Hi;rw[show decide (p.kind=3)=false by simp[k]]at Hj;rw[show decide (p.kind=4)=false by simp[k]]at hk;rw[show decide (p.kind=6)=true by simp[k]]at Hk;clear hC k;by_cases hz:r1.2=0
     ·have HN:=ha.out
      rw[hz]at HC HN;go_wp2_with (go_at_call 128;refine xR HC.out ?_;rintro ed w3 ⟨rfl,HO⟩)
      obtain⟨Ha,he⟩:=HN w3 HO.out trivial;rw[Hc]at Ha;go_roundw
      case rel=>exact⟨a+1,f,r1.1,by go_num,Ha,he⟩
      case measure=>simp[intOf];omega
     ·go_wp2_with (go_at_call 128;refine xR HC.out ?_;rintro ed w3 ⟨rfl,HO⟩)
      go_ret
      exact hc.out _ HO.out hz
    ·have e1:qk3 e f v a qad K o1 p=(o1,0):=by unfold qk3;rw[if_neg k1,if_neg k2,if_neg (by omega),if_neg k6]
     rw[e1]at He;subst He;have Hc:(if p.kind=3\/p.kind=4 then p.mate+1 else a+1)=a+1:=if_neg (by omega);obtain⟨Ha,he⟩:=ha.out w2 ⟨rfl,⟨K,H2.out.1.st.at',fun _=>rfl⟩,Rn.refl _ _ _⟩ rfl;rw[Hc]at Ha;rw[show decide (p.kind=1)=false by simp[k1]]at hi;rw[show decide (p.kind=2)=false by simp[k2]]at Hi;rw[show decide (p.kind=3)=false by simp[k3]]at Hj;rw[show decide (p.kind=4)=false by simp[k4]]at hk;rw[show decide (p.kind=6)=false by simp[k6]]at Hk;go_wp2
     go_roundw
     case rel=>exact⟨a+1,f,o1,by go_num,Ha,he⟩
     case measure=>simp[intOf];omega
theorem q8g(hE:Evm w0 vv dv e M)(F:Nat):qrx w0 g vv dv e M F:=by
 induction F using Nat.strongRecOn with
 |_ F IH=>exact q5b hE IH
end
end Go.Proofs.YtfkhljmiehdgmaaGreatDoor

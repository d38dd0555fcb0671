/-
  Steps of the proof.
-/
import Derived.Test.YtfkhljmiehdgmaaGreatDoorCuBG
set_option maxRecDepth 100000
set_option maxHeartbeats 40000000
namespace Go.Proofs.YtfkhljmiehdgmaaGreatDoor
open Go.RowKit Go.Proofs.Tryz Pl
section
open Go Go.Shelf
variable{B g s M B':Nat}{w w' w0:World}{pt sp:Array Value}{z vv dv:Value}{e:Ev}{K:List Pc}{o:Wt}{bodyF:List Pc->Wt->Wt×Int}
attribute [local go_sem] Oper.semAt_some
theorem qiy{fn:Func}{p:Tmp}(h:fn.results=#[.cell p 29])(tmps:Array Value)(w:World)(b:Nat)(v:Value)
  (hp:tmps.getD p undef=zP b) (hc:w.cell? (zO b 0)=some v):(results fn tmps).run prog w=.ok v w:=by
 have ha:tmps[p]?.getD undef=zP b:=by simpa using hp
 simp[results,h,ha,asAddr,go_sem,hc]
structure SecF(g:Nat)(w:World)(s:Nat)(pt sp:Array Value)(z:Value):Prop where
 a:Mine g w s #[zP g] 203
 b:Mine g w (s+1) pt 229
 c:Mine g w (s+1+1) sp 208
 d:Mine g w (s+1+1+1) #[z] 29
theorem SecF.rn(h:SecF g w s pt sp z)(hr:Rn B g w w'):SecF g w' s pt sp z:=⟨h.a.rn hr,h.b.rn hr,h.c.rn hr,h.d.rn hr⟩
theorem SecF.grown(h:SecF g w s pt sp z)(hG:Gb g w){row:Option Nat}(ha:w.grownBy w' row)(hr:∀r,row=some r->∃ob:Obj,w.heap[r]?=some ob/\ob.isCells=false):SecF g w' s pt sp z:=
 ⟨h.a.grown hG ha hr,h.b.grown hG ha hr,h.c.grown hG ha hr,h.d.grown hG ha hr⟩
theorem zbp(h:WrAt w B g vv dv e K o)(pt sp:Array Value)(z:Value) :
  SecF g ((((w.alloc (.cells #[zP g] 203)).alloc (.cells pt 229)).alloc (.cells sp 208)).alloc (.cells #[z] 29)) w.heap.size pt sp z /\
  zW w ((((w.alloc (.cells #[zP g] 203)).alloc (.cells pt 229)).alloc (.cells sp 208)).alloc (.cells #[z] 29)):=by
 have ha:∀(x:World) ob,zW x (x.alloc ob):=fun x ob=>zB ob;have m0:=Mine.new h #[zP g] 203 (by decide);have h1:=h.below (ha w (.cells #[zP g] 203));generalize Ha:w.alloc (.cells #[zP g] 203)=w1 at m0 h1;have s1:w1.heap.size=w.heap.size+1:=by rw[<-Ha,qcf]
 have m1:=Mine.new h1 pt 229 (by decide);have r1:Rn B g w1 (w1.alloc (.cells pt 229)):=Rn.of_below (ha _ _) (yh h1.lt.1 (yj h1.lt.2)) h1.lt.2;have h2:=h1.below (ha w1 (.cells pt 229));generalize hb:w1.alloc (.cells pt 229)=w2 at m1 h2 r1;have s2:w2.heap.size=w.heap.size+1+1:=by rw[<-hb,qcf,s1]
 have m2:=Mine.new h2 sp 208 (by decide);have r2:Rn B g w2 (w2.alloc (.cells sp 208)):=Rn.of_below (ha _ _) (yh h2.lt.1 (yj h2.lt.2)) h2.lt.2;have h3:=h2.below (ha w2 (.cells sp 208));generalize Hb:w2.alloc (.cells sp 208)=w3 at m2 h3 r2;have s3:w3.heap.size=w.heap.size+1+1+1:=by rw[<-Hb,qcf,s2]
 have m3:=Mine.new h3 #[z] 29 (by decide);have r3:Rn B g w3 (w3.alloc (.cells #[z] 29)):=Rn.of_below (ha _ _) (yh h3.lt.1 (yj h3.lt.2)) h3.lt.2;rw[s1]at m1;rw[s2]at m2;rw[s3]at m3;refine⟨⟨m0.rn ((r1.trans r2).trans r3),m1.rn (r2.trans r3),m2.rn r3,m3⟩,?_⟩;have b1:zW w w1:=by rw[<-Ha];exact ha _ _
 have b2:zW w1 w2:=by rw[<-hb];exact ha _ _
 have b3:zW w2 w3:=by rw[<-Hb];exact ha _ _
 exact b1.trans ((b2.mono b1.size).trans ((b3.mono (by omega)).trans ((ha w3 _).mono (by omega))))
theorem q5z:(prog.info? 147).map (fun i=>(i.zero,i.size,i.bytes))=some (some (.agg #[zN,zI 0]),2,32):=by kernel_rfl
theorem qrb(b:List Pc->Wt->Wt×Int)(K:List Pc)(x:Pc):∀(pre:List Pc) (o:Wt),(qc9 b K pre o).2=0->qc9 b K (pre++[x]) o=if(b (x::K) (qc9 b K pre o).1).2≠0 then b (x::K) (qc9 b K pre o).1 else((b (x::K) (qc9 b K pre o).1).1,0)
 |[],o,_=>rfl
 |p::l,o,h=>by
   unfold qc9 at h;show qc9 b K (p::(l++[x])) o=_;unfold qc9;by_cases hp:(b (p::K) o).2≠0
   ·rw[if_pos hp]at h
    exact absurd h hp
   ·rw[if_neg hp]at h
    rw[if_neg hp,if_neg hp];exact qrb b K x l _ h
theorem qm2(b:List Pc->Wt->Wt×Int)(K:List Pc):∀(pre l:List Pc) (o:Wt),pre <+: l->(qc9 b K pre o).2≠0->qc9 b K l o=qc9 b K pre o
 |[],_,_,_,h=>absurd rfl h
 |p::pre,[],_,hp,_=>by have:=hp.length_le;simp at this
 |p::pre,q::l,o,hp,h=>by
   obtain⟨rfl,ha⟩:=List.cons_prefix_cons.1 hp;unfold qc9 at h |-;by_cases hx:(b (p::K) o).2≠0
   ·rw[if_pos hx,if_pos hx]
   ·rw[if_neg hx]at h
    rw[if_neg hx,if_neg hx];exact qm2 b K pre l _ ha h
structure SecI(w0:World)(g:Nat)(vv dv:Value)(e:Ev)(M:Nat)(bodyF:List Pc->Wt->Wt×Int)(K:List Pc)(o:Wt)(w:World)(pt sp:Array Value)(pb:Nat)(pc:Array Value)(pre:List Pc)(W:World):Prop where
 ok:(qc9 bodyF K pre o).2=0
 wr:WrAt W w0.heap.size g vv dv e K (qc9 bodyF K pre o).1
 fin:Fin e M (qc9 bodyF K pre o).1
 steps:o.steps<=(qc9 bodyF K pre o).1.steps
 rn:Rn w0.heap.size g w W
 fr:SecF g W w.heap.size pt sp (zI 0)
 pv:Mine g W pb pc 147
structure SecX(w0:World)(g:Nat)(vv dv:Value)(e:Ev)(bodyF:List Pc->Wt->Wt×Int)(K:List Pc)(o:Wt)(w:World)(pre:List Pc)(W:World):Prop where
 ok:(qc9 bodyF K pre o).2≠0
 wr:∃K',WrAt W w0.heap.size g vv dv e K' (qc9 bodyF K pre o).1
 rn:Rn w0.heap.size g w W
 res:Mine g W (w.heap.size+1+1+1) #[zI (qc9 bodyF K pre o).2] 29
theorem zbo{pb:Nat}{pc:Array Value}(hB:w0.heap.size<=w.heap.size)(ha:w.heap.size<=B'):OwnFrom B' (SecI w0 g vv dv e M bodyF K o w pt sp pb pc):=
 fun _ _ _ _ hs hg hr=>⟨hs.ok,hs.wr.grown hg (fun r e=>(hr r e).2),hs.fin,hs.steps,hs.rn.grown hB hs.wr.gb hg (fun r e=>⟨yh ha (hr r e).1,(hr r e).2⟩),hs.fr.grown hs.wr.gb hg (fun r e=>(hr r e).2),hs.pv.grown hs.wr.gb hg (fun r e=>(hr r e).2)⟩
theorem zbn(hB:w0.heap.size<=w.heap.size)(ha:w.heap.size<=B'):OwnFrom B' (SecX w0 g vv dv e bodyF K o w):=by
 intro pre A A' row hs hg hr;obtain⟨K',hw⟩:=hs.wr;exact⟨hs.ok,⟨K',hw.grown hg (fun r e=>(hr r e).2)⟩,hs.rn.grown hB hw.gb hg (fun r e=>⟨yh ha (hr r e).1,(hr r e).2⟩),hs.res.grown hw.gb hg (fun r e=>(hr r e).2)⟩
structure Sec1(w0:World)(g:Nat)(vv dv:Value)(e:Ev)(M:Nat)(K:List Pc)(o:Wt)(w w5:World)(pt sp:Array Value)(b7:Nat)(q:Pc):Prop where
 fr:SecF g w5 w.heap.size pt sp (zI 0)
 pv:Mine g w5 b7 #[pcA dv q,zI (pcI q)] 147
 be:zW w w5
 ge:w.heap.size<=b7
theorem Sec1.next{w5 w6:World}{b7:Nat}{q:Pc}(h:Sec1 w0 g vv dv e M K o w w5 pt sp b7 q)(hw:Wst w0 g vv dv e M K o w)(hb:zW w5 w6):Sec1 w0 g vv dv e M K o w w6 pt sp b7 q:=
 have hr:=(hw.below h.be).rn hb
 ⟨h.fr.rn hr,h.pv.rn hr,h.be.trans (hb.mono h.be.size),h.ge⟩
theorem Rn.set{a:World}(h:Rn B g w a)(hB:B<=w.heap.size){k:Nat}(hk:w.heap.size<=k)(hg:k≠g)(j:Nat)(v:Value):Rn B g w (a.setCell (zO k j) v):=by
 refine⟨h.below.setCell (p:=zO k j) (yh hB hk) _,fun i ob hi hn ho=>(xK _ _ _ _ (fun e=>?_)).trans (h.kept i ob hi hn ho),fun i hi=>h.fresh i ((qjv (xK _ _ _ _ (fun e=>hg e.symm)) _).1 hi)⟩;have:=(ya.1 hi).1;simp at e;omega
theorem qwr(hE:Evm w0 vv dv e M)(f:Nat)(bodyF:List Pc->Wt->Wt×Int)(po:Option Addr)(n pcap gm fr mt:Nat)(qad:Int)
  (HB:∀K' o' w',Wst w0 g vv dv e M K' o' w'->5000<=f+o'.steps->K'.length<=o'.steps+2->zC 178 #[zP g,qjl po n pcap gm fr mt qad] w' (OutC w0 g vv dv e K' (bodyF K' o') w'))
  (hbF:∀K o,Fin e M o->Fin e M (bodyF K o).1) (hbS:∀K o,o.steps<=5000->o.steps<=(bodyF K o).1.steps)
  (kd ps mp:Nat) (hk:kd=3\/kd=4) (nm:zT) (hnm:nm.size<=100000) (K:List Pc) (o:Wt) (w:World) (h:Wst w0 g vv dv e M K o w) (hf:5001<=f+o.steps) (hK:K.length<=o.steps)  (r:Wt×Int) (hr:e.section bodyF K kd nm.data.toList o=r) :
  zC 127 #[zP g,.agg #[zI (kd:Nat),zI (ps:Nat),.string nm,zI (mp:Nat)],qjl po n pcap gm fr mt qad] w (OutC w0 g vv dv e K r w):=by
 obtain⟨Hq,hp⟩:=zbp h.at' #[zI (kd:Nat),zI (ps:Nat),.string nm,zI (mp:Nat)] #[.slice po n pcap,zF gm n n,zI (fr:Nat),zI (mt:Nat),zI qad] (zI 0);obtain⟨w4,HN⟩:∃w4,((((w.alloc (.cells #[zP g] 203)).alloc (.cells #[zI (kd:Nat),zI (ps:Nat),.string nm,zI (mp:Nat)] 229)).alloc (.cells #[.slice po n pcap,zF gm n n,zI (fr:Nat),zI (mt:Nat),zI qad] 208)).alloc (.cells #[zI 0] 29))=w4:=⟨_,rfl⟩;rw[HN]at Hq hp;obtain⟨pt,hO⟩:∃pt:Array Value,pt=#[zI (kd:Nat),zI (ps:Nat),.string nm,zI (mp:Nat)]:=⟨_,rfl⟩;obtain⟨sp,hP⟩:∃sp:Array Value,sp=#[.slice po n pcap,zF gm n n,zI (fr:Nat),zI (mt:Nat),zI qad]:=⟨_,rfl⟩;obtain⟨s,hs⟩:∃s,w.heap.size=s:=⟨_,rfl⟩;have ho:Hid (∀(W:World),SecF g W w.heap.size pt sp (zI 0)->W.cell? (zO s 0)=some (zP g)/\(W.cell? (zO (s+1) 0)=some (zI (kd:Nat))/\W.cell? (zO (s+1) 2)=some (.string nm))/\W.cell? (zO (s+1+1) 0)=some (.slice po n pcap)/\W.cell? (zO (s+1+1) 1)=some (zF gm n n)/\W.cell? (zO (s+1+1) 2)=some (zI (fr:Nat))/\W.cell? (zO (s+1+1) 3)=some (zI (mt:Nat))/\W.cell? (zO (s+1+1) 4)=some (zI qad)):=by
  subst hO hP hs;intro W h;exact⟨h.a.cell 0 _ rfl,⟨h.b.cell 0 _ rfl,h.b.cell 2 _ rfl⟩,h.c.cell 0 _ rfl,h.c.cell 1 _ rfl,h.c.cell 2 _ rfl,h.c.cell 3 _ rfl,h.c.cell 4 _ rfl⟩
 rw[<-hO,<-hP]at Hq;have HPT:=zH hO;have HSP:=zH hP;clear hO hP;have He:=h.below hp;obtain⟨sv,hv,bp,bv,hq⟩:=He.at';have Hf:=hq.stk;obtain⟨so,cap,rfl,_,_⟩:=id Hf;obtain⟨pa,pn,pcap2,Hr⟩:=qgu hE.ds (qe3 e.D K nm.data.toList);have hpv:qe0 dv (qe3 e.D K nm.data.toList)=.agg #[.slice pa pn pcap2,zI (pcI (qe3 e.D K nm.data.toList))]:=by rw[qdk,Hr]
 have HF:∀x,zW w4 x->zC 175 #[.slice so K.length cap,.string nm] x fun e2 x'=>e2=.returned (.agg #[.slice pa pn pcap2,zI (pcI (qe3 e.D K nm.data.toList))])/\zW x x':=by
  intro x hx;have hY:=(He.base.trans (hx.mono He.base.size));have:=q3j dv (.slice so K.length cap) e.D K nm w0.heap.size x hY.size (hE.ds.below hY) (Hf.below (yg _) hx) (hE.ml.below hY) hnm h.ne
  rwa [hpv]at this
 obtain⟨q,hqe⟩:∃q,qe3 e.D K nm.data.toList=q:=⟨_,rfl⟩;rw[hqe]at HF Hr;obtain⟨pk,Hy⟩:∃pk,pcI q=pk:=⟨_,rfl⟩;rw[Hy]at HF;have HP:w4.cell? (zO g 3)=some (.slice so K.length cap):=hq.wb.all.2.2.2.1;refine(callsIn_wide (n:=9)).1 ?_;refine callsIn_of_wp_marks func127 rfl trivial ?_ rfl;simp only[ntmps127,qjl,List.size_toArray,yK,yQ,Nat.reduceAdd,Nat.reduceSub,Array.replicate_succ,Array.replicate_zero,List.push_toArray,List.append_toArray,xC,xB];refine(wpIn_wide (n:=9)).2 ?_;go_wp2
 rw[<-HPT.out,<-HSP.out];have Hl:=He.at'.lt.2;have hsz:s<=w4.heap.size:=by rw[<-hs];exact hp.size
 have Hz:Hid (∀X,zW w4 X->(X.cell? (zO s 0)=some (zP g)/\X.cell? (zO (s+1) 2)=some (.string nm))/\X.cell? (zO g 3)=some (.slice so K.length cap)):=fun X hX=>by
  have h:=ho.out X (Hq.rn (He.rn hX));exact⟨⟨h.1,h.2.1.2⟩,(hX.cell (p:=zO g 3) Hl).trans HP⟩
 have Hs:Hid (∀b7 w5,s<=b7->zW w4 w5->w5.heap[b7]?=zK #[.slice pa pn pcap2,zI (pk:Nat)] 147->w4.heap.size<=b7->Hid (Sec1 w0 g vv dv e M K o w w5 pt sp b7 q)):=by
  intro b7 w5 h1 h2 h3 h4;have Hc:=He.rn h2;refine⟨Hq.rn Hc,⟨by rw[Hr,Hy];exact h3,fun hx=>?_,by decide⟩,hp.trans (h2.mono hp.size),by rw[hs];exact h1⟩;have:=He.at'.own_lt ((qjv (h2.block g He.at'.lt.2) _).1 hx);omega
 have HY:=zH HF;have hQ:Hid (zW w4 w4.drew):=(xL _ _).drew;have hSd:=Hz.out _ hQ.out;go_upto_region 1 with fail
 go_cut [7]from 11 to 17 (fun s7 wx=>∃b7,s7=zP b7/\Hid (Sec1 w0 g vv dv e M K o w wx pt sp b7 q))
 case first=>
  have HQ:=(show Hid _ from((xL w4.heap.size w4).alloc (yg _) (.cells #[zN,zI 0] 147)).drew);go_region_held3 (fun X=>(X.cell? (zO s 0)=some (zP g)/\X.cell? (zO (s+1) 2)=some (.string nm))/\X.cell? (zO g 3)=some (.slice so K.length cap)) (first|assumption|exact Hz.out _ HQ.out|exact Hz.out _ HX.out|exact Hz.out _ (HX.out.alloc HX.out.size _)|exact Hz.out _ ((HX.out.setCell (p:=zO w4.heap.size 0) (yg _) _).setCell (p:=zO w4.heap.size 1) (yg _) _)) ((go_at_call 175;first|(refine xQ (HY.out _ HQ.out) ?_;rintro e2 x ⟨rfl,hx⟩;have HX:=zH (HQ.out.trans (hx.mono HQ.out.size));have hz:x.heap[w4.heap.size]?=zK #[zN,zI 0] 147:=(hx.block w4.heap.size (by show _<(w4.alloc _).heap.size;rw[qcf];exact Nat.lt_succ_self _)).trans (xF w4 _);have z0:=qaa hz 0 _ rfl;have z1:=qaa hz 1 _ rfl;have f0:=xH x _ 0 _ _ hz;have f1:=xH x _ 1 _ _ hz;have HZ:=zH hz;clear hx hz;try dsimp only)|(refine xQ (HY.out _ hQ.out) ?_;rintro e2 x ⟨rfl,hx⟩;have HX:=zH (hQ.out.trans hx);clear hx;try dsimp only)))
  all_goals
   go_wp2
   go_meet
   first
   |exact⟨_,rfl,Hs.out _ _ hsz ((HX.out.setCell (p:=zO w4.heap.size 0) (yg _) _).setCell (p:=zO w4.heap.size 1) (yg _) _) (xG _ _ 1 _ _ _ (xG _ _ 0 _ _ _ HZ.out)) (yg _)⟩
   |exact⟨_,rfl,Hs.out _ _ (by have:=HX.out.size;omega) (HX.out.alloc HX.out.size _) (xF _ _) HX.out.size⟩
 case rest=>
  obtain⟨b7,rfl,HS⟩:=hcut;clear Hz Hs HY hQ hSd hsz;have HD:=h.below HS.out.be;have hL:=q86 dv e.D q w0.heap.size wc HD.base.size (hE.ds.below HD.base);obtain⟨L,hLe⟩:∃L,qvb (qbe e.D q)=L:=⟨_,rfl⟩;rw[qdk,Hr,Hy,hLe]at hL;have Ha:r=if L≠decide (kd=4)then(o,0)else if kd=4 then bodyF K o else qc9 bodyF K (qnb e.D q) o:=by
   rw[<-hr];unfold Ev.section;rw[hqe,hLe]
  have u1:=(ho.out wc HS.out.fr).2.1.1;have v0:wc.cell? (zO b7 0)=some (.slice pa pn pcap2):=by rw[<-Hr];exact HS.out.pv.cell 0 _ rfl
  have v1:wc.cell? (zO b7 1)=some (zI (pk:Nat)):=by rw[<-Hy];exact HS.out.pv.cell 1 _ rfl
  have hR:∀w6,Sec1 w0 g vv dv e M K o w w6 pt sp b7 q->w6.cell? (zO (s+1+1+1) 0)=some (zI 0)/\w6.frozen? (zO (s+1+1+1) 0)=false:=fun w6 h6=>by
   rw[<-hs];exact⟨h6.fr.d.cell 0 _ rfl,h6.fr.d.thaw 0⟩
  clear HF;by_cases Hl:L≠decide (kd=4)
  ·rw[if_pos Hl]at Ha
   have HL:Hid (zC 177 #[.agg #[.slice pa pn pcap2,zI (pk:Nat)]] wc fun e2 w6=>e2=.returned (.bool L)/\(w6.cell? (zO (s+1+1+1) 0)=some (zI 0)/\w6.frozen? (zO (s+1+1+1) 0)=false)/\Hid (OutC w0 g vv dv e K r w (.returned (zI 0)) (w6.setCell (zO (s+1+1+1) 0) (zI 0)))):=by
    refine hL.mono ?_;rintro e2 w6 ⟨rfl,HE⟩;have h6:=HS.out.next h HE;have hF:=h.below h6.be;refine⟨rfl,hR w6 h6,?_⟩;rw[Ha,<-hs];exact⟨rfl,⟨K,hF.at'.set h6.fr.d _ _,fun _=>rfl⟩,(h.rn h6.be).set h.base.size (by omega) h6.fr.d.gne _ _⟩
   clear hL Ha hR hq hr Hq hp HN He Hf HD HP h hE HB;have hcs:(((kd:Int)==4)=true/\L=false)\/(((kd:Int)==4)=false/\L=true):=by
    rcases hk with rfl|rfl
    ·cases L
     ·exact absurd rfl Hl
     ·exact .inr ⟨rfl,rfl⟩
    ·cases L
     ·exact .inl ⟨rfl,rfl⟩
     ·exact absurd rfl Hl
   clear Hl hk;rcases hcs with⟨hZ,rfl⟩|⟨hZ,rfl⟩
   all_goals
    go_wp2_with (go_at_call 177;refine xQ HL.out ?_;rintro e2 w6 ⟨rfl,⟨r0,r1⟩,HO⟩)
    exact⟨_,qiy rfl _ _ (s+1+1+1) (zI 0) rfl (by simp[World.cell?_setCell_same',r0]),HO.out⟩
  ·rw[if_neg Hl]at Ha
   have HR:L=decide (kd=4):=by simpa using Hl
   have Hg:=zH (fun w6 (h6:Sec1 w0 g vv dv e M K o w w6 pt sp b7 q)=>let h:=ho.out w6 h6.fr;And.intro h.1 h.2.2);by_cases h4:kd=4
   ·rw[if_pos h4]at Ha
    obtain rfl:L=true:=by rw[HR];simpa using h4
    have hZ:((kd:Int)==4)=true:=by rw[h4];rfl
    have HL:Hid (zC 177 #[.agg #[.slice pa pn pcap2,zI (pk:Nat)]] wc fun e2 w6=>e2=.returned (.bool true)/\(w6.cell? (zO s 0)=some (zP g)/\w6.cell? (zO (s+1+1) 0)=some (.slice po n pcap)/\w6.cell? (zO (s+1+1) 1)=some (zF gm n n)/\w6.cell? (zO (s+1+1) 2)=some (zI (fr:Nat))/\w6.cell? (zO (s+1+1) 3)=some (zI (mt:Nat))/\w6.cell? (zO (s+1+1) 4)=some (zI qad)) /\
      Hid (zC 178 #[zP g,qjl po n pcap gm fr mt qad] w6 fun ed w7=>∃z,ed=.returned (zI z)/\(w7.cell? (zO (s+1+1+1) 0)=some (zI 0)/\w7.frozen? (zO (s+1+1+1) 0)=false)/\Hid (OutC w0 g vv dv e K r w (.returned (zI z)) (w7.setCell (zO (s+1+1+1) 0) (zI z))))):=by
     refine hL.mono ?_;rintro e2 w6 ⟨rfl,HE⟩;have h6:=HS.out.next h HE;have hF:=h.below h6.be;refine⟨rfl,Hg.out w6 h6,?_⟩;refine(HB K o w6 hF (by omega) (by omega)).mono ?_;rintro ed w7 ⟨rfl,⟨K',hK1,hK2⟩,Hc⟩;have hT:=h6.fr.rn Hc;refine⟨_,rfl,by rw[<-hs];exact⟨hT.d.cell 0 _ rfl,hT.d.thaw 0⟩,?_⟩;rw[Ha,<-hs];exact⟨rfl,⟨K',hK1.set hT.d _ _,hK2⟩,((h.rn h6.be).trans Hc).set h.base.size (by omega) hT.d.gne _ _⟩
    clear hL Ha hR hq hr Hq hp HN He Hf HD HP h hE HB Hl HR Hg h4 hk
    go_wp2_with (first
     |(go_at_call 178;refine xQ HBd.out ?_;rintro ed w7 ⟨z,rfl,⟨r0,r1⟩,HO⟩)
     | (go_at_call 177;refine xQ HL.out ?_;rintro e2 w6 ⟨rfl,⟨y0,y1,y2,y3,y4,y5⟩,HBd⟩))
    exact⟨_,qiy rfl _ _ (s+1+1+1) (zI z) rfl (by simp[World.cell?_setCell_same',r0]),HO.out⟩
   ·rw[if_neg h4]at Ha
    obtain rfl:L=false:=by rw[HR];simpa using h4
    have hZ:((kd:Int)==4)=false:=yf.2 (by omega);have HL:Hid (zC 177 #[.agg #[.slice pa pn pcap2,zI (pk:Nat)]] wc fun e2 w6=>e2=.returned (.bool false)/\(w6.cell? (zO b7 0)=some (.slice pa pn pcap2)/\w6.cell? (zO b7 1)=some (zI (pk:Nat)))/\Hid (Sec1 w0 g vv dv e M K o w w6 pt sp b7 q)):=by
     refine hL.mono ?_;rintro e2 w6 ⟨rfl,HE⟩;have h6:=HS.out.next h HE;exact⟨rfl,⟨by rw[<-Hr];exact h6.pv.cell 0 _ rfl,by rw[<-Hy];exact h6.pv.cell 1 _ rfl⟩,h6⟩
    have HTu:=zH (fun w=>q69 pa pn pcap2 pk w);clear hL hR hq hr Hq hp HN He Hf HD HP Hl HR h4 HS
    go_wp2_with (first
     |(go_at_call 177;refine xQ HL.out ?_;rintro e2 w6 ⟨rfl,⟨y0,y1⟩,HT⟩)
     | (go_at_call 179;refine xQ (HTu.out _) ?_;rintro e2 w' ⟨rfl,rfl⟩))
    obtain⟨W0,hU⟩:∃W0,w6.alloc (.cells #[.slice pa pn pcap2,zI (pk:Nat)] 147)=W0:=⟨_,rfl⟩;have hF:=h.below HT.out.be;have hb0:zW w6 W0:=by rw[<-hU];exact zB _
    have hA:Mine g W0 w6.heap.size #[.slice pa pn pcap2,zI (pk:Nat)] 147:=by rw[<-hU];exact Mine.new hF.at' _ _ (by decide)
    have HA:=HT.out.next h hb0;have HU:=h.below HA.be;obtain⟨pb,hV⟩:∃pb,w6.heap.size=pb:=⟨_,rfl⟩;have hws:w.heap.size<=pb:=by rw[<-hV];exact HT.out.be.size
    rw[hV]at hA;have hG:=hA.lt;rw[hU,hV];have hB:w0.heap.size<=w.heap.size:=h.base.size;have h0:SecI w0 g vv dv e M bodyF K o w pt sp pb #[.slice pa pn pcap2,zI (pk:Nat)] [] W0:=⟨rfl,HU.at',h.fin,yg _,h.rn HA.be,HA.fr,hA⟩;have H0:PbAt W0 pb pa pn pcap2 (pcI q):=by rw[Hy];exact hA.blk
    have H1:=qzz dv e.D q pa pn pcap2 Hr w0.heap.size pb 8 (by decide) W0 HU.base.size (hE.ds.below HU.base) H0;have H2:=hE.ds;have HG:w.heap.size<=W0.heap.size:=HA.be.size;clear HL HTu HT hU hb0 u1 v0 v1 y0 y1 hV Hg;refine(wpIn_wide (n:=9)).1 ?_
    refine wpIn_rangeFunc_ownH rfl (by decide) (gf:=218) (lb:=#[zP pb]) rfl trivial (enters_of func218 (by kernel_rfl) rfl)
     H1 (fun h1 h2=>Kp.trans h1 h2) (fun A l ob ob' hl hob hc hk=>⟨belowK_b HU.base.size A l ob ob' hl hob hc hk,World.putObj_heap_other (by omega)⟩) (xL _ _) (fun _=>rfl)
     (SecI w0 g vv dv e M bodyF K o w pt sp pb #[.slice pa pn pcap2,zI (pk:Nat)])
     (fun c pre W=>c=.ret/\SecX w0 g vv dv e bodyF K o w pre W)
     (zbo hB (by omega)) (fun c s A A' row hs hg hr=>⟨hs.1,zbn hB (by omega) s A A' row hs.2 hg hr⟩) h0
     (fun x a' W=>∃Bx xa xn xcap xk,(Mine g W Bx #[.slice xa xn xcap,zI (xk:Nat)] 147/\Gb g W/\w.heap.size<=Bx/\pcA dv x=.slice xa xn xcap/\pcI x=xk)/\a'={ tmps:=#[zP g,.agg pt,.agg sp,zP s,zP (s+1),zP (s+1+1),zP (s+1+1+1),zP b7,.bool false,zP Bx,undef,u11,u12,u13,u14,u15,u16,u17,zP (s+1),zI (kd:Nat),.bool false,.agg #[.slice pa pn pcap2,zI (pk:Nat)],.bool false,.bool false,.bool false,.bool false,undef,undef,undef,.agg #[.slice pa pn pcap2,zI (pk:Nat)],.func (.func 218) #[] #[zP pb],.agg #[.slice xa xn xcap,zI (xk:Nat)],undef,undef,undef,undef,undef,undef,undef,undef,undef,undef,undef,undef,undef,undef,undef,undef,undef,undef,undef,undef,undef,undef,undef,undef,undef,undef,undef,undef,undef,undef],defers:=[] })
     (fun x a' _ A A' row hs hg hr=>by
      obtain⟨Bx,xa,xn,xcap,xk,⟨h1,h2,h3⟩,h4⟩:=hs;exact⟨Bx,xa,xn,xcap,xk,⟨h1.grown h2 hg (fun r e=>(hr r e).2),h2.grown hg (fun r e=>(hr r e).2),h3⟩,h4⟩)
     ?assign ?body ?done ?stop
    case assign=>
     rintro l pre x W K' hI ha;obtain⟨xa,xn,xcap,HI⟩:=qgu H2 x;obtain⟨xk,hJ⟩:∃xk,pcI x=xk:=⟨_,rfl⟩;have hxv:qe0 dv x=.agg #[.slice xa xn xcap,zI (xk:Nat)]:=by rw[qdk,HI,hJ]
     dsimp only;rw[hxv]
     gi_wp2
     have HV:zW W (W.alloc (.cells #[.slice xa xn xcap,zI (xk:Nat)] 147)):=zB _;have Hc:Rn w0.heap.size g W (W.alloc (.cells #[.slice xa xn xcap,zI (xk:Nat)] 147)):=Rn.of_below HV (yh hI.wr.lt.1 (yj hI.wr.lt.2)) hI.wr.lt.2
     exact ha _ _ ((KeepsOthers.alloc _ _).from _) ⟨Hc.below,HV.block _ hI.pv.lt⟩ ⟨hI.ok,hI.wr.below HV,hI.fin,hI.steps,hI.rn.trans Hc,hI.fr.rn Hc,hI.pv.rn Hc⟩
      ⟨W.heap.size,xa,xn,xcap,xk,⟨Mine.new hI.wr _ _ (by decide),(hI.wr.below HV).gb,hI.rn.below.size,HI,hJ⟩,rfl⟩
    case body=>
     rintro l pre x a' W hl _ hI ⟨Bx,xa,xn,xcap,xk,⟨Hm,_,hBxs,HI,hJ⟩,rfl⟩ _;obtain⟨oo,hoo⟩:∃oo,(qc9 bodyF K pre o).1=oo:=⟨_,rfl⟩;have hC:=hI.wr;have HJ:=hI.fin;have HK:=hI.steps;rw[hoo]at hC HJ HK;have hM:Wst w0 g vv dv e M K oo W:=⟨h.base.trans hI.rn.below,hC,HJ,h.ne⟩;obtain⟨sv,hv2,bp2,bv2,HC⟩:=id hC;obtain⟨so2,cap2,rfl,hKl,_⟩:=id HC.stk;have k0:W.cell? (zO s 0)=some (zP g):=by rw[<-hs];exact hI.fr.a.cell 0 _ rfl
     have e0:W.cell? (zO Bx 0)=some (.slice xa xn xcap):=Hm.cell 0 _ rfl;have e1:W.cell? (zO Bx 1)=some (zI (xk:Nat)):=Hm.cell 1 _ rfl;have g3:W.cell? (zO g 3)=some (.slice so2 K.length cap2):=HC.wb.all.2.2.2.1;have Ho:=hI.fr.a;rw[hs]at Ho;have ht:∀w6,(W.alloc (.cells #[.slice xa xn xcap,zI (xk:Nat)] 147)).drew.grownBy w6 (Value.slice so2 K.length cap2).ownBlock->w6.cell? (zO s 0)=some (zP g)/\w6.cell? (zO Bx 0)=some (.slice xa xn xcap)/\w6.cell? (zO Bx 1)=some (zI (xk:Nat)):=fun w6 Ht=>by
      have h1:∀k,k<W.heap.size->some k≠(Value.slice so2 K.length cap2).ownBlock->w6.heap[k]?=W.heap[k]?:=fun k hk hn=>(Ht.block k (by show k<(W.alloc _).heap.size;rw[qcf];exact Nat.lt_succ_of_lt hk) hn).trans (((xL _ W).alloc (yg _) _).block k hk);exact⟨(xP (a:=zO s 0) (h1 s Ho.lt (Ho.apart g3))).trans k0,(xP (a:=zO Bx 0) (h1 Bx Hm.lt (Hm.apart g3))).trans e0,(xP (a:=zO Bx 1) (h1 Bx Hm.lt (Hm.apart g3))).trans e1⟩
     have hu:∀w7,Rn w0.heap.size g W w7->w7.cell? (zO s 0)=some (zP g)/\w7.cell? (zO Bx 0)=some (.slice xa xn xcap)/\w7.cell? (zO Bx 1)=some (zI (xk:Nat)):=fun w7 Hc=>⟨(Ho.rn Hc).cell 0 _ rfl,(Hm.rn Hc).cell 0 _ rfl,(Hm.rn Hc).cell 1 _ rfl⟩;have hb:zW W (W.alloc (.cells #[.slice xa xn xcap,zI (xk:Nat)] 147)).drew:=(zB _).drew;have hi:=(HC.below hb).st;obtain⟨i0,hi0,hz0,hz1,hz2⟩:=info_parts q5z;have H3:oo.steps<=5000:=HJ.steps
     gi_wp2
     refine Code.wpIn_mono (Q:=fun ex a' w'=>ex=.normal/\∃so3 cap3,a'={ tmps:=#[zP g,.agg pt,.agg sp,zP s,zP (s+1),zP (s+1+1),zP (s+1+1+1),zP b7,.bool false,zP Bx,undef,u11,u12,u13,u14,u15,u16,u17,zP (s+1),zI (kd:Nat),.bool false,.agg #[.slice pa pn pcap2,zI (pk:Nat)],.bool false,.bool false,.bool false,.bool false,undef,undef,undef,.agg #[.slice pa pn pcap2,zI (pk:Nat)],.func (.func 218) #[] #[zP pb],.agg #[.slice xa xn xcap,zI (xk:Nat)],zP g,zP g,zP g,.pointer (some (zO g 3)),.slice so2 K.length cap2,.agg #[.slice xa xn xcap,zI (xk:Nat)],zF W.heap.size 1 1,.slice so3 (K.length+1:Nat) cap3,zP g,.pointer (some (zO g 3)),undef,undef,undef,undef,undef,undef,undef,undef,undef,undef,undef,undef,undef,undef,undef,undef,undef,undef,undef,undef],defers:=[] }/\Hid (WrAt w' w0.heap.size g vv dv e (x::K) oo/\Rn w0.heap.size g W w')) (fun ex a' w9 hm=>?b2) (qog (S:=fun X=>X.cell? (zO s 0)=some (zP g)/\X.cell? (zO Bx 0)=some (.slice xa xn xcap)/\X.cell? (zO Bx 1)=some (zI (xk:Nat))) (by kernel_rfl) (by kernel_rfl) (fun⟨_,_,hx⟩=>by cases hx.1) ?b1)
     case b1=>
      have hS:W.drew.cell? (zO s 0)=some (zP g)/\W.drew.cell? (zO Bx 0)=some (.slice xa xn xcap)/\W.drew.cell? (zO Bx 1)=some (zI (xk:Nat)):=⟨k0,e0,e1⟩;have gd:W.drew.cell? (zO g 3)=some (.slice so2 K.length cap2):=g3;have ga:(W.alloc (.cells #[.slice xa xn xcap,zI (xk:Nat)] 147)).drew.cell? (zO g 3)=some (.slice so2 K.length cap2):=(hb.cell (p:=zO g 3) hC.lt.2).trans g3;have H4:(W.alloc (.cells #[.slice xa xn xcap,zI (xk:Nat)] 147)).drew.cell? (zO s 0)=some (zP g)/\(W.alloc (.cells #[.slice xa xn xcap,zI (xk:Nat)] 147)).drew.cell? (zO Bx 0)=some (.slice xa xn xcap)/\(W.alloc (.cells #[.slice xa xn xcap,zI (xk:Nat)] 147)).drew.cell? (zO Bx 1)=some (zI (xk:Nat)):=⟨(hb.cell (p:=zO s 0) Ho.lt).trans k0,(hb.cell (p:=zO Bx 0) Hm.lt).trans e0,(hb.cell (p:=zO Bx 1) Hm.lt).trans e1⟩;refine qbf (i:=0) (zP g) rfl (by kernel_rfl) (by kernel_rfl) (by kernel_rfl) (fun _ _ _ h=>by cases h.1) rfl (fun X hx=>?_) hS ?_
      ·obtain⟨x1,x2,x3⟩:=hx
       go_simp
      refine qbf (i:=1) (zP g) rfl (by kernel_rfl) (by kernel_rfl) (by kernel_rfl) (fun _ _ _ h=>by cases h.1) rfl (fun X hx=>?_) hS ?_
      ·obtain⟨x1,x2,x3⟩:=hx
       go_simp
      refine qbf (i:=2) (zP g) rfl (by kernel_rfl) (by kernel_rfl) (by kernel_rfl) (fun _ _ _ h=>by cases h.1) rfl (fun X hx=>?_) hS ?_
      ·obtain⟨x1,x2,x3⟩:=hx
       go_simp
      refine qbf (i:=3) (.pointer (some (zO g 3))) rfl (by kernel_rfl) (by kernel_rfl) (by kernel_rfl) (fun _ _ _ h=>by cases h.1) rfl (fun X hx=>?_) hS ?_
      ·obtain⟨x1,x2,x3⟩:=hx
       go_simp
      refine qbf (i:=5) (.agg #[.slice xa xn xcap,zI (xk:Nat)]) rfl (by kernel_rfl) (by kernel_rfl) (by kernel_rfl) (fun _ _ _ h=>by cases h.1) rfl (fun X hx=>?_) hS ?_
      ·obtain⟨x1,x2,x3⟩:=hx
       go_simp
      refine wpAnyH_ready (rs:=[4,6]) (by kernel_rfl) (by simp) (AllReadyH.cons rfl (fun K' ha=>?_) (AllReadyH.cons rfl (fun K' ha=>?_) AllReadyH.nil))
      ·go_simp
       refine ha.out _ _ hS (fun hS=>?_);clear ha K';refine rd (r:=6) (by kernel_rfl) rfl (fun K' ha=>?_);go_simp
       refine ha.out _ _ H4 (fun hS=>?_);clear ha K';refine rd (r:=7) (by kernel_rfl) rfl (fun K' ha=>?_);refine qa6 rfl (.tmp 36) (.tmp 38) 150 rfl w0.heap.size 147 i0 (.agg #[zN,zI 0]) 2 32 underlying150 hi0 hz0 hz1 hz2 rfl (by decide) (.slice so2 K.length cap2) K.length _ (by simp[Act.eval]) hi (zO W.heap.size 0) 1 1 [.slice xa xn xcap,zI (xk:Nat)] (by simp[Act.eval]) rfl (qcn W _ _) (by simp[Value.oneCell']) (by unfold maxLen;omega) (by omega) (by show w0.heap.size<=(W.alloc _).heap.size;rw[qcf];exact Nat.le_succ_of_le hM.base.size) ?_;intro v' w6 Hi Ht Hu;obtain⟨g3,cap3,rfl,_,_⟩:=qai Hi (by omega);obtain⟨⟨q3,q4⟩,hj,Hj⟩:=WrV.push HC hb x (by rw[HI,hJ];exact Hi) Ht Hu;have HM:=ht w6 Ht;refine ha.out _ _ HM (fun hS=>?_);clear ha K';obtain⟨x1,x2,x3⟩:=HM;refine rd (r:=8) (by kernel_rfl) rfl (fun K' ha=>?_);go_simp
       refine ha.out _ _ hS (fun hS=>?_);clear ha K';refine rd (r:=9) (by kernel_rfl) rfl (fun K' ha=>?_);go_simp
       refine ha.out _ _ hS (fun hS=>?_);clear ha K';refine rd (r:=10) (by kernel_rfl) rfl (fun K' ha=>?_);go_simp
       refine ha.out _ _ (hu _ Hj) (fun hS=>?_);refine wpAnyH_done (by kernel_rfl) ?_ _;exact⟨rfl,some (zO g3 0),cap3,rfl,⟨_,_,_,_,hj⟩,Hj⟩
      ·go_simp
       refine ha.out _ _ H4 (fun hS=>?_);clear ha K';refine rd (r:=4) (by kernel_rfl) rfl (fun K' ha=>?_);go_simp
       refine ha.out _ _ H4 (fun hS=>?_);clear ha K';refine rd (r:=7) (by kernel_rfl) rfl (fun K' ha=>?_);refine qa6 rfl (.tmp 36) (.tmp 38) 150 rfl w0.heap.size 147 i0 (.agg #[zN,zI 0]) 2 32 underlying150 hi0 hz0 hz1 hz2 rfl (by decide) (.slice so2 K.length cap2) K.length _ (by simp[Act.eval]) hi (zO W.heap.size 0) 1 1 [.slice xa xn xcap,zI (xk:Nat)] (by simp[Act.eval]) rfl (qcn W _ _) (by simp[Value.oneCell']) (by unfold maxLen;omega) (by omega) (by show w0.heap.size<=(W.alloc _).heap.size;rw[qcf];exact Nat.le_succ_of_le hM.base.size) ?_;intro v' w6 Hi Ht Hu;obtain⟨g3,cap3,rfl,_,_⟩:=qai Hi (by omega);obtain⟨⟨q3,q4⟩,hj,Hj⟩:=WrV.push HC hb x (by rw[HI,hJ];exact Hi) Ht Hu;have HM:=ht w6 Ht;refine ha.out _ _ HM (fun hS=>?_);clear ha K';obtain⟨x1,x2,x3⟩:=HM;refine rd (r:=8) (by kernel_rfl) rfl (fun K' ha=>?_);go_simp
       refine ha.out _ _ hS (fun hS=>?_);clear ha K';refine rd (r:=9) (by kernel_rfl) rfl (fun K' ha=>?_);go_simp
       refine ha.out _ _ hS (fun hS=>?_);clear ha K';refine rd (r:=10) (by kernel_rfl) rfl (fun K' ha=>?_);go_simp
       refine ha.out _ _ (hu _ Hj) (fun hS=>?_);refine wpAnyH_done (by kernel_rfl) ?_ _;exact⟨rfl,some (zO g3 0),cap3,rfl,⟨_,_,_,_,hj⟩,Hj⟩
     case b2=>
      obtain⟨rfl,so3,cap3,rfl,H9⟩:=hm;have Hv:=hI.fr.rn H9.out.2;have hpv9:=hI.pv.rn H9.out.2;have h5:=hI.rn.trans H9.out.2;have hW9:Wst w0 g vv dv e M (x::K) oo w9:=⟨h.base.trans h5.below,H9.out.1,HJ,by simp⟩;have hW:=HB (x::K) oo w9 hW9 (by omega) (by simp only[yK];omega);have Hn:=qrb bodyF K x pre o hI.ok;rw[hoo]at Hn;obtain⟨u0,_,t0,t1,t2,t3,t4⟩:=ho.out w9 Hv;clear ht hu hi hb HC k0 e0 e1 g3 HB;by_cases hz:(bodyF (x::K) oo).2=0
      ·have HBd:Hid (zC 178 #[zP g,qjl po n pcap gm fr mt qad] w9 fun ed w10=>ed=.returned (zI 0)/\Hid (WrAt w10 w0.heap.size g vv dv e (x::K) (bodyF (x::K) oo).1/\Rn w0.heap.size g w9 w10)):=by
        refine hW.mono ?_;rintro ed w10 ⟨rfl,⟨K',h1,h2⟩,h3⟩;rw[h2 hz]at h1;exact⟨by rw[hz],h1,h3⟩
       clear hW
       gi_wp2_with (refine⟨trivial,?_⟩;gi_at_call 178;refine CallsIn.mono (CallsIn.inRound l (callsIn_wide.2 HBd.out)) ?_;rintro ed w10 ⟨rfl,Hw⟩)
       have Hb:=Hv.rn Hw.out.2;have Ho:=Hb.a;rw[hs]at Ho;obtain⟨sv4,hv4,bp4,bv4,H5⟩:=Hw.out.1;obtain⟨so4,cap4,rfl,hk1,hk2,hN,HW⟩:=WrV.pop H5;have k0:w10.cell? (zO s 0)=some (zP g):=Ho.cell 0 _ rfl;have g3:w10.cell? (zO g 3)=some (.slice so4 (K.length+1) cap4):=H5.wb.all.2.2.2.1;have gf:w10.frozen? (zO g 3)=false:=H5.wb.all.2.2.2.2.2.2 3;have H6:KeepsOthers W w9:=hC.keepsOthers H9.out.2;have Hx:KeepsOthers w9 w10:=H9.out.1.keepsOthers Hw.out.2;have h7:=H9.out.2.trans Hw.out.2;refine Code.wpIn_mono (Q:=fun ex a' w'=>ex=.normal/\WrAt w' w0.heap.size g vv dv e K (bodyF (x::K) oo).1/\Rn w0.heap.size g w10 w') (fun ex a' w11 hm=>?c2) (qog (S:=fun X=>X.cell? (zO s 0)=some (zP g)) (by kernel_rfl) (by kernel_rfl) (fun⟨_,_,hx⟩=>by cases hx.1) ?c1)
       case c1=>
        have hS:w10.drew.cell? (zO s 0)=some (zP g):=k0;have Hk:∀w',Rn w0.heap.size g w10 w'->w'.cell? (zO s 0)=some (zP g):=fun w' hr=>(Ho.rn hr).cell 0 _ rfl;have he:∀v,Rn w0.heap.size g w10 (w10.setCell (zO g 3) v)->Rn w0.heap.size g w10 (w10.setCell (zO g 3) v).drew:=fun v hr=>⟨hr.below.drew,hr.kept,hr.fresh⟩;have gd:w10.drew.cell? (zO g 3)=some (.slice so4 (K.length+1) cap4):=g3;have gfd:w10.drew.frozen? (zO g 3)=false:=gf;obtain⟨m,hm⟩:∃m,K.length+1=m:=⟨_,rfl⟩;have hsub:IntKind.i64.wrap ((m:Int) - 1)=(K.length:Int):=by rw[IntKind.wrap_i64]<;>(unfold maxLen at hk2;omega)
        have hn0:(0:Int)<=(K.length:Int):=by omega
        have hn1:(K.length:Int)<=(cap4:Int):=by omega
        have hn2:(K.length:Int)<=(m:Int):=by omega
        rw[hm]at gd;refine qbf (i:=0) (zP g) rfl (by kernel_rfl) (by kernel_rfl) (by kernel_rfl) (fun _ _ _ h=>by cases h.1) rfl (fun X hx=>?_) hS ?_
        ·have x1:X.cell? (zO s 0)=some (zP g):=hx
         clear Hk he;go_simp
        refine qbf (i:=1) (zP g) rfl (by kernel_rfl) (by kernel_rfl) (by kernel_rfl) (fun _ _ _ h=>by cases h.1) rfl (fun X hx=>?_) hS ?_
        ·have x1:X.cell? (zO s 0)=some (zP g):=hx
         clear Hk he;go_simp
        refine qbf (i:=2) (zP g) rfl (by kernel_rfl) (by kernel_rfl) (by kernel_rfl) (fun _ _ _ h=>by cases h.1) rfl (fun X hx=>?_) hS ?_
        ·have x1:X.cell? (zO s 0)=some (zP g):=hx
         clear Hk he;go_simp
        refine qbf (i:=3) (.pointer (some (zO g 3))) rfl (by kernel_rfl) (by kernel_rfl) (by kernel_rfl) (fun _ _ _ h=>by cases h.1) rfl (fun X hx=>?_) hS ?_
        ·have x1:X.cell? (zO s 0)=some (zP g):=hx
         clear Hk he;go_simp
        refine qbf (i:=5) (zP g) rfl (by kernel_rfl) (by kernel_rfl) (by kernel_rfl) (fun _ _ _ h=>by cases h.1) rfl (fun X hx=>?_) hS ?_
        ·have x1:X.cell? (zO s 0)=some (zP g):=hx
         clear Hk he;go_simp
        refine qbf (i:=6) (zP g) rfl (by kernel_rfl) (by kernel_rfl) (by kernel_rfl) (fun _ _ _ h=>by cases h.1) rfl (fun X hx=>?_) hS ?_
        ·have x1:X.cell? (zO s 0)=some (zP g):=hx
         clear Hk he;go_simp
        refine qbf (i:=7) (.pointer (some (zO g 3))) rfl (by kernel_rfl) (by kernel_rfl) (by kernel_rfl) (fun _ _ _ h=>by cases h.1) rfl (fun X hx=>?_) hS ?_
        ·have x1:X.cell? (zO s 0)=some (zP g):=hx
         clear Hk he;go_simp
        refine wpAnyH_ready (rs:=[4,8]) (by kernel_rfl) (by simp) (AllReadyH.cons rfl (fun K' ha=>?_) (AllReadyH.cons rfl (fun K' ha=>?_) AllReadyH.nil))
        ·go_simp
         refine ha.out _ _ hS (fun hS=>?_);clear ha K';refine rd (r:=8) (by kernel_rfl) rfl (fun K' ha=>?_);go_simp
         refine ha.out _ _ hS (fun hS=>?_);clear ha K';refine rd (r:=9) (by kernel_rfl) rfl (fun K' ha=>?_);go_simp
         refine ha.out _ _ hS (fun hS=>?_);clear ha K';refine rd (r:=10) (by kernel_rfl) rfl (fun K' ha=>?_);go_simp
         refine ha.out _ _ hS (fun hS=>?_);clear ha K';refine rd (r:=11) (by kernel_rfl) rfl (fun K' ha=>?_);go_simp
         refine ha.out _ _ hS (fun hS=>?_);clear ha K';refine rd (r:=12) (by kernel_rfl) rfl (fun K' ha=>?_);go_simp
         refine ha.out _ _ hS (fun hS=>?_);clear ha K';refine rd (r:=13) (by kernel_rfl) rfl (fun K' ha=>?_);go_simp
         refine ha.out _ _ hS (fun hS=>?_);clear ha K';refine rd (r:=14) (by kernel_rfl) rfl (fun K' ha=>?_);go_simp
         refine ha.out _ _ (Hk _ (he _ HW)) (fun hS=>?_);clear ha K';refine wpAnyH_done (by kernel_rfl) ?_ _;exact⟨rfl,⟨_,_,_,_,hN.below (xL _ _).drew⟩,he _ HW⟩
        ·go_simp
         refine ha.out _ _ hS (fun hS=>?_);clear ha K';refine qbf (i:=9) (zI (m:Nat)) rfl (by kernel_rfl) (by kernel_rfl) (by kernel_rfl) (fun _ _ _ h=>by cases h.1) rfl (fun X hx=>?_) hS ?_
         ·clear Hk he
          go_simp
         refine qbf (i:=10) (zI (K.length:Nat)) rfl (by kernel_rfl) (by kernel_rfl) (by kernel_rfl) (fun _ _ _ h=>by cases h.1) rfl (fun X hx=>?_) hS ?_
         ·clear Hk he
          go_simp
         refine rd (r:=4) (by kernel_rfl) rfl (fun K' ha=>?_);go_simp
         refine ha.out _ _ hS (fun hS=>?_);clear ha K';refine rd (r:=11) (by kernel_rfl) rfl (fun K' ha=>?_);go_simp
         refine ha.out _ _ hS (fun hS=>?_);clear ha K';refine rd (r:=12) (by kernel_rfl) rfl (fun K' ha=>?_);go_simp
         refine ha.out _ _ hS (fun hS=>?_);clear ha K';refine rd (r:=13) (by kernel_rfl) rfl (fun K' ha=>?_);go_simp
         refine ha.out _ _ hS (fun hS=>?_);clear ha K';refine rd (r:=14) (by kernel_rfl) rfl (fun K' ha=>?_);go_simp
         refine ha.out _ _ (Hk _ (he _ HW)) (fun hS=>?_);clear ha K';refine wpAnyH_done (by kernel_rfl) ?_ _;exact⟨rfl,⟨_,_,_,_,hN.below (xL _ _).drew⟩,he _ HW⟩
       case c2=>
        obtain⟨rfl,h1,h2⟩:=hm;have H7:KeepsOthers w10 w11:=Hw.out.1.keepsOthers h2;have Hp:=h7.trans h2;rw[if_neg (by simpa using hz)]at Hn;refine⟨((H6.trans Hx).trans H7).from _,⟨Hp.below,((hI.pv.rn Hp).blk).trans hI.pv.blk.symm⟩,⟨by rw[Hn],by rw[Hn];exact h1,by rw[Hn];exact hbF _ _ HJ,by rw[Hn];exact yh HK (hbS _ _ H3),hI.rn.trans Hp,hI.fr.rn Hp,hI.pv.rn Hp⟩⟩
      ·have HBd:Hid (zC 178 #[zP g,qjl po n pcap gm fr mt qad] w9 fun ed w10=>ed=.returned (zI (bodyF (x::K) oo).2)/\(w10.cell? (zO (s+1+1+1) 0)=some (zI 0)/\w10.frozen? (zO (s+1+1+1) 0)=false)/\Hid ((∃K',WrAt w10 w0.heap.size g vv dv e K' (bodyF (x::K) oo).1)/\Rn w0.heap.size g w9 w10)):=by
        refine hW.mono ?_;rintro ed w10 ⟨rfl,⟨K',h1,h2⟩,h3⟩;have Hb:=Hv.rn h3;exact⟨rfl,by rw[<-hs];exact⟨Hb.d.cell 0 _ rfl,Hb.d.thaw 0⟩,⟨K',h1⟩,h3⟩
       clear hW;rw[if_pos hz]at Hn;obtain⟨z,h8⟩:∃z,(bodyF (x::K) oo).2=z:=⟨_,rfl⟩;rw[h8]at HBd hz
       gi_wp2_with (refine⟨trivial,?_⟩;gi_at_call 178;refine CallsIn.mono (CallsIn.inRound l (callsIn_wide.2 HBd.out)) ?_;rintro ed w10 ⟨rfl,⟨r0,r1⟩,Hw⟩)
       obtain⟨⟨K',h1⟩,h3⟩:=Hw.out;have H6:KeepsOthers W w9:=hC.keepsOthers H9.out.2;have Hx:KeepsOthers w9 w10:=H9.out.1.keepsOthers h3;have Hp:=H9.out.2.trans h3;have H8:=(hI.fr.rn Hp).d;have hse:=h1.set H8 0 (zI z);have hsr:=(hI.rn.trans Hp).set hB (by omega) H8.gne 0 (zI z);have hsm:=H8.put (zI z);rw[hs]at hse hsr hsm;refine⟨((H6.trans Hx).trans (KeepsOthers.setCell _ _ _)).from _,rfl,⟨by rw[Hn,h8];exact hz,⟨K',by rw[Hn];exact hse⟩,hsr,by rw[Hn,h8,hs];exact hsm⟩⟩
    case done=>
     rintro D ys W hD rfl hI hK;have r0:W.cell? (zO (s+1+1+1) 0)=some (zI 0):=by rw[<-hs];exact hI.fr.d.cell 0 _ rfl
     have r1:W.frozen? (zO (s+1+1+1) 0)=false:=by rw[<-hs];exact hI.fr.d.thaw 0
     clear H1 H2 HB h0 HA hA hG H0;go_wp2
     have hks:=(KeepsOthers.setCell W (zO (s+1+1+1) 0) (zI 0)).same D _ hK rfl;have hy:=hI.fr.d;rw[hs]at hy;obtain⟨h1,h2,h3⟩:=q73 hB (hI.wr.set hy 0 (zI 0)) (hI.rn.set hB (by omega) hy.gne 0 (zI 0)) (hy.put (zI 0)) (yh HG hD) hks;refine⟨by simp,.inl ⟨_,_,rfl,run_takeDeferred hks,?_⟩⟩;refine⟨_,qiy rfl _ _ (s+1+1+1) (zI 0) rfl h3,?_⟩;rw[Ha];refine⟨by rw[hI.ok],⟨K,h1,fun _=>rfl⟩,h2⟩
    case stop=>
     rintro D c pre W hD h9 ⟨rfl,hX⟩ hK;obtain⟨K',hw⟩:=hX.wr;have hy:=hX.res;rw[hs]at hy;clear H1 H2 HB h0 HA hA hG H0
     gi_wp2
     obtain⟨h1,h2,h3⟩:=q73 hB hw hX.rn hy (yh HG hD) hK;refine⟨by simp,.inl ⟨_,_,rfl,run_takeDeferred hK,?_⟩⟩;refine⟨_,qiy rfl _ _ (s+1+1+1) _ rfl h3,?_⟩;rw[Ha,qm2 bodyF K _ _ _ h9 hX.ok];exact⟨rfl,⟨K',h1,fun e=>absurd e hX.ok⟩,h2⟩
end
end Go.Proofs.YtfkhljmiehdgmaaGreatDoor

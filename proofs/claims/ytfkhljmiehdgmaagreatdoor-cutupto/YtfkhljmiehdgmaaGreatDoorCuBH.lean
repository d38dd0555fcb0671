/-
  Steps of the proof.
-/
import Derived.Test.YtfkhljmiehdgmaaGreatDoorCuBG
set_option maxRecDepth 100000
set_option maxHeartbeats 40000000
namespace Go.Proofs.YtfkhljmiehdgmaaGreatDoor
open Go.RowKit Go.Proofs.Tryz Pl
section
open Go Go.Shelf
variable{B g s M B':Nat}{w w' w0:World}{pt sp:Array Value}{z vv dv:Value}{e:Ev}{K:List Pc}{o:Wt}{bodyF:List Pc->Wt->Wt×Int}
attribute [local go_sem] Oper.semAt_some
theorem qiy{fn:Func}{p:Tmp}(h:fn.results=#[.cell p 29])(tmps:Array Value)(w:World)(b:Nat)(v:Value)
  (z:tmps.getD p undef=zP b) (D:w.cell? (zO b 0)=some v):(results fn tmps).run prog w=.ok v w:=by
 have y:tmps[p]?.getD undef=zP b:=by simpa using z
 simp[results,h,y,asAddr,go_sem,D]
structure SecF(g:Nat)(w:World)(s:Nat)(pt sp:Array Value)(z:Value):Prop where
 a:Mine g w s #[zP g] 203
 b:Mine g w (s+1) pt 229
 c:Mine g w (s+1+1) sp 208
 d:Mine g w (s+1+1+1) #[z] 29
theorem SecF.rn(h:SecF g w s pt sp z)(y:Rn B g w w'):SecF g w' s pt sp z:=⟨h.a.rn y,h.b.rn y,h.c.rn y,h.d.rn y⟩
theorem SecF.grown(h:SecF g w s pt sp z)(D:Gb g w){row:Option Nat}(y:w.grownBy w' row)(I:∀r,row=some r->∃ob:Obj,w.heap[r]?=some ob/\ob.isCells=false):SecF g w' s pt sp z:=
 ⟨h.a.grown D y I,h.b.grown D y I,h.c.grown D y I,h.d.grown D y I⟩
theorem zbp(h:WrAt w B g vv dv e K o)(pt sp:Array Value)(z:Value) :
  SecF g ((((w.alloc (.cells #[zP g] 203)).alloc (.cells pt 229)).alloc (.cells sp 208)).alloc (.cells #[z] 29)) w.heap.size pt sp z /\
  zW w ((((w.alloc (.cells #[zP g] 203)).alloc (.cells pt 229)).alloc (.cells sp 208)).alloc (.cells #[z] 29)):=by
 have y:∀(x:World) ob,zW x (x.alloc ob):=fun x ob=>zB ob;have m0:=Mine.new h #[zP g] 203 (by decide);have O:=h.below (y w (.cells #[zP g] 203));generalize D:w.alloc (.cells #[zP g] 203)=w1 at m0 O;have s1:w1.heap.size=w.heap.size+1:=by rw[<-D,qcf]
 have m1:=Mine.new O pt 229 (by decide);have r1:Rn B g w1 (w1.alloc (.cells pt 229)):=Rn.of_below (y _ _) (yh O.lt.1 (yj O.lt.2)) O.lt.2;have T:=O.below (y w1 (.cells pt 229));generalize I:w1.alloc (.cells pt 229)=w2 at m1 T r1;have s2:w2.heap.size=w.heap.size+1+1:=by rw[<-I,qcf,s1]
 have m2:=Mine.new T sp 208 (by decide);have r2:Rn B g w2 (w2.alloc (.cells sp 208)):=Rn.of_below (y _ _) (yh T.lt.1 (yj T.lt.2)) T.lt.2;have U:=T.below (y w2 (.cells sp 208));generalize J:w2.alloc (.cells sp 208)=w3 at m2 U r2;have s3:w3.heap.size=w.heap.size+1+1+1:=by rw[<-J,qcf,s2]
 have m3:=Mine.new U #[z] 29 (by decide);have r3:Rn B g w3 (w3.alloc (.cells #[z] 29)):=Rn.of_below (y _ _) (yh U.lt.1 (yj U.lt.2)) U.lt.2;rw[s1]at m1;rw[s2]at m2;rw[s3]at m3;refine⟨⟨m0.rn ((r1.trans r2).trans r3),m1.rn (r2.trans r3),m2.rn r3,m3⟩,?_⟩;have b1:zW w w1:=by rw[<-D];exact y _ _
 have b2:zW w1 w2:=by rw[<-I];exact y _ _
 have b3:zW w2 w3:=by rw[<-J];exact y _ _
 exact b1.trans ((b2.mono b1.size).trans ((b3.mono (by omega)).trans ((y w3 _).mono (by omega))))
theorem q5z:(prog.info? 147).map (fun i=>(i.zero,i.size,i.bytes))=some (some (.agg #[zN,zI 0]),2,32):=by kernel_rfl
theorem qrb(b:List Pc->Wt->Wt×Int)(K:List Pc)(x:Pc):∀(pre:List Pc) (o:Wt),(qc9 b K pre o).2=0->qc9 b K (pre++[x]) o=if(b (x::K) (qc9 b K pre o).1).2≠0 then b (x::K) (qc9 b K pre o).1 else((b (x::K) (qc9 b K pre o).1).1,0)
 |[],o,_=>rfl
 |p::l,o,h=>by
   unfold qc9 at h;show qc9 b K (p::(l++[x])) o=_;unfold qc9;by_cases y:(b (p::K) o).2≠0
   ·rw[if_pos y]at h
    exact absurd h y
   ·rw[if_neg y]at h
    rw[if_neg y,if_neg y];exact qrb b K x l _ h
theorem qm2(b:List Pc->Wt->Wt×Int)(K:List Pc):∀(pre l:List Pc) (o:Wt),pre <+: l->(qc9 b K pre o).2≠0->qc9 b K l o=qc9 b K pre o
 |[],_,_,_,h=>absurd rfl h
 |p::pre,[],_,hp,_=>by have:=hp.length_le;simp at this
 |p::pre,q::l,o,hp,h=>by
   obtain⟨rfl,y⟩:=List.cons_prefix_cons.1 hp;unfold qc9 at h |-;by_cases z:(b (p::K) o).2≠0
   ·rw[if_pos z,if_pos z]
   ·rw[if_neg z]at h
    rw[if_neg z,if_neg z];exact qm2 b K pre l _ y h
structure SecI(w0:World)(g:Nat)(vv dv:Value)(e:Ev)(M:Nat)(bodyF:List Pc->Wt->Wt×Int)(K:List Pc)(o:Wt)(w:World)(pt sp:Array Value)(pb:Nat)(pc:Array Value)(pre:List Pc)(W:World):Prop where
 ok:(qc9 bodyF K pre o).2=0
 wr:WrAt W w0.heap.size g vv dv e K (qc9 bodyF K pre o).1
 fin:Fin e M (qc9 bodyF K pre o).1
 steps:o.steps<=(qc9 bodyF K pre o).1.steps
 rn:Rn w0.heap.size g w W
 fr:SecF g W w.heap.size pt sp (zI 0)
 pv:Mine g W pb pc 147
structure SecX(w0:World)(g:Nat)(vv dv:Value)(e:Ev)(bodyF:List Pc->Wt->Wt×Int)(K:List Pc)(o:Wt)(w:World)(pre:List Pc)(W:World):Prop where
 ok:(qc9 bodyF K pre o).2≠0
 wr:∃K',WrAt W w0.heap.size g vv dv e K' (qc9 bodyF K pre o).1
 rn:Rn w0.heap.size g w W
 res:Mine g W (w.heap.size+1+1+1) #[zI (qc9 bodyF K pre o).2] 29
theorem zbo{pb:Nat}{pc:Array Value}(z:w0.heap.size<=w.heap.size)(y:w.heap.size<=B'):OwnFrom B' (SecI w0 g vv dv e M bodyF K o w pt sp pb pc):=
 fun _ _ _ _ D I J=>⟨D.ok,D.wr.grown I (fun r e=>(J r e).2),D.fin,D.steps,D.rn.grown z D.wr.gb I (fun r e=>⟨yh y (J r e).1,(J r e).2⟩),D.fr.grown D.wr.gb I (fun r e=>(J r e).2),D.pv.grown D.wr.gb I (fun r e=>(J r e).2)⟩
theorem zbn(z:w0.heap.size<=w.heap.size)(y:w.heap.size<=B'):OwnFrom B' (SecX w0 g vv dv e bodyF K o w):=by
 intro pre A A' row D I J;obtain⟨K',O⟩:=D.wr;exact⟨D.ok,⟨K',O.grown I (fun r e=>(J r e).2)⟩,D.rn.grown z O.gb I (fun r e=>⟨yh y (J r e).1,(J r e).2⟩),D.res.grown O.gb I (fun r e=>(J r e).2)⟩
structure Sec1(w0:World)(g:Nat)(vv dv:Value)(e:Ev)(M:Nat)(K:List Pc)(o:Wt)(w w5:World)(pt sp:Array Value)(b7:Nat)(q:Pc):Prop where
 fr:SecF g w5 w.heap.size pt sp (zI 0)
 pv:Mine g w5 b7 #[pcA dv q,zI (pcI q)] 147
 be:zW w w5
 ge:w.heap.size<=b7
theorem Sec1.next{w5 w6:World}{b7:Nat}{q:Pc}(h:Sec1 w0 g vv dv e M K o w w5 pt sp b7 q)(y:Wst w0 g vv dv e M K o w)(z:zW w5 w6):Sec1 w0 g vv dv e M K o w w6 pt sp b7 q:=
 have D:=(y.below h.be).rn z
 ⟨h.fr.rn D,h.pv.rn D,h.be.trans (z.mono h.be.size),h.ge⟩
theorem Rn.set{a:World}(h:Rn B g w a)(y:B<=w.heap.size){k:Nat}(z:w.heap.size<=k)(D:k≠g)(j:Nat)(v:Value):Rn B g w (a.setCell (zO k j) v):=by
 refine⟨h.below.setCell (p:=zO k j) (yh y z) _,fun i ob I J O=>(xK _ _ _ _ (fun e=>?_)).trans (h.kept i ob I J O),fun i I=>h.fresh i ((qjv (xK _ _ _ _ (fun e=>D e.symm)) _).1 I)⟩;have:=(ya.1 I).1;simp at e;omega
theorem qwr(hE:Evm w0 vv dv e M)(f:Nat)(bodyF:List Pc->Wt->Wt×Int)(po:Option Addr)(n pcap gm fr mt:Nat)(qad:Int)
  (HB:∀K' o' w',Wst w0 g vv dv e M K' o' w'->5000<=f+o'.steps->K'.length<=o'.steps+2->zC 178 #[zP g,qjl po n pcap gm fr mt qad] w' (OutC w0 g vv dv e K' (bodyF K' o') w'))
  (hbF:∀K o,Fin e M o->Fin e M (bodyF K o).1) (hbS:∀K o,o.steps<=5000->o.steps<=(bodyF K o).1.steps)
  (kd ps mp:Nat) (hk:kd=3\/kd=4) (nm:zT) (hnm:nm.size<=100000) (K:List Pc) (o:Wt) (w:World) (h:Wst w0 g vv dv e M K o w) (hf:5001<=f+o.steps) (hK:K.length<=o.steps)  (r:Wt×Int) (hr:e.section bodyF K kd nm.data.toList o=r) :
  zC 127 #[zP g,.agg #[zI (kd:Nat),zI (ps:Nat),.string nm,zI (mp:Nat)],qjl po n pcap gm fr mt qad] w (OutC w0 g vv dv e K r w):=by
 obtain⟨Hj,Hi⟩:=zbp h.at' #[zI (kd:Nat),zI (ps:Nat),.string nm,zI (mp:Nat)] #[.slice po n pcap,zF gm n n,zI (fr:Nat),zI (mt:Nat),zI qad] (zI 0);obtain⟨w4,hG⟩:∃w4,((((w.alloc (.cells #[zP g] 203)).alloc (.cells #[zI (kd:Nat),zI (ps:Nat),.string nm,zI (mp:Nat)] 229)).alloc (.cells #[.slice po n pcap,zF gm n n,zI (fr:Nat),zI (mt:Nat),zI qad] 208)).alloc (.cells #[zI 0] 29))=w4:=⟨_,rfl⟩;rw[hG]at Hj Hi;obtain⟨pt,HG⟩:∃pt:Array Value,pt=#[zI (kd:Nat),zI (ps:Nat),.string nm,zI (mp:Nat)]:=⟨_,rfl⟩;obtain⟨sp,HI⟩:∃sp:Array Value,sp=#[.slice po n pcap,zF gm n n,zI (fr:Nat),zI (mt:Nat),zI qad]:=⟨_,rfl⟩;obtain⟨s,hs⟩:∃s,w.heap.size=s:=⟨_,rfl⟩;have Hg:Hid (∀(W:World),SecF g W w.heap.size pt sp (zI 0)->W.cell? (zO s 0)=some (zP g)/\(W.cell? (zO (s+1) 0)=some (zI (kd:Nat))/\W.cell? (zO (s+1) 2)=some (.string nm))/\W.cell? (zO (s+1+1) 0)=some (.slice po n pcap)/\W.cell? (zO (s+1+1) 1)=some (zF gm n n)/\W.cell? (zO (s+1+1) 2)=some (zI (fr:Nat))/\W.cell? (zO (s+1+1) 3)=some (zI (mt:Nat))/\W.cell? (zO (s+1+1) 4)=some (zI qad)):=by
  subst HG HI hs;intro W h;exact⟨h.a.cell 0 _ rfl,⟨h.b.cell 0 _ rfl,h.b.cell 2 _ rfl⟩,h.c.cell 0 _ rfl,h.c.cell 1 _ rfl,h.c.cell 2 _ rfl,h.c.cell 3 _ rfl,h.c.cell 4 _ rfl⟩
 rw[<-HG,<-HI]at Hj;have HPT:=zH HG;have HSP:=zH HI;clear HG HI;have V:=h.below Hi;obtain⟨sv,hv,bp,bv,hq⟩:=V.at';have Y:=hq.stk;obtain⟨so,cap,rfl,_,_⟩:=id Y;obtain⟨pa,pn,pcap2,Hk⟩:=qgu hE.ds (qe3 e.D K nm.data.toList);have hpv:qe0 dv (qe3 e.D K nm.data.toList)=.agg #[.slice pa pn pcap2,zI (pcI (qe3 e.D K nm.data.toList))]:=by rw[qdk,Hk]
 have HF:∀x,zW w4 x->zC 175 #[.slice so K.length cap,.string nm] x fun e2 x'=>e2=.returned (.agg #[.slice pa pn pcap2,zI (pcI (qe3 e.D K nm.data.toList))])/\zW x x':=by
  intro x hx;have HR:=(V.base.trans (hx.mono V.base.size));have:=q3j dv (.slice so K.length cap) e.D K nm w0.heap.size x HR.size (hE.ds.below HR) (Y.below (yg _) hx) (hE.ml.below HR) hnm h.ne
  rwa [hpv]at this
 obtain⟨q,H4⟩:∃q,qe3 e.D K nm.data.toList=q:=⟨_,rfl⟩;rw[H4]at HF Hk;obtain⟨pk,Hs⟩:∃pk,pcI q=pk:=⟨_,rfl⟩;rw[Hs]at HF;have hJ:w4.cell? (zO g 3)=some (.slice so K.length cap):=hq.wb.all.2.2.2.1;refine(callsIn_wide (n:=9)).1 ?_;refine callsIn_of_wp_marks func127 rfl trivial ?_ rfl;simp only[ntmps127,qjl,List.size_toArray,yK,yQ,Nat.reduceAdd,Nat.reduceSub,Array.replicate_succ,Array.replicate_zero,List.push_toArray,List.append_toArray,xC,xB];refine(wpIn_wide (n:=9)).2 ?_;go_wp2
 rw[<-HPT.out,<-HSP.out];have he:=V.at'.lt.2;have h5:s<=w4.heap.size:=by rw[<-hs];exact Hi.size
 have ht:Hid (∀X,zW w4 X->(X.cell? (zO s 0)=some (zP g)/\X.cell? (zO (s+1) 2)=some (.string nm))/\X.cell? (zO g 3)=some (.slice so K.length cap)):=fun X hX=>by
  have h:=Hg.out X (Hj.rn (V.rn hX));exact⟨⟨h.1,h.2.1.2⟩,(hX.cell (p:=zO g 3) he).trans hJ⟩
 have Hl:Hid (∀b7 w5,s<=b7->zW w4 w5->w5.heap[b7]?=zK #[.slice pa pn pcap2,zI (pk:Nat)] 147->w4.heap.size<=b7->Hid (Sec1 w0 g vv dv e M K o w w5 pt sp b7 q)):=by
  intro b7 w5 h1 h2 h3 h4;have T:=V.rn h2;refine⟨Hj.rn T,⟨by rw[Hk,Hs];exact h3,fun hx=>?_,by decide⟩,Hi.trans (h2.mono Hi.size),by rw[hs];exact h1⟩;have:=V.at'.own_lt ((qjv (h2.block g V.at'.lt.2) _).1 hx);omega
 have hT:=zH HF;have HJ:Hid (zW w4 w4.drew):=(xL _ _).drew;have hSd:=ht.out _ HJ.out;go_upto_region 1 with fail
 go_cut [7]from 11 to 17 (fun s7 wx=>∃b7,s7=zP b7/\Hid (Sec1 w0 g vv dv e M K o w wx pt sp b7 q))
 case first=>
  have HK:=(show Hid _ from((xL w4.heap.size w4).alloc (yg _) (.cells #[zN,zI 0] 147)).drew);go_region_held3 (fun X=>(X.cell? (zO s 0)=some (zP g)/\X.cell? (zO (s+1) 2)=some (.string nm))/\X.cell? (zO g 3)=some (.slice so K.length cap)) (first|assumption|exact ht.out _ HK.out|exact ht.out _ HX.out|exact ht.out _ (HX.out.alloc HX.out.size _)|exact ht.out _ ((HX.out.setCell (p:=zO w4.heap.size 0) (yg _) _).setCell (p:=zO w4.heap.size 1) (yg _) _)) ((go_at_call 175;first|(refine xQ (hT.out _ HK.out) ?_;rintro e2 x ⟨rfl,hx⟩;have HX:=zH (HK.out.trans (hx.mono HK.out.size));have hz:x.heap[w4.heap.size]?=zK #[zN,zI 0] 147:=(hx.block w4.heap.size (by show _<(w4.alloc _).heap.size;rw[qcf];exact Nat.lt_succ_self _)).trans (xF w4 _);have z0:=qaa hz 0 _ rfl;have z1:=qaa hz 1 _ rfl;have f0:=xH x _ 0 _ _ hz;have f1:=xH x _ 1 _ _ hz;have HZ:=zH hz;clear hx hz;try dsimp only)|(refine xQ (hT.out _ HJ.out) ?_;rintro e2 x ⟨rfl,hx⟩;have HX:=zH (HJ.out.trans hx);clear hx;try dsimp only)))
  all_goals
   go_wp2
   go_meet
   first
   |exact⟨_,rfl,Hl.out _ _ h5 ((HX.out.setCell (p:=zO w4.heap.size 0) (yg _) _).setCell (p:=zO w4.heap.size 1) (yg _) _) (xG _ _ 1 _ _ _ (xG _ _ 0 _ _ _ HZ.out)) (yg _)⟩
   |exact⟨_,rfl,Hl.out _ _ (by have:=HX.out.size;omega) (HX.out.alloc HX.out.size _) (xF _ _) HX.out.size⟩
 case rest=>
  obtain⟨b7,rfl,HS⟩:=hcut;clear ht Hl hT HJ hSd h5;have Hx:=h.below HS.out.be;have hL:=q86 dv e.D q w0.heap.size wc Hx.base.size (hE.ds.below Hx.base);obtain⟨L,H5⟩:∃L,qvb (qbe e.D q)=L:=⟨_,rfl⟩;rw[qdk,Hk,Hs,H5]at hL;have I:r=if L≠decide (kd=4)then(o,0)else if kd=4 then bodyF K o else qc9 bodyF K (qnb e.D q) o:=by
   rw[<-hr];unfold Ev.section;rw[H4,H5]
  have u1:=(Hg.out wc HS.out.fr).2.1.1;have v0:wc.cell? (zO b7 0)=some (.slice pa pn pcap2):=by rw[<-Hk];exact HS.out.pv.cell 0 _ rfl
  have v1:wc.cell? (zO b7 1)=some (zI (pk:Nat)):=by rw[<-Hs];exact HS.out.pv.cell 1 _ rfl
  have hM:∀w6,Sec1 w0 g vv dv e M K o w w6 pt sp b7 q->w6.cell? (zO (s+1+1+1) 0)=some (zI 0)/\w6.frozen? (zO (s+1+1+1) 0)=false:=fun w6 h6=>by
   rw[<-hs];exact⟨h6.fr.d.cell 0 _ rfl,h6.fr.d.thaw 0⟩
  clear HF;by_cases he:L≠decide (kd=4)
  ·rw[if_pos he]at I
   have HL:Hid (zC 177 #[.agg #[.slice pa pn pcap2,zI (pk:Nat)]] wc fun e2 w6=>e2=.returned (.bool L)/\(w6.cell? (zO (s+1+1+1) 0)=some (zI 0)/\w6.frozen? (zO (s+1+1+1) 0)=false)/\Hid (OutC w0 g vv dv e K r w (.returned (zI 0)) (w6.setCell (zO (s+1+1+1) 0) (zI 0)))):=by
    refine hL.mono ?_;rintro e2 w6 ⟨rfl,hy⟩;have h6:=HS.out.next h hy;have Hy:=h.below h6.be;refine⟨rfl,hM w6 h6,?_⟩;rw[I,<-hs];exact⟨rfl,⟨K,Hy.at'.set h6.fr.d _ _,fun _=>rfl⟩,(h.rn h6.be).set h.base.size (by omega) h6.fr.d.gne _ _⟩
   clear hL I hM hq hr Hj Hi hG V Y Hx hJ h hE HB;have hcs:(((kd:Int)==4)=true/\L=false)\/(((kd:Int)==4)=false/\L=true):=by
    rcases hk with rfl|rfl
    ·cases L
     ·exact absurd rfl he
     ·exact .inr ⟨rfl,rfl⟩
    ·cases L
     ·exact .inl ⟨rfl,rfl⟩
     ·exact absurd rfl he
   clear he hk;rcases hcs with⟨HT,rfl⟩|⟨HT,rfl⟩
   all_goals
    go_wp2_with (go_at_call 177;refine xQ HL.out ?_;rintro e2 w6 ⟨rfl,⟨r0,r1⟩,HO⟩)
    exact⟨_,qiy rfl _ _ (s+1+1+1) (zI 0) rfl (by simp[World.cell?_setCell_same',r0]),HO.out⟩
  ·rw[if_neg he]at I
   have HM:L=decide (kd=4):=by simpa using he
   have Z:=zH (fun w6 (h6:Sec1 w0 g vv dv e M K o w w6 pt sp b7 q)=>let h:=Hg.out w6 h6.fr;And.intro h.1 h.2.2);by_cases h4:kd=4
   ·rw[if_pos h4]at I
    obtain rfl:L=true:=by rw[HM];simpa using h4
    have HT:((kd:Int)==4)=true:=by rw[h4];rfl
    have HL:Hid (zC 177 #[.agg #[.slice pa pn pcap2,zI (pk:Nat)]] wc fun e2 w6=>e2=.returned (.bool true)/\(w6.cell? (zO s 0)=some (zP g)/\w6.cell? (zO (s+1+1) 0)=some (.slice po n pcap)/\w6.cell? (zO (s+1+1) 1)=some (zF gm n n)/\w6.cell? (zO (s+1+1) 2)=some (zI (fr:Nat))/\w6.cell? (zO (s+1+1) 3)=some (zI (mt:Nat))/\w6.cell? (zO (s+1+1) 4)=some (zI qad)) /\
      Hid (zC 178 #[zP g,qjl po n pcap gm fr mt qad] w6 fun ed w7=>∃z,ed=.returned (zI z)/\(w7.cell? (zO (s+1+1+1) 0)=some (zI 0)/\w7.frozen? (zO (s+1+1+1) 0)=false)/\Hid (OutC w0 g vv dv e K r w (.returned (zI z)) (w7.setCell (zO (s+1+1+1) 0) (zI z))))):=by
     refine hL.mono ?_;rintro e2 w6 ⟨rfl,hy⟩;have h6:=HS.out.next h hy;have Hy:=h.below h6.be;refine⟨rfl,Z.out w6 h6,?_⟩;refine(HB K o w6 Hy (by omega) (by omega)).mono ?_;rintro ed w7 ⟨rfl,⟨K',hK1,hK2⟩,T⟩;have hN:=h6.fr.rn T;refine⟨_,rfl,by rw[<-hs];exact⟨hN.d.cell 0 _ rfl,hN.d.thaw 0⟩,?_⟩;rw[I,<-hs];exact⟨rfl,⟨K',hK1.set hN.d _ _,hK2⟩,((h.rn h6.be).trans T).set h.base.size (by omega) hN.d.gne _ _⟩
    clear hL I hM hq hr Hj Hi hG V Y Hx hJ h hE HB he HM Z h4 hk
    go_wp2_with (first
     |(go_at_call 178;refine xQ HBd.out ?_;rintro ed w7 ⟨z,rfl,⟨r0,r1⟩,HO⟩)
     | (go_at_call 177;refine xQ HL.out ?_;rintro e2 w6 ⟨rfl,⟨y0,y1,y2,y3,y4,y5⟩,HBd⟩))
    exact⟨_,qiy rfl _ _ (s+1+1+1) (zI z) rfl (by simp[World.cell?_setCell_same',r0]),HO.out⟩
   ·rw[if_neg h4]at I
    obtain rfl:L=false:=by rw[HM];simpa using h4
    have HT:((kd:Int)==4)=false:=yf.2 (by omega);have HL:Hid (zC 177 #[.agg #[.slice pa pn pcap2,zI (pk:Nat)]] wc fun e2 w6=>e2=.returned (.bool false)/\(w6.cell? (zO b7 0)=some (.slice pa pn pcap2)/\w6.cell? (zO b7 1)=some (zI (pk:Nat)))/\Hid (Sec1 w0 g vv dv e M K o w w6 pt sp b7 q)):=by
     refine hL.mono ?_;rintro e2 w6 ⟨rfl,hy⟩;have h6:=HS.out.next h hy;exact⟨rfl,⟨by rw[<-Hk];exact h6.pv.cell 0 _ rfl,by rw[<-Hs];exact h6.pv.cell 1 _ rfl⟩,h6⟩
    have H6:=zH (fun w=>q69 pa pn pcap2 pk w);clear hL hM hq hr Hj Hi hG V Y Hx hJ he HM h4 HS
    go_wp2_with (first
     |(go_at_call 177;refine xQ HL.out ?_;rintro e2 w6 ⟨rfl,⟨y0,y1⟩,HN⟩)
     | (go_at_call 179;refine xQ (H6.out _) ?_;rintro e2 w' ⟨rfl,rfl⟩))
    obtain⟨W0,hO⟩:∃W0,w6.alloc (.cells #[.slice pa pn pcap2,zI (pk:Nat)] 147)=W0:=⟨_,rfl⟩;have Hy:=h.below HN.out.be;have h7:zW w6 W0:=by rw[<-hO];exact zB _
    have Ht:Mine g W0 w6.heap.size #[.slice pa pn pcap2,zI (pk:Nat)] 147:=by rw[<-hO];exact Mine.new Hy.at' _ _ (by decide)
    have hu:=HN.out.next h h7;have hP:=h.below hu.be;obtain⟨pb,HP⟩:∃pb,w6.heap.size=pb:=⟨_,rfl⟩;have hws:w.heap.size<=pb:=by rw[<-HP];exact HN.out.be.size
    rw[HP]at Ht;have Hz:=Ht.lt;rw[hO,HP];have Hu:w0.heap.size<=w.heap.size:=h.base.size;have hU:SecI w0 g vv dv e M bodyF K o w pt sp pb #[.slice pa pn pcap2,zI (pk:Nat)] [] W0:=⟨rfl,hP.at',h.fin,yg _,h.rn hu.be,hu.fr,Ht⟩;have HU:PbAt W0 pb pa pn pcap2 (pcI q):=by rw[Hs];exact Ht.blk
    have hV:=qzz dv e.D q pa pn pcap2 Hk w0.heap.size pb 8 (by decide) W0 hP.base.size (hE.ds.below hP.base) HU;have HV:=hE.ds;have hA:w.heap.size<=W0.heap.size:=hu.be.size;clear HL H6 HN hO h7 u1 v0 v1 y0 y1 HP Z;refine(wpIn_wide (n:=9)).1 ?_
    refine wpIn_rangeFunc_ownH rfl (by decide) (gf:=218) (lb:=#[zP pb]) rfl trivial (enters_of func218 (by kernel_rfl) rfl)
     hV (fun h1 h2=>Kp.trans h1 h2) (fun A l ob ob' hl hob hc hk=>⟨belowK_b hP.base.size A l ob ob' hl hob hc hk,World.putObj_heap_other (by omega)⟩) (xL _ _) (fun _=>rfl)
     (SecI w0 g vv dv e M bodyF K o w pt sp pb #[.slice pa pn pcap2,zI (pk:Nat)])
     (fun c pre W=>c=.ret/\SecX w0 g vv dv e bodyF K o w pre W)
     (zbo Hu (by omega)) (fun c s A A' row hs hg hr=>⟨hs.1,zbn Hu (by omega) s A A' row hs.2 hg hr⟩) hU
     (fun x a' W=>∃Bx xa xn xcap xk,(Mine g W Bx #[.slice xa xn xcap,zI (xk:Nat)] 147/\Gb g W/\w.heap.size<=Bx/\pcA dv x=.slice xa xn xcap/\pcI x=xk)/\a'={ tmps:=#[zP g,.agg pt,.agg sp,zP s,zP (s+1),zP (s+1+1),zP (s+1+1+1),zP b7,.bool false,zP Bx,undef,u11,u12,u13,u14,u15,u16,u17,zP (s+1),zI (kd:Nat),.bool false,.agg #[.slice pa pn pcap2,zI (pk:Nat)],.bool false,.bool false,.bool false,.bool false,undef,undef,undef,.agg #[.slice pa pn pcap2,zI (pk:Nat)],.func (.func 218) #[] #[zP pb],.agg #[.slice xa xn xcap,zI (xk:Nat)],undef,undef,undef,undef,undef,undef,undef,undef,undef,undef,undef,undef,undef,undef,undef,undef,undef,undef,undef,undef,undef,undef,undef,undef,undef,undef,undef,undef,undef,undef],defers:=[] })
     (fun x a' _ A A' row hs hg hr=>by
      obtain⟨Bx,xa,xn,xcap,xk,⟨h1,h2,h3⟩,h4⟩:=hs;exact⟨Bx,xa,xn,xcap,xk,⟨h1.grown h2 hg (fun r e=>(hr r e).2),h2.grown hg (fun r e=>(hr r e).2),h3⟩,h4⟩)
     ?assign ?body ?done ?stop
    case assign=>
     rintro l pre x W K' hI y;obtain⟨xa,xn,xcap,HA⟩:=qgu HV x;obtain⟨xk,hB⟩:∃xk,pcI x=xk:=⟨_,rfl⟩;have hxv:qe0 dv x=.agg #[.slice xa xn xcap,zI (xk:Nat)]:=by rw[qdk,HA,hB]
     dsimp only;rw[hxv]
     gi_wp2
     have hQ:zW W (W.alloc (.cells #[.slice xa xn xcap,zI (xk:Nat)] 147)):=zB _;have T:Rn w0.heap.size g W (W.alloc (.cells #[.slice xa xn xcap,zI (xk:Nat)] 147)):=Rn.of_below hQ (yh hI.wr.lt.1 (yj hI.wr.lt.2)) hI.wr.lt.2
     exact y _ _ ((KeepsOthers.alloc _ _).from _) ⟨T.below,hQ.block _ hI.pv.lt⟩ ⟨hI.ok,hI.wr.below hQ,hI.fin,hI.steps,hI.rn.trans T,hI.fr.rn T,hI.pv.rn T⟩
      ⟨W.heap.size,xa,xn,xcap,xk,⟨Mine.new hI.wr _ _ (by decide),(hI.wr.below hQ).gb,hI.rn.below.size,HA,hB⟩,rfl⟩
    case body=>
     rintro l pre x a' W hl _ hI ⟨Bx,xa,xn,xcap,xk,⟨He,_,hBxs,HA,hB⟩,rfl⟩ _;obtain⟨oo,H7⟩:∃oo,(qc9 bodyF K pre o).1=oo:=⟨_,rfl⟩;have Hv:=hI.wr;have hC:=hI.fin;have HC:=hI.steps;rw[H7]at Hv hC HC;have HD:Wst w0 g vv dv e M K oo W:=⟨h.base.trans hI.rn.below,Hv,hC,h.ne⟩;obtain⟨sv,hv2,bp2,bv2,Hw⟩:=id Hv;obtain⟨so2,cap2,rfl,hKl,_⟩:=id Hw.stk;have k0:W.cell? (zO s 0)=some (zP g):=by rw[<-hs];exact hI.fr.a.cell 0 _ rfl
     have e0:W.cell? (zO Bx 0)=some (.slice xa xn xcap):=He.cell 0 _ rfl;have e1:W.cell? (zO Bx 1)=some (zI (xk:Nat)):=He.cell 1 _ rfl;have g3:W.cell? (zO g 3)=some (.slice so2 K.length cap2):=Hw.wb.all.2.2.2.1;have hi:=hI.fr.a;rw[hs]at hi;have Hm:∀w6,(W.alloc (.cells #[.slice xa xn xcap,zI (xk:Nat)] 147)).drew.grownBy w6 (Value.slice so2 K.length cap2).ownBlock->w6.cell? (zO s 0)=some (zP g)/\w6.cell? (zO Bx 0)=some (.slice xa xn xcap)/\w6.cell? (zO Bx 1)=some (zI (xk:Nat)):=fun w6 Hn=>by
      have h1:∀k,k<W.heap.size->some k≠(Value.slice so2 K.length cap2).ownBlock->w6.heap[k]?=W.heap[k]?:=fun k hk hn=>(Hn.block k (by show k<(W.alloc _).heap.size;rw[qcf];exact Nat.lt_succ_of_lt hk) hn).trans (((xL _ W).alloc (yg _) _).block k hk);exact⟨(xP (a:=zO s 0) (h1 s hi.lt (hi.apart g3))).trans k0,(xP (a:=zO Bx 0) (h1 Bx He.lt (He.apart g3))).trans e0,(xP (a:=zO Bx 1) (h1 Bx He.lt (He.apart g3))).trans e1⟩
     have ho:∀w7,Rn w0.heap.size g W w7->w7.cell? (zO s 0)=some (zP g)/\w7.cell? (zO Bx 0)=some (.slice xa xn xcap)/\w7.cell? (zO Bx 1)=some (zI (xk:Nat)):=fun w7 T=>⟨(hi.rn T).cell 0 _ rfl,(He.rn T).cell 0 _ rfl,(He.rn T).cell 1 _ rfl⟩;have J:zW W (W.alloc (.cells #[.slice xa xn xcap,zI (xk:Nat)] 147)).drew:=(zB _).drew;have ha:=(Hw.below J).st;obtain⟨i0,h8,H8,h9,hz2⟩:=info_parts q5z;have hW:oo.steps<=5000:=hC.steps
     gi_wp2
     refine Code.wpIn_mono (Q:=fun ex a' w'=>ex=.normal/\∃so3 cap3,a'={ tmps:=#[zP g,.agg pt,.agg sp,zP s,zP (s+1),zP (s+1+1),zP (s+1+1+1),zP b7,.bool false,zP Bx,undef,u11,u12,u13,u14,u15,u16,u17,zP (s+1),zI (kd:Nat),.bool false,.agg #[.slice pa pn pcap2,zI (pk:Nat)],.bool false,.bool false,.bool false,.bool false,undef,undef,undef,.agg #[.slice pa pn pcap2,zI (pk:Nat)],.func (.func 218) #[] #[zP pb],.agg #[.slice xa xn xcap,zI (xk:Nat)],zP g,zP g,zP g,.pointer (some (zO g 3)),.slice so2 K.length cap2,.agg #[.slice xa xn xcap,zI (xk:Nat)],zF W.heap.size 1 1,.slice so3 (K.length+1:Nat) cap3,zP g,.pointer (some (zO g 3)),undef,undef,undef,undef,undef,undef,undef,undef,undef,undef,undef,undef,undef,undef,undef,undef,undef,undef,undef,undef],defers:=[] }/\Hid (WrAt w' w0.heap.size g vv dv e (x::K) oo/\Rn w0.heap.size g W w')) (fun ex a' w9 hm=>?b2) (qog (S:=fun X=>X.cell? (zO s 0)=some (zP g)/\X.cell? (zO Bx 0)=some (.slice xa xn xcap)/\X.cell? (zO Bx 1)=some (zI (xk:Nat))) (by kernel_rfl) (by kernel_rfl) (fun⟨_,_,hx⟩=>by cases hx.1) ?b1)
     case b1=>
      have hS:W.drew.cell? (zO s 0)=some (zP g)/\W.drew.cell? (zO Bx 0)=some (.slice xa xn xcap)/\W.drew.cell? (zO Bx 1)=some (zI (xk:Nat)):=⟨k0,e0,e1⟩;have gd:W.drew.cell? (zO g 3)=some (.slice so2 K.length cap2):=g3;have ga:(W.alloc (.cells #[.slice xa xn xcap,zI (xk:Nat)] 147)).drew.cell? (zO g 3)=some (.slice so2 K.length cap2):=(J.cell (p:=zO g 3) Hv.lt.2).trans g3;have HW:(W.alloc (.cells #[.slice xa xn xcap,zI (xk:Nat)] 147)).drew.cell? (zO s 0)=some (zP g)/\(W.alloc (.cells #[.slice xa xn xcap,zI (xk:Nat)] 147)).drew.cell? (zO Bx 0)=some (.slice xa xn xcap)/\(W.alloc (.cells #[.slice xa xn xcap,zI (xk:Nat)] 147)).drew.cell? (zO Bx 1)=some (zI (xk:Nat)):=⟨(J.cell (p:=zO s 0) hi.lt).trans k0,(J.cell (p:=zO Bx 0) He.lt).trans e0,(J.cell (p:=zO Bx 1) He.lt).trans e1⟩;refine qbf (i:=0) (zP g) rfl (by kernel_rfl) (by kernel_rfl) (by kernel_rfl) (fun _ _ _ h=>by cases h.1) rfl (fun X hx=>?_) hS ?_
      ·obtain⟨x1,x2,x3⟩:=hx
       go_simp
      refine qbf (i:=1) (zP g) rfl (by kernel_rfl) (by kernel_rfl) (by kernel_rfl) (fun _ _ _ h=>by cases h.1) rfl (fun X hx=>?_) hS ?_
      ·obtain⟨x1,x2,x3⟩:=hx
       go_simp
      refine qbf (i:=2) (zP g) rfl (by kernel_rfl) (by kernel_rfl) (by kernel_rfl) (fun _ _ _ h=>by cases h.1) rfl (fun X hx=>?_) hS ?_
      ·obtain⟨x1,x2,x3⟩:=hx
       go_simp
      refine qbf (i:=3) (.pointer (some (zO g 3))) rfl (by kernel_rfl) (by kernel_rfl) (by kernel_rfl) (fun _ _ _ h=>by cases h.1) rfl (fun X hx=>?_) hS ?_
      ·obtain⟨x1,x2,x3⟩:=hx
       go_simp
      refine qbf (i:=5) (.agg #[.slice xa xn xcap,zI (xk:Nat)]) rfl (by kernel_rfl) (by kernel_rfl) (by kernel_rfl) (fun _ _ _ h=>by cases h.1) rfl (fun X hx=>?_) hS ?_
      ·obtain⟨x1,x2,x3⟩:=hx
       go_simp
      refine wpAnyH_ready (rs:=[4,6]) (by kernel_rfl) (by simp) (AllReadyH.cons rfl (fun K' y=>?_) (AllReadyH.cons rfl (fun K' y=>?_) AllReadyH.nil))
      ·go_simp
       refine y.out _ _ hS (fun hS=>?_);clear y K';refine rd (r:=6) (by kernel_rfl) rfl (fun K' y=>?_);go_simp
       refine y.out _ _ HW (fun hS=>?_);clear y K';refine rd (r:=7) (by kernel_rfl) rfl (fun K' y=>?_);refine qa6 rfl (.tmp 36) (.tmp 38) 150 rfl w0.heap.size 147 i0 (.agg #[zN,zI 0]) 2 32 underlying150 h8 H8 h9 hz2 rfl (by decide) (.slice so2 K.length cap2) K.length _ (by simp[Act.eval]) ha (zO W.heap.size 0) 1 1 [.slice xa xn xcap,zI (xk:Nat)] (by simp[Act.eval]) rfl (qcn W _ _) (by simp[Value.oneCell']) (by unfold maxLen;omega) (by omega) (by show w0.heap.size<=(W.alloc _).heap.size;rw[qcf];exact Nat.le_succ_of_le HD.base.size) ?_;intro v' w6 Ha Hn Ho;obtain⟨g3,cap3,rfl,_,_⟩:=qai Ha (by omega);obtain⟨⟨q3,q4⟩,hb,Hb⟩:=WrV.push Hw J x (by rw[HA,hB];exact Ha) Hn Ho;have HE:=Hm w6 Hn;refine y.out _ _ HE (fun hS=>?_);clear y K';obtain⟨x1,x2,x3⟩:=HE;refine rd (r:=8) (by kernel_rfl) rfl (fun K' y=>?_);go_simp
       refine y.out _ _ hS (fun hS=>?_);clear y K';refine rd (r:=9) (by kernel_rfl) rfl (fun K' y=>?_);go_simp
       refine y.out _ _ hS (fun hS=>?_);clear y K';refine rd (r:=10) (by kernel_rfl) rfl (fun K' y=>?_);go_simp
       refine y.out _ _ (ho _ Hb) (fun hS=>?_);refine wpAnyH_done (by kernel_rfl) ?_ _;exact⟨rfl,some (zO g3 0),cap3,rfl,⟨_,_,_,_,hb⟩,Hb⟩
      ·go_simp
       refine y.out _ _ HW (fun hS=>?_);clear y K';refine rd (r:=4) (by kernel_rfl) rfl (fun K' y=>?_);go_simp
       refine y.out _ _ HW (fun hS=>?_);clear y K';refine rd (r:=7) (by kernel_rfl) rfl (fun K' y=>?_);refine qa6 rfl (.tmp 36) (.tmp 38) 150 rfl w0.heap.size 147 i0 (.agg #[zN,zI 0]) 2 32 underlying150 h8 H8 h9 hz2 rfl (by decide) (.slice so2 K.length cap2) K.length _ (by simp[Act.eval]) ha (zO W.heap.size 0) 1 1 [.slice xa xn xcap,zI (xk:Nat)] (by simp[Act.eval]) rfl (qcn W _ _) (by simp[Value.oneCell']) (by unfold maxLen;omega) (by omega) (by show w0.heap.size<=(W.alloc _).heap.size;rw[qcf];exact Nat.le_succ_of_le HD.base.size) ?_;intro v' w6 Ha Hn Ho;obtain⟨g3,cap3,rfl,_,_⟩:=qai Ha (by omega);obtain⟨⟨q3,q4⟩,hb,Hb⟩:=WrV.push Hw J x (by rw[HA,hB];exact Ha) Hn Ho;have HE:=Hm w6 Hn;refine y.out _ _ HE (fun hS=>?_);clear y K';obtain⟨x1,x2,x3⟩:=HE;refine rd (r:=8) (by kernel_rfl) rfl (fun K' y=>?_);go_simp
       refine y.out _ _ hS (fun hS=>?_);clear y K';refine rd (r:=9) (by kernel_rfl) rfl (fun K' y=>?_);go_simp
       refine y.out _ _ hS (fun hS=>?_);clear y K';refine rd (r:=10) (by kernel_rfl) rfl (fun K' y=>?_);go_simp
       refine y.out _ _ (ho _ Hb) (fun hS=>?_);refine wpAnyH_done (by kernel_rfl) ?_ _;exact⟨rfl,some (zO g3 0),cap3,rfl,⟨_,_,_,_,hb⟩,Hb⟩
     case b2=>
      obtain⟨rfl,so3,cap3,rfl,H9⟩:=hm;have hp:=hI.fr.rn H9.out.2;have hpv9:=hI.pv.rn H9.out.2;have hY:=hI.rn.trans H9.out.2;have hW9:Wst w0 g vv dv e M (x::K) oo w9:=⟨h.base.trans hY.below,H9.out.1,hC,by simp⟩;have HQ:=HB (x::K) oo w9 hW9 (by omega) (by simp only[yK];omega);have Hf:=qrb bodyF K x pre o hI.ok;rw[H7]at Hf;obtain⟨u0,_,t0,t1,t2,t3,t4⟩:=Hg.out w9 hp;clear Hm ho ha J Hw k0 e0 e1 g3 HB;by_cases hz:(bodyF (x::K) oo).2=0
      ·have HBd:Hid (zC 178 #[zP g,qjl po n pcap gm fr mt qad] w9 fun ed w10=>ed=.returned (zI 0)/\Hid (WrAt w10 w0.heap.size g vv dv e (x::K) (bodyF (x::K) oo).1/\Rn w0.heap.size g w9 w10)):=by
        refine HQ.mono ?_;rintro ed w10 ⟨rfl,⟨K',h1,h2⟩,h3⟩;rw[h2 hz]at h1;exact⟨by rw[hz],h1,h3⟩
       clear HQ
       gi_wp2_with (refine⟨trivial,?_⟩;gi_at_call 178;refine CallsIn.mono (CallsIn.inRound l (callsIn_wide.2 HBd.out)) ?_;rintro ed w10 ⟨rfl,Hp⟩)
       have O:=hp.rn Hp.out.2;have hi:=O.a;rw[hs]at hi;obtain⟨sv4,hv4,bp4,bv4,HY⟩:=Hp.out.1;obtain⟨so4,cap4,rfl,hk1,hk2,hF,hR⟩:=WrV.pop HY;have k0:w10.cell? (zO s 0)=some (zP g):=hi.cell 0 _ rfl;have g3:w10.cell? (zO g 3)=some (.slice so4 (K.length+1) cap4):=HY.wb.all.2.2.2.1;have gf:w10.frozen? (zO g 3)=false:=HY.wb.all.2.2.2.2.2.2 3;have hZ:KeepsOthers W w9:=Hv.keepsOthers H9.out.2;have Hq:KeepsOthers w9 w10:=H9.out.1.keepsOthers Hp.out.2;have h0:=H9.out.2.trans Hp.out.2;refine Code.wpIn_mono (Q:=fun ex a' w'=>ex=.normal/\WrAt w' w0.heap.size g vv dv e K (bodyF (x::K) oo).1/\Rn w0.heap.size g w10 w') (fun ex a' w11 hm=>?c2) (qog (S:=fun X=>X.cell? (zO s 0)=some (zP g)) (by kernel_rfl) (by kernel_rfl) (fun⟨_,_,hx⟩=>by cases hx.1) ?c1)
       case c1=>
        have hS:w10.drew.cell? (zO s 0)=some (zP g):=k0;have Hc:∀w',Rn w0.heap.size g w10 w'->w'.cell? (zO s 0)=some (zP g):=fun w' hr=>(hi.rn hr).cell 0 _ rfl;have U:∀v,Rn w0.heap.size g w10 (w10.setCell (zO g 3) v)->Rn w0.heap.size g w10 (w10.setCell (zO g 3) v).drew:=fun v hr=>⟨hr.below.drew,hr.kept,hr.fresh⟩;have gd:w10.drew.cell? (zO g 3)=some (.slice so4 (K.length+1) cap4):=g3;have gfd:w10.drew.frozen? (zO g 3)=false:=gf;obtain⟨m,hm⟩:∃m,K.length+1=m:=⟨_,rfl⟩;have hsub:IntKind.i64.wrap ((m:Int) - 1)=(K.length:Int):=by rw[IntKind.wrap_i64]<;>(unfold maxLen at hk2;omega)
        have hn0:(0:Int)<=(K.length:Int):=by omega
        have hn1:(K.length:Int)<=(cap4:Int):=by omega
        have hn2:(K.length:Int)<=(m:Int):=by omega
        rw[hm]at gd;refine qbf (i:=0) (zP g) rfl (by kernel_rfl) (by kernel_rfl) (by kernel_rfl) (fun _ _ _ h=>by cases h.1) rfl (fun X hx=>?_) hS ?_
        ·have x1:X.cell? (zO s 0)=some (zP g):=hx
         clear Hc U;go_simp
        refine qbf (i:=1) (zP g) rfl (by kernel_rfl) (by kernel_rfl) (by kernel_rfl) (fun _ _ _ h=>by cases h.1) rfl (fun X hx=>?_) hS ?_
        ·have x1:X.cell? (zO s 0)=some (zP g):=hx
         clear Hc U;go_simp
        refine qbf (i:=2) (zP g) rfl (by kernel_rfl) (by kernel_rfl) (by kernel_rfl) (fun _ _ _ h=>by cases h.1) rfl (fun X hx=>?_) hS ?_
        ·have x1:X.cell? (zO s 0)=some (zP g):=hx
         clear Hc U;go_simp
        refine qbf (i:=3) (.pointer (some (zO g 3))) rfl (by kernel_rfl) (by kernel_rfl) (by kernel_rfl) (fun _ _ _ h=>by cases h.1) rfl (fun X hx=>?_) hS ?_
        ·have x1:X.cell? (zO s 0)=some (zP g):=hx
         clear Hc U;go_simp
        refine qbf (i:=5) (zP g) rfl (by kernel_rfl) (by kernel_rfl) (by kernel_rfl) (fun _ _ _ h=>by cases h.1) rfl (fun X hx=>?_) hS ?_
        ·have x1:X.cell? (zO s 0)=some (zP g):=hx
         clear Hc U;go_simp
        refine qbf (i:=6) (zP g) rfl (by kernel_rfl) (by kernel_rfl) (by kernel_rfl) (fun _ _ _ h=>by cases h.1) rfl (fun X hx=>?_) hS ?_
        ·have x1:X.cell? (zO s 0)=some (zP g):=hx
         clear Hc U;go_simp
        refine qbf (i:=7) (.pointer (some (zO g 3))) rfl (by kernel_rfl) (by kernel_rfl) (by kernel_rfl) (fun _ _ _ h=>by cases h.1) rfl (fun X hx=>?_) hS ?_
        ·have x1:X.cell? (zO s 0)=some (zP g):=hx
         clear Hc U;go_simp
        refine wpAnyH_ready (rs:=[4,8]) (by kernel_rfl) (by simp) (AllReadyH.cons rfl (fun K' y=>?_) (AllReadyH.cons rfl (fun K' y=>?_) AllReadyH.nil))
        ·go_simp
         refine y.out _ _ hS (fun hS=>?_);clear y K';refine rd (r:=8) (by kernel_rfl) rfl (fun K' y=>?_);go_simp
         refine y.out _ _ hS (fun hS=>?_);clear y K';refine rd (r:=9) (by kernel_rfl) rfl (fun K' y=>?_);go_simp
         refine y.out _ _ hS (fun hS=>?_);clear y K';refine rd (r:=10) (by kernel_rfl) rfl (fun K' y=>?_);go_simp
         refine y.out _ _ hS (fun hS=>?_);clear y K';refine rd (r:=11) (by kernel_rfl) rfl (fun K' y=>?_);go_simp
         refine y.out _ _ hS (fun hS=>?_);clear y K';refine rd (r:=12) (by kernel_rfl) rfl (fun K' y=>?_);go_simp
         refine y.out _ _ hS (fun hS=>?_);clear y K';refine rd (r:=13) (by kernel_rfl) rfl (fun K' y=>?_);go_simp
         refine y.out _ _ hS (fun hS=>?_);clear y K';refine rd (r:=14) (by kernel_rfl) rfl (fun K' y=>?_);go_simp
         refine y.out _ _ (Hc _ (U _ hR)) (fun hS=>?_);clear y K';refine wpAnyH_done (by kernel_rfl) ?_ _;exact⟨rfl,⟨_,_,_,_,hF.below (xL _ _).drew⟩,U _ hR⟩
        ·go_simp
         refine y.out _ _ hS (fun hS=>?_);clear y K';refine qbf (i:=9) (zI (m:Nat)) rfl (by kernel_rfl) (by kernel_rfl) (by kernel_rfl) (fun _ _ _ h=>by cases h.1) rfl (fun X hx=>?_) hS ?_
         ·clear Hc U
          go_simp
         refine qbf (i:=10) (zI (K.length:Nat)) rfl (by kernel_rfl) (by kernel_rfl) (by kernel_rfl) (fun _ _ _ h=>by cases h.1) rfl (fun X hx=>?_) hS ?_
         ·clear Hc U
          go_simp
         refine rd (r:=4) (by kernel_rfl) rfl (fun K' y=>?_);go_simp
         refine y.out _ _ hS (fun hS=>?_);clear y K';refine rd (r:=11) (by kernel_rfl) rfl (fun K' y=>?_);go_simp
         refine y.out _ _ hS (fun hS=>?_);clear y K';refine rd (r:=12) (by kernel_rfl) rfl (fun K' y=>?_);go_simp
         refine y.out _ _ hS (fun hS=>?_);clear y K';refine rd (r:=13) (by kernel_rfl) rfl (fun K' y=>?_);go_simp
         refine y.out _ _ hS (fun hS=>?_);clear y K';refine rd (r:=14) (by kernel_rfl) rfl (fun K' y=>?_);go_simp
         refine y.out _ _ (Hc _ (U _ hR)) (fun hS=>?_);clear y K';refine wpAnyH_done (by kernel_rfl) ?_ _;exact⟨rfl,⟨_,_,_,_,hF.below (xL _ _).drew⟩,U _ hR⟩
       case c2=>
        obtain⟨rfl,h1,h2⟩:=hm;have H0:KeepsOthers w10 w11:=Hp.out.1.keepsOthers h2;have hj:=h0.trans h2;rw[if_neg (by simpa using hz)]at Hf;refine⟨((hZ.trans Hq).trans H0).from _,⟨hj.below,((hI.pv.rn hj).blk).trans hI.pv.blk.symm⟩,⟨by rw[Hf],by rw[Hf];exact h1,by rw[Hf];exact hbF _ _ hC,by rw[Hf];exact yh HC (hbS _ _ hW),hI.rn.trans hj,hI.fr.rn hj,hI.pv.rn hj⟩⟩
      ·have HBd:Hid (zC 178 #[zP g,qjl po n pcap gm fr mt qad] w9 fun ed w10=>ed=.returned (zI (bodyF (x::K) oo).2)/\(w10.cell? (zO (s+1+1+1) 0)=some (zI 0)/\w10.frozen? (zO (s+1+1+1) 0)=false)/\Hid ((∃K',WrAt w10 w0.heap.size g vv dv e K' (bodyF (x::K) oo).1)/\Rn w0.heap.size g w9 w10)):=by
        refine HQ.mono ?_;rintro ed w10 ⟨rfl,⟨K',h1,h2⟩,h3⟩;have O:=hp.rn h3;exact⟨rfl,by rw[<-hs];exact⟨O.d.cell 0 _ rfl,O.d.thaw 0⟩,⟨K',h1⟩,h3⟩
       clear HQ;rw[if_pos hz]at Hf;obtain⟨z,H1⟩:∃z,(bodyF (x::K) oo).2=z:=⟨_,rfl⟩;rw[H1]at HBd hz
       gi_wp2_with (refine⟨trivial,?_⟩;gi_at_call 178;refine CallsIn.mono (CallsIn.inRound l (callsIn_wide.2 HBd.out)) ?_;rintro ed w10 ⟨rfl,⟨r0,r1⟩,Hp⟩)
       obtain⟨⟨K',h1⟩,h3⟩:=Hp.out;have hZ:KeepsOthers W w9:=Hv.keepsOthers H9.out.2;have Hq:KeepsOthers w9 w10:=H9.out.1.keepsOthers h3;have hj:=H9.out.2.trans h3;have H2:=(hI.fr.rn hj).d;have hse:=h1.set H2 0 (zI z);have hsr:=(hI.rn.trans hj).set Hu (by omega) H2.gne 0 (zI z);have hsm:=H2.put (zI z);rw[hs]at hse hsr hsm;refine⟨((hZ.trans Hq).trans (KeepsOthers.setCell _ _ _)).from _,rfl,⟨by rw[Hf,H1];exact hz,⟨K',by rw[Hf];exact hse⟩,hsr,by rw[Hf,H1,hs];exact hsm⟩⟩
    case done=>
     rintro D ys W hD rfl hI hK;have r0:W.cell? (zO (s+1+1+1) 0)=some (zI 0):=by rw[<-hs];exact hI.fr.d.cell 0 _ rfl
     have r1:W.frozen? (zO (s+1+1+1) 0)=false:=by rw[<-hs];exact hI.fr.d.thaw 0
     clear hV HV HB hU hu Ht Hz HU;go_wp2
     have hks:=(KeepsOthers.setCell W (zO (s+1+1+1) 0) (zI 0)).same D _ hK rfl;have Hr:=hI.fr.d;rw[hs]at Hr;obtain⟨h1,h2,h3⟩:=q73 Hu (hI.wr.set Hr 0 (zI 0)) (hI.rn.set Hu (by omega) Hr.gne 0 (zI 0)) (Hr.put (zI 0)) (yh hA hD) hks;refine⟨by simp,.inl ⟨_,_,rfl,run_takeDeferred hks,?_⟩⟩;refine⟨_,qiy rfl _ _ (s+1+1+1) (zI 0) rfl h3,?_⟩;rw[I];refine⟨by rw[hI.ok],⟨K,h1,fun _=>rfl⟩,h2⟩
    case stop=>
     rintro D c pre W hD H3 ⟨rfl,hX⟩ hK;obtain⟨K',hw⟩:=hX.wr;have Hr:=hX.res;rw[hs]at Hr;clear hV HV HB hU hu Ht Hz HU
     gi_wp2
     obtain⟨h1,h2,h3⟩:=q73 Hu hw hX.rn Hr (yh hA hD) hK;refine⟨by simp,.inl ⟨_,_,rfl,run_takeDeferred hK,?_⟩⟩;refine⟨_,qiy rfl _ _ (s+1+1+1) _ rfl h3,?_⟩;rw[I,qm2 bodyF K _ _ _ H3 hX.ok];exact⟨rfl,⟨K',h1,fun e=>absurd e hX.ok⟩,h2⟩
end
end Go.Proofs.YtfkhljmiehdgmaaGreatDoor

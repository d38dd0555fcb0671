/-
  Steps of the proof.
-/
import Derived.Test.YtfkhljmiehdgmaaGreatDoorCmBR
set_option maxRecDepth 100000
set_option maxHeartbeats 40000000
namespace Go.Proofs.YtfkhljmiehdgmaaGreatDoor
open Go.RowKit
theorem qr4{T:ByteArray}{L:List (ByteArray×ByteArray)}(h:(tkF T L).1.code=0):Pl.nmOf (tkF T L).2=(L.map (·.1)).map (fun y=>y.data.toList)/\Pl.qen (tkF T L).2 0=[]:=by
 unfold tkF at h |-;by_cases hf:qbq L=false
 ·rw[if_pos hf]at h;cases h
 rw[if_neg hf]at h |-;rw[(Pl.qjz _ h).1];refine⟨?_,rfl⟩;unfold Pl.nmOf qaq;simp[List.map_map,Function.comp_def]
theorem q3v(T:ByteArray)(L:List (ByteArray×ByteArray)):(Pl.qe9 T.data.toList (qaq L)).2=if(tkF T L).1.code≠0 then(tkF T L).1 else if(Pl.qef (tkF T L).2 T.data.toList.length).2.code≠0 then(Pl.qef (tkF T L).2 T.data.toList.length).2 else Pl.Ft.none:=by
 have hp:(qaq L).map (·.1)=qbh L:=by unfold qaq qbh;rw[List.map_map];rfl
 have hl:(qaq L).length=L.length:=by unfold qaq;rw[List.length_map]
 unfold Pl.qe9 tkF;rw[hp,hl];by_cases hf:qbq L=false
 ·have hc:6<L.length\/Pl.qg7 (qbh L)=false:=by
   rcases Nat.lt_or_ge 6 L.length with h|h
   ·exact .inl h
   ·unfold qbq at hf
    rw[decide_eq_true h,Bool.true_and]at hf;exact .inr hf
  rw[if_pos hf,if_pos hc];rfl
 ·have hc:¬(6<L.length\/Pl.qg7 (qbh L)=false):=by
   have hf:qbq L=true:=by simpa using hf
   unfold qbq at hf;rw[Bool.and_eq_true,decide_eq_true_eq]at hf;rintro(h|h)
   ·omega
   ·rw[hf.2]at h;cases h
  rw[if_neg hf,if_neg hc];by_cases h1:(Pl.qa4 (([],T.data.toList)::qaq L)).1.code≠0
  ·rw[if_pos h1,if_pos h1]
  rw[if_neg h1,if_neg h1];by_cases h2:(Pl.qef (Pl.qa4 (([],T.data.toList)::qaq L)).2 T.data.toList.length).2.code≠0
  ·rw[if_pos h2,if_pos h2]
  ·rw[if_neg h2,if_neg h2]
theorem q81{T:ByteArray}{L:List (ByteArray×ByteArray)}{RR R:List Pl.Vt}{f:Pl.Ft}{e:Option Pl.Sx}(hc:(tkF T L).1.code=0)(hR:q17 (tkF T L).2 (L.map (·.1)) RR)(h:Pl.Th (tkF T L).2 0 0 (Pl.qab (tkF T L).2 0).length Pl.Sx.start [] R f e) :
  (f.code≠0->(Pl.qe9 T.data.toList (qaq L)).2=f)/\(f.code=0->(∀y,e=some y->y≠Pl.Sx.start->(Pl.qe9 T.data.toList (qaq L)).2=⟨3,15,[],T.size⟩)/\((e=Option.none\/e=some Pl.Sx.start)->(Pl.qe9 T.data.toList (qaq L)).2=Pl.Ft.none)):=by
 obtain⟨hn,h0⟩:=qr4 hc;obtain⟨_,ha,Ha⟩:=q8c hc;rw[q3v,if_neg (by omega)];obtain⟨r1,r2,r3,r4⟩:=hR;rw[<-hn]at r3 r4;obtain⟨n,h⟩:=h;have hl:=Pl.q82 (RR:=RR) (fun i=>by
  cases hs:(tkF T L).2[i]? with
  |none=>unfold Pl.qab;rw[hs];exact .nil 0
  | some s=>unfold Pl.qab;rw[hs];exact Ha.wf i s hs) (by omega) r1 r4 r3 h T.data.toList.length
 rw[h0]at hl;refine⟨fun q=>?_,fun q=>⟨fun y hy hb=>?_,fun he=>?_⟩⟩
 ·rw[hl.1 q,if_pos q]
 ·rw[(hl.2 q).1 y hy hb,if_pos (by simp)];simp
 ·rw[(hl.2 q).2 he,if_neg (by simp[Pl.Ft.none])]
variable{w:World}{gw:Nat}{K:Sk}{E:List Pl.Et}{R:List Pl.Vt}{F:Pl.Ft}
def setF(w:World)(gw:Nat)(kd:Int)(wh:ByteArray)(a:Nat):World:=(((w.setCell ⟨gw,2,none⟩ (.int .i64 3)).setCell ⟨gw,3,none⟩ (.int .i64 kd)).setCell ⟨gw,4,none⟩ (.string wh)).setCell ⟨gw,5,none⟩ (.int .i64 a)
theorem q5x{k:Nat}(h:k≠gw)(kd:Int)(wh:ByteArray)(a:Nat):(setF w gw kd wh a).heap[k]?=w.heap[k]?:=by
 unfold setF;rw[Below.heap_setCell _ _ _ _ h,Below.heap_setCell _ _ _ _ h,Below.heap_setCell _ _ _ _ h,Below.heap_setCell _ _ _ _ h]
theorem WkAt.wrong{ve vS:Value}(h:WkAt K w gw ve vS E R F)(kd:Int)(wh:ByteArray)(a:Nat):WkAt K (setF w gw kd wh a) gw ve vS E R ⟨3,kd,wh.data.toList,a⟩/\Cw K.B w (setF w gw kd wh a):=by
 have Ha:∀(k:Nat) (cs:Array Value) (t:TypeId) (fz:Nat×Nat),w.heap[k]?=some (.cells cs t fz)->t≠92->(setF w gw kd wh a).heap[k]?=w.heap[k]?:=fun k cs t fz hk ht=>q5x (qae hk h.blk ht) _ _ _;have ha:∀(e:TypeId) (sz n:Nat) (v:Value) (xs:List Value),w.ownsRow K.B e sz v n xs->e≠92->(setF w gw kd wh a).ownsRow K.B e sz v n xs:=fun e sz n v xs hv he=>qac hv fun k hk=>by
  obtain⟨cur,hc⟩:=qad hv k hk;exact Ha _ _ _ _ hc he
 have h1:=heap_setCell_same w gw 2 _ _ (.int .i64 3) h.blk;have h2:=heap_setCell_same _ gw 3 _ _ (.int .i64 kd) h1;have h3:=heap_setCell_same _ gw 4 _ _ (.string wh) h2;have h4:=heap_setCell_same _ gw 5 _ _ (.int .i64 a) h3;refine⟨⟨⟨⟨(Ha _ _ _ _ h.at_.tp.blk (by decide)).trans h.at_.tp.blk,h.at_.tp.le,ha _ _ _ _ _ h.at_.tp.parts (by decide),fun i s hs=>⟨ha _ _ _ _ _ (h.at_.tp.row i s hs).1 (by decide),(h.at_.tp.row i s hs).2⟩⟩,ha _ _ _ _ _ h.at_.ends (by decide)⟩,h4,h.le,ha _ _ _ _ _ h.seen (by decide)⟩,((((Below.refl K.B w).setCell h.le _).setCell h.le _).setCell h.le _).setCell h.le _,fun k cs t fz hk ht=>Ha k cs t fz hk ht.2.1⟩
theorem ThP.fault{RR R0:List Pl.Vt}{E0:List Pl.Et}{r0 r j off len:Nat}{x0:Pl.Sx}{p':Pl.Sp}{ok:Bool}(h:ThP K RR R0 R E0 E r0 r j off len x0 F p' ok):F=Pl.Ft.none\/F.code≠0:=by
 obtain⟨e,⟨n,q⟩,_⟩:=h.th;exact Pl.qhu _ _ _ _ _ _ _ _ _ _ q
theorem qrr(K:Sk)(w:World)(gw:Nat)(ve vS:Value)(E:List Pl.Et)(R:List Pl.Vt)(F:Pl.Ft)(kd:Int)(wh:ByteArray)(a:Nat)(hw:WkAt K w gw ve vS E R F) :
  Calls Tryz.prog 42 #[.pointer (some ⟨gw,0,none⟩),.int .i64 kd,.string wh,.int .i64 a] w fun e w'=>e=.returned (.tuple #[])/\WkAt K w' gw ve vS E R ⟨3,kd,wh.data.toList,a⟩/\Cw K.B w w':=by
 obtain⟨q0,q1,q2,q3,q4,q5⟩:=qar hw.blk;obtain⟨f0,f1,f2,f3,f4,f5⟩:=qd0 hw.blk;have HW:=hd hw;clear hw;go_enter Tryz.func42,Tryz.ntmps42
 go_wp2_with fail
 all_goals go_end0
 all_goals exact⟨rfl,HW.out.wrong kd wh a⟩
variable{K:Sk}{w' w:World}{gw:Nat}{ve vS:Value}{E:List Pl.Et}{R:List Pl.Vt}{F:Pl.Ft}{p:Pl.Sp}
theorem Tm.went{w0 wr:World}{ve' vS':Value}{E':List Pl.Et}{R':List Pl.Vt}{F':Pl.Ft}(h:Tm K w0 wr gw ve vS E R F p)(hc:Cw K.B wr w')(hw:WkAt K w' gw ve' vS' E' R' F'):Tm K w0 w' gw ve' vS' E' R' F' p:=
 ⟨(hc.keep _ _ _ _ h.spot (by decide)).trans h.spot,(hc.keep _ _ _ _ h.res (by decide)).trans h.res,hw,h.ck.trans hc⟩
theorem qka{RR:List Pl.Vt}{w5:World}{E5:List Pl.Et}{R5:List Pl.Vt}{r r5 j off len:Nat}{x:Pl.Sx}{ok:Bool}{a:Act}(hB:K.B<=w.heap.size)(hm:Tm K w w5 gw ve vS E5 R5 F p)(ht:ThP K RR R R5 E E5 r r5 j off len x F p ok)(h8:a.tmps.getD 8 undef=.pointer (some ⟨w.heap.size+1,0,none⟩))(h9:a.tmps.getD 9 undef=.bool ok)(ha:a.defers=[]) :
  bodyPost Tryz.prog Tryz.f40 (fun e w'=>WthO K RR w gw E R r j off len x e w') .ret a (set6 w5 (w.heap.size+1) (.int .i64 p.mode) (.string ⟨p.tag.toArray⟩) (.string ⟨p.attr.toArray⟩) (.string ⟨p.inside.toArray⟩) (.string ⟨p.run.toArray⟩) (.int .i64 p.far)):=by
 have ho:=hm.out hB (.int .i64 p.mode) (.string ⟨p.tag.toArray⟩) (.string ⟨p.attr.toArray⟩) (.string ⟨p.inside.toArray⟩) (.string ⟨p.run.toArray⟩) (.int .i64 p.far);refine qbm Tryz.results40 (w.heap.size+1) _ Tryz.underlying94 rfl (by kernel_rfl) h8 ⟨_,_,hm.res,rfl⟩ ha _ _ _ _ _ _ _ h9 ?_;exact⟨p,ok,ve,vS,E5,R5,r5,F,rfl,ho.1,ho.2,ht⟩
theorem WkAt.stays{w1:World}(h:WkAt K w gw ve vS E R F)(hb:Below w.heap.size w w1)(ha:w1.grownBy w' vS.ownBlock){k:Nat}{cs:Array Value}{t:TypeId}{fz:Nat×Nat}(hk:w.heap[k]?=some (.cells cs t fz))(ht:t≠143/\t≠92)(u:Value):(w'.setCell ⟨gw,1,none⟩ u).heap[k]?=some (.cells cs t fz):=
 ((Below.heap_setCell _ _ _ _ (qae hk h.blk ht.2)).trans (h.apart hb ha hk ht.1)).trans hk
theorem q6w(x:Pl.Sx):x.hole.2=0\/x.hole.2 > 0:=by
 unfold Pl.Sx.hole
 repeat' split
 all_goals simp
theorem q8y(hN:Pl.nmOf K.S=K.nm){t:List UInt8}{m:Nat}(h:Pl.qb6 K.nm t=some m):Pl.qen K.S (m+1)=t:=by
 rw[<-hN]at h;unfold Pl.qb6 at h;rw[List.findIdx?_eq_some_iff_getElem]at h;obtain⟨h1,h2,_⟩:=h;have h3:(Pl.nmOf K.S)[m]?=some t:=by rw[List.getElem?_eq_getElem h1];exact congrArg some (eq_of_beq h2)
 unfold Pl.nmOf at h3;rw[List.getElem?_map,List.getElem?_drop,Nat.add_comm]at h3;unfold Pl.qen;cases hs:K.S[m+1]? with
 |none=>rw[hs]at h3;cases h3
 |some s=>rw[hs]at h3;exact Option.some.inj h3
def frT(gw g7 off len cap:Nat)(wh:ByteArray)(p:Pl.Sp)(n:Nat)(v10 v11:Value)(u:Nat->Value):Array Value:=#[.pointer (some ⟨gw,0,none⟩),.slice (some ⟨g7,off*6,none⟩) len cap,.string wh,.agg #[.int .i64 p.mode,.string ⟨p.tag.toArray⟩,.string ⟨p.attr.toArray⟩,.string ⟨p.inside.toArray⟩,.string ⟨p.run.toArray⟩,.int .i64 p.far],undef,undef,undef,.pointer (some ⟨n,0,none⟩),.pointer (some ⟨n+1,0,none⟩),u 9,v10,v11,u 12,u 13,u 14,u 15,u 16,u 17,u 18,u 19,u 20,u 21,u 22,u 23,u 24,u 25,u 26,u 27,u 28,u 29,u 30,u 31,u 32,u 33,u 34,u 35,u 36,u 37,u 38,u 39,u 40,u 41,u 42,u 43,u 44,u 45,u 46,u 47,u 48,u 49,u 50,u 51,u 52,u 53,u 54,u 55,u 56,u 57,u 58,u 59,u 60,u 61,u 62,u 63,u 64,u 65,u 66,u 67,u 68,u 69,u 70,u 71,u 72,u 73,u 74,u 75,u 76,u 77,u 78,u 79,u 80,u 81,u 82,u 83,u 84,u 85,u 86,u 87,u 88,u 89,u 90,u 91,u 92,u 93,u 94,u 95,u 96,u 97,u 98,u 99,u 100,u 101,u 102,u 103,u 104,u 105,u 106,u 107,u 108,u 109,u 110,u 111,u 112,u 113,u 114,u 115,u 116,u 117,u 118,u 119,u 120,u 121,u 122,u 123,u 124,u 125,u 126,u 127,u 128,u 129,u 130,u 131,u 132,u 133,u 134,u 135,u 136,u 137,u 138,u 139,u 140,u 141,u 142,u 143,u 144,u 145,u 146,u 147,u 148,u 149,u 150,u 151,u 152,u 153,u 154,u 155,u 156,u 157,u 158,u 159,u 160,u 161,u 162,u 163,u 164,u 165,u 166,u 167,u 168,u 169,u 170,u 171,u 172,u 173,u 174,u 175,u 176,u 177,u 178,u 179,u 180,u 181,u 182,u 183,u 184,u 185,u 186,u 187,u 188,u 189,undef]
def ThrQ(K:Sk)(RR:List Pl.Vt)(w:World)(gw g7 cap:Nat)(wh:ByteArray)(p:Pl.Sp)(E:List Pl.Et)(R:List Pl.Vt)(r j off len i:Nat)(x:Pl.Sx):Exit->Act->World->Prop
 |.ret,a,X=>bodyPost Tryz.prog Tryz.f40 (fun e w'=>WthO K RR w gw E R r j off len x e w') .ret a X
 |.normal,a,X=>∃(j':Nat) (p'':Pl.Sp) (x'':Pl.Sx) (ve'' vS'':Value) (E'':List Pl.Et) (R'':List Pl.Vt) (r'':Nat) (v10:Value),i<=j'/\v10=.int .i64 j'/\Tm K w X gw ve'' vS'' E'' R'' Pl.Ft.none p''/\Tq K RR R R'' E E'' r r'' j off len (off+(j'+1)) x x'' p''/\a=⟨frT gw g7 off len cap wh p w.heap.size v10 (a.tmps.getD 11 undef) (fun n=>a.tmps.getD n undef),[]⟩
 |_,_,_=>False
structure ThrX(K:Sk)(RR:List Pl.Vt)(k:Nat)(w:World)(wh:ByteArray)(E:List Pl.Et)(R:List Pl.Vt)(r j off len cap g7:Nat):Prop where
 rr:RR.length<=256/\(∀u∈RR,Pl.Cm u.2/\u.1<K.N.length)/\∀u∈RR,K.cl RR (u.1+1) 0 u.2
 ht:WthC K RR k
 hw:wh.data.toList=Pl.qen K.S j
 hj:j<=K.N.length
 ho:off+len<=(Pl.qab K.S j).length
 l2:len<=2000
 lc:len<=cap
 h7:∃cap7,K.pv j=.slice (some ⟨g7,0,none⟩) (Pl.qab K.S j).length cap7
 hb:K.B<=w.heap.size
 hk:(257 - R.length)*3000+len<=k+1
 hr:r+4000000*(429926418001 - E.length)+4000000*(257 - R.length)+2000*len<=1900000000000000000
structure ThrY(K:Sk)(RR:List Pl.Vt)(w:World)(gw:Nat)(E:List Pl.Et)(R:List Pl.Vt)(r j off len:Nat)(x:Pl.Sx)(i:Nat)(p':Pl.Sp)(x':Pl.Sx)(ve' vS':Value)(E':List Pl.Et)(R':List Pl.Vt)(r':Nat)(pt:Pl.Pt)(kd:Int)(PB:Nat)(w2:World):Prop where
 fm:Tm K w w2 gw ve' vS' E' R' Pl.Ft.none p'
 ft:Tq K RR R R' E E' r r' j off len (off+i) x x' p'
 fp:(Pl.qab K.S j)[off+i]?=some pt
 fi:i<len
 fb:∃(pvo:Option Addr) (pvn pvc:Nat) (tn:Bool) (d:Nat),d=(if pt.kind=3\/pt.kind=4 then pt.mate - (off+i)else 0)/\w2.heap[PB]?=some (.cells #[.int .i64 kd,.int .i64 pt.pos,.string ⟨pt.text.toArray⟩,.slice pvo pvn pvc,.bool tn,.int .i64 d] 136 (0,0))
 fr:r'<=1900000000000000000
def qlp(t:Nat):Code->Option Code
 |.seq (.region k o b) y=>if k==t then some (.seq (.region k o b) y)else qlp t y
 |.seq a b=>match qlp t a with
   |some c=>some c
   |none=>qlp t b
 |.cond _ a b=>match qlp t a with
   |some c=>some c
   |none=>qlp t b
 |.block _ c=>qlp t c
 |.loop c=>qlp t c
 |.scope c=>qlp t c
 |_=>none
noncomputable def thrFrom (t:Nat):Code:=((Tryz.f40.body.bind (qlp t)).getD .skip)
theorem q8o(K:Sk)(RR:List Pl.Vt)(k:Nat)(w:World)(gw:Nat)(wh:ByteArray)(E:List Pl.Et)(R:List Pl.Vt)(r j off len cap g7:Nat)(x:Pl.Sx)(i:Nat)(p p':Pl.Sp)(x':Pl.Sx)(ve' vS':Value)(E':List Pl.Et)(R':List Pl.Vt)(r':Nat)(pt:Pl.Pt)(PB:Nat)(w2:World)(hC:ThrX K RR k w wh E R r j off len cap g7)(hI:ThrY K RR w gw E R r j off len x i p' x' ve' vS' E' R' r' pt 2 PB w2)(k34:pt.kind=3\/pt.kind=4)(a:Act)(ha:a=⟨frT gw g7 off len cap wh p w.heap.size (.int .i64 i) (.pointer (some ⟨PB,0,none⟩)) (fun n=>a.tmps.getD n undef),[]⟩) :
  (thrFrom 19).wp Tryz.prog (ThrQ K RR w gw g7 cap wh p E R r j off len i x) a w2:=by
 rw[ha];generalize (fun n=>a.tmps.getD n undef)=u;clear ha a;obtain⟨HC,HT,hD,hj,hq,hE,HY,⟨cap7,h7⟩,hB,hk,hr⟩:=hC;obtain⟨hM,hP,HE,hZ,⟨pvo,pvn,pvc,tn,d,hF,ho⟩,hG⟩:=hI;have hg:=hd hB;have Hi:=hd hM;have HP:=hd hP;have Ho:=hd HE;have Hq:=(show Hid (off+i<off+len) by show _<_;omega);have HD:=hd hF;have Hf:=hd ho;have HG:=hd HC;have Hu:=hd (And.intro hk hr);have hO:=hd hG;have HI:=hd hD;have HJ:=hd hj;have H7:=hd h7;have HO:=hd hq;obtain⟨c0,c1,c2,c3,c4,c5⟩:=qar ho;obtain⟨q0,q1,q2,q3,q4,q5⟩:=qar hM.spot;clear hM hP HE hF ho HC hk hr hG hD hj h7 hq hB
 conv=>arg 2;whnf
 unfold frT;dsimp only;have Hb:=Pl.q25 HP.out.wf Ho.out Hq.out k34;have hc:=hd Hb;have hJ:d=pt.mate - (off+i):=by rw[HD.out,if_pos k34]
 have hK:=hd hJ;have H0:i+d<len:=by have:=Hb.1;have:=Hb.2.1;omega
 have h1:1<=d:=by have:=Hb.1;omega
 have Hr:=hd k34;have Ht:=hd (fun(W':World) (hW:Tm K w W' gw ve' vS' E' R' Pl.Ft.none p')=>HT W' gw ve' vS' (.slice (some ⟨g7,off*6+(i+1)*6,none⟩) (d - 1) (cap - (i+1))) wh E' R' r' j (off+i+1) (d - 1) x' p' hW.wk ⟨_,_,rfl,by omega,fun _=>⟨g7,cap7,H7.out,by rw[Nat.add_assoc off i 1,Nat.add_mul off]⟩⟩ HI.out HJ.out (by have:=HO.out;omega) (by rw[show off+i+1+(d - 1)=pt.mate by have:=hc.out.1;omega];exact hc.out.2.2.1) HP.out.inv HP.out.cm HP.out.par HP.out.sp HP.out.sub HP.out.nod (HP.out.cl.next ⟨pt,Ho.out,.inr (.inr (.inl ⟨Hr.out,.inl rfl,rfl⟩))⟩) (Nat.le_trans hg.out (by have:=hW.lt;omega)) (by have:=Hu.out.1;have:=HP.out.pre.length_le;omega) (by have:=Hu.out.2;have:=HP.out.le;have:=HP.out.lenE;have:=HP.out.pre.length_le;have h0:=HP.out.inv.few;simp only[List.length_nil]at h0;have:=Pl.qfh _ _ HP.out.nod HP.out.sub;have:=HG.out.1;omega));unfold qau qag at Ht;clear Hb hJ k34;have hQ:IntKind.i64.wrap ((i:Int)+1)=(i:Int)+1:=by rw[IntKind.wrap_i64];omega
 have H1:IntKind.i64.wrap ((i:Int)+(d:Int))=(i:Int)+(d:Int):=by rw[IntKind.wrap_i64];omega
 have HQ:(i:Int)+1<=(i:Int)+(d:Int):=by omega
 have hR:(i:Int)+(d:Int)<=(cap:Int):=by omega
 have HR:(1:Int)<=(d:Int):=by omega
 have hS:(0:Int)<=(i:Int)+1:=by omega
 have HS:(0:Int)<=(i:Int)+(d:Int):=by omega
 have hT:((i:Int)+1).toNat=i+1:=by omega
 have hU:((i:Int)+(d:Int)).toNat=i+d:=by omega
 have HU:¬cap=i+1:=by omega
 have hV:i+d - (i+1)=d - 1:=by omega
 have hs:=(lta Hi.out.spot);have Hl:=hd (fun o=>qar ((heap_alloc_old w2 o hs).trans Hi.out.spot));have q0':=fun o=>(Hl.out o).1;have q1':=fun o=>(Hl.out o).2.1;have q2':=fun o=>(Hl.out o).2.2.1;have q3':=fun o=>(Hl.out o).2.2.2.1;have q4':=fun o=>(Hl.out o).2.2.2.2.1;have q5':=fun o=>(Hl.out o).2.2.2.2.2;have c5':=fun o=>qaa ((heap_alloc_old w2 o (lta Hf.out)).trans Hf.out) 5 _ rfl;have HV:=(show Hid (w.heap.size+1<w2.heap.size)from Hi.out.lt);clear hs;go_upto_region 19 with fail
 go_cut [17,18]from 26 to 189 (fun s17 s18 wx=>∃(ok:Bool) (TB:Nat),s17=.pointer (some ⟨TB,0,none⟩)/\s18=.bool ok/\Hid (∃p5 ve5 vS5 E5 R5 r5 F5,Tm K w wx gw ve5 vS5 E5 R5 F5 p'/\wx.heap[TB]?=some (.cells (qag p5) 94 (0,0))/\wx.heap[PB]?=some (.cells #[.int .i64 (2),.int .i64 pt.pos,.string ⟨pt.text.toArray⟩,.slice pvo pvn pvc,.bool tn,.int .i64 d] 136 (0,0))/\ThP K RR R' R5 E' E5 r' r5 j (off+i+1) (d - 1) x' F5 p5 ok))
 case first=>
  have hm:=(show Hid _ from((Below.refl w2.heap.size w2).alloc (Nat.le_refl _) (.cells #[.int .i64 0,.string ⟨#[]⟩,.string ⟨#[]⟩,.string ⟨#[]⟩,.string ⟨#[]⟩,.int .i64 0] 94)).drew)
  go_region_with (go_at_call 40;first
   |(refine Calls.mono (Ht.out (w2.alloc (.cells #[.int .i64 0,.string ⟨#[]⟩,.string ⟨#[]⟩,.string ⟨#[]⟩,.string ⟨#[]⟩,.int .i64 0] 94)).drew (Hi.out.kept hm.out hg.out)) ?_;rintro e w8 ⟨p5,ok,ve5,vS5,E5,R5,r5,F5,rfl,Hj,Hc,Hk⟩;unfold qau qag;have HZ:=(show Hid _ from(Hc.keep _ _ _ _ (heap_alloc_new w2 (.cells #[.int .i64 0,.string ⟨#[]⟩,.string ⟨#[]⟩,.string ⟨#[]⟩,.string ⟨#[]⟩,.int .i64 0] 94)) (by decide)).trans (heap_alloc_new w2 (.cells #[.int .i64 0,.string ⟨#[]⟩,.string ⟨#[]⟩,.string ⟨#[]⟩,.string ⟨#[]⟩,.int .i64 0] 94)));obtain⟨u0,u1,u2,u3,u4,u5⟩:=qar HZ.out;obtain⟨f0,f1,f2,f3,f4,f5⟩:=qd0 HZ.out;have hu:=(show Hid _ from((Hc.keep _ _ _ _ ((heap_alloc_old w2 _ (lta Hf.out)).trans Hf.out) (by decide)).trans ((heap_alloc_old w2 _ (lta Hf.out)).trans Hf.out)));have Hv:=(show Hid _ from(Hi.out.kept hm.out hg.out).went Hc Hj);have Ha:=hd Hk;clear Hj Hc Hk;dsimp only)
   | (refine Calls.mono (Ht.out w2.drew Hi.out.drew) ?_;rintro e w8 ⟨p5,ok,ve5,vS5,E5,R5,r5,F5,rfl,Hj,Hc,Hk⟩;unfold qau qag;have Hv:=hd (Hi.out.drew.went Hc Hj);have hu:=(show Hid _ from(Hc.keep _ _ _ _ (show w2.drew.heap[PB]?=_ from Hf.out) (by decide)).trans Hf.out);have Ha:=hd Hk;clear Hj Hc Hk;dsimp only))
  all_goals
   go_wp2_with fail
   go_meet
   first
   |exact⟨ok,_,rfl,rfl,p5,ve5,vS5,E5,R5,r5,F5,Hv.out.setFar hg.out HZ.out HV.out _ _ _ _ _ _,qg2 HZ.out _ _ _ _ _ _,(qci (by have:=(lta Hf.out);omega) _ _ _ _ _ _).trans hu.out,Ha.out⟩
   |exact⟨ok,_,rfl,rfl,p5,ve5,vS5,E5,R5,r5,F5,Hv.out.kept (ba _) hg.out,heap_alloc_new _ _,(heap_alloc_old _ _ (Array.getElem?_eq_some_iff.1 hu.out).1).trans hu.out,Ha.out⟩
 case rest=>
 obtain⟨ok,TB,rfl,rfl,HK⟩:=hcut;obtain⟨p5,ve5,vS5,E5,R5,r5,F5,hL,HL,ho,Hk⟩:=HK.out;have Hm:=hd hL;have hn:=hd ho;have Hs:=hd HL;have Ha:=(show Hid (ThP K RR R' R5 E' E5 r' r5 j (off+i+1) (pt.mate - (off+i+1)) x' F5 p5 ok)from by rw[show pt.mate - (off+i+1)=d - 1 by rw[hK.out];omega];exact Hk);clear q0 q1 q2 q3 q4 q5 q0' q1' q2' q3' q4' q5' c0 c1 c2 c3 c4 c5 c5' Hl Hi Hf Ht HK hL HL ho Hk hQ HQ hR HR hS HS hT hU HU hV;have s2:=qaa Hm.out.wk.blk 2 _ rfl;rcases Ha.out.fault with hf|hf
 rotate_left
 ·have H2:¬(F5.code:Int)=0:=by omega
  have HF:=hd hf;clear hf;obtain⟨q0,q1,q2,q3,q4,q5⟩:=qar Hm.out.spot;obtain⟨r0,r1,r2,r3,r4,r5'⟩:=qar Hm.out.res;obtain⟨f0,f1,f2,f3,f4,f5⟩:=qd0 Hm.out.res;go_wp2_with fail
  show bodyPost Tryz.prog Tryz.f40 (fun e w'=>WthO K RR w gw E R r j off len x e w') .ret _ _;refine qka hg.out Hm.out (HP.out.secBad Ho.out Hq.out Hr.out ⟨hc.out.1,hc.out.2.1⟩ Ha.out HF.out) ?_ ?_ ?_
  all_goals rfl
 subst hf;rw[show ((Pl.Ft.none.code:Nat):Int)=0 from rfl]at s2;have hw:=(show Hid (r5<=1900000000000000000) from by
  have:=Hu.out.2;have:=HP.out.le;have:=HP.out.lenE;have:=HP.out.pre.length_le;have:=Ha.out.le;have:=Ha.out.lenE;have:=Ha.out.pre.length_le;have:=hc.out;have h0:=Ha.out.inv.few;simp only[List.length_nil]at h0;have:=Pl.qfh _ _ Ha.out.nod Ha.out.sub;have:=HG.out.1;show _<=_;omega)
 have Hw:=fun W'=>qit p5 W' (by have:=Ha.out.sp.tag;omega) (by have:=Ha.out.sp.attr;omega) (by have:=Ha.out.sp.inside;omega) (by have:=Ha.out.sp.run;have:=hw.out;omega);have hx:=fun W'=>qit p' W' (by have:=HP.out.sp.tag;omega) (by have:=HP.out.sp.attr;omega) (by have:=HP.out.sp.inside;omega) (by have:=HP.out.sp.run;have:=hO.out;omega);unfold qau qag qep qcv at Hw hx;have HW:=hd Hw;have hX:=hd hx;clear Hw hx;obtain⟨u0,u1,u2,u3,u4,u5⟩:=qar Hs.out;go_upto_region 22 with fail
 go_upto_region 23 with(go_at_call 41;refine(HW.out _).mono ?_;rintro e w6 ⟨rfl,hb⟩;have Hx:=hd hb;clear hb;dsimp only)
 have hm:=hd (Hx.out.alloc Hx.out.size (.cells #[.int .i64 p5.view.mode,.int .i64 p5.view.elem,.int .i64 p5.view.attr,.int .i64 p5.view.ends,.int .i64 p5.view.esc,.int .i64 p5.view.pct,.int .i64 p5.view.link,.string ⟨p5.view.name.toArray⟩,.bool p5.view.ref] 111));have HA:=hd (heap_alloc_new w6 (.cells #[.int .i64 p5.view.mode,.int .i64 p5.view.elem,.int .i64 p5.view.attr,.int .i64 p5.view.ends,.int .i64 p5.view.esc,.int .i64 p5.view.pct,.int .i64 p5.view.link,.string ⟨p5.view.name.toArray⟩,.bool p5.view.ref] 111));generalize World.alloc w6 _=w7 at hm HA |-;generalize w6.heap.size=AB at HA |-;have Hn:=hd (Hm.out.kept hm.out hg.out);have he:=(show Hid _ from(hm.out.block _ (lta hn.out)).trans hn.out);clear Hx hm Hm hn Hs u0 u1 u2 u3 u4 u5 s2;obtain⟨q0,q1,q2,q3,q4,q5⟩:=qar Hn.out.spot;go_upto_region 24 with(go_at_call 41;refine(hX.out _).mono ?_;rintro e w8 ⟨rfl,hb⟩;have hy:=hd hb;clear hb;dsimp only)
 have He:=hd (hy.out.alloc hy.out.size (.cells #[.int .i64 p'.view.mode,.int .i64 p'.view.elem,.int .i64 p'.view.attr,.int .i64 p'.view.ends,.int .i64 p'.view.esc,.int .i64 p'.view.pct,.int .i64 p'.view.link,.string ⟨p'.view.name.toArray⟩,.bool p'.view.ref] 111));have Hy:=hd (heap_alloc_new w8 (.cells #[.int .i64 p'.view.mode,.int .i64 p'.view.elem,.int .i64 p'.view.attr,.int .i64 p'.view.ends,.int .i64 p'.view.esc,.int .i64 p'.view.pct,.int .i64 p'.view.link,.string ⟨p'.view.name.toArray⟩,.bool p'.view.ref] 111));generalize World.alloc w8 _=w9 at He Hy |-;generalize w8.heap.size=BB at Hy |-;have Hg:=hd (Hn.out.kept He.out hg.out);have ht:=(show Hid _ from(He.out.block _ (lta he.out)).trans he.out);have hz:=(show Hid _ from(He.out.block _ (Array.getElem?_eq_some_iff.1 HA.out).1).trans HA.out);clear hy He Hn he HA q0 q1 q2 q3 q4 q5;obtain⟨c0,c1,c2,c3,c4,c5⟩:=qar ht.out;have H3:(i:Int)+(d:Int)=((pt.mate - off:Nat):Int):=by have:=hc.out.1;have:=hK.out;omega
 have HX:pt.mate - off<=2000:=by have:=hc.out.2.1;omega
 have HM:=(show Hid (i<=pt.mate - off) by show _<=_;have:=hc.out.1;omega);have hN:off+(pt.mate - off+1)=pt.mate+1:=by have:=hc.out.1;omega
 have HN:=hd hN;clear hN;cases ok
 ·have hl:=hd (HP.out.sec Ho.out Hq.out Hr.out Ha.out rfl fun q=>by cases q)
  rw[<-HN.out]at hl;go_wp2_with fail
  refine⟨pt.mate - off,_,_,_,_,_,_,_,_,HM.out,?_,Hg.out,hl.out,rfl⟩
  first|rfl|(congr 1;unfold wrap64;omega)
 have hp:VwFit p5.view:=by
  obtain⟨e,_,h2,_⟩:=Ha.out.th;obtain⟨y,_,h3,h4⟩:=h2 rfl;rw[Pl.qc8 _ _ h4.fit.fit.ok h3];exact qet h4
 have Hp:VwFit p'.view:=by rw[Pl.qc8 _ _ HP.out.cm.fit.fit.ok HP.out.par];exact qet HP.out.cm
 obtain⟨a0,a1,a2,a3,a4,a5,a6,a7,a8⟩:=q45 hz.out;obtain⟨b0,b1,b2,b3,b4,b5,b6,b7,b8⟩:=q45 Hy.out;by_cases hv:p5.view=p'.view
 ·have hl:=hd (HP.out.sec Ho.out Hq.out Hr.out Ha.out rfl fun _=>hv)
  rw[<-HN.out]at hl;have Hz:=fun W'=>qym W' hp Hp (b:=true) ⟨fun _=>hv,fun _=>rfl⟩;have hA:=fun W'=>qlz W' p5.view p'.view;have HB:=fun W'=>qjn W' hp Hp (b:=true) ⟨fun _=>hv,fun _=>rfl⟩;unfold qep qcv at Hz hA HB;clear hv hp Hp;go_wp2_with fail
  refine⟨pt.mate - off,_,_,_,_,_,_,_,_,HM.out,?_,Hg.out,hl.out,rfl⟩
  first|rfl|(congr 1;unfold wrap64;omega)
 have hl:=hd (HP.out.branch Ho.out Hq.out Hr.out ⟨hc.out.1,hc.out.2.1⟩ Ha.out rfl hv);rw[<-HI.out]at hl;have Hz:=fun W'=>qym W' hp Hp (b:=false) ⟨(fun q=>by cases q),fun q=>absurd q hv⟩;have hA:=fun W'=>qlz W' p5.view p'.view;have HB:=fun W'=>qjn W' hp Hp (b:=false) ⟨(fun q=>by cases q),fun q=>absurd q hv⟩;unfold qep qcv at Hz hA HB;have hY:=hd (fun(W':World) (h:WkAt K W' gw ve5 vS5 E5 R5 Pl.Ft.none)=>qrr K W' gw ve5 vS5 E5 R5 Pl.Ft.none 13 wh pt.pos h);clear hv hp Hp;go_upto_region 26 with(go_at_call 42;refine Calls.mono (hY.out _ Hg.out.wk) ?_;rintro e w12 ⟨rfl,Hj,Hc⟩;have hi:=hd (Hg.out.went Hc Hj);clear Hj Hc;dsimp only)
 obtain⟨q0,q1,q2,q3,q4,q5⟩:=qar hi.out.spot;obtain⟨r0,r1,r2,r3,r4,r5'⟩:=qar hi.out.res;obtain⟨f0,f1,f2,f3,f4,f5⟩:=qd0 hi.out.res;go_wp2_with fail
 show bodyPost Tryz.prog Tryz.f40 (fun e w'=>WthO K RR w gw E R r j off len x e w') .ret _ _;refine qka hg.out hi.out hl.out ?_ ?_ ?_
 all_goals rfl
def ThrN(K:Sk)(RR:List Pl.Vt)(w:World)(gw g7 cap:Nat)(wh:ByteArray)(p p':Pl.Sp)(E E':List Pl.Et)(R R':List Pl.Vt)(r r' j off len i PB m:Nat)(x x':Pl.Sx):Exit->Act->World->Prop
 |.ret,a,X=>bodyPost Tryz.prog Tryz.f40 (fun e w'=>WthO K RR w gw E R r j off len x e w') .ret a X
 |.normal,a,X=>∃(ve'' vS'':Value) (E'':List Pl.Et) (R'':List Pl.Vt) (r'':Nat),Tm K w X gw ve'' vS'' E'' R'' Pl.Ft.none p'/\Vq K RR R' R'' E' E'' r' r'' m x' Pl.Ft.none/\a.tmps.getD 21 undef=.int .i64 m/\a=⟨frT gw g7 off len cap wh p w.heap.size (.int .i64 i) (.pointer (some ⟨PB,0,none⟩)) (fun n=>a.tmps.getD n undef),[]⟩
 |_,_,_=>False
theorem q8x(K:Sk)(RR:List Pl.Vt)(k:Nat)(w:World)(gw:Nat)(wh:ByteArray)(E:List Pl.Et)(R:List Pl.Vt)(r j off len cap g7:Nat)(x:Pl.Sx)(i:Nat)(p p':Pl.Sp)(x':Pl.Sx)(ve' vS':Value)(E':List Pl.Et)(R':List Pl.Vt)(r':Nat)(pt:Pl.Pt)(PB:Nat)(wc:World)(hC:ThrX K RR k w wh E R r j off len cap g7)(hI:ThrY K RR w gw E R r j off len x i p' x' ve' vS' E' R' r' pt 4 PB wc)(Ht:SkOk K)(Hu:Pl.nmOf K.S=K.nm)(VB m:Nat)(hv:wc.heap[VB]?=some (.cells #[.int .i64 m,.int .i64 x'.view.mode,.int .i64 x'.view.elem,.int .i64 x'.view.attr,.int .i64 x'.view.ends,.int .i64 x'.view.esc,.int .i64 x'.view.pct,.int .i64 x'.view.link,.string ⟨x'.view.name.toArray⟩,.bool x'.view.ref] 143 (0,0)))(Hv:pt.kind=6/\Pl.qb6 K.nm pt.text=some m)(hw:m<K.N.length)(Hw:(m,x')∉R')(a:Act)(ha:a=⟨frT gw g7 off len cap wh p w.heap.size (.int .i64 i) (.pointer (some ⟨PB,0,none⟩)) (fun n=>a.tmps.getD n undef),[]⟩)(h1:a.tmps.getD 21 undef=.int .i64 m)(h2:a.tmps.getD 22 undef=.pointer (some ⟨VB,0,none⟩)) :
  (thrFrom 34).wp Tryz.prog (ThrN K RR w gw g7 cap wh p p' E E' R R' r r' j off len i PB m x x') a wc:=by
 rw[ha];generalize hu:(fun n=>a.tmps.getD n undef)=u;have hx:u 21=.int .i64 m:=by rw[<-hu];exact h1
 have Hx:u 22=.pointer (some ⟨VB,0,none⟩):=by rw[<-hu];exact h2
 clear hu h1 h2 ha a;obtain⟨hy,HT,Hy,hj,Hf,hz,hS,⟨cap7,h7⟩,hB,hk,hr⟩:=hC;obtain⟨hM,hP,Hz,HS,⟨pvo,pvn,pvc,tn,d,hA,HA⟩,HB⟩:=hI;have Hk:=hd hB;have Ha:=hd hM;have HP:=hd hP;have HC:=hd Hz;have HL:=(show Hid (off+i<off+len) by show _<_;omega);have HD:=hd hA;have hg:=hd HA;have hD:=hd hv;have hE:=hd Hw;have hn:=hd Ht;have HE:=hd Hu;have hl:=hd hw;have Hg:=hd Hv;have hF:=hd hy;have hG:=hd (And.intro hk hr);have hT:=hd HB;have hU:=hd Hy;have HJ:=hd hj;have H7:=hd h7;have HU:=hd Hf;clear hM hP Hz hA HA hv Hw Ht Hu hw Hv hy hk hr HB Hy hj h7 Hf hB
 conv=>arg 2;whnf
 unfold frT;dsimp only;rw[hx,Hx];clear hx Hx;obtain⟨aoS,capS,HM⟩:=qas Ha.out.wk.seen;subst HM;have HG:=(show Hid (gw<wc.heap.size) from(lta Ha.out.wk.blk));have s1:=qaa Ha.out.wk.blk 1 _ rfl;have s1':=fun o=>(qfj wc o ⟨gw,1,none⟩ HG.out).trans (qaa Ha.out.wk.blk 1 _ rfl);obtain⟨v0,v1,v2,v3,v4,v5,v6,v7,v8,v9⟩:=qb7 hD.out;obtain⟨i0,hN,HN,hO,HO⟩:=info_parts qzh;have Hl:=(show Hid ((R'++[(m,x')]).length<=256/\(R'++[(m,x')]).Nodup/\∀u∈R'++[(m,x')],u∈RR) from by
  have h1:(R'++[(m,x')]).Nodup:=by
   rw[List.nodup_append];exact⟨HP.out.nod,by simp,fun a ha b hb q=>hE.out (by rw[List.mem_singleton.1 hb]at q;rw[<-q];exact ha)⟩
  have h2:∀u∈R'++[(m,x')],u∈RR:=fun u hu=>(List.mem_append.1 hu).elim (HP.out.sub u) fun z=>by rw[List.mem_singleton.1 z];exact HP.out.names HC.out Hg.out.1 Hg.out.2
  exact⟨Nat.le_trans (Pl.qfh _ _ h1 h2) hF.out.1,h1,h2⟩)
 have hQ:R'.length<=255:=by have:=Hl.out.1;rw[List.length_append]at this;simp only[List.length_cons,List.length_nil]at this;omega
 go_upto_region 34 with fail
 go_cut []from 26 to 189 (fun wx=>∃vS'',Hid (Tm K w wx gw ve' vS'' E' (R'++[(m,x')]) Pl.Ft.none p'/\wx.heap[PB]?=some (.cells #[.int .i64 4,.int .i64 pt.pos,.string ⟨pt.text.toArray⟩,.slice pvo pvn pvc,.bool tn,.int .i64 d] 136 (0,0))))
 case first=>
  go_region_law (refine qbr rfl (.tmp 147) (.tmp 149) 90 rfl K.B 143 i0 (.agg #[.int .i64 0,.int .i64 0,.int .i64 0,.int .i64 0,.int .i64 0,.int .i64 0,.int .i64 0,.int .i64 0,.string ⟨#[]⟩,.bool false]) 10 88 Tryz.underlying90 hN HN hO HO rfl (by decide) (.slice aoS R'.length capS) R'.length _ (by simp[Act.eval]) (World.ownsRow.alloc Ha.out.wk.seen _) ⟨_,0,none⟩ 1 1 [.int .i64 m,.int .i64 x'.view.mode,.int .i64 x'.view.elem,.int .i64 x'.view.attr,.int .i64 x'.view.ends,.int .i64 x'.view.esc,.int .i64 x'.view.pct,.int .i64 x'.view.link,.string ⟨x'.view.name.toArray⟩,.bool x'.view.ref] (by simp[Act.eval]) rfl (qc5 _ _ _) (by intro u hu;simp at hu;rcases hu with rfl|rfl|rfl|rfl|rfl|rfl|rfl|rfl|rfl|rfl<;>rfl) (by unfold maxLen;omega) (by omega) (by simp;have:=Ha.out.lt;have:=Hk.out;omega) ?_;intro v' w6 Hi Hn ho;obtain⟨g',cap',rfl,_,_⟩:=qaj Hi (by omega);obtain⟨q4,r4⟩:=Ha.out.wk.ahead (ba _).drew Hn)
  all_goals
   go_wp2_with fail
   go_meet
   exact⟨_,Ha.out.more Hk.out (ba _).drew (m,x') Hi Hn ho,Ha.out.wk.stays (ba _).drew Hn hg.out (by decide) _⟩
 case rest=>
 obtain⟨vS8,Ho⟩:=hcut;have hc:=hd Ho.out.1;have Hb:=hd Ho.out.2;clear Ho Ha hD hg s1 s1' v0 v1 v2 v3 v4 v5 v6 v7 v8 v9 HG;have HQ:m+1<=K.N.length:=hl.out;obtain⟨s2,He⟩:∃s2,K.S[m+1]?=some s2:=⟨_,List.getElem?_eq_getElem (by rw[hn.out.len];omega)⟩;have hp:Pl.qab K.S (m+1)=s2.parts:=by unfold Pl.qab;rw[He]
 have Hp:=hn.out.ok.wf (m+1) s2 He;have hq:=(hn.out.ok.parts (m+1) s2 He).1;have Hc:=(hc.out.wk.at_.tp.row (m+1) s2 He).1;rw[(hc.out.wk.at_.tp.row (m+1) s2 He).2.len]at Hc;obtain⟨ao2,cap2,HI,Hq⟩:=qnr Hc;rw[<-hp]at Hq hq Hp;have hm:=hd (fun(W':World) (hW:Tm K w W' gw ve' vS8 E' (R'++[(m,x')]) Pl.Ft.none p')=>HT W' gw ve' vS8 (.slice ao2 (Pl.qab K.S (m+1)).length cap2) ⟨pt.text.toArray⟩ E' (R'++[(m,x')]) r' (m+1) 0 _ x' p' hW.wk Hq (q8y HE.out Hg.out.2).symm HQ (by rw[Nat.zero_add];exact Nat.le_refl _) (by rw[Nat.zero_add,Pl.q26];exact Hp) HP.out.inv HP.out.cm HP.out.par HP.out.sp Hl.out.2.2 Hl.out.2.1 (hF.out.2.2 _ (Hl.out.2.2 _ (List.mem_append_right _ List.mem_cons_self))) (Nat.le_trans Hk.out (by have:=hW.lt;omega)) (by rw[List.length_append];simp only[List.length_cons,List.length_nil];have:=hG.out.1;have:=HP.out.pre.length_le;omega) (by rw[List.length_append];simp only[List.length_cons,List.length_nil];have:=hG.out.2;have:=HP.out.le;have:=HP.out.hi;have:=HP.out.lenE;have:=HP.out.pre.length_le;have h0:=HP.out.inv.few;simp only[List.length_nil]at h0;omega));have Hr:=(show Hid (∀(R5:List Pl.Vt) (E5:List Pl.Et) (r5:Nat) (F5:Pl.Ft) (p5:Pl.Sp) (ok5:Bool),ThP K RR (R'++[(m,x')]) R5 E' E5 r' r5 (m+1) 0 (Pl.qab K.S (m+1)).length x' F5 p5 ok5->Vq K RR R' R5 E' E5 r' r5 m x' F5/\(F5=Pl.Ft.none\/F5.code≠0))from fun R5 E5 r5 F5 p5 ok5 ht=>⟨Vq.new hE.out ht hq,ht.fault⟩);unfold qau qag at hm;obtain⟨bP,capP,hs,_,_⟩:=qaj hc.out.wk.at_.tp.parts (by have:=hl.out;omega);obtain⟨nm,hJ⟩:∃y,K.N[m]?=some y:=⟨_,List.getElem?_eq_getElem hl.out⟩;have Hm:=(qht K.pv K.N 1 m nm hJ).2;rw[Nat.add_comm 1 m]at Hm;have he:Hid (∀(X:World) (ve9 vS9:Value) (E9:List Pl.Et) (R9:List Pl.Vt) (F9:Pl.Ft),Tm K w X gw ve9 vS9 E9 R9 F9 p'->X.heap[PB]?=some (.cells #[.int .i64 4,.int .i64 pt.pos,.string ⟨pt.text.toArray⟩,.slice pvo pvn pvc,.bool tn,.int .i64 d] 136 (0,0))->X.cell? ⟨gw,0,none⟩=some (.pointer (some ⟨K.g,0,none⟩))/\X.cell? ⟨K.g,1,none⟩=some (.slice (some ⟨bP,0,none⟩) K.N.length capP)/\X.cell? ⟨bP,m*2+1,none⟩=some (.slice ao2 s2.parts.length cap2)/\X.cell? ⟨PB,2,none⟩=some (.string ⟨pt.text.toArray⟩)/\X.cell? ⟨w.heap.size,0,none⟩=some (.int .i64 p'.mode)/\X.cell? ⟨w.heap.size,1,none⟩=some (.string ⟨p'.tag.toArray⟩)/\X.cell? ⟨w.heap.size,2,none⟩=some (.string ⟨p'.attr.toArray⟩)/\X.cell? ⟨w.heap.size,3,none⟩=some (.string ⟨p'.inside.toArray⟩)/\X.cell? ⟨w.heap.size,4,none⟩=some (.string ⟨p'.run.toArray⟩)/\X.cell? ⟨w.heap.size,5,none⟩=some (.int .i64 p'.far)):=fun X ve9 vS9 E9 R9 F9 hX hR=>by
  obtain⟨q0,q1,q2,q3,q4,q5⟩:=qar hX.spot;have hr:=hX.wk.at_.tp.parts;rw[hs]at hr;exact⟨qaa hX.wk.blk 0 _ rfl,(qaa hX.wk.at_.tp.blk 1 _ rfl).trans (by rw[hs]),((hr.cellAt (m*2+1) (by rw[<-qgv K.pv K.N 1];exact(List.getElem?_eq_some_iff.1 Hm).1)).trans Hm).trans (by rw[HI]),qaa hR 2 _ rfl,q0,q1,q2,q3,q4,q5⟩
 have hV:(m:Int)<(K.N.length:Int):=by have:=hl.out;omega
 rw[hp]at hm Hr;clear Hm hs hJ Hq Hc hq Hp HI hp He;go_upto_region 35 with fail
 go_cut []from 26 to 189 (fun wx=>∃(ve5 vS5:Value) (E5:List Pl.Et) (R5:List Pl.Vt) (r5:Nat) (F5:Pl.Ft),Hid (Tm K w wx gw ve5 vS5 E5 R5 F5 p')/\Hid (Vq K RR R' R5 E' E5 r' r5 m x' F5/\(F5=Pl.Ft.none\/F5.code≠0)))
 case first=>
  have hK:Hid (∀(X:World) (ve9 vS9:Value) (E9:List Pl.Et) (R9:List Pl.Vt) (F9:Pl.Ft),Tm K w X gw ve9 vS9 E9 R9 F9 p'->X.heap[PB]?=some (.cells #[.int .i64 4,.int .i64 pt.pos,.string ⟨pt.text.toArray⟩,.slice pvo pvn pvc,.bool tn,.int .i64 d] 136 (0,0))->X.cell? ⟨gw,0,none⟩=some (.pointer (some ⟨K.g,0,none⟩))/\X.cell? ⟨K.g,1,none⟩=some (.slice (some ⟨bP,0,none⟩) K.N.length capP)/\X.cell? ⟨bP,m*2+1,none⟩=some (.slice ao2 s2.parts.length cap2)/\X.cell? ⟨PB,2,none⟩=some (.string ⟨pt.text.toArray⟩)/\X.cell? ⟨w.heap.size,0,none⟩=some (.int .i64 p'.mode)/\X.cell? ⟨w.heap.size,1,none⟩=some (.string ⟨p'.tag.toArray⟩)/\X.cell? ⟨w.heap.size,2,none⟩=some (.string ⟨p'.attr.toArray⟩)/\X.cell? ⟨w.heap.size,3,none⟩=some (.string ⟨p'.inside.toArray⟩)/\X.cell? ⟨w.heap.size,4,none⟩=some (.string ⟨p'.run.toArray⟩)/\X.cell? ⟨w.heap.size,5,none⟩=some (.int .i64 p'.far)):=he.out;have HR:=hd (hK.out wc.drew _ _ _ _ _ hc.out.drew Hb.out);clear he;go_region_held3 (fun X=>X.cell? ⟨gw,0,none⟩=some (.pointer (some ⟨K.g,0,none⟩))/\X.cell? ⟨K.g,1,none⟩=some (.slice (some ⟨bP,0,none⟩) K.N.length capP)/\X.cell? ⟨bP,m*2+1,none⟩=some (.slice ao2 s2.parts.length cap2)/\X.cell? ⟨PB,2,none⟩=some (.string ⟨pt.text.toArray⟩)/\X.cell? ⟨w.heap.size,0,none⟩=some (.int .i64 p'.mode)/\X.cell? ⟨w.heap.size,1,none⟩=some (.string ⟨p'.tag.toArray⟩)/\X.cell? ⟨w.heap.size,2,none⟩=some (.string ⟨p'.attr.toArray⟩)/\X.cell? ⟨w.heap.size,3,none⟩=some (.string ⟨p'.inside.toArray⟩)/\X.cell? ⟨w.heap.size,4,none⟩=some (.string ⟨p'.run.toArray⟩)/\X.cell? ⟨w.heap.size,5,none⟩=some (.int .i64 p'.far)) (first|assumption|exact HR.out|exact hK.out _ _ _ _ _ _ HM9.out HPB9.out) ((go_at_call 40;refine Calls.mono (hm.out _ hc.out.drew) ?_;rintro e w5 ⟨p5,ok5,ve5,vS5,E5,R5,r5,F5,rfl,HK,Hs,hL⟩;have HM9:=hd (hc.out.drew.went Hs HK);have HPB9:=(show Hid _ from(Hs.keep _ _ _ _ (show wc.drew.heap[PB]?=_ from Hb.out) (by decide)).trans Hb.out);have Hj:=hd (Hr.out _ _ _ _ _ _ hL);clear HK Hs hL;dsimp only))
  all_goals
   go_wp2_with fail
   go_meet
   exact⟨_,_,_,_,_,_,HM9,Hj⟩
 case rest=>
 obtain⟨ve5,vS5,E5,R5,r5,F5,HM9,Hj⟩:=hcut;clear hc Hb hm Hr he hQ;have s2:=qaa HM9.out.wk.blk 2 _ rfl;rcases Hj.out.2 with hf|hf
 ·subst hf
  rw[show((Pl.Ft.none.code:Nat):Int)=0 from rfl]at s2;have HV:=hd Hj.out.1;go_wp2_with fail
  exact⟨_,_,_,_,_,HM9.out,HV.out,rfl,rfl⟩
 have HW:¬(F5.code:Int)=0:=by omega
 have HF:=hd hf;clear hf;obtain⟨q0,q1,q2,q3,q4,q5⟩:=qar HM9.out.spot;obtain⟨r0,r1,r2,r3,r4,r5'⟩:=qar HM9.out.res;obtain⟨f0,f1,f2,f3,f4,f5⟩:=qd0 HM9.out.res;go_wp2_with fail
 show bodyPost Tryz.prog Tryz.f40 (fun e w'=>WthO K RR w gw E R r j off len x e w') .ret _ _;refine qka Hk.out HM9.out (HP.out.callBad HE.out HC.out HL.out Hg.out.1 Hg.out.2 Hj.out.1 HF.out) ?_ ?_ ?_
 all_goals rfl
theorem q9v(K:Sk)(RR:List Pl.Vt)(k:Nat)(w:World)(gw:Nat)(wh:ByteArray)(E:List Pl.Et)(R:List Pl.Vt)(r j off len cap g7:Nat)(x:Pl.Sx)(i:Nat)(p p':Pl.Sp)(x':Pl.Sx)(E':List Pl.Et)(R':List Pl.Vt)(r':Nat)(pt:Pl.Pt)(hC:ThrX K RR k w wh E R r j off len cap g7)(hE:EndC K RR 429926418001)(ho:SkOk K)(Ho:Pl.nmOf K.S=K.nm)(hP:Tq K RR R R' E E' r r' j off len (off+i) x x' p')(hp:(Pl.qab K.S j)[off+i]?=some pt)(hx:i<len)(m:Nat)(Hp:pt.kind=6/\Pl.qb6 K.nm pt.text=some m)(hq:m<K.N.length)
  (ve'' vS'':Value) (E'':List Pl.Et) (R'':List Pl.Vt) (r'':Nat) (w9:World) (Hq:Tm K w w9 gw ve'' vS'' E'' R'' Pl.Ft.none p') (Hr:Vq K RR R' R'' E' E'' r' r'' m x' Pl.Ft.none) (a:Act) (ha:a=⟨frT gw g7 off len cap wh p w.heap.size (.int .i64 i) (a.tmps.getD 11 undef) (fun n=>a.tmps.getD n undef),[]⟩) (h1:a.tmps.getD 21 undef=.int .i64 m) :
  (thrFrom 38).wp Tryz.prog (ThrQ K RR w gw g7 cap wh p E R r j off len i x) a w9:=by
 rw[ha];generalize a.tmps.getD 11 undef=v11;generalize hu:(fun n=>a.tmps.getD n undef)=u;have hs:u 21=.int .i64 m:=by rw[<-hu];exact h1
 clear hu h1 ha a;have He:=hd hC.hb;have Hs:=hd hC.rr;have Hx:=hd (And.intro hC.hk hC.hr);have HP:=hd hP;have hm:=hd hp;have ht:=(show Hid (off+i<off+len) by show _<_;omega);have HE:=hE;have hy:=hd ho;have Ht:=hd Ho;have Hu:=hd hq;have Hf:=hd Hp;have Ha:=hd Hq;have he:=hd Hr;clear hC hE hP hp hx ho Ho hq Hp Hq Hr
 conv=>arg 2;whnf
 unfold frT;dsimp only;rw[hs];clear hs;have Hy:r''+4000000*(429926418001 - E''.length)<=1900000000000000000:=by
  have:=Hx.out.2;have:=HP.out.le;have:=HP.out.hi;have:=HP.out.lenE;have:=HP.out.pre.length_le;have:=he.out.le;have:=he.out.lenE;have:=he.out.pre.length_le;have:=Pl.qfh _ _ he.out.nod he.out.sub;have:=Hs.out.1;have h0:=he.out.inv.few;simp only[List.length_nil]at h0;omega
 have Hm:=fun(W':World) (hA:K.at_ W' ve'' E'') (hB:K.B<=W'.heap.size)=>HE W' ve'' (.slice none 0 0) E'' [] m x' p' r'' hA (World.ownsRow_nil _ _ _ _) he.out.inv HP.out.cm HP.out.par (HP.out.sp.le he.out.up) Hu.out (Pl.qzf (by have:=Hs.out.1;omega) (HP.out.names hm.out Hf.out.1 Hf.out.2) (by show m<6;have:=Hu.out;have:=hy.out.six;omega) HP.out.cm.fit.fit.ok.st.name) List.not_mem_nil (fun u hu=>absurd hu List.not_mem_nil) hB (by omega) (by simp only[List.length_nil];omega);unfold qau qag at Hm;have hn:=hd Hm;clear Hm Hy HE;have Hj:=(lta Ha.out.spot);have Hk:=(lta Ha.out.wk.blk);obtain⟨q0,q1,q2,q3,q4,q5⟩:=qar Ha.out.spot;have hf:=hd (fun o=>qar ((heap_alloc_old w9 o Hj).trans Ha.out.spot));have q0':=fun o=>(hf.out o).1;have q1':=fun o=>(hf.out o).2.1;have q2':=fun o=>(hf.out o).2.2.1;have q3':=fun o=>(hf.out o).2.2.2.1;have q4':=fun o=>(hf.out o).2.2.2.2.1;have q5':=fun o=>(hf.out o).2.2.2.2.2;have s0:=qaa Ha.out.wk.blk 0 _ rfl;have s0':=fun o=>qaa ((heap_alloc_old w9 o Hk).trans Ha.out.wk.blk) 0 _ rfl;have hv:=(show Hid (K.B<=w9.heap.size)from Nat.le_trans He.out (by have:=Ha.out.lt;omega));have hz:=(show Hid (w.heap.size+1<w9.heap.size)from Ha.out.lt);clear Hj Hk;go_upto_region 38 with fail
 go_cut [24,25]from 26 to 189 (fun s24 s25 wx=>∃(ok:Bool) (TB:Nat),s24=.pointer (some ⟨TB,0,none⟩)/\s25=.bool ok/\Hid (∃p5 ve5 E5 r5,Tm K w wx gw ve5 vS'' E5 R'' Pl.Ft.none p'/\wx.heap[TB]?=some (.cells (qag p5) 94 (0,0))/\Pl.EInv K.bd RR r5 E5 []/\Pl.SpOk r5 p5/\E''.length<=E5.length/\r''<=r5/\r5<=r''+4000000*(E5.length - E''.length)+0/\(ok=true->∃y,Pl.Done K.bd m x' y/\Pl.ParX y p5/\Pl.Cm y)/\(ok=false->∀y,¬Pl.Done K.bd m x' y)))
 case first=>
  have Hn:=(show Hid _ from((Below.refl w9.heap.size w9).alloc (Nat.le_refl _) (.cells #[.int .i64 0,.string ⟨#[]⟩,.string ⟨#[]⟩,.string ⟨#[]⟩,.string ⟨#[]⟩,.int .i64 0] 94)).drew)
  go_region_with (go_at_call 58;first
   |(refine Calls.mono (hn.out (w9.alloc (.cells #[.int .i64 0,.string ⟨#[]⟩,.string ⟨#[]⟩,.string ⟨#[]⟩,.string ⟨#[]⟩,.int .i64 0] 94)).drew (Ha.out.kept Hn.out He.out).wk.at_ (Nat.le_trans hv.out Hn.out.size)) ?_;rintro e w8 ⟨p5,ok,ve5,E5,r5,rfl,hg⟩;unfold qau qag;have HZ:=(show Hid _ from(hg.ck.keep _ _ _ _ (heap_alloc_new w9 (.cells #[.int .i64 0,.string ⟨#[]⟩,.string ⟨#[]⟩,.string ⟨#[]⟩,.string ⟨#[]⟩,.int .i64 0] 94)) (by decide) (by decide)).trans (heap_alloc_new w9 (.cells #[.int .i64 0,.string ⟨#[]⟩,.string ⟨#[]⟩,.string ⟨#[]⟩,.string ⟨#[]⟩,.int .i64 0] 94)));obtain⟨u0,u1,u2,u3,u4,u5⟩:=qar HZ.out;obtain⟨f0,f1,f2,f3,f4,f5⟩:=qd0 HZ.out;have HD:=hd hg;clear hg;dsimp only)
   | (refine Calls.mono (hn.out w9.drew Ha.out.drew.wk.at_ hv.out) ?_;rintro e w8 ⟨p5,ok,ve5,E5,r5,rfl,hg⟩;unfold qau qag;have HD:=hd hg;clear hg;dsimp only))
  all_goals
   go_wp2_with fail
   go_meet
   first
   |exact⟨ok,_,rfl,rfl,p5,ve5,E5,r5,(((Ha.out.kept Hn.out He.out).ended HD.out.ck HD.out.at_).setFar He.out HZ.out hz.out _ _ _ _ _ _),qg2 HZ.out _ _ _ _ _ _,HD.out.inv,HD.out.sp,HD.out.len,HD.out.up,HD.out.le,HD.out.yes,HD.out.no⟩
   |exact⟨ok,_,rfl,rfl,p5,ve5,E5,r5,((Ha.out.drew.ended HD.out.ck HD.out.at_).kept (ba _) He.out),heap_alloc_new _ _,HD.out.inv,HD.out.sp,HD.out.len,HD.out.up,HD.out.le,HD.out.yes,HD.out.no⟩
 case rest=>
 obtain⟨ok,TB,rfl,rfl,Hv⟩:=hcut;obtain⟨p5,ve5,E5,r5,hw,Hw,Hb,hl,hc,Hg,Hi,Hc,Hl⟩:=Hv.out;have hj:=hd hw;have HD:=(show Hid (Pl.EInv K.bd RR r5 E5 []/\Pl.SpOk r5 p5/\E''.length<=E5.length/\r''<=r5/\r5<=r''+4000000*(E5.length - E''.length)+0/\(ok=true->∃y,Pl.Done K.bd m x' y/\Pl.ParX y p5/\Pl.Cm y)/\(ok=false->∀y,¬Pl.Done K.bd m x' y))from⟨Hb,hl,hc,Hg,Hi,Hc,Hl⟩);obtain⟨u0,u1,u2,u3,u4,u5⟩:=qar Hw;clear q0 q1 q2 q3 q4 q5 q0' q1' q2' q3' q4' q5' s0 s0' hf Ha hn Hv hw Hw Hb hl hc Hg Hi Hc Hl;obtain⟨q0,q1,q2,q3,q4,q5⟩:=qar hj.out.spot;cases ok
 ·obtain⟨r0,r1,r2,r3,r4,r5'⟩:=qar hj.out.res
  obtain⟨f0,f1,f2,f3,f4,f5⟩:=qd0 hj.out.res;go_wp2_with fail
  show bodyPost Tryz.prog Tryz.f40 (fun e w'=>WthO K RR w gw E R r j off len x e w') .ret _ _;obtain⟨Hb,hl,hc,Hg,Hi,Hc,Hl⟩:=HD.out;refine qka He.out hj.out (HP.out.never Ht.out hm.out ht.out Hf.out.1 Hf.out.2 he.out rfl (Hl trivial) Hb hc Hg Hi) ?_ ?_ ?_
  all_goals rfl
 obtain⟨f0,f1,f2,f3,f4,f5⟩:=qd0 hj.out.spot;go_wp2_with fail
 obtain⟨Hb,hl,hc,Hg,Hi,Hc,Hl⟩:=HD.out;obtain⟨y,Hz,HA,HB⟩:=Hc trivial;refine⟨i,_,_,_,_,_,_,_,_,Nat.le_refl _,rfl,hj.out.set He.out p5,HP.out.call Ht.out hm.out ht.out Hf.out.1 Hf.out.2 he.out rfl Hz HA HB Hb hl hc Hg Hi,rfl⟩
theorem q96{P:Program}{c:Code}{Q:Exit->Act->World->Prop}{K:Act->World->Prop}{a:Act}{w:World}(h:∀a w,c.wp P Q a w->K a w)(hc:c.wp P Q a w):K a w:=h _ _ hc
theorem q55(K:Sk)(RR:List Pl.Vt)(k:Nat)(w:World)(gw:Nat)(wh:ByteArray)(E:List Pl.Et)(R:List Pl.Vt)(r j off len cap g7:Nat)(x:Pl.Sx)(i:Nat)(p p':Pl.Sp)(x':Pl.Sx)(ve' vS':Value)(E':List Pl.Et)(R':List Pl.Vt)(r':Nat)(pt:Pl.Pt)(PB:Nat)(w2:World)(hC:ThrX K RR k w wh E R r j off len cap g7)(hI:ThrY K RR w gw E R r j off len x i p' x' ve' vS' E' R' r' pt 4 PB w2)(hE:EndC K RR 429926418001)(hf:SkOk K)(hi:Pl.nmOf K.S=K.nm)(m:Nat)(he:pt.kind=6/\Pl.qb6 K.nm pt.text=some m)(a:Act)(ha:a=⟨frT gw g7 off len cap wh p w.heap.size (.int .i64 i) (.pointer (some ⟨PB,0,none⟩)) (fun n=>a.tmps.getD n undef),[]⟩) :
  (thrFrom 29).wp Tryz.prog (ThrQ K RR w gw g7 cap wh p E R r j off len i x) a w2:=by
 rw[ha];generalize (fun n=>a.tmps.getD n undef)=u;clear ha a;have Hi:m<K.N.length:=by have:=qsw he.2;unfold Sk.nm at this;rwa [List.length_map]at this
 have hj:=fun VB W' hI Hu hv=>q8x K RR k w gw wh E R r j off len cap g7 x i p p' x' ve' vS' E' R' r' pt PB W' hC hI hf hi VB m Hu he Hi hv;have Hj:=fun ve'' vS'' E'' R'' r'' w9 h1 h2=>q9v K RR k w gw wh E R r j off len cap g7 x i p p' x' E' R' r' pt hC hE hf hi hI.ft hI.fp hI.fi m he Hi ve'' vS'' E'' R'' r'' w9 h1 h2;have hA:=hd Hi;have Hn:=hd hC.rr;have ho:=hd hC.hb;obtain⟨hM,hP,Ho,hp,⟨pvo,pvn,pvc,tn,d,Hp,hk⟩,Hk⟩:=hI;have hq:=hd hM;have HP:=hd hP;have Hv:=hd Hk;have Hq:=hd hk;have Hw:=(show Hid (∀W' (hm:Tm K w W' gw ve' vS' E' R' Pl.Ft.none p') (hb:W'.heap[PB]?=some (.cells #[.int .i64 4,.int .i64 pt.pos,.string ⟨pt.text.toArray⟩,.slice pvo pvn pvc,.bool tn,.int .i64 d] 136 (0,0))),ThrY K RR w gw E R r j off len x i p' x' ve' vS' E' R' r' pt 4 PB W')from fun W' hm hb=>⟨hm,hP,Ho,hp,⟨pvo,pvn,pvc,tn,d,Hp,hb⟩,Hk⟩);have hj:=hd hj;have Hj:=hd Hj;have g0:=qaa hM.wk.blk 0 _ rfl;have hr:=hd (qsd ⟨pt.text.toArray⟩ hM.drew.wk.at_.tp (by have:=hf.six;omega));have hl:=(show Hid (Pl.qb6 (K.N.map fun y=>y.data.toList) (⟨pt.text.toArray⟩:ByteArray).data.toList=some m)from he.2);have Hr:Hid (Calls Tryz.prog 56 #[.pointer (some ⟨K.g,0,none⟩),.string ⟨pt.text.toArray⟩] w2.drew fun e w'=>e=.returned (.int .i64 m)/\w'=w2.drew):=by
  refine Calls.mono hr.out ?_;rintro e w' ⟨⟨rr,rfl,hx⟩,hw⟩;rcases hx with⟨rfl,h⟩|⟨k,rfl,h⟩
  ·rw[hl.out]at h;cases h
  ·rw[hl.out]at h
   injection h with h;exact⟨by rw[h],hw⟩
 obtain⟨c0,c1,c2,c3,c4,c5⟩:=qar hk;obtain⟨q0,q1,q2,q3,q4,q5⟩:=qar hM.spot;clear hM hP Ho hp Hp hk Hk hC hf hi he hE
 conv=>arg 2;whnf
 unfold frT;dsimp only;have hS:=fun W'=>qit p' W' (by have:=HP.out.sp.tag;omega) (by have:=HP.out.sp.attr;omega) (by have:=HP.out.sp.inside;omega) (by have:=HP.out.sp.run;have:=Hv.out;omega);rw[Pl.qc8 _ _ HP.out.cm.fit.fit.ok HP.out.par]at hS;unfold qau qag qep qcv at hS;have Hx:=hd hS;clear hS;have HA:¬(m:Int)<0:=by omega
 go_upto_region 29 with fail
 go_cut [21]from 26 to 189 (fun s21 wx=>s21=.int .i64 m/\wx=w2.drew)
 case first=>
  go_region_with (go_at_call 56;refine Calls.mono Hr.out ?_;rintro e w5 ⟨rfl,rfl⟩;dsimp only)
  all_goals
   go_wp2_with fail
   go_meet
   exact⟨rfl,rfl⟩
 case rest=>
 obtain⟨rfl,hs⟩:=hcut;have Hf:=hd hq.out.drew;have Ha:=(show Hid (w2.drew.heap[PB]?=_)from Hq.out);rw[<-hs]at Hf Ha;clear hs hl c0 c1 c2 c3 c4 c5 g0 q0 q1 q2 q3 q4 q5 hr Hr hq Hq;obtain⟨q0,q1,q2,q3,q4,q5⟩:=qar Hf.out.spot;go_upto_region 31 with fail
 go_upto_region 32 with(go_at_call 41;refine(Hx.out _).mono ?_;rintro e w5 ⟨rfl,hb⟩;have Hl:=hd hb;clear hb;dsimp only)
 have hg:=hd (Hl.out.alloc Hl.out.size (.cells #[.int .i64 m,.int .i64 x'.view.mode,.int .i64 x'.view.elem,.int .i64 x'.view.attr,.int .i64 x'.view.ends,.int .i64 x'.view.esc,.int .i64 x'.view.pct,.int .i64 x'.view.link,.string ⟨x'.view.name.toArray⟩,.bool x'.view.ref] 143));have hc:=hd (heap_alloc_new w5 (.cells #[.int .i64 m,.int .i64 x'.view.mode,.int .i64 x'.view.elem,.int .i64 x'.view.attr,.int .i64 x'.view.ends,.int .i64 x'.view.esc,.int .i64 x'.view.pct,.int .i64 x'.view.link,.string ⟨x'.view.name.toArray⟩,.bool x'.view.ref] 143));generalize World.alloc w5 _=w6 at hg hc |-;generalize w5.heap.size=VB at hc |-;have Hg:=hd (Hf.out.kept hg.out ho.out);have Hb:=(show Hid _ from(hg.out.block _ (lta Ha.out)).trans Ha.out);obtain⟨v0,v1,v2,v3,v4,v5,v6,v7,v8,v9⟩:=qb7 hc.out;have s1:=qaa Hg.out.wk.blk 1 _ rfl;clear Hl hg q0 q1 q2 q3 q4 q5 Hf Ha;have Hm:=fun(W':World) (h:W'.ownsRow K.B 143 10 vS' R'.length (qch R'))=>qkc K.B vS' R' m x' W' (by have:=Pl.qfh _ _ HP.out.nod HP.out.sub;have:=Hn.out.1;omega) h (fun u hu=>(Hn.out.2.1 u (HP.out.sub u hu)).1) HP.out.cm;unfold qfc at Hm;have Hs:=hd Hm;clear Hm;go_cut [23]from 26 to 189 (fun s23 wx=>∃b:Bool,s23=.bool b/\Hid ((b=true↔(m,x')∈R')/\Tm K w wx gw ve' vS' E' R' Pl.Ft.none p'/\wx.heap[VB]?=some (.cells #[.int .i64 m,.int .i64 x'.view.mode,.int .i64 x'.view.elem,.int .i64 x'.view.attr,.int .i64 x'.view.ends,.int .i64 x'.view.esc,.int .i64 x'.view.pct,.int .i64 x'.view.link,.string ⟨x'.view.name.toArray⟩,.bool x'.view.ref] 143 (0,0))/\wx.heap[PB]?=some (.cells #[.int .i64 4,.int .i64 pt.pos,.string ⟨pt.text.toArray⟩,.slice pvo pvn pvc,.bool tn,.int .i64 d] 136 (0,0))))
 case first=>
  go_region_with (go_at_call 57;refine Calls.mono (Hs.out _ Hg.out.drew.wk.seen) ?_;rintro e w7 ⟨⟨b,rfl,hb⟩,ht⟩;have hy:=hd hb;have hn:=hd ht;clear hb ht;dsimp only)
  all_goals
   go_wp2_with fail
   go_meet
   exact⟨b,rfl,hy.out,Hg.out.drew.kept hn.out ho.out,(hn.out.block _ (lta hc.out)).trans hc.out,(hn.out.block _ (lta Hb.out)).trans Hb.out⟩
 case rest=>
 obtain⟨b,rfl,Hc⟩:=hcut;clear Hg hc Hb v0 v1 v2 v3 v4 v5 v6 v7 v8 v9 s1 Hs;go_upto_if 142 with fail
 go_cut [9,12,13,14,15,16,17,18,19,20,22,23,24,25]from 26 to 189 (fun v9 v12 v13 v14 v15 v16 v17 v18 v19 v20 v22 v23 v24 v25 wx=>∃(ve'' vS'':Value) (E'':List Pl.Et) (R'':List Pl.Vt) (r'':Nat),Hid (Tm K w wx gw ve'' vS'' E'' R'' Pl.Ft.none p')/\Hid (Vq K RR R' R'' E' E'' r' r'' m x' Pl.Ft.none))
 case first=>
  cases b
  rotate_left
  ·go_wp2_with fail
   go_meet
   exact⟨_,_,_,_,_,Hc.out.2.1,HP.out.old (Hc.out.1.1 trivial)⟩
  have Hy:=hd (hj.out VB wc (Hw.out _ Hc.out.2.1 Hc.out.2.2.2) Hc.out.2.2.1 (fun q=>by have:=Hc.out.1.2 q;cases this));refine wp_cond_true rfl ?_;refine Code.wp_mono ?_ (Hy.out _ rfl rfl rfl);intro e a X h;cases e with
  |ret=>
    have HH:=(show Hid _ from(h:bodyPost Tryz.prog Tryz.f40 (fun e w'=>WthO K RR w gw E R r j off len x e w') .ret a X));clear h;go_wp2_with fail
    exact HH.out
  |normal=>
    obtain⟨ve'',vS'',E'',R'',r'',h3,h4,Ht,ha⟩:=h;have H3:=hd h3;have H4:=hd h4;generalize hu:(fun n=>a.tmps.getD n undef)=u at ha;have He:u 21=.int .i64 m:=by rw[<-hu];exact Ht
    clear h3 h4 hu Ht;subst ha;unfold frT;dsimp only;rw[He];clear He;go_wp2_with fail
    go_meet
    exact⟨_,_,_,_,_,H3,H4⟩
  |_=>exact(h:False).elim
 case rest=>
 obtain⟨ve'',vS'',E'',R'',r'',hz,Hz⟩:=hcut;refine q96 (by assumption) ?_;exact Hj.out _ _ _ _ _ _ hz.out Hz.out _ rfl rfl
end Go.Proofs.YtfkhljmiehdgmaaGreatDoor

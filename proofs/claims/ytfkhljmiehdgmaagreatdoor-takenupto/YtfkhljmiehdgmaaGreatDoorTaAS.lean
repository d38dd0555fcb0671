/-
  Steps of the proof (texts laid together, blanks left out): TkF, TkG.
-/
import Derived.Test.YtfkhljmiehdgmaaGreatDoorTaAR
namespace Go.Proofs.YtfkhljmiehdgmaaGreatDoor.Pl
theorem q3h {V O:List UInt8} {P:List Pt} (h:Seg V KTop 2 0 Sx.start P O Sx.start) (hP:P.length≤2400) (ms:List Int) (hm:∀ k p y,P[k]?=some p→p.kind=2→qbr (P.take k) Sx.start []=some y→ms[k]?=some y.1.hole.1) (depth:Int) :
  (Ev.page ⟨D0 V,[⟨[],P⟩],[(0,ms)],depth,-1⟩).2=0∧(Ev.page ⟨D0 V,[⟨[],P⟩],[(0,ms)],depth,-1⟩).1.out=O:=by
 obtain⟨e,he⟩:∃ e:Ev,e=⟨D0 V,[⟨[],P⟩],[(0,ms)],depth,-1⟩:=⟨_,rfl⟩
 have hp:e.parts 0=P:=by rw[he]; rfl
 have hk:e.marks 0=ms:=by rw[he]; rfl
 rw[← he]
 have hE:EOk V e:=by rw[he]; exact⟨rfl,rfl⟩
 obtain⟨o',f',a1,a2,_,a4⟩:=h.run e hE [] (fun k p hk=>by rw[hp,Nat.zero_add]; exact hk) (fun k p y h1 h2 h3=>by
  rw[hk,Nat.zero_add,List.getD_eq_getElem?_getD,hm k p y h1 h2 h3]; rfl) [some 0] rfl P.length (by omega) ⟨[],[],0⟩ (5002 - P.length) (by show 0+2*P.length≤5000; omega) (by omega)
 unfold Ev.page
 rw[hp]
 rw[show 5002 - P.length+P.length=5002 by omega,Nat.zero_add]at a4
 have hend:e.run f' 0 P.length P.length 0 [some 0] o'=(o',0):=by
  obtain⟨g,rfl⟩:∃ g,f'=g+1:=⟨f' - 1,by omega⟩
  unfold Ev.run
  rw[if_pos (Nat.le_refl _)]
 rw[a4,hend]
 exact⟨rfl,by rw[a2]; rfl⟩
def Cs.start:Cs:=⟨Ct.start,[],[]⟩
theorem q4r (V:List UInt8):AtP V KTop 2 [] [] Sx.start Sx.start [] Cs.start:=
 ⟨rfl,rfl,[],Sx.start,[],rfl,q0k _ _ _ _ _,fun _=>qr0 _,rfl⟩
theorem qxd (l:List Tok) (h:Good l Cs.start):(Ct.start.rest (qal l) 0)=((l.foldl Cs.step Cs.start).flush.left,(l.foldl Cs.step Cs.start).flush.parts):=
 quy (qal l) l Cs.start (qhe _) rfl rfl rfl h
theorem qo9 (V:List UInt8) (l:List Tok) (O:List UInt8) (hg:Good l Cs.start) (ha:AtP V KTop 2 [] [] Sx.start Sx.start O (l.foldl Cs.step Cs.start)) (hl:(qal l).length≤2000) (depth:Int) :
  (qbe (qal l) []).2=Ft.none∧(Ev.page ⟨D0 V,(qbe (qal l) []).1.2,(qbe (qal l) []).1.1,depth,-1⟩).2=0∧(Ev.page ⟨D0 V,(qbe (qal l) []).1.2,(qbe (qal l) []).1.1,depth,-1⟩).1.out=O:=by
 have hr:=qxd l hg
 have hopen:(l.foldl Cs.step Cs.start).flush.opened=[]:=(qgv _).2.2.trans ha.opened
 have hleft:(l.foldl Cs.step Cs.start).flush.left=(0,0):=by unfold Ct.left; rw[hopen]; rfl
 obtain⟨P,hP,hS⟩:=qi9 (by omega) ha
 rw[hleft,hP,List.nil_append]at hr
 have hcut:qav (qal l)=((0,0),P):=by rw[qjz _ hl,hr,if_pos rfl]
 have hc:(qav (qal l)).1.1=0:=by rw[hcut]
 have hok:=qir (qal l) hc
 rw[hcut]at hok
 obtain⟨ms,k1,k2,k3⟩:=qyt [⟨[],P⟩] (qal l).length hok.1 hS.six (hS.fold [])
 have hmk:qbe (qal l) []=(([(0,ms)],[⟨[],P⟩]),Ft.none):=by
  rw[qi2 (by simp) rfl]
  rw[qjy hc,if_neg (by simp[Ft.none])]
  rw[hcut]
  simp only[k1]
  rfl
 rw[hmk]
 refine⟨rfl,q3h hS ?_ ms k3 depth⟩
 have:P.length≤_:=hok.2
 omega
def pc6 (w:List UInt8):List Tok:=[.tg [94,121],.tx [60],.tg [110],.tg [47,121],.tg (33::32::w),.tx [60,116,105,116,108,101,62],.tg [118],.tx [60,47,116,105,116,108,101,62]]
theorem q40:qd3 [94,121]=⟨4,0,[121],[],[]⟩:=by decide +kernel
theorem q5s:qd3 [110]=⟨2,0,[110],[],[]⟩:=by decide +kernel
theorem qwp (l:List UInt8):qd3 (33::l)=⟨7,0,[],[],[]⟩:=by
 have e:∃ r,Go.Lib.trimS (33::l) qbc=33::r:=by
  have h1:Go.Lib.trimS (33::l) qbc=Go.Lib.trimRightS (33::l) qbc∨Go.Lib.trimS (33::l) qbc=Go.Lib.trimLeftS (Go.Lib.trimRightS (33::l) qbc) qbc:=by
   first
    | exact .inr rfl
    | exact .inl rfl
  have h2:∃ r,Go.Lib.trimRightS (33::l) qbc=33::r:=by
   unfold Go.Lib.trimRightS
   rw[List.reverse_cons]
   by_cases hd:l.reverse.dropWhile (qbc.contains ·)=[]
   ·rw[qkq _ _ _ hd]
    exact⟨[],rfl⟩
   ·rw[qkp _ _ _ hd,List.reverse_append]
    exact⟨_,rfl⟩
  obtain⟨r,hr⟩:=h2
  rcases h1 with h1 | h1
  ·exact⟨r,h1.trans hr⟩
  ·rw[h1,hr]
   exact⟨r,rfl⟩
 obtain⟨r,hr⟩:=e
 unfold qd3
 rw[hr]
 rfl
theorem q7v (V w:List UInt8) (hw:qdw w) {O:List UInt8} {s:Cs} (h:AtP V KTop 2 [] [] Sx.start Sx.start O s) :
  Good (pc6 w) s∧((pc6 w).foldl Cs.step s).flush.opened=[]∧qbr ((pc6 w).foldl Cs.step s).flush.parts Sx.start []=none∧∀ p∈((pc6 w).foldl Cs.step s).flush.parts,p.kind≠6:=by
 obtain⟨P,hP,hS⟩:=qi9 (by omega) h
 rw[List.nil_append]at hP
 have hop:=qm0 s [94,121] 4 (by omega) [121] q40 h.opened
 obtain⟨s1,hs1⟩:∃ s1,s1=s.step (.tg [94,121]):=⟨_,rfl⟩
 have c1:s1.ct.parts=P++[⟨4,s.seen.length+s.pend.length,[121],0⟩]∧s1.ct.opened=[P.length]∧s1.pend=[]:=by
  rw[hs1]
  show (s.flush.take _ _).2.parts=_∧(s.flush.take _ _).2.opened=_∧_
  rw[hop,hP]
  exact⟨rfl,rfl,rfl⟩
 obtain⟨s2,hs2⟩:∃ s2,s2=s1.step (.tx [60]):=⟨_,rfl⟩
 have c2:s2.flush.parts=P++[⟨4,s.seen.length+s.pend.length,[121],0⟩]++[⟨1,s1.seen.length,[60],0⟩]∧s2.flush.opened=[P.length]∧s2.pend=[60]:=by
  have hp:s2.pend=[60]:=by rw[hs2]; show s1.pend++[60]=_; rw[c1.2.2]; rfl
  refine⟨?_,?_,hp⟩
  ·unfold Cs.flush
   rw[hp,if_neg (by simp),hs2]
   show s1.ct.parts++[⟨1,s1.seen.length,[60],0⟩]=_
   rw[c1.1]
  ·rw[(qgv _).2.2,hs2]
   exact c1.2.1
 obtain⟨s3,hs3⟩:∃ s3,s3=s2.step (.tg [110]):=⟨_,rfl⟩
 have t3:s2.flush.take (qd3 [110]) (s2.seen.length+s2.pend.length)=(0,{ s2.flush with parts:=s2.flush.parts++[⟨2,s2.seen.length+s2.pend.length,[110],0⟩] }):=by rw[q5s]; rfl
 have c3:s3.flush.parts=P++[⟨4,s.seen.length+s.pend.length,[121],0⟩]++[⟨1,s1.seen.length,[60],0⟩,⟨2,s2.seen.length+s2.pend.length,[110],0⟩]∧s3.ct.opened=[P.length]∧s3.pend=[]:=by
  have hp:s3.pend=[]:=by rw[hs3]; rfl
  refine⟨?_,?_,hp⟩
  ·unfold Cs.flush
   rw[if_pos hp,hs3]
   show (s2.flush.take _ _).2.parts=_
   rw[t3,c2.1]
   simp
  ·rw[hs3]
   show (s2.flush.take _ _).2.opened=_
   rw[t3]
   exact c2.2.1
 have t4:=qk0 s3 [47,121] [121] qwq P [⟨1,s1.seen.length,[60],0⟩,⟨2,s2.seen.length+s2.pend.length,[110],0⟩] ⟨4,s.seen.length+s.pend.length,[121],0⟩ rfl c3.1 c3.2.1
 obtain⟨s4,hs4⟩:∃ s4,s4=s3.step (.tg [47,121]):=⟨_,rfl⟩
 obtain⟨p1,p2,p3,p4,hc4,e1,e2,e3,e4⟩:∃ p1 p2 p3 p4:Pt,s4.ct.parts=P++[p1,p2,p3,p4]∧p1.kind=4∧(p2.kind=1∧p2.text=[60])∧p3.kind=2∧p4.kind=5:=by
  have hq:s4.ct.parts=P++[⟨4,s.seen.length+s.pend.length,[121],P.length+1+2⟩,⟨1,s1.seen.length,[60],0⟩,⟨2,s2.seen.length+s2.pend.length,[110],0⟩,⟨5,s3.seen.length+s3.pend.length,[121],P.length⟩]:=by
   rw[hs4]
   show (s3.flush.take _ _).2.parts=_
   rw[t4]
   rfl
  exact⟨_,_,_,_,hq,rfl,⟨rfl,rfl⟩,rfl,rfl⟩
 have c4:s4.ct.opened=[]∧s4.pend=[]:=by
  rw[hs4]
  show (s3.flush.take _ _).2.opened=_∧_
  rw[t4]
  exact⟨rfl,rfl⟩
 have f4:s4.flush=s4.ct:=by unfold Cs.flush; rw[if_pos c4.2]
 have t5:s4.flush.take (qd3 (33::32::w)) (s4.seen.length+s4.pend.length)=(0,s4.ct):=by rw[qwp,f4]; rfl
 obtain⟨s5,hs5⟩:∃ s5,s5=s4.step (.tg (33::32::w)):=⟨_,rfl⟩
 have c5:s5.ct=s4.ct∧s5.pend=[]:=by
  rw[hs5]
  show (s4.flush.take _ _).2=_∧_
  rw[t5]
  exact⟨rfl,rfl⟩
 obtain⟨s6,hs6⟩:∃ s6,s6=s5.step (.tx [60,116,105,116,108,101,62]):=⟨_,rfl⟩
 have c6:s6.flush.parts=s4.ct.parts++[⟨1,s5.seen.length,[60,116,105,116,108,101,62],0⟩]∧s6.ct.opened=[]∧s6.pend=[60,116,105,116,108,101,62]:=by
  have hp:s6.pend=[60,116,105,116,108,101,62]:=by rw[hs6]; show s5.pend++_=_; rw[c5.2]; rfl
  refine⟨?_,?_,hp⟩
  ·unfold Cs.flush
   rw[hp,if_neg (by simp),hs6]
   show s5.ct.parts++_=_
   rw[c5.1]
   rfl
  ·rw[hs6]
   show s5.ct.opened=_
   rw[c5.1]
   exact c4.1
 have t7:=qm1 s6 [118] qhl
 obtain⟨s7,hs7⟩:∃ s7,s7=s6.step (.tg [118]):=⟨_,rfl⟩
 have c7:s7.ct.parts=s6.flush.parts++[⟨2,s6.seen.length+s6.pend.length,[118],0⟩]∧s7.ct.opened=[]∧s7.pend=[]:=by
  rw[hs7]
  show (s6.flush.take _ _).2.parts=_∧(s6.flush.take _ _).2.opened=_∧_
  rw[t7]
  exact⟨rfl,(qgv s6).2.2.trans c6.2.1,rfl⟩
 obtain⟨s8,hs8⟩:∃ s8,s8=s7.step (.tx [60,47,116,105,116,108,101,62]):=⟨_,rfl⟩
 have c8:s8.flush.parts=s7.ct.parts++[⟨1,s7.seen.length,[60,47,116,105,116,108,101,62],0⟩]∧s8.ct.opened=[]∧s8.pend=[60,47,116,105,116,108,101,62]:=by
  have hp:s8.pend=[60,47,116,105,116,108,101,62]:=by rw[hs8]; show s7.pend++_=_; rw[c7.2.2]; rfl
  refine⟨?_,?_,hp⟩
  ·unfold Cs.flush
   rw[hp,if_neg (by simp),hs8]
   rfl
  ·rw[hs8]
   exact c7.2.1
 have hfin:(pc6 w).foldl Cs.step s=s8:=by rw[hs8,hs7,hs6,hs5,hs4,hs3,hs2,hs1]; rfl
 have hparts:s8.flush.parts=P++([p1,p2,p3,p4]++[⟨1,s5.seen.length,[60,116,105,116,108,101,62],0⟩,⟨2,s6.seen.length+s6.pend.length,[118],0⟩,⟨1,s7.seen.length,[60,47,116,105,116,108,101,62],0⟩]):=by
  rw[c8.1,c7.1,c6.1,hc4]; simp
 have hfold:∀ r,qbr ([p1,p2,p3,p4]++r) Sx.start []=none:=by
  intro r
  show (qbo Sx.start [] p1).bind _=none
  have g1:qbo Sx.start [] p1=some (Sx.start,[Sx.start]):=by
   unfold qbo
   rw[if_neg (by omega),if_neg (by omega),if_pos (by omega)]
   rfl
  rw[g1]
  show (qbo Sx.start [Sx.start] p2).bind _=none
  have g2:qbo Sx.start [Sx.start] p2=some (qau Sx.start [60],[Sx.start]):=by
   unfold qbo
   rw[if_pos e2.1,e2.2,show qa2 Sx.start [60]=none by decide +kernel]
  rw[g2]
  show (qbo (qau Sx.start [60]) [Sx.start] p3).bind _=none
  have g3:qbo (qau Sx.start [60]) [Sx.start] p3=none:=by
   unfold qbo
   rw[if_neg (by omega),if_pos e3,if_neg (by decide +kernel)]
  rw[g3]
  rfl
 refine⟨?_,?_,?_,?_⟩
 ·refine⟨h.pend,by decide,by rw[q40]; simp,by rw[hop],.inr (.inr rfl),?_⟩
  show Good _ (s.step (.tg [94,121]))
  rw[← hs1]
  show Good _ (s1.step (.tx [60]))
  rw[← hs2]
  refine⟨by rw[c2.2.2]; rfl,by decide,by rw[q5s]; simp,by rw[t3],.inl (by rw[q5s]),?_⟩
  rw[← hs3]
  refine⟨by rw[c3.2.2]; rfl,by decide,by rw[qwq]; simp,by rw[t4],.inr (.inr rfl),?_⟩
  rw[← hs4]
  refine⟨by rw[c4.2]; rfl,?_,by rw[qwp]; simp,by rw[t5],.inr (.inr rfl),?_⟩
  ·intro hm
   simp only[List.mem_cons]at hm
   rcases hm with hm | hm | hm
   ·revert hm; decide
   ·revert hm; decide
   ·exact(qon _ (hw _ hm)).2.1 rfl
  rw[← hs5]
  show Good _ (s5.step (.tx [60,116,105,116,108,101,62]))
  rw[← hs6]
  refine⟨by rw[c6.2.2]; decide,by decide,by rw[qhl]; simp,by rw[t7],.inl (by rw[qhl]),?_⟩
  rw[← hs7]
  show noBr (s7.step (.tx [60,47,116,105,116,108,101,62])).pend=true
  rw[← hs8,c8.2.2]
  decide
 ·rw[hfin]
  exact(qgv s8).2.2.trans c8.2.1
 ·rw[hfin,hparts,qcv,hS.fold]
  exact hfold _
 ·rw[hfin,hparts]
  intro p hp
  simp only[List.mem_append,List.mem_cons,List.not_mem_nil,or_false]at hp
  rcases hp with hp | (hp | hp | hp | hp) | hp | hp | hp
  ·exact hS.six p hp
  all_goals (rw[hp]; first | omega | simp)
theorem q3m (V w:List UInt8) (hw:qdw w) (l:List Tok) (O:List UInt8) (hg:∀ r,Good r (l.foldl Cs.step Cs.start)→Good (l++r) Cs.start) (ha:AtP V KTop 2 [] [] Sx.start Sx.start O (l.foldl Cs.step Cs.start)) (hl:(qal (l++pc6 w)).length≤2000) :
  (qbe (qal (l++pc6 w)) []).2.code=3:=by
 obtain⟨q1,q2,q3,q4⟩:=q7v V w hw ha
 rw[← List.foldl_append]at q2 q3 q4
 have hr:=qxd _ (hg _ q1)
 have hleft:((l++pc6 w).foldl Cs.step Cs.start).flush.left=(0,0):=by unfold Ct.left; rw[q2]; rfl
 rw[hleft]at hr
 have hcut:qav (qal (l++pc6 w))=((0,0),((l++pc6 w).foldl Cs.step Cs.start).flush.parts):=by rw[qjz _ hl,hr,if_pos rfl]
 have hc:(qav (qal (l++pc6 w))).1.1=0:=by rw[hcut]
 have hok:=qir _ hc
 have hlk:=qno [⟨[],(qav (qal (l++pc6 w))).2⟩] (qal (l++pc6 w)).length hok.1 (qls _)
 rw[show qaj [⟨[],(qav (qal (l++pc6 w))).2⟩] 0=((l++pc6 w).foldl Cs.step Cs.start).flush.parts by rw[hcut]; rfl,q3]at hlk
 rw[qi2 (by simp) rfl,qjy hc,if_neg (by simp[Ft.none])]
 simp only at hlk ⊢
 rw[if_pos (by rw[hlk.1]; simp)]
 exact hlk.1
def pcOf (k:Nat) (w:List UInt8):List Tok:=if k=0 then pc0 w else if k=1 then pc1 w else if k=2 then pc2 w else if k=3 then pc3 w else if k=4 then pc4 w else if k=5 then pc5 w else if k=7 then pc7 w else pc8 w
def poOf (k:Nat) (V w:List UInt8):List UInt8:=if k=0 then po0 V w else if k=1 then po1 V w else if k=2 then po2 V w else if k=3 then po3 V w else if k=4 then po4 V w else if k=5 then po5 V w else if k=7 then po7 V w else po8 V w
def qgu (V:List UInt8):List (Nat×List UInt8)→List UInt8→List UInt8→List UInt8×List UInt8
 | [],t,out=>(t,out++[46])
 | (k,w)::l,t,out=>if 1800≤t.length then(t,out++[46]) else if k=6 then(t++qal (pc6 w),[]) else qgu V l (t++qal (pcOf k w)) (out++poOf k V w)
theorem q3e (V:List UInt8) (k:Nat) (w:List UInt8) (hw:qdw w) {O:List UInt8} {s:Cs} (h:AtP V KTop 2 [] [] Sx.start Sx.start O s) :
  AtP V KTop 2 [] [] Sx.start Sx.start (O++poOf k V w) ((pcOf k w).foldl Cs.step s)∧∀ l,Good l ((pcOf k w).foldl Cs.step s)→Good (pcOf k w++l) s:=by
 unfold pcOf poOf
 by_cases h0:k=0
 ·simp only[if_pos h0]; exact q71 V w hw h
 simp only[if_neg h0]
 by_cases h1:k=1
 ·simp only[if_pos h1]; exact q70 V w hw h
 simp only[if_neg h1]
 by_cases h2:k=2
 ·simp only[if_pos h2]; exact q7z V w hw h
 simp only[if_neg h2]
 by_cases h3:k=3
 ·simp only[if_pos h3]; exact q7y V w hw h
 simp only[if_neg h3]
 by_cases h4:k=4
 ·simp only[if_pos h4]; exact q7x V w hw h
 simp only[if_neg h4]
 by_cases h5:k=5
 ·simp only[if_pos h5]; exact q7w V w hw h
 simp only[if_neg h5]
 by_cases h7:k=7
 ·simp only[if_pos h7]; exact q7u V w hw h
 simp only[if_neg h7]
 exact q7t V w hw h
theorem qqs (k:Nat) (w:List UInt8) (hw:w.length≤10):(qal (pcOf k w)).length≤150:=by
 unfold pcOf
 repeat' split
 all_goals
  simp only[pc0,pc1,pc2,pc3,pc4,pc5,pc7,pc8,qal,Tok.bytes,List.length_append,List.length_cons,List.length_nil]
  omega
theorem q56 (w:List UInt8) (hw:w.length≤10):(qal (pc6 w)).length≤150:=by
 simp only[pc6,qal,Tok.bytes,List.length_append,List.length_cons,List.length_nil]
 omega
def qwi (V:List UInt8) (r:List UInt8×List UInt8):Prop:=
 r.1.length≤2000∧(r.2=[]→(qbe r.1 []).2.code=3) ∧
 (r.2≠[]→(qbe r.1 []).2=Ft.none∧∀ depth,(Ev.page ⟨D0 V,(qbe r.1 []).1.2,(qbe r.1 []).1.1,depth,-1⟩).2=0∧(Ev.page ⟨D0 V,(qbe r.1 []).1.2,(qbe r.1 []).1.1,depth,-1⟩).1.out++[46]=r.2)
theorem q3r (V:List UInt8):∀(l:List (Nat×List UInt8)) (toks:List Tok) (out:List UInt8),(∀ x∈l,qdw x.2∧x.2.length≤10)→(qal toks).length≤1950 →
  AtP V KTop 2 [] [] Sx.start Sx.start out (toks.foldl Cs.step Cs.start)→(∀ r,Good r (toks.foldl Cs.step Cs.start)→Good (toks++r) Cs.start)→qwi V (qgu V l (qal toks) out):=by
 have done:∀(toks:List Tok) (out:List UInt8),(qal toks).length≤1950→AtP V KTop 2 [] [] Sx.start Sx.start out (toks.foldl Cs.step Cs.start)→(∀ r,Good r (toks.foldl Cs.step Cs.start)→Good (toks++r) Cs.start)→qwi V (qal toks,out++[46]):=by
  intro toks out hl ha hg
  have hg0:Good toks Cs.start:=by
   have:=hg [] ha.pend
   rwa [List.append_nil]at this
  refine⟨by show (qal toks).length≤2000; omega,fun h=>absurd h (by simp),fun _=>⟨(qo9 V toks out hg0 ha (by omega) 0).1,fun depth=>?_⟩⟩
  obtain⟨_,h2,h3⟩:=qo9 V toks out hg0 ha (by omega) depth
  exact⟨h2,by show _++[46]=out++[46]; rw[h3]⟩
 intro l
 induction l with
 | nil=>intro toks out _ hl ha hg; exact done toks out hl ha hg
 | cons x l ih=>
   intro toks out hx hl ha hg
   obtain⟨k,w⟩:=x
   obtain⟨hw,hw10⟩:=hx _ (List.mem_cons_self ..)
   unfold qgu
   by_cases h1:1800≤(qal toks).length
   ·rw[if_pos h1]; exact done toks out hl ha hg
   rw[if_neg h1]
   by_cases h6:k=6
   ·rw[if_pos h6,← qh2]
    have:=q56 w hw10
    have hlen:(qal (toks++pc6 w)).length≤2000:=by rw[qh2,List.length_append]; omega
    exact⟨hlen,fun _=>q3m V w hw toks out hg ha hlen,fun h=>absurd rfl h⟩
   ·rw[if_neg h6,← qh2]
    have:=qqs k w hw10
    obtain⟨a1,a2⟩:=q3e V k w hw ha
    rw[← List.foldl_append]at a1 a2
    refine ih (toks++pcOf k w) (out++poOf k V w) (fun y hy=>hx y (List.mem_cons_of_mem _ hy)) (by rw[qh2,List.length_append]; omega) a1 fun r hr=>?_
    rw[List.append_assoc]
    refine hg _ (a2 r hr)
theorem qyr (V:List UInt8) (l:List (Nat×List UInt8)) (hl:∀ x∈l,qdw x.2∧x.2.length≤10):qwi V (qgu V l [] []):=
 q3r V l [] [] hl (by decide) (q4r V) fun _ hr=>hr
end Go.Proofs.YtfkhljmiehdgmaaGreatDoor.Pl

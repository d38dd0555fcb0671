/-
  Steps of the proof (texts laid together, blanks left out): TkC, TkD, EdC, TkE, EdI, EdJ.
-/
import Derived.Test.YtfkhljmiehdgmaaGreatDoorTaAQ
import Derived.Test.YtfkhljmiehdgmaaGreatDoorTaAF
namespace Go.Proofs.YtfkhljmiehdgmaaGreatDoor.Pl
structure AtP (V:List UInt8) (Q:List Pc→Prop) (m:Nat) (pre:List Pt) (st:List Nat) (x0 x:Sx) (O:List UInt8) (s:Cs):Prop where
 opened:s.ct.opened=st
 pend:noBr s.pend=true
 seg:∃ l x1 O1,s.ct.parts=pre++l∧Seg V Q m pre.length x0 l O1 x1∧(∀ B,tx s.pend (x1,B)=some (x,B))∧O=O1++s.pend
theorem qi9 {V:List UInt8} {Q:List Pc→Prop} {m:Nat} (hm:1≤m) {pre:List Pt} {st:List Nat} {x0 x:Sx} {O:List UInt8} {s:Cs} (h:AtP V Q m pre st x0 x O s):∃ l,s.flush.parts=pre++l∧Seg V Q m pre.length x0 l O x:=by
 obtain⟨l,x1,O1,h1,h2,h3,h4⟩:=h.seg
 unfold Cs.flush
 by_cases hp:s.pend=[]
 ·rw[if_pos hp]
  rw[hp]at h3 h4
  have h3:=h3 []
  rw[qr0]at h3
  injection h3 with h3
  injection h3 with h3 _
  exact⟨l,h1,by rw[h4,List.append_nil,← h3]; exact h2⟩
 ·rw[if_neg hp]
  refine⟨l++[⟨1,s.seen.length,s.pend,0⟩],by rw[← List.append_assoc,← h1],?_⟩
  rw[h4]
  exact qu9 h2 (q23 V Q m _ _ _ hm s.pend h3)
theorem qgl {V:List UInt8} {Q:List Pc→Prop} {m:Nat} {pre:List Pt} {st:List Nat} {x0 x x':Sx} {O:List UInt8} {s:Cs} (h:AtP V Q m pre st x0 x O s) (u:List UInt8) (hu:noBr u=true) (ht:∀ B,tx u (x,B)=some (x',B)) :
  AtP V Q m pre st x0 x' (O++u) (s.step (.tx u)):=by
 obtain⟨l,x1,O1,h1,h2,h3,h4⟩:=h.seg
 refine⟨h.opened,q3n h.pend hu,l,x1,O1,h1,h2,fun B=>?_,by rw[h4,List.append_assoc]; rfl⟩
 show tx (s.pend++u) (x1,B)=_
 rw[q4w,h3 B]
 exact ht B
theorem qm0 (s:Cs) (c:List UInt8) (k:Nat) (hk:k=3∨k=4) (nm:List UInt8) (hc:qd3 c=⟨k,0,nm,[],[]⟩) (ho:s.ct.opened=[]) :
  s.flush.take (qd3 c) (s.seen.length+s.pend.length)=(0,{ s.flush with parts:=s.flush.parts++[⟨k,s.seen.length+s.pend.length,nm,0⟩],opened:=[s.flush.parts.length] }):=by
 have ho2:s.flush.opened=[]:=(qgv s).2.2.trans ho
 rw[hc]
 unfold Ct.take
 rw[if_neg (by simp),if_neg (by show k≠7; omega),if_neg (by show k≠8; omega),if_pos hk,ho2,if_neg (by simp)]
 rfl
theorem qm1 (s:Cs) (c:List UInt8) (hc:qd3 c=⟨2,0,[118],[],[]⟩) :
  s.flush.take (qd3 c) (s.seen.length+s.pend.length)=(0,{ s.flush with parts:=s.flush.parts++[⟨2,s.seen.length+s.pend.length,[118],0⟩] }):=by
 rw[hc]; rfl
theorem qh5 {V:List UInt8} {Q:List Pc→Prop} (hQ:∀ K,Q K→KOk K) {m:Nat} (hm:1≤m) {pre:List Pt} {st:List Nat} {x0 x:Sx} {O:List UInt8} {s:Cs} (h:AtP V Q m pre st x0 x O s) (c:List UInt8) (hc:qd3 c=⟨2,0,[118],[],[]⟩)
  (ao:Int) (hx:x.hole=(ao,0)) (ha:qgw ao=0):AtP V Q m pre st x0 x.behindHole (O++qan ao V) (s.step (.tg c)):=by
 obtain⟨l,h1,h2⟩:=qi9 hm h
 have hs:=qm1 s c hc
 refine⟨?_,rfl,l++[⟨2,s.seen.length+s.pend.length,[118],0⟩],x.behindHole,O++qan ao V,?_,?_,fun B=>qr0 _,(List.append_nil _).symm⟩
 ·show (s.flush.take _ _).2.opened=st
  rw[hs]
  exact(qgv s).2.2.trans h.opened
 ·show (s.flush.take _ _).2.parts=_
  rw[hs,← List.append_assoc,← h1]
 ·exact qu9 h2 (q24 V Q hQ m _ _ _ hm ao hx ha)
theorem qwh {V:List UInt8} {s:Cs} (x:Sx) (ho:s.ct.opened=[]) (c:List UInt8) (k:Nat) (hk:k=3∨k=4) (nm:List UInt8) (hc:qd3 c=⟨k,0,nm,[],[]⟩) :
  AtP V KOk 1 (s.flush.parts++[⟨k,s.seen.length+s.pend.length,nm,0⟩]) [s.flush.parts.length] x x [] (s.step (.tg c)):=by
 have hs:=qm0 s c k hk nm hc ho
 refine⟨?_,rfl,[],x,[],?_,q0k _ _ _ _ _,fun B=>qr0 _,rfl⟩
 ·show (s.flush.take _ _).2.opened=_
  rw[hs]
 ·show (s.flush.take _ _).2.parts=_
  rw[hs,List.append_nil]
theorem qk0 (s:Cs) (c:List UInt8) (nm:List UInt8) (hc:qd3 c=⟨5,0,nm,[],[]⟩) (pre l:List Pt) (p:Pt) (hp:p.text=nm) (h1:s.flush.parts=pre++[p]++l) (ho:s.ct.opened=[pre.length]) :
  s.flush.take (qd3 c) (s.seen.length+s.pend.length)=(0,{ s.flush with parts:=pre++({ p with mate:=pre.length+1+l.length }::l++[⟨5,s.seen.length+s.pend.length,nm,pre.length⟩]),opened:=[] }):=by
 have ho2:s.flush.opened=[pre.length]:=(qgv s).2.2.trans ho
 have h1':s.flush.parts=pre++p::l:=by rw[h1]; simp
 rw[hc]
 unfold Ct.take
 rw[if_neg (by simp),if_neg (by simp),if_neg (by simp),if_neg (by simp),if_pos rfl,ho2]
 show (if qmw s.flush.parts pre.length≠nm then _ else _)=_
 rw[h1',qxp,if_neg (fun q=>q hp)]
 simp only[List.getLast_singleton,qm8]
 have e:(pre++p::l).length=pre.length+1+l.length:=by simp; omega
 rw[e]
 simp
theorem qru {V:List UInt8} {k:Nat} (hk:k=3∨k=4) {nm:List UInt8} {F:List UInt8→List UInt8} (hS:q2o V k nm 2 F) {pre:List Pt} {x0 x:Sx} {O Ob:List UInt8} {s0 s:Cs} (h0:AtP V KTop 2 pre [] x0 x O s0)
  (h:AtP V KOk 1 (s0.flush.parts++[⟨k,s0.seen.length+s0.pend.length,nm,0⟩]) [s0.flush.parts.length] x x Ob s) (c:List UInt8) (hc:qd3 c=⟨5,0,nm,[],[]⟩):AtP V KTop 2 pre [] x0 x (O++F Ob) (s.step (.tg c)):=by
 obtain⟨l0,a1,a2⟩:=qi9 (by omega) h0
 obtain⟨l,b1,b2⟩:=qi9 (by omega) h
 have hs:=qk0 s c nm hc s0.flush.parts l _ rfl b1 h.opened
 refine⟨?_,rfl,l0++(⟨k,s0.seen.length+s0.pend.length,nm,s0.flush.parts.length+1+l.length⟩::l++[⟨5,s.seen.length+s.pend.length,nm,s0.flush.parts.length⟩]),x,O++F Ob,?_,?_,fun B=>qr0 _,(List.append_nil _).symm⟩
 ·show (s.flush.take _ _).2.opened=_
  rw[hs]
 ·show (s.flush.take _ _).2.parts=_
  rw[hs,← List.append_assoc pre,← a1]
 ·refine qu9 a2 ?_
  have e:pre.length+l0.length=s0.flush.parts.length:=by rw[a1,List.length_append]
  rw[e]
  refine q52 hk hS ?_ _ _ rfl
  rw[List.length_append]at b2
  exact b2
theorem qeu {l:List Tok} {s:Cs} {V:List UInt8} {Q:List Pc→Prop} {m:Nat} {pre:List Pt} {st:List Nat} {x0 x:Sx} {O:List UInt8} (h:AtP V Q m pre st x0 x O s) (c:List UInt8) (hc:qd3 c=⟨2,0,[118],[],[]⟩) (h125:(125:UInt8)∉c) (hg:Good l (s.step (.tg c))):Good (.tg c::l) s:=
 ⟨h.pend,h125,by rw[hc]; simp,by rw[qm1 s c hc],.inl (by rw[hc]),hg⟩
theorem qn2 {l:List Tok} {s:Cs} {V:List UInt8} {Q:List Pc→Prop} {m:Nat} {pre:List Pt} {x0 x:Sx} {O:List UInt8} (h:AtP V Q m pre [] x0 x O s) (c:List UInt8) (k:Nat) (hk:k=3∨k=4) (nm:List UInt8) (hc:qd3 c=⟨k,0,nm,[],[]⟩) (h125:(125:UInt8)∉c)
  (hf:(qal l).head?.any firm=true) (hg:Good l (s.step (.tg c))):Good (.tg c::l) s:=
 ⟨h.pend,h125,by rw[hc]; show k≠8; omega,by rw[qm0 s c k hk nm hc h.opened],.inr (.inr hf),hg⟩
theorem qk7 {l:List Tok} {s0 s:Cs} {V:List UInt8} {k:Nat} {nm:List UInt8} {x:Sx} {Ob:List UInt8} (h:AtP V KOk 1 (s0.flush.parts++[⟨k,s0.seen.length+s0.pend.length,nm,0⟩]) [s0.flush.parts.length] x x Ob s) (c:List UInt8) (hc:qd3 c=⟨5,0,nm,[],[]⟩) (h125:(125:UInt8)∉c)
  (hf:(s.seen++s.pend).getLast?.any firm=true) (hg:Good l (s.step (.tg c))):Good (.tg c::l) s:=by
 obtain⟨l1,b1,_⟩:=qi9 (by omega) h
 exact⟨h.pend,h125,by rw[hc]; simp,by rw[qk0 s c nm hc s0.flush.parts l1 _ rfl b1 h.opened],.inr (.inl hf),hg⟩
def abc:List UInt8:=[97,98,99,100,101,102,103,104,105,106,107,108,109,110,111,112,113,114,115,116,117,118,119,120,121,122]
def qdw (w:List UInt8):Prop:=∀ b∈w,b∈abc
def q8m (x:Sx):Prop:=∀ b∈abc,x.behind b=x∧qbv x.st.kind x.st.mode x.ma.far b=false
instance (x:Sx):Decidable (q8m x):=inferInstanceAs (Decidable (∀ b∈abc,_))
theorem qdx {x:Sx} (hx:q8m x) {w:List UInt8} (hw:qdw w) (B:List Sx):tx w (x,B)=some (x,B):=by
 induction w with
 | nil=>rfl
 | cons b w ih=>
   have hb:=hx b (hw b (by simp))
   rw[show b::w=[b]++w from rfl,q4w]
   have:tx [b] (x,B)=some (x,B):=by
    unfold tx qa2
    rw[if_neg (by rw[hb.2]; simp)]
    show some (x.behind b,B)=_
    rw[hb.1]
   rw[this]
   exact ih fun c hc=>hw c (List.mem_cons_of_mem _ hc)
theorem qj8 {x y:Sx} {u:List UInt8} (h:qa2 x u=none) (hy:qau x u=y) (B:List Sx):tx u (x,B)=some (y,B):=by
 unfold tx
 rw[h,← hy]
theorem qon:∀ b∈abc,b≠123∧b≠125∧firm b=true:=by decide
theorem qcp {w:List UInt8} (hw:qdw w):noBr w=true:=by
 induction w with
 | nil=>rfl
 | cons b w ih=>
   unfold noBr
   have h1:=(qon b (hw b (by simp))).1
   have h2:(b != 123)=true:=by simpa using h1
   rw[h2,Bool.true_or,Bool.true_and]
   exact ih fun c hc=>hw c (List.mem_cons_of_mem _ hc)
theorem q4z:qd3 [32,118,32]=⟨2,0,[118],[],[]⟩:=by decide +kernel
theorem q43:qd3 [35,110]=⟨3,0,[110],[],[]⟩:=by decide +kernel
theorem q42:qd3 [35,121]=⟨3,0,[121],[],[]⟩:=by decide +kernel
theorem qwr:qd3 [47,110]=⟨5,0,[110],[],[]⟩:=by decide +kernel
theorem qwq:qd3 [47,121]=⟨5,0,[121],[],[]⟩:=by decide +kernel
theorem q41:qd3 [94,110]=⟨4,0,[110],[],[]⟩:=by decide +kernel
theorem qs3 (s:Cs) (p:List UInt8) (u:List UInt8) (b:UInt8) (hp:s.pend=p) (h:p=u++[b]∧firm b=true):(s.seen++s.pend).getLast?.any firm=true:=by
 rw[hp,h.1,← List.append_assoc,List.getLast?_concat]
 exact h.2
theorem qs4 (s:Cs) (p c w:List UInt8) (hp:s.pend=w) (hs:s.seen=p++Tok.bytes (.tg c)) (hw:qdw w):(s.seen++s.pend).getLast?.any firm=true:=by
 rw[hp,hs,show p++Tok.bytes (.tg c)=p++(123::123::(c++[125]))++[125] by simp[Tok.bytes]]
 rcases List.eq_nil_or_concat w with rfl | ⟨u,b,rfl⟩
 ·rw[List.append_nil,List.getLast?_concat]; rfl
 ·rw[List.concat_eq_append,← List.append_assoc,List.getLast?_concat]
  exact(qon b (hw b (by simp))).2.2
theorem qhl:qd3 [118]=⟨2,0,[118],[],[]⟩:=by decide +kernel
def pc0 (w:List UInt8):List Tok:=[.tx w]
def po0 (_:List UInt8) (w:List UInt8):List UInt8:=w
theorem q71 (V w:List UInt8) (hw:qdw w) {O:List UInt8} {s:Cs} (h:AtP V KTop 2 [] [] Sx.start Sx.start O s):AtP V KTop 2 [] [] Sx.start Sx.start (O++po0 V w) ((pc0 w).foldl Cs.step s)∧∀ l,Good l ((pc0 w).foldl Cs.step s)→Good (pc0 w++l) s:=by
 have i0:=qgl h w (qcp hw) (qdx (x:=Sx.start) (by decide +kernel) hw)
 refine⟨?_,fun l hl=>hl⟩
 exact i0
def ps1:Sx:=Sx.start.behindHole
def pc1 (_:List UInt8):List Tok:=[.tg [118]]
def po1 (V:List UInt8) (_:List UInt8):List UInt8:=qan 1 V
theorem q70 (V w:List UInt8) (_:qdw w) {O:List UInt8} {s:Cs} (h:AtP V KTop 2 [] [] Sx.start Sx.start O s):AtP V KTop 2 [] [] Sx.start Sx.start (O++po1 V w) ((pc1 w).foldl Cs.step s)∧∀ l,Good l ((pc1 w).foldl Cs.step s)→Good (pc1 w++l) s:=by
 have i0:=qh5 (x:=Sx.start) (fun _ h=>.inl h) (by omega) h [118] qhl 1 (by decide +kernel) (by decide)
 rw[show Sx.start.behindHole=ps1 from rfl]at i0
 rw[show ps1=Sx.start by decide +kernel]at i0
 refine⟨?_,fun l hl=>qeu h [118] qhl (by decide) hl⟩
 exact i0
def ps2:Sx:=qau Sx.start [60,97,32,104,114,101,102,61,34]
def ps3:Sx:=ps2.behindHole
def ps4:Sx:=qau ps3 [47]
def ps5:Sx:=ps4.behindHole
def ps6:Sx:=qau ps5 [34,32,116,105,116,108,101,61,39]
def ps7:Sx:=ps6.behindHole
def ps8:Sx:=qau ps7 [39,62]
def pc2 (w:List UInt8):List Tok:=[.tx [60,97,32,104,114,101,102,61,34],.tg [118],.tx [47],.tx w,.tg [32,118,32],.tx [34,32,116,105,116,108,101,61,39],.tx w,.tg [118],.tx [39,62]]
def po2 (V w:List UInt8):List UInt8:=[60,97,32,104,114,101,102,61,34]++(qan 2 V++([47]++(w++(qan 3 V++([34,32,116,105,116,108,101,61,39]++(w++(qan 1 V++([39,62]))))))))
theorem q7z (V w:List UInt8) (hw:qdw w) {O:List UInt8} {s:Cs} (h:AtP V KTop 2 [] [] Sx.start Sx.start O s):AtP V KTop 2 [] [] Sx.start Sx.start (O++po2 V w) ((pc2 w).foldl Cs.step s)∧∀ l,Good l ((pc2 w).foldl Cs.step s)→Good (pc2 w++l) s:=by
 have i0:=qgl h [60,97,32,104,114,101,102,61,34] (by decide) (qj8 (x:=Sx.start) (y:=ps2) (by decide +kernel) rfl)
 have i1:=qh5 (x:=ps2) (fun _ h=>.inl h) (by omega) i0 [118] qhl 2 (by decide +kernel) (by decide)
 rw[show ps2.behindHole=ps3 from rfl]at i1
 have i2:=qgl i1 [47] (by decide) (qj8 (x:=ps3) (y:=ps4) (by decide +kernel) rfl)
 have i3:=qgl i2 w (qcp hw) (qdx (x:=ps4) (by decide +kernel) hw)
 have i4:=qh5 (x:=ps4) (fun _ h=>.inl h) (by omega) i3 [32,118,32] q4z 3 (by decide +kernel) (by decide)
 rw[show ps4.behindHole=ps5 from rfl]at i4
 have i5:=qgl i4 [34,32,116,105,116,108,101,61,39] (by decide) (qj8 (x:=ps5) (y:=ps6) (by decide +kernel) rfl)
 have i6:=qgl i5 w (qcp hw) (qdx (x:=ps6) (by decide +kernel) hw)
 have i7:=qh5 (x:=ps6) (fun _ h=>.inl h) (by omega) i6 [118] qhl 1 (by decide +kernel) (by decide)
 rw[show ps6.behindHole=ps7 from rfl]at i7
 have i8:=qgl i7 [39,62] (by decide) (qj8 (x:=ps7) (y:=ps8) (by decide +kernel) rfl)
 rw[show ps8=Sx.start by decide +kernel]at i8
 refine⟨?_,fun l hl=>qeu i0 [118] qhl (by decide) (qeu i3 [32,118,32] q4z (by decide) (qeu i6 [118] qhl (by decide) hl))⟩
 simp only[List.append_assoc]at i8
 exact i8
def ps9:Sx:=qau Sx.start [60,115,99,114,105,112,116,62,102,40,34]
def ps10:Sx:=ps9.behindHole
def ps11:Sx:=qau ps10 [34,44,32,39]
def ps12:Sx:=ps11.behindHole
def ps13:Sx:=qau ps12 [39,41,60,47,83,67,82,73,80,84,62]
def pc3 (w:List UInt8):List Tok:=[.tx [60,115,99,114,105,112,116,62,102,40,34],.tg [118],.tx [34,44,32,39],.tx w,.tg [118],.tx [39,41,60,47,83,67,82,73,80,84,62]]
def po3 (V w:List UInt8):List UInt8:=[60,115,99,114,105,112,116,62,102,40,34]++(qan 4 V++([34,44,32,39]++(w++(qan 4 V++([39,41,60,47,83,67,82,73,80,84,62])))))
theorem q7y (V w:List UInt8) (hw:qdw w) {O:List UInt8} {s:Cs} (h:AtP V KTop 2 [] [] Sx.start Sx.start O s):AtP V KTop 2 [] [] Sx.start Sx.start (O++po3 V w) ((pc3 w).foldl Cs.step s)∧∀ l,Good l ((pc3 w).foldl Cs.step s)→Good (pc3 w++l) s:=by
 have i0:=qgl h [60,115,99,114,105,112,116,62,102,40,34] (by decide) (qj8 (x:=Sx.start) (y:=ps9) (by decide +kernel) rfl)
 have i1:=qh5 (x:=ps9) (fun _ h=>.inl h) (by omega) i0 [118] qhl 4 (by decide +kernel) (by decide)
 rw[show ps9.behindHole=ps10 from rfl]at i1
 have i2:=qgl i1 [34,44,32,39] (by decide) (qj8 (x:=ps10) (y:=ps11) (by decide +kernel) rfl)
 have i3:=qgl i2 w (qcp hw) (qdx (x:=ps11) (by decide +kernel) hw)
 have i4:=qh5 (x:=ps11) (fun _ h=>.inl h) (by omega) i3 [118] qhl 4 (by decide +kernel) (by decide)
 rw[show ps11.behindHole=ps12 from rfl]at i4
 have i5:=qgl i4 [39,41,60,47,83,67,82,73,80,84,62] (by decide) (qj8 (x:=ps12) (y:=ps13) (by decide +kernel) rfl)
 rw[show ps13=Sx.start by decide +kernel]at i5
 refine⟨?_,fun l hl=>qeu i0 [118] qhl (by decide) (qeu i3 [118] qhl (by decide) hl)⟩
 simp only[List.append_assoc]at i5
 exact i5
def ps14:Sx:=qau Sx.start [60,115,116,121,108,101,62,97,123,98,58,34]
def ps15:Sx:=ps14.behindHole
def ps16:Sx:=qau ps15 [34,125,60,47,115,116,121,108,101,32,62]
def pc4 (w:List UInt8):List Tok:=[.tx [60,115,116,121,108,101,62,97,123,98,58,34],.tx w,.tg [118],.tx [34,125,60,47,115,116,121,108,101,32,62]]
def po4 (V w:List UInt8):List UInt8:=[60,115,116,121,108,101,62,97,123,98,58,34]++(w++(qan 5 V++([34,125,60,47,115,116,121,108,101,32,62])))
theorem q7x (V w:List UInt8) (hw:qdw w) {O:List UInt8} {s:Cs} (h:AtP V KTop 2 [] [] Sx.start Sx.start O s):AtP V KTop 2 [] [] Sx.start Sx.start (O++po4 V w) ((pc4 w).foldl Cs.step s)∧∀ l,Good l ((pc4 w).foldl Cs.step s)→Good (pc4 w++l) s:=by
 have i0:=qgl h [60,115,116,121,108,101,62,97,123,98,58,34] (by decide) (qj8 (x:=Sx.start) (y:=ps14) (by decide +kernel) rfl)
 have i1:=qgl i0 w (qcp hw) (qdx (x:=ps14) (by decide +kernel) hw)
 have i2:=qh5 (x:=ps14) (fun _ h=>.inl h) (by omega) i1 [118] qhl 5 (by decide +kernel) (by decide)
 rw[show ps14.behindHole=ps15 from rfl]at i2
 have i3:=qgl i2 [34,125,60,47,115,116,121,108,101,32,62] (by decide) (qj8 (x:=ps15) (y:=ps16) (by decide +kernel) rfl)
 rw[show ps16=Sx.start by decide +kernel]at i3
 refine⟨?_,fun l hl=>qeu i1 [118] qhl (by decide) hl⟩
 simp only[List.append_assoc]at i3
 exact i3
def ps17:Sx:=Sx.start.behindHole
def ps18:Sx:=qau ps17 [44]
def pc5 (w:List UInt8):List Tok:=[.tg [35,121],.tx w,.tg [118],.tx [44],.tg [47,121]]
def po5 (V:List UInt8) (w:List UInt8):List UInt8:=w++(qan 1 V++([44]++(w++(qan 1 V++([44])))))
theorem q7w (V w:List UInt8) (hw:qdw w) {O:List UInt8} {s:Cs} (h:AtP V KTop 2 [] [] Sx.start Sx.start O s):AtP V KTop 2 [] [] Sx.start Sx.start (O++po5 V w) ((pc5 w).foldl Cs.step s)∧∀ l,Good l ((pc5 w).foldl Cs.step s)→Good (pc5 w++l) s:=by
 have jo:=qwh (V:=V) Sx.start h.opened [35,121] 3 (by omega) [121] q42
 have b0:=qgl jo w (qcp hw) (qdx (x:=Sx.start) (by decide +kernel) hw)
 have b1:=qh5 (x:=Sx.start) (fun _ h=>h) (by omega) b0 [118] qhl 1 (by decide +kernel) (by decide)
 rw[show Sx.start.behindHole=ps17 from rfl]at b1
 have b2:=qgl b1 [44] (by decide) (qj8 (x:=ps17) (y:=ps18) (by decide +kernel) rfl)
 rw[show ps18=Sx.start by decide +kernel]at b2
 have jc:=qru (by omega) (q8p V) h b2 [47,121] qwq
 refine⟨?_,fun l hl=>?_⟩
 ·simp only[List.append_assoc,List.nil_append]at jc
  exact jc
 ·exact qn2 h [35,121] 3 (by omega) [121] q42 (by decide) (by cases w with | nil=>rfl | cons b w=>exact(qon b (hw b (by simp))).2.2) (qeu b0 [118] qhl (by decide) (qk7 b2 [47,121] qwq (by decide) (qs3 _ _ [] 44 rfl ⟨rfl,rfl⟩) hl))
def ps19:Sx:=qau Sx.start [60,105,62]
def ps20:Sx:=qau ps19 [60,47,105,62]
def pc7 (w:List UInt8):List Tok:=[.tg [94,110],.tx [60,105,62],.tx w,.tx [60,47,105,62],.tg [47,110]]
def po7 (_:List UInt8) (w:List UInt8):List UInt8:=[60,105,62]++(w++([60,47,105,62]))
theorem q7u (V w:List UInt8) (hw:qdw w) {O:List UInt8} {s:Cs} (h:AtP V KTop 2 [] [] Sx.start Sx.start O s):AtP V KTop 2 [] [] Sx.start Sx.start (O++po7 V w) ((pc7 w).foldl Cs.step s)∧∀ l,Good l ((pc7 w).foldl Cs.step s)→Good (pc7 w++l) s:=by
 have jo:=qwh (V:=V) Sx.start h.opened [94,110] 4 (by omega) [110] q41
 have b0:=qgl jo [60,105,62] (by decide) (qj8 (x:=Sx.start) (y:=ps19) (by decide +kernel) rfl)
 have b1:=qgl b0 w (qcp hw) (qdx (x:=ps19) (by decide +kernel) hw)
 have b2:=qgl b1 [60,47,105,62] (by decide) (qj8 (x:=ps19) (y:=ps20) (by decide +kernel) rfl)
 rw[show ps20=Sx.start by decide +kernel]at b2
 have jc:=qru (by omega) (q7p V) h b2 [47,110] qwr
 refine⟨?_,fun l hl=>?_⟩
 ·simp only[List.append_assoc,List.nil_append]at jc
  exact jc
 ·exact qn2 h [94,110] 4 (by omega) [110] q41 (by decide) rfl (qk7 b2 [47,110] qwr (by decide) (qs3 _ _ ([60,105,62]++w++[60,47,105]) 62 rfl ⟨by simp[Cs.step],rfl⟩) hl)
def ps21:Sx:=qau Sx.start [60,116,101,120,116,97,114,101,97,62]
def ps22:Sx:=ps21.behindHole
def ps23:Sx:=qau ps22 [60,47,116,101,120,116,97,114,101,97,62]
def pc8 (w:List UInt8):List Tok:=[.tx [60,116,101,120,116,97,114,101,97,62],.tx w,.tg [118],.tx [60,47,116,101,120,116,97,114,101,97,62],.tg [35,110],.tx w,.tg [47,110]]
def po8 (V:List UInt8) (w:List UInt8):List UInt8:=[60,116,101,120,116,97,114,101,97,62]++(w++(qan 1 V++([60,47,116,101,120,116,97,114,101,97,62])))
theorem q7t (V w:List UInt8) (hw:qdw w) {O:List UInt8} {s:Cs} (h:AtP V KTop 2 [] [] Sx.start Sx.start O s):AtP V KTop 2 [] [] Sx.start Sx.start (O++po8 V w) ((pc8 w).foldl Cs.step s)∧∀ l,Good l ((pc8 w).foldl Cs.step s)→Good (pc8 w++l) s:=by
 have i0:=qgl h [60,116,101,120,116,97,114,101,97,62] (by decide) (qj8 (x:=Sx.start) (y:=ps21) (by decide +kernel) rfl)
 have i1:=qgl i0 w (qcp hw) (qdx (x:=ps21) (by decide +kernel) hw)
 have i2:=qh5 (x:=ps21) (fun _ h=>.inl h) (by omega) i1 [118] qhl 1 (by decide +kernel) (by decide)
 rw[show ps21.behindHole=ps22 from rfl]at i2
 have i3:=qgl i2 [60,47,116,101,120,116,97,114,101,97,62] (by decide) (qj8 (x:=ps22) (y:=ps23) (by decide +kernel) rfl)
 rw[show ps23=Sx.start by decide +kernel]at i3
 have jo:=qwh (V:=V) Sx.start i3.opened [35,110] 3 (by omega) [110] q43
 have b0:=qgl jo w (qcp hw) (qdx (x:=Sx.start) (by decide +kernel) hw)
 have jc:=qru (by omega) (q8q V) i3 b0 [47,110] qwr
 refine⟨?_,fun l hl=>?_⟩
 ·simp only[List.append_assoc,List.append_nil]at jc
  exact jc
 ·exact qeu i1 [118] qhl (by decide) (qn2 i3 [35,110] 3 (by omega) [110] q43 (by decide) (by cases w with | nil=>rfl | cons b w=>exact(qon b (hw b (by simp))).2.2) (qk7 b0 [47,110] qwr (by decide) (qs4 _ _ _ w rfl rfl hw) hl))
theorem qog (S:List Src) (k:Nat) (s:Sr) (n:List UInt8) (x:Sx) (h:qag S n=0):behV S k s n x=(s,x):=by
 cases k with
 | zero=>rfl
 | succ k=>unfold behV; rw[if_pos h]
def nmV (S:List Src) (k:Nat) (s:Sr) (n:List UInt8) (x:Sx):Sr×Nat×Sx:=
 let r:=behV S 257 s n x
 if qag S n=0∨r.1.fault.code≠0 then(r.1,0,r.2)
 else if qgc r.1 (qag S n,x)=0 then
  (qdk S k r.1 (qag S n,x),qgc (qdk S k r.1 (qag S n,x)) (qag S n,x),r.2)
 else(r.1,qgc r.1 (qag S n,x),r.2)
theorem qyl (S:List Src) (k:Nat) (s:Sr) (n:List UInt8) (x:Sx) (h:qag S n=0):nmV S k s n x=(s,0,x):=by
 unfold nmV
 rw[qog S _ s n x h]
 simp only
 rw[if_pos (.inl h)]
def begun (S:List Src) (s:Sr) (e:En):Sr:={ s with nums:=qbg s.nums e s.vis.length,vis:=s.vis++[(e.1,List.replicate (qaj S e.1).length 0)] }
theorem ql7 (S:List Src) (k:Nat) (s:Sr) (e:En):qdk S (k+1) s e=goV (nmV S k) S e.1 s.vis.length (qaj S e.1) ((qaj S e.1).length+1) 0 (begun S s e) e.2 []:=by
 conv=>lhs; unfold qdk
 rfl
def quk (S:List Src) (P:List Pt):Prop:=∀ p∈P,p.kind=6→qag S p.text=0
theorem qmr (S:List Src) (k:Nat) (s:Sr) (e:En) (hw:Wf 0 (qaj S e.1)) (ha:quk S (qaj S e.1)) (h0:s.fault.code=0) (hx:SxOk e.2) :
  q2q S e.1 (qaj S e.1) (begun S s e) (qbr (qaj S e.1) e.2 []) (qdk S (k+1) s e):=by
 rw[ql7]
 have:=q4b (nmV S k) S e.1 s.vis.length (qaj S e.1) (qqc hw) (fun p hp hk s x=>qyl S k s _ x (ha p hp hk)) (begun S s e) h0 ((qaj S e.1).length+1) 0 (begun S s e) e.2 [] (by omega)
  (by rw[List.drop_zero]; have:=q13 hw [] 0 rfl; simpa using this) rfl (Marks.refl _) hx
 rw[List.drop_zero]at this
 exact this
theorem qmk (S:List Src) (k:Nat) (s:Sr) (P:List Pt) (hw:Wf 0 P) (ha:quk S P) (x:Sx) (hx:SxOk x) (B:List Sx) (y:Sx×List Sx) (h:qbr P x B=some y):qdd (behV S k) P (P.length+1) 0 s x=(s,y.1):=
 qxk (behV S k) hw P rfl (fun p hp hk s x=>qog S k s _ x (ha p hp hk)) _ s x B y (by omega) hx h
theorem qno (S:List Src) (len:Nat) (hw:Wf 0 (qaj S 0)) (ha:quk S (qaj S 0)) :
  match qbr (qaj S 0) Sx.start [] with
  | some y=>(y.1=Sx.start→(qdq S len).2=Ft.none∧(qdq S len).1.length=1)∧(y.1≠Sx.start→(qdq S len).2=⟨3,15,qlm S 0,len⟩)
  | Option.none=>(qdq S len).2.code=3∧(qdq S len).2.place=qlm S 0∧((qdq S len).2.pos=0∨∃ p∈qaj S 0,(qdq S len).2.pos=p.pos∨(p.kind=1∧(qdq S len).2.pos<p.pos+p.text.length)):=by
 have h:=qmr S 257 ⟨[],[],[],Ft.none⟩ (0,Sx.start) hw ha rfl qf0
 unfold qdq
 simp only
 generalize qdk S 258 ⟨[],[],[],Ft.none⟩ (0,Sx.start)=s at h
 unfold q2q at h
 cases hf:qbr (qaj S 0) Sx.start [] with
 | none=>
   simp only[hf]at h ⊢
   have:s.fault.code≠0:=by rw[h.1]; decide
   rw[if_pos this]
   exact h
 | some y=>
   simp only[hf]at h ⊢
   have hz:s.fault.code=0:=by rw[h.1]; rfl
   have hwalk:=qmk S 257 s _ hw ha Sx.start qf0 [] y hf
   rw[if_neg (by rw[hz]; simp),hwalk]
   have hy:SxOk y.1:=by
    clear hwalk h hz
    have hall:∀(l:List Pt) (x:Sx) (B:List Sx) (y:Sx×List Sx),SxOk x→qbr l x B=some y→SxOk y.1:=by
     intro l
     induction l with
     | nil=>intro x B y hx h; injection h with h; subst h; exact hx
     | cons p l ih=>
       intro x B y hx h
       obtain⟨z,h1,h2⟩:=Option.bind_eq_some_iff.1 h
       exact ih _ _ _ (qo8 hx h1) h2
    exact hall _ _ _ _ qf0 hf
   refine⟨fun e=>?_,fun e=>?_⟩
   ·rw[if_neg (fun q=>q.2 e),if_neg (by rw[hz]; simp)]
    refine⟨rfl,?_⟩
    rw[h.2.vis]; rfl
   ·rw[if_pos ⟨qki hy,e⟩]
theorem q3p {s:Sr} {v a:Nat} {m:Int} {i0:Nat} {ms:List Int} (h:s.vis[v]?=some (i0,ms)):(s.mark v a m).vis[v]?=some (i0,ms.set a m):=by
 unfold Sr.mark
 show (s.vis.modify v _)[v]?=_
 rw[List.getElem?_modify,h]
 simp
theorem q1o (nm:Sr→List UInt8→Sx→Sr×Nat×Sx) (S:List Src) (i v:Nat) (P:List Pt) (hk:∀ p∈P,1≤p.kind∧p.kind≤6) (h6:∀ p∈P,p.kind≠6) :
  ∀(n a:Nat) (s:Sr) (x:Sx) (B:List (Sx×Nat)) (i0:Nat) (ms:List Int) (z:Sx×List Sx),P.length - a<n→s.vis[v]?=some (i0,ms)→s.vis.length=v+1→ms.length=P.length→qbr (P.drop a) x (B.map (·.1))=some z →
  ∃ ms',(goV nm S i v P n a s x B).vis[v]?=some (i0,ms')∧(goV nm S i v P n a s x B).vis.length=v+1∧ms'.length=P.length∧(∀ k,k<a→ms'[k]?=ms[k]?) ∧
    ∀ k p y,a≤k→P[k]?=some p→p.kind=2→qbr ((P.drop a).take (k - a)) x (B.map (·.1))=some y→ms'[k]?=some y.1.hole.1:=by
 intro n
 induction n with
 | zero=>intro a s x B i0 ms z h; omega
 | succ n ih=>
   intro a s x B i0 ms z hn hv hvl hml hf
   unfold goV
   cases hp:P[a]? with
   | none=>
     have hle:P.length≤a:=by simpa using hp
     refine⟨ms,hv,hvl,hml,fun _ _=>rfl,fun k p y hk hpk=>?_⟩
     have:=(List.getElem?_eq_some_iff.1 hpk).1
     omega
   | some p=>
     have hlt:a<P.length:=(List.getElem?_eq_some_iff.1 hp).1
     have hmem:p∈P:=List.mem_of_getElem? hp
     have hkp:=hk p hmem
     have hp6:=h6 p hmem
     rw[qip hp]at hf ⊢
     obtain⟨y1,hf1,hf2⟩:=Option.bind_eq_some_iff.1 (show ((qbo x (B.map (·.1)) p).bind fun y=>qbr (P.drop (a+1)) y.1 y.2)=some z from hf)
     have next:∀(s':Sr) (x':Sx) (B':List (Sx×Nat)) (ms1:List Int),s'.vis[v]?=some (i0,ms1)→s'.vis.length=v+1→ms1.length=P.length→(x',B'.map (·.1))=y1→(∀ k,k<a→ms1[k]?=ms[k]?)→(p.kind=2→ms1[a]?=some x.hole.1) →
       ∃ ms',(goV nm S i v P n (a+1) s' x' B').vis[v]?=some (i0,ms')∧(goV nm S i v P n (a+1) s' x' B').vis.length=v+1∧ms'.length=P.length∧(∀ k,k<a→ms'[k]?=ms[k]?) ∧
         ∀ k q y,a≤k→P[k]?=some q→q.kind=2→qbr ((p::P.drop (a+1)).take (k - a)) x (B.map (·.1))=some y→ms'[k]?=some y.1.hole.1:=by
      intro s' x' B' ms1 hv' hvl' hml' he hlow h2
      obtain⟨ms',g1,g2,g3,g4,g5⟩:=ih (a+1) s' x' B' i0 ms1 z (by omega) hv' hvl' hml' (by rw[← he]at hf2; exact hf2)
      refine⟨ms',g1,g2,g3,fun k hk=>(g4 k (by omega)).trans (hlow k hk),fun k q y hk hq hq2 hy=>?_⟩
      by_cases hka:k=a
      ·subst hka
       rw[Nat.sub_self,List.take_zero]at hy
       injection hy with hy
       rw[← hy,g4 k (by omega)]
       rw[hp]at hq
       injection hq with hq
       exact h2 (hq▸hq2)
      ·obtain⟨d,hd⟩:∃ d,k - a=d+1:=⟨k - a - 1,by omega⟩
       rw[hd,List.take_succ_cons]at hy
       obtain⟨y2,hy1,hy2⟩:=Option.bind_eq_some_iff.1 (show ((qbo x (B.map (·.1)) p).bind fun y=>qbr ((P.drop (a+1)).take d) y.1 y.2)=some y from hy)
       rw[hf1]at hy1
       injection hy1 with hy1
       refine g5 k q y (by omega) hq hq2 ?_
       rw[show k - (a+1)=d by omega]
       rw[← hy1,← he]at hy2
       exact hy2
     unfold qbo at hf1
     simp only
     by_cases k1:p.kind=1
     ·rw[if_pos k1]at hf1 ⊢
      cases hs:qa2 x p.text with
      | some j=>rw[hs]at hf1; cases hf1
      | none=>
        rw[hs]at hf1
        exact next s _ B ms hv hvl hml (Option.some.inj hf1) (fun _ _=>rfl) (fun h=>by omega)
     rw[if_neg k1]at hf1 ⊢
     by_cases k2:p.kind=2
     ·rw[if_pos k2]at hf1 ⊢
      by_cases hh:x.hole.2=0
      ·rw[if_pos hh]at hf1
       rw[if_neg (fun q=>q hh)]
       refine next _ _ B (ms.set a x.hole.1) (q3p hv) (by unfold Sr.mark; simpa using hvl) (by simpa using hml) (Option.some.inj hf1) (fun k hk=>?_) (fun _=>?_)
       ·rw[List.getElem?_set_ne (by omega)]
       ·rw[List.getElem?_set_self (by omega)]
      ·rw[if_neg hh]at hf1; cases hf1
     rw[if_neg k2]at hf1 ⊢
     by_cases k3:p.kind=3∨p.kind=4
     ·rw[if_pos k3]at hf1 ⊢
      exact next s x (B++[(x,p.mate)]) ms hv hvl hml (by rw[List.map_append]; exact Option.some.inj hf1) (fun _ _=>rfl) (fun h=>by omega)
     rw[if_neg k3]at hf1 ⊢
     have k5:p.kind=5:=by omega
     rw[if_pos k5]at hf1 ⊢
     cases hB:B.getLast? with
     | none=>
       rw[List.getLast?_eq_none_iff]at hB
       subst hB
       cases hf1
     | some b=>
       have hB2:(B.map (·.1)).getLast?=some b.1:=by rw[List.getLast?_map,hB]; rfl
       rw[hB2]at hf1
       simp only at hf1 ⊢
       by_cases hb:x=b.1
       ·rw[if_pos hb]at hf1
        rw[if_neg (fun q=>q hb)]
        exact next s x B.dropLast ms hv hvl hml (by rw[List.map_dropLast]; exact Option.some.inj hf1) (fun _ _=>rfl) (fun h=>by omega)
       ·rw[if_neg hb]at hf1; cases hf1
theorem qyt (S:List Src) (len:Nat) (hw:Wf 0 (qaj S 0)) (h6:∀ p∈qaj S 0,p.kind≠6) (hf:qbr (qaj S 0) Sx.start []=some (Sx.start,[])) :
  ∃ ms,qdq S len=([(0,ms)],Ft.none)∧ms.length=(qaj S 0).length∧∀ k p y,(qaj S 0)[k]?=some p→p.kind=2→qbr ((qaj S 0).take k) Sx.start []=some y→ms[k]?=some y.1.hole.1:=by
 have ha:quk S (qaj S 0):=fun p hp h=>absurd h (h6 p hp)
 have h:=qmr S 257 ⟨[],[],[],Ft.none⟩ (0,Sx.start) hw ha rfl qf0
 obtain⟨ms,m1,m2,m3,_,m5⟩:=q1o (nmV S 257) S 0 0 (qaj S 0) (qqc hw) h6 ((qaj S 0).length+1) 0 (begun S ⟨[],[],[],Ft.none⟩ (0,Sx.start)) Sx.start [] 0 (List.replicate (qaj S 0).length 0) _ (by omega) rfl rfl (by simp) (by rw[List.drop_zero]; exact hf)
 rw[show goV (nmV S 257) S 0 0 (qaj S 0) ((qaj S 0).length+1) 0 (begun S ⟨[],[],[],Ft.none⟩ (0,Sx.start)) Sx.start []=qdk S 258 ⟨[],[],[],Ft.none⟩ (0,Sx.start) from(ql7 S 257 ⟨[],[],[],Ft.none⟩ (0,Sx.start)).symm]at m1 m2
 unfold qdq
 simp only
 generalize qdk S 258 ⟨[],[],[],Ft.none⟩ (0,Sx.start)=s at h m1 m2
 unfold q2q at h
 simp only[hf]at h
 have hz:s.fault.code=0:=by rw[h.1]; rfl
 have hwalk:=qmk S 257 s _ hw ha Sx.start qf0 [] _ hf
 rw[if_neg (by rw[hz]; simp),hwalk,if_neg (fun q=>q.2 rfl),if_neg (by rw[hz]; simp)]
 refine⟨ms,?_,m3,fun k p y hp hk hy=>m5 k p y (by omega) hp hk (by rw[List.drop_zero,Nat.sub_zero]; exact hy)⟩
 congr 1
 obtain⟨a,ha⟩:=List.length_eq_one_iff.1 m2
 rw[ha]at m1 ⊢
 injection m1 with m1
 rw[m1]
structure PtIn (t:List UInt8) (p:Pt):Prop where
 pos:p.pos≤t.length
 text:p.kind=1→p.pos+p.text.length≤t.length
 name:p.kind=6→p.text <:+: t
theorem qp7 {t:List UInt8} {c:Ct} {a z:Nat} (h:∀ p∈c.parts,PtIn t p) (ha:a≤t.length):∀ p∈(c.addText t a z).parts,PtIn t p:=by
 unfold Ct.addText
 split
 ·intro p hp
  simp only[List.mem_append,List.mem_singleton]at hp
  rcases hp with hp | rfl
  ·exact h p hp
  ·refine⟨ha,fun _=>?_,fun e=>by cases e⟩
   simp only[List.length_take,List.length_drop]; omega
 ·exact h
theorem qx0 {t:List UInt8} {l:List Pt} (m n:Nat) (h:∀ p∈l,PtIn t p):∀ p∈qbm l m n,PtIn t p:=by
 induction l generalizing m with
 | nil=>unfold qbm; simp
 | cons q l ih=>
   cases m with
   | zero=>
     intro p hp
     have e:qbm (q::l) 0 n={ q with mate:=n }::l:=rfl
     rw[e]at hp
     rcases List.mem_cons.1 hp with rfl | hp
     ·have:=h q (by simp); exact⟨this.pos,this.text,this.name⟩
     ·exact h p (List.mem_cons_of_mem _ hp)
   | succ m=>
     intro p hp
     have e:qbm (q::l) (m+1) n=q::qbm l m n:=by simp[qbm]
     rw[e]at hp
     rcases List.mem_cons.1 hp with rfl | hp
     ·exact h p (by simp)
     ·exact ih m (fun r hr=>h r (List.mem_cons_of_mem _ hr)) p hp
theorem q5r {t:List UInt8} {c:Ct} {one:Tg} {a:Nat} (h:∀ p∈c.parts,PtIn t p) (ha:a≤t.length) (hk:one.kind≠1) (hn:one.kind=6→one.name <:+: t):∀ p∈(c.take one a).2.parts,PtIn t p:=by
 have hnew:PtIn t ⟨one.kind,a,one.name,0⟩:=⟨ha,fun e=>absurd e hk,hn⟩
 have happ:∀(l:List Pt) (q:Pt),(∀ p∈l,PtIn t p)→PtIn t q→∀ p∈l++[q],PtIn t p:=fun l q hl hq p hp=>by
  simp only[List.mem_append,List.mem_singleton]at hp
  rcases hp with hp | rfl
  ·exact hl p hp
  ·exact hq
 unfold Ct.take
 by_cases h1:one.slip≠0
 ·rw[if_pos h1]; exact h
 rw[if_neg h1]
 by_cases h7:one.kind=7
 ·rw[if_pos h7]; exact h
 rw[if_neg h7]
 by_cases h8:one.kind=8
 ·rw[if_pos h8]; exact h
 rw[if_neg h8]
 by_cases h34:one.kind=3∨one.kind=4
 ·rw[if_pos h34]
  split
  ·exact h
  ·exact happ _ _ h hnew
 rw[if_neg h34]
 by_cases h5:one.kind=5
 ·rw[if_pos h5]
  split
  ·exact h
  ·rename_i m _
   split
   ·exact h
   ·exact happ _ _ (qx0 _ _ h) ⟨ha,(fun e=>by cases e),(fun e=>by cases e)⟩
 ·rw[if_neg h5]
  exact happ _ _ h hnew
theorem qmp (l cs:List UInt8):Go.Lib.trimS l cs <:+: l:=by
 unfold Go.Lib.trimS Go.Lib.trimLeftS Go.Lib.trimRightS
 refine(List.dropWhile_suffix _).isInfix.trans ?_
 have:=(List.dropWhile_suffix (cs.contains ·) (l:=l.reverse)).isInfix
 rw[← List.reverse_infix,List.reverse_reverse]
 exact this
theorem qvh (l:List UInt8) (h:(qcg l).kind=6):(qcg l).name <:+: l:=by
 rw[qvi]at h
 unfold qcg
 rw[if_neg (by omega),if_neg (by omega),if_neg (by omega)]
 unfold qc4
 rw[if_pos h]
 split
 ·unfold Go.Lib.trimLeftS
  exact(List.dropWhile_suffix _).isInfix.trans (List.drop_suffix _ _).isInfix
 ·exact List.nil_infix
theorem q5y {t:List UInt8} {c:Ct} {a:Nat} (hc:CtOk t c a) (h:∀ p∈c.parts,PtIn t p) :
  (∀ k p,c.step t a=.slip k p→p≤t.length)∧(∀ d,c.step t a=.over d→∀ p∈d.parts,PtIn t p)∧(∀ d b,c.step t a=.next d b→∀ p∈d.parts,PtIn t p):=by
 have hle:=hc.le
 cases hf1:(Go.Lib.cut (t.drop a) c.op).2.2 with
 | false=>
   rw[qkd hf1]
   refine⟨fun k p e=>(by cases e),fun d e=>?_,fun d b e=>(by cases e)⟩
   injection e with e
   subst e
   exact qp7 h hle
 | true=>
   obtain⟨i1,hi1,hi2,hi3,hi4,hi5⟩:=qiq _ _ hf1
   rw[List.length_drop]at hi2
   cases hf2:(Go.Lib.cut (Go.Lib.cut (t.drop a) c.op).2.1 c.cl).2.2 with
   | false=>
     rw[qhm hf1 hf2]
     refine⟨fun k p e=>?_,fun d e=>(by cases e),fun d b e=>(by cases e)⟩
     injection e with e1 e2
     omega
   | true=>
     obtain⟨i2,hj1,hj2,hj3,hj4,hj5⟩:=qiq _ _ hf2
     obtain⟨one,h1⟩:∃ one,qcg (Go.Lib.trimS (Go.Lib.cut (Go.Lib.cut (t.drop a) c.op).2.1 c.cl).1 qbc)=one:=⟨_,rfl⟩
     have ho:=qnf (Go.Lib.trimS (Go.Lib.cut (Go.Lib.cut (t.drop a) c.op).2.1 c.cl).1 qbc)
     have hn:=qvh (Go.Lib.trimS (Go.Lib.cut (Go.Lib.cut (t.drop a) c.op).2.1 c.cl).1 qbc)
     have hin:Go.Lib.trimS (Go.Lib.cut (Go.Lib.cut (t.drop a) c.op).2.1 c.cl).1 qbc <:+: t:=by
      refine(qmp _ _).trans ?_
      rw[hj3]
      refine(List.take_prefix _ _).isInfix.trans ?_
      rw[hi4]
      exact(List.drop_suffix _ _).isInfix.trans (List.drop_suffix _ _).isInfix
     rw[h1]at ho hn
     generalize hO:(if one.kind≠2 then qdr t (a+(Go.Lib.cut (t.drop a) c.op).1.length) (a+(Go.Lib.cut (t.drop a) c.op).1.length+c.op.length+(Go.Lib.cut (Go.Lib.cut (t.drop a) c.op).2.1 c.cl).1.length+c.cl.length) else(a+(Go.Lib.cut (t.drop a) c.op).1.length,a+(Go.Lib.cut (t.drop a) c.op).1.length+c.op.length+(Go.Lib.cut (Go.Lib.cut (t.drop a) c.op).2.1 c.cl).1.length+c.cl.length))=o
     rw[ql8 hf1 hf2 one h1 _ _ rfl rfl o hO]
     have hp:a+(Go.Lib.cut (t.drop a) c.op).1.length≤t.length:=by omega
     have hk:=ho.kind
     refine⟨fun k p e=>?_,fun d e=>?_,fun d b e=>?_⟩
     ·split at e
      ·injection e with e1 e2; omega
      ·cases e
     ·split at e<;>cases e
     ·split at e
      ·cases e
      ·injection e with e1 e2
       subst e1
       exact q5r (qp7 h hle) hp (by omega) (fun h6=>(hn h6).trans hin)
theorem q6j {t:List UInt8} {c:Ct} (h:∀ p∈c.parts,PtIn t p):c.left.2≤t.length:=by
 unfold Ct.left
 split
 ·exact Nat.zero_le _
 ·rename_i m _
  show qox c.parts m≤_
  unfold qox
  split
  ·rename_i p hp; exact(h p (List.mem_of_getElem? hp)).pos
  ·exact Nat.zero_le _
theorem q8y (t:List UInt8):∀(n:Nat) (c:Ct) (a:Nat),CtOk t c a→(∀ p∈c.parts,PtIn t p)→(Ct.go t n c a).1.2≤t.length∧∀ p∈(Ct.go t n c a).2,PtIn t p:=by
 intro n
 induction n with
 | zero=>intro c a _ _; exact⟨Nat.zero_le _,fun p hp=>by cases hp⟩
 | succ n ih=>
   intro c a hc h
   obtain⟨h1,h2,h3⟩:=q5y hc h
   unfold Ct.go
   cases hs:c.step t a with
   | slip k p=>exact⟨h1 k p hs,fun p hp=>by cases hp⟩
   | over d=>exact⟨q6j (h2 d hs),h2 d hs⟩
   | next d b=>exact ih d b (qfi hc hs).1 (h3 d b hs)
theorem q16 (t:List UInt8):(qav t).1.2≤t.length∧∀ p∈(qav t).2,PtIn t p:=by
 have h:=q8y t (t.length+1) Ct.start 0 (qhe t) (fun p hp=>by cases hp)
 unfold qav
 split
 ·exact⟨Nat.zero_le _,fun p hp=>by cases hp⟩
 ·split
  ·exact⟨Nat.zero_le _,h.2⟩
  ·exact⟨h.1,fun p hp=>by cases hp⟩
deriving instance DecidableEq for Pt
theorem qls (P:List Pt):quk [⟨[],P⟩] P:=fun _ _ _=>rfl
theorem qi2 {t:List UInt8} {L:List (List UInt8×List UInt8)} (h6:L.length≤6) (ha:qgm (L.map (·.1))=true):qbe t L =
  if(qa8 (([],t)::L)).1.code≠0 then(([],[]),(qa8 (([],t)::L)).1) else
  if(qdq (qa8 (([],t)::L)).2 t.length).2.code≠0 then(([],[]),(qdq (qa8 (([],t)::L)).2 t.length).2)
  else(((qdq (qa8 (([],t)::L)).2 t.length).1,(qa8 (([],t)::L)).2),Ft.none):=by
 unfold qbe
 rw[if_neg (fun q=>q.elim (fun q=>absurd h6 (by omega)) (fun q=>by rw[ha]at q; cases q))]
theorem qtt {n t:List UInt8} {L:List (List UInt8×List UInt8)} (h:(qav t).1.1≠0):qa8 ((n,t)::L)=(⟨2,(qav t).1.1,n,(qav t).1.2⟩,[]):=by
 unfold qa8
 rw[if_pos h]
theorem qjy {n t:List UInt8} (h:(qav t).1.1=0):qa8 [(n,t)]=(Ft.none,[⟨n,(qav t).2⟩]):=by
 unfold qa8
 rw[if_neg (fun q=>q h)]
 rfl
theorem qsx {t:List UInt8} (hc:(qav t).1.1=0) (hf:qbr (qav t).2 Sx.start []=some (Sx.start,[])):(qbe t []).2=Ft.none:=by
 rw[qi2 (by simp) rfl,qjy hc,if_neg (by simp[Ft.none])]
 have hl:=qno [⟨[],(qav t).2⟩] t.length (qir t hc).1 (qls _)
 have e:qaj [⟨[],(qav t).2⟩] 0=(qav t).2:=rfl
 rw[e,hf]at hl
 rw[if_neg (by rw[(hl.1 rfl).1]; decide)]
end Go.Proofs.YtfkhljmiehdgmaaGreatDoor.Pl

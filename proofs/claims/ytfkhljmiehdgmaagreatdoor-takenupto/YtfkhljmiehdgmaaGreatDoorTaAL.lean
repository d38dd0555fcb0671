/-
  Steps of the proof (texts laid together, blanks left out): TgQ, ReH, ReK.
-/
import Derived.Test.YtfkhljmiehdgmaaGreatDoorTaAK
import Derived.Lib.CutLaws
import Derived.Test.YtfkhljmiehdgmaaGreatDoorTaAJ
namespace Go.Proofs.YtfkhljmiehdgmaaGreatDoor
open Go.RowKit
theorem qtl (t:List UInt8) (a:Nat):((⟨t.toArray⟩:ByteArray).extract 0 a).data.toList=t.take a:=by
 rw[qhg]; simp
theorem qlo (t:List UInt8) (z:Nat):((⟨t.toArray⟩:ByteArray).extract z t.length).data.toList=t.drop z:=by
 rw[qhg]
 show (t.drop z).take (t.length - z)=t.drop z
 exact List.take_of_length_le (by simp)
theorem q6o (l:List UInt8):l=[]∨∃ A b,l=A++[b]:=by
 rcases List.eq_nil_or_concat l with h | ⟨A,b,h⟩
 ·exact .inl h
 ·exact .inr ⟨A,b,by simpa using h⟩
theorem qfa (l:List UInt8):(⟨l.toArray⟩:ByteArray).toList.isEmpty=l.isEmpty:=by rw[Lib.toList_data]
theorem qmg (A:List UInt8) (b:UInt8) (hh:A.length<(⟨(A++[b]).toArray⟩:ByteArray).size):(⟨(A++[b]).toArray⟩:ByteArray)[A.length]'hh=b:=by
 show (A++[b]).toArray[A.length]'_=b
 simp
theorem qkl (b:UInt8) (L:List UInt8) (hh:0<(⟨(b::L).toArray⟩:ByteArray).size):(⟨(b::L).toArray⟩:ByteArray)[0]'hh=b:=rfl
theorem qc2 (l:List UInt8):(⟨l.toArray⟩:ByteArray).size=l.length:=by simp[ByteArray.size]
theorem q3v (w:World) (B g:Nat) (t:List UInt8) (c:Pl.Ct) (vp vo:Value) (h:CtAt w B g t c vp vo) (a z:Nat) (ha:a≤t.length) (hz:z≤t.length) (ht:t.length≤2000) :
  Calls Tryz.prog 151 #[.pointer (some ⟨g,0,none⟩),.int .i64 a,.int .i64 z] w fun e w'=>e=.returned (.tuple #[.int .i64 (Pl.qdr t a z).1,.int .i64 (Pl.qdr t a z).2])∧Below w.heap.size w w':=by
 have hT:∀ w,Calls Tryz.prog 204 #[.string ((⟨t.toArray⟩:ByteArray).extract 0 a),.string ⟨#[9,12,13,32]⟩] w fun e w'=>e=.returned (bs (Lib.trimRightS (t.take a) Pl.qet))∧Below w.heap.size w w':=fun w=>by
  have:=qou ((⟨t.toArray⟩:ByteArray).extract 0 a) w (by rw[qhg,qc2]; simp; omega)
  rw[qtl]at this
  exact this
 have hL:∀ w,Calls Tryz.prog 196 #[.string ((⟨t.toArray⟩:ByteArray).extract z t.length),.string ⟨#[9,12,13,32]⟩] w fun e w'=>e=.returned (bs (Lib.trimLeftS (t.drop z) Pl.qet))∧Below w.heap.size w w':=fun w=>by
  have:=qqi ((⟨t.toArray⟩:ByteArray).extract z t.length) w
  rw[qlo]at this
  exact this
 have hAl:=Pl.qqh (t.take a) Pl.qet
 have hYl:=Pl.qka (t.drop z) Pl.qet
 unfold Pl.qdr
 rw[List.length_take]at hAl
 rw[List.length_drop]at hYl
 generalize Lib.trimRightS (t.take a) Pl.qet=A at *
 generalize Lib.trimLeftS (t.drop z) Pl.qet=Y at *
 have hP:∀ w,Calls Tryz.prog 205 #[.string ⟨Y.toArray⟩,.string ⟨#[10]⟩] w fun e w'=>e=.returned (.string ⟨(Lib.trimPrefix Y [10]).toArray⟩)∧w=w':=fun w=>by
  refine(Tryz.strings_TrimPrefix ⟨Y.toArray⟩ ⟨#[10]⟩ w).mono ?_
  rintro e w' ⟨rfl,rfl⟩
  exact⟨rfl,rfl⟩
 have hPl:=Pl.qwm Y [10]
 have hPs:(⟨(Lib.trimPrefix Y [10]).toArray⟩:ByteArray).size≤t.length:=by rw[qc2]; omega
 have fin:(t.length:Int) - ((⟨(Lib.trimPrefix Y [10]).toArray⟩:ByteArray).size:Int)=((t.length - (Lib.trimPrefix Y [10]).length:Nat):Int):=by rw[qc2]; omega
 unfold bs at hT hL
 rcases q6o A with rfl | ⟨A,b,rfl⟩
 ·rcases Y with _ | ⟨y,Y⟩
  ·have:=q6f w B g t c vp vo h a z ha hz ht _ _ hT hL _ hP hPs (qfa []) (qfa [])
   rw[fin]at this
   exact this
  ·by_cases hy:y=10
   ·have:=q6e w B g t c vp vo h a z ha hz ht _ _ hT hL _ hP hPs (qfa []) (by rw[qfa]; rfl) (by rw[qc2]; simp) (by rw[qkl]; exact hy)
    rw[fin]at this
    simp only[List.getLast?_nil,Option.any_none,List.head?_cons,Option.any_some,hy,bne_self_eq_false,Bool.or_self,Bool.false_eq_true,if_false]
    rw[hy]at this
    exact this
   ·have:=q6g w B g t c vp vo h a z ha hz ht _ _ hT hL (qfa []) (by rw[qfa]; rfl) (by rw[qc2]; simp) (by rw[qkl]; exact hy)
    have hb:(y != 10)=true:=by simpa using hy
    simp only[List.getLast?_nil,Option.any_none,List.head?_cons,Option.any_some,hb,Bool.or_true,if_true]
    exact this
 ·have hE:(⟨(A++[b]).toArray⟩:ByteArray).toList.isEmpty=false:=by rw[qfa]; simp
  have hS:(⟨(A++[b]).toArray⟩:ByteArray).size=A.length+1:=by rw[qc2]; simp
  have hSl:A.length≤100000:=by simp at hAl; omega
  by_cases hb:b=10
  ·rcases Y with _ | ⟨y,Y⟩
   ·have:=q6c w B g t c vp vo h a z ha hz ht _ _ hT hL _ hP hPs hE A.length hS hSl (fun hh=>by rw[qmg]; exact hb) (qfa [])
    rw[fin,qc2]at this
    simp only[List.getLast?_concat,Option.any_some,hb,bne_self_eq_false,List.head?_nil,Option.any_none,Bool.or_self,Bool.false_eq_true,if_false]
    rw[hb]at this
    exact this
   ·by_cases hy:y=10
    ·have:=q6b w B g t c vp vo h a z ha hz ht _ _ hT hL _ hP hPs hE A.length hS hSl (fun hh=>by rw[qmg]; exact hb) (by rw[qfa]; rfl) (by rw[qc2]; simp) (by rw[qkl]; exact hy)
     rw[fin,qc2]at this
     simp only[List.getLast?_concat,Option.any_some,hb,hy,bne_self_eq_false,List.head?_cons,Bool.or_self,Bool.false_eq_true,if_false]
     rw[hb,hy]at this
     exact this
    ·have:=q6d w B g t c vp vo h a z ha hz ht _ _ hT hL hE A.length hS hSl (fun hh=>by rw[qmg]; exact hb) (by rw[qfa]; rfl) (by rw[qc2]; simp) (by rw[qkl]; exact hy)
     have hb':(y != 10)=true:=by simpa using hy
     simp only[List.head?_cons,Option.any_some,hb',Bool.or_true,if_true]
     exact this
  ·have:=q6h w B g t c vp vo h a z ha hz ht _ _ hT hL hE A.length hS hSl (fun hh=>by rw[qmg]; exact hb)
   have hb':(b != 10)=true:=by simpa using hb
   simp only[List.getLast?_concat,Option.any_some,hb',Bool.true_or,if_true]
   exact this
theorem qoa (l:List UInt8):(Lib.cut l [46]).2.1.length≤l.length∧((Lib.cut l [46]).2.2=true→(Lib.cut l [46]).2.1.length+1≤l.length):=by
 unfold Lib.cut
 split
 ·rename_i h
  have hr:=Lib.index_room l [46] (by omega)
  simp only[List.length_cons,List.length_nil]at hr
  refine⟨by rw[List.length_drop]; omega,fun _=>?_⟩
  simp only[List.length_drop,List.length_cons,List.length_nil]
  omega
 ·exact⟨Nat.zero_le _,fun h=>by cases h⟩
set_option maxRecDepth 100000 in
set_option maxHeartbeats 1600000 in
theorem q4d (dv v:Value) (D:List Pl.Dt) (K:List Pl.Pc) (B:Nat) (w:World) (hD:DsAt B w dv D) (hK:qui w dv v K) (hne:K≠[]) :
  Calls Tryz.prog 175 #[v,.string ⟨#[46]⟩] w fun e w'=>e=.returned (qd9 dv ((K.head?).getD none))∧Below w.heap.size w w':=by
 obtain⟨so,cap,rfl,hl,hx⟩:=hK
 obtain⟨b,rfl,hbl,hcell⟩:=hx hne
 obtain⟨p,l,rfl⟩:∃ p l,K=p::l:=by
  cases K with
  | nil=>exact absurd rfl hne
  | cons p l=>exact⟨p,l,rfl⟩
 obtain⟨d0,d1⟩:=hcell l.length p (by simp)
 have hb1:∀ o,Below w.heap.size w (w.alloc o):=fun o=>(Below.refl _ _).alloc (Nat.le_refl _) o
 obtain⟨pa,pn,pcap,hpA⟩:=qfu hD p
 rw[hpA]at d0
 have e0:=fun o=>((hb1 o).cell (p:=⟨b,l.length*2,none⟩) hbl).trans d0
 have e1:=fun o=>((hb1 o).cell (p:=⟨b,l.length*2+1,none⟩) hbl).trans d1
 have HV:Hid (qd9 dv (((p::l).head?).getD none)=.agg #[.slice pa pn pcap,.int .i64 (pcI p)]):=by
  show qd9 dv p=_
  rw[qcy,hpA]
 have hLen:(p::l).length=l.length+1:=rfl
 rw[HV.out]
 rw[hLen]
 unfold maxLen at hl
 have hn:(l.length:Int)+1≤9223372036854775807:=by rw[hLen]at hl; omega
 have hn2:((l.length+1:Nat):Int)=(l.length:Int)+1:=by omega
 have hs:IntKind.i64.wrap ((l.length:Int)+1 - 1)=(l.length:Int):=by rw[IntKind.wrap_i64]; omega
 have hq:(l.length:Int)<(l.length:Int)+1:=by omega
 clear hcell hx hl hLen d0 d1 hb1 hpA hne
 generalize l.length=m at *
 go_enter Tryz.func175,Tryz.ntmps175
 go_wp2_with fail
 exact qjr (g:=w.heap.size) Tryz.results175 rfl rfl (heap_alloc_new w _) rfl ⟨rfl,(Below.refl _ _).alloc (Nat.le_refl _) _⟩
structure FpAt (w w':World) (g:Nat) (pa:Option Addr) (pn pcap k:Nat):Prop where
 pr:PrAt w w'
 blk:w'.heap[g]?=some (.cells #[.slice pa pn pcap,.int .i64 k] 147 (0,0))
 gt:w.heap.size<g
theorem FpAt.next {w w1 w':World} {g:Nat} {pa:Option Addr} {pn pcap k:Nat} (h:FpAt w w1 g pa pn pcap k) (hb:Below w1.heap.size w1 w'):FpAt w w' g pa pn pcap k:=
 ⟨h.pr.next hb,(hb.block _ (Array.getElem?_eq_some_iff.1 h.blk).1).trans h.blk,h.gt⟩
theorem FpAt.drewN {w w':World} {g:Nat} {pa:Option Addr} {pn pcap k:Nat} (h:FpAt w w' g pa pn pcap k) (n:Nat):FpAt w (w'.drewN n) g pa pn pcap k:=⟨⟨h.pr.res,qa3 h.pr.below n⟩,h.blk,h.gt⟩
theorem FpAt.set {w w':World} {g:Nat} {pa:Option Addr} {pn pcap k:Nat} (h:FpAt w w' g pa pn pcap k) (qa:Option Addr) (qn qcap q:Nat):FpAt w ((w'.setCell ⟨g,0,none⟩ (.slice qa qn qcap)).setCell ⟨g,1,none⟩ (.int .i64 q)) g qa qn qcap q:=by
 have hne:w.heap.size≠g:=Nat.ne_of_lt h.gt
 refine⟨⟨?_,(h.pr.below.setCell (p:=⟨g,0,none⟩) (Nat.le_of_lt h.gt) _).setCell (p:=⟨g,1,none⟩) (Nat.le_of_lt h.gt) _⟩,heap_setCell_same _ _ _ _ _ _ (heap_setCell_same _ _ _ _ _ _ h.blk),h.gt⟩
 rw[Below.heap_setCell _ _ _ _ hne,Below.heap_setCell _ _ _ _ hne]
 exact h.pr.res
theorem FpAt.facts {w w':World} {g:Nat} {pa:Option Addr} {pn pcap k:Nat} (h:FpAt w w' g pa pn pcap k):(w'.cell? ⟨g,0,none⟩=some (.slice pa pn pcap)∧w'.cell? ⟨g,1,none⟩=some (.int .i64 k))∧w'.frozen? ⟨g,0,none⟩=false∧w'.frozen? ⟨g,1,none⟩=false:=by
 have c:=qaa h.blk
 refine⟨⟨c 0 _ rfl,c 1 _ rfl⟩,?_⟩
 simp[World.frozen?,h.blk]
def reM:Value→Value→Nat
 | .string s,.bool true=>s.size+1
 | _,_=>0
theorem q1p (D:List Pl.Dt) (f:Nat) (p:Pl.Pc) (rest:List UInt8):Pl.qn3 D f p rest false=p:=by cases f<;>rfl
theorem qv1 (D:List Pl.Dt) (f:Nat) (p:Pl.Pc) (rest:List UInt8):Pl.qn3 D (f+1) p rest true=Pl.qn3 D f ((Pl.ql3 D p (Lib.cut rest [46]).1).getD none) (Lib.cut rest [46]).2.1 (Lib.cut rest [46]).2.2:=rfl
set_option maxRecDepth 100000 in
set_option maxHeartbeats 3200000 in
theorem qzb (dv v:Value) (D:List Pl.Dt) (K:List Pl.Pc) (name:ByteArray) (B:Nat) (w:World) (hB:B≤w.heap.size) (hD:DsAt B w dv D) (hK:qui w dv v K) (hm:qay w) (hs:name.size≤100000) (hne:name.data.toList≠[46]) :
  Calls Tryz.prog 175 #[v,.string name] w fun e w'=>e=.returned (qd9 dv (Pl.qds D K name.data.toList))∧Below w.heap.size w w':=by
 have hq:(name.toList==[46])=false:=by
  rw[beq_eq_false_iff_ne,ByteArray.toList_eq]
  exact hne
 obtain⟨R,HR⟩:∃ R,Hid (Pl.qds D K name.data.toList=R):=⟨_,rfl⟩
 rw[HR.out]
 have HR1:Hid (Pl.qn3 D (name.data.toList.length+1) (Pl.qg5 D (Lib.cut name.data.toList [46]).1 K) (Lib.cut name.data.toList [46]).2.1 (Lib.cut name.data.toList [46]).2.2=R):=by
  show _=_
  rw[← HR.out]
  unfold Pl.qds
  rw[if_neg hne]
 have hle:=qoa name.data.toList
 have HC:Hid (∀(s:ByteArray) (w':World),s.size≤100000→Below w.heap.size w w'→Calls Tryz.prog 146 #[.string s,.string ⟨#[46]⟩] w' fun e w2=>e=.returned (.tuple #[.string ⟨(Lib.cut s.data.toList [46]).1.toArray⟩,.string ⟨(Lib.cut s.data.toList [46]).2.1.toArray⟩,.bool (Lib.cut s.data.toList [46]).2.2])∧∃ n,w2=w'.drewN n):=fun s w' hs hb=>by
  obtain⟨m,hm'⟩:=hm.below hb
  exact Tryz.strings_Cut s ⟨#[46]⟩ m w' (by omega) hm'
 have HFi:Hid (∀(s:ByteArray) (w':World),Below w.heap.size w w'→Calls Tryz.prog 213 #[v,.string s] w' fun e w2=>e=.returned (qd9 dv (Pl.qg5 D s.data.toList K))∧Below w'.heap.size w' w2):=fun s w' hb=>qux dv v D K s B w' (Nat.le_trans hB hb.size) (hD.below (hb.mono hB)) (hK.below (Nat.le_refl _) hb)
 have HFl:Hid (∀(p:Pl.Pc) (s:ByteArray) (w':World),Below w.heap.size w w'→Calls Tryz.prog 214 #[qd9 dv p,.string s] w' fun e w2=>e=.returned (qps dv (Pl.ql3 D p s.data.toList))∧Below w'.heap.size w' w2):=fun p s w' hb=>qtk dv D p s B w' (Nat.le_trans hB hb.size) (hD.below (hb.mono hB))
 have HA:=(show Hid _ from qfu hD)
 obtain⟨so,cap,rfl,_⟩:=hK
 generalize hcut:Lib.cut name.data.toList [46]=c0 at HR1 hle
 obtain⟨wd,rest,more⟩:=c0
 simp only at HR1 hle
 obtain⟨p0,hp0⟩:∃ p0,Pl.qg5 D wd K=p0:=⟨_,rfl⟩
 rw[hp0]at HR1
 obtain⟨qa,qn,qcap,hqA⟩:=HA.out p0
 have HC1:Hid (∀ o,Calls Tryz.prog 146 #[.string name,.string ⟨#[46]⟩] (w.alloc o) fun e w2=>e=.returned (.tuple #[.string ⟨wd.toArray⟩,.string ⟨rest.toArray⟩,.bool more])∧∃ n,w2=(w.alloc o).drewN n):=fun o=>by
  have:=HC.out name (w.alloc o) hs ((Below.refl _ _).alloc (Nat.le_refl _) o)
  rw[hcut]at this
  exact this
 have HF1:Hid (∀ w',Below w.heap.size w w'→Calls Tryz.prog 213 #[.slice so K.length cap,.string ⟨wd.toArray⟩] w' fun e w2=>e=.returned (.agg #[.slice qa qn qcap,.int .i64 (pcI p0)])∧Below w'.heap.size w' w2):=fun w' hb=>by
  have:=HFi.out ⟨wd.toArray⟩ w' hb
  have e:Pl.qg5 D (ByteArray.mk wd.toArray).data.toList K=p0:=hp0
  rw[e,qcy,hqA]at this
  exact this
 have hnl:name.data.toList.length=name.size:=by simp
 have hfuel:more=true→rest.length+1≤name.data.toList.length+1:=fun h=>by have:=hle.2 h; omega
 have hrl:rest.length≤100000:=by have:=hle.1; omega
 clear hne hm hD HFi hcut hp0 HR hle
 generalize name.data.toList.length+1=fu at HR1 hfuel
 go_enter Tryz.func175,Tryz.ntmps175
 go_wp2_with (first
  | (go_at_call 146; refine Calls.mono (HC1.out _) ?_; rintro e w' ⟨rfl,n,rfl⟩)
  | (go_at_call 213; refine Calls.mono (HF1.out _ (qa3 ((Below.refl _ _).alloc (Nat.le_refl _) _) n)) ?_; rintro e w1 ⟨rfl,hb⟩))
 have hF:FpAt w (w1.alloc (.cells #[.slice qa qn qcap,.int .i64 (pcI p0)] 147)) w1.heap.size qa qn qcap (pcI p0):=by
  have h0:PrAt w ((w.alloc (.cells #[.slice none 0 0,.int .i64 0] 147)).drewN n):=⟨(qqq w).res,qa3 (qqq w).below n⟩
  have h1:=h0.next hb
  exact⟨h1.next ((Below.refl _ _).alloc (Nat.le_refl _) _),heap_alloc_new w1 _,h1.lt⟩
 have HF:=(show Hid _ from hF)
 clear hF hb HC1 HF1
 generalize w1.alloc _=W at HF ⊢
 generalize w1.heap.size=g at HF ⊢
 go_loopw [5,6,7] (fun a b c wr=>∃(f:Nat) (p:Pl.Pc) (wd rest:List UInt8) (more:Bool) (pa:Option Addr) (pn pcap:Nat),a=.string ⟨wd.toArray⟩∧b=.string ⟨rest.toArray⟩∧c=.bool more∧rest.length≤100000∧(more=true→rest.length+1≤f)∧Hid (Pl.qn3 D f p rest more=R)∧Hid (pcA dv p=.slice pa pn pcap)∧Hid (FpAt w wr g pa pn pcap (pcI p))) (fun _ b c _=>reM b c)
 case atStart=>exact⟨fu,p0,wd,rest,more,qa,qn,qcap,rfl,rfl,rfl,hrl,hfuel,HR1,hqA,HF.out⟩
 case round=>
  clear HF HR1 hfuel hrl hqA
  obtain⟨f,p,wd,rest,more,pa,pn,pcap,rfl,rfl,rfl,hrl,hfu,HG,HP,HF⟩:=hrel
  obtain⟨⟨k0,k1⟩,f0,f1⟩:=HF.out.facts
  cases more with
  | false=>
    have HE:Hid (qd9 dv R=.agg #[.slice pa pn pcap,.int .i64 (pcI p)]):=by
     show _=_
     rw[← HG.out,q1p,qcy,HP.out]
    obtain⟨⟨r0,r1⟩,g0,g1⟩:=HF.out.pr.facts
    clear HG hfu
    go_wp2_with fail
    rw[HE.out]
    exact qjr (g:=w.heap.size) Tryz.results175 rfl rfl (heap_setCell_same _ _ _ _ _ _ (heap_setCell_same _ _ _ _ _ _ HF.out.pr.res)) rfl ⟨rfl,(HF.out.pr.below.setCell (p:=⟨w.heap.size,0,none⟩) (Nat.le_refl _) _).setCell (p:=⟨w.heap.size,1,none⟩) (Nat.le_refl _) _⟩
  | true=>
    obtain⟨f',rfl⟩:∃ f',f=f'+1:=⟨f - 1,by have:=hfu rfl; omega⟩
    have hle:=qoa rest
    obtain⟨c0,hc0⟩:∃ c0,Lib.cut rest [46]=c0:=⟨_,rfl⟩
    obtain⟨wd2,rest2,more2⟩:=c0
    have hG2:=HG.out
    rw[qv1,hc0]at hG2
    rw[hc0]at hle
    simp only at hG2 hle
    have HC2:Hid (Calls Tryz.prog 146 #[.string ⟨rest.toArray⟩,.string ⟨#[46]⟩] wr fun e w2=>e=.returned (.tuple #[.string ⟨wd2.toArray⟩,.string ⟨rest2.toArray⟩,.bool more2])∧∃ n,w2=wr.drewN n):=by
     have:=HC.out ⟨rest.toArray⟩ wr (by rw[qc2]; exact hrl) HF.out.pr.below
     have e:Lib.cut (ByteArray.mk rest.toArray).data.toList [46]=(wd2,rest2,more2):=hc0
     rw[e]at this
     exact this
    obtain⟨r,hr⟩:∃ r,Pl.ql3 D p wd2=r:=⟨_,rfl⟩
    rw[hr]at hG2
    obtain⟨qa,qn,qcap,hq⟩:=HA.out (r.getD none)
    have HF2:Hid (∀ n,Calls Tryz.prog 214 #[.agg #[.slice pa pn pcap,.int .i64 (pcI p)],.string ⟨wd2.toArray⟩] (wr.drewN n) fun e w2=>e=.returned (.tuple #[.agg #[.slice qa qn qcap,.int .i64 (pcI (r.getD none))],.bool r.isSome])∧Below (wr.drewN n).heap.size (wr.drewN n) w2):=fun n=>by
     have:=HFl.out p ⟨wd2.toArray⟩ (wr.drewN n) (HF.out.drewN n).pr.below
     have e:Pl.ql3 D p (ByteArray.mk wd2.toArray).data.toList=r:=hr
     rw[e,qcy,HP.out]at this
     unfold qps at this
     rw[qcy,hq]at this
     exact this
    have HG2:=(show Hid _ from hG2)
    have HQ:=(show Hid _ from hq)
    have l0:=fun n=>(HF.out.drewN n).facts.1.1
    have l1:=fun n=>(HF.out.drewN n).facts.1.2
    have hl1:rest2.length≤100000:=by have:=hle.1; omega
    have hl2:more2=true→rest2.length+1≤f':=fun h=>by have:=hle.2 h; have:=hfu rfl; omega
    have hl3:more2=true→rest2.length+1≤rest.length:=hle.2
    clear HG hG2 hq hr hc0 hle hfu k0 k1 f0 f1
    go_wp2_with (first
     | (go_at_call 146; refine Calls.mono HC2.out ?_; rintro e w' ⟨rfl,n,rfl⟩)
     | (go_at_call 214; refine Calls.mono (HF2.out n) ?_; rintro e w2 ⟨rfl,hb⟩; have hF3:=(HF.out.drewN n).next hb; have HF3:=(show Hid _ from hF3); obtain⟨⟨m0,m1⟩,f0,f1⟩:=hF3.facts; clear hF3 hb))
    go_roundw
    case rel=>exact⟨f',r.getD none,wd2,rest2,more2,qa,qn,qcap,rfl,rfl,rfl,hl1,hl2,HG2,HQ,HF3.out.set qa qn qcap _⟩
    case measure=>
     cases more2 with
     | false=>exact Nat.succ_pos _
     | true=>
       have:=hl3 rfl
       show (ByteArray.mk rest2.toArray).size+1<(ByteArray.mk rest.toArray).size+1
       rw[qc2,qc2]
       omega
theorem qw9 (dv v:Value) (D:List Pl.Dt) (K:List Pl.Pc) (name:ByteArray) (B:Nat) (w:World) (hB:B≤w.heap.size) (hD:DsAt B w dv D) (hK:qui w dv v K) (hm:qay w) (hs:name.size≤100000) (hne:K≠[]) :
  Calls Tryz.prog 175 #[v,.string name] w fun e w'=>e=.returned (qd9 dv (Pl.qds D K name.data.toList))∧Below w.heap.size w w':=by
 by_cases h:name.data.toList=[46]
 ·obtain rfl:name=⟨#[46]⟩:=ByteArray.ext (Array.toList_inj.1 h)
  have e:Pl.qds D K (ByteArray.mk #[46]).data.toList=(K.head?).getD none:=by unfold Pl.qds; rw[if_pos rfl]
  rw[e]
  exact q4d dv v D K B w hD hK hne
 ·exact qzb dv v D K name B w hB hD hK hm hs h
end Go.Proofs.YtfkhljmiehdgmaaGreatDoor

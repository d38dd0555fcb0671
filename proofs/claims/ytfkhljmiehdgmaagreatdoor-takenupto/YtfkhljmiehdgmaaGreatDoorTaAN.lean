/-
  Steps of the proof (texts laid together, blanks left out): WalkK, WalkL, PlainJ, WalkM, PlainK, WalkN, PlainG.
-/
import Derived.Test.YtfkhljmiehdgmaaGreatDoorTaAB
import Derived.Test.YtfkhljmiehdgmaaGreatDoorTaAD
import Derived.Test.YtfkhljmiehdgmaaGreatDoorTaAC
import Derived.Test.YtfkhljmiehdgmaaGreatDoorTaAI
import Derived.Deep.RegionWith
import Derived.RegionTactic
import Derived.BigRegion
import Derived.Lib.TrimAscii
import Derived.Lib.RuneCount
import Derived.Lib.RuneBytes
namespace Go.Proofs.YtfkhljmiehdgmaaGreatDoor
open Go.RowKit
theorem qfw (b:UInt8) (all:ByteArray) (l:List UInt8) (w:World) (ha:all.data.toList=l) (h:Pl.qa0 b l=true) :
  Calls Tryz.prog 130 #[.string all,.int .u8 b.toNat] w fun e w'=>∃ x:Int,0≤x∧e=.returned (.int .i64 x)∧w=w':=by
 refine(Tryz.strings_IndexByte all b.toNat w).mono ?_
 rintro e w' ⟨rfl,rfl⟩
 refine⟨_,?_,rfl,rfl⟩
 rw[Pl.qgo,ha]
 rcases Pl.qd0 l b with ⟨a,_⟩ | ⟨_,a⟩
 ·exact a
 ·rw[h]at a; cases a
theorem qfe (b:UInt8) (all:ByteArray) (l:List UInt8) (w:World) (ha:all.data.toList=l) (h:Pl.qa0 b l=false) :
  Calls Tryz.prog 130 #[.string all,.int .u8 b.toNat] w fun e w'=>e=.returned (.int .i64 (-1))∧w=w':=by
 refine(Tryz.strings_IndexByte all b.toNat w).mono ?_
 rintro e w' ⟨rfl,rfl⟩
 refine⟨qa5 ?_,rfl⟩
 rw[Pl.qgo,ha]
 rcases Pl.qd0 l b with ⟨_,a⟩ | ⟨a,_⟩
 ·rw[h]at a; cases a
 ·exact a
theorem q36:(Tryz.prog.info? 5).map (fun i=>(i.zero,i.size,i.bytes))=some (some (.int .u8 0),1,1):=by kernel_rfl
set_option maxRecDepth 100000 in
set_option maxHeartbeats 1600000 in
theorem qhp (s:ByteArray) (w:World) (hs:s.size≤100000000) :
  Calls Tryz.prog 137 #[.string s] w fun e w'=>e=.returned (.int .i64 (Pl.qdn s.data.toList))∧w=w':=by
 go_enter Tryz.func137,Tryz.ntmps137
 go_wp2
 go_loop [7] (fun i=>∃ k:Nat,k≤s.size∧i=.int .i64 k∧Pl.run s.data.toList false=k+Pl.run (s.data.toList.drop k) (decide (0<k))) (fun i=>s.size - (intOf i).toNat)
 case atStart=>exact⟨0,Nat.zero_le _,rfl,by simp⟩
 case round=>
  obtain⟨k,hk,rfl,hr⟩:=hrel
  have HR:Hid (Pl.run s.data.toList false=k+Pl.run (s.data.toList.drop k) (decide (0<k))):=hr
  clear hr
  by_cases hlt:k<s.size
  ·by_cases hl:Pl.qcm s[k]=true
   ·have hl':Hid (Pl.qa0 s[k] Pl.qil=true):=by show _=_; rw[← Pl.qs1]; exact hl
    go_wp2_with (first | (go_at_call 132; refine(qbx s[k] _).mono ?_; rintro e w' ⟨rfl,rfl⟩))
    go_round
    case rel=>exact⟨k+1,by omega,by go_num,by rw[HR.out,Pl.qx5 s k hlt _ hl'.out]; simp; omega⟩
    case measure=>simp[intOf]; omega
   ·have hl:Pl.qcm s[k]=false:=by simpa using hl
    have hl':Hid (Pl.qa0 s[k] Pl.qil=false):=by show _=_; rw[← Pl.qs1]; exact hl
    by_cases h0:0<k
    ·have hk0:((k:Int)==0)=false:=beq_eq_false_iff_ne.2 (by omega)
     by_cases hc:s[k].toNat=58
     ·have hd:Hid (Pl.qa0 s[k] Pl.qd1=false):=by
       have:s[k]=58:=UInt8.toNat_inj.1 (by simpa using hc)
       show _=_; rw[this]; decide
      have he:Hid (Pl.run s.data.toList false=k):=by show _=_; rw[HR.out,Pl.qwx s k hlt _ hl'.out hd.out]; rfl
      have hv:Hid (Pl.qdn s.data.toList=k):=Pl.qjc _ _ (Pl.qva s k he.out h0 hlt hc)
      have hc2:((s[k].toNat:Int)==58)=true:=beq_iff_eq.2 (by omega)
      clear hc
      go_wp2_with (first | (go_at_call 132; refine(qbx s[k] _).mono ?_; rintro e w' ⟨rfl,rfl⟩))
      go_ret
      exact⟨qa5 (by rw[hv.out]),rfl⟩
     ·have hc2:((s[k].toNat:Int)==58)=false:=beq_eq_false_iff_ne.2 (by omega)
      by_cases hd:Pl.qde s[k]=true
      ·have hd':Hid (Pl.qa0 s[k] Pl.qd1=true):=by show _=_; rw[← Pl.qrc,hd]; rfl
       have h0':Hid (decide (0<k)=true):=by show _=_; simpa using h0
       clear hc
       go_wp2_with (first | (go_at_call 132; refine(qbx s[k] _).mono ?_; rintro e w' ⟨rfl,rfl⟩) | (go_at_call 102; refine(qcu s[k] _).mono ?_; rintro e w' ⟨rfl,rfl⟩))
       go_round
       case rel=>exact⟨k+1,by omega,by go_num,by rw[HR.out,h0'.out,Pl.qsl s k hlt hd'.out]; simp; omega⟩
       case measure=>simp[intOf]; omega
      ·have hd:Pl.qde s[k]=false:=by simpa using hd
       by_cases hp:Pl.qa0 s[k] [43,45,46]=true
       ·have hd':Hid (Pl.qa0 s[k] Pl.qd1=true):=by show _=_; rw[← Pl.qrc,hd,hp]; rfl
        have h0':Hid (decide (0<k)=true):=by show _=_; simpa using h0
        clear hc
        go_wp2_with (first | (go_at_call 132; refine(qbx s[k] _).mono ?_; rintro e w' ⟨rfl,rfl⟩) | (go_at_call 102; refine(qcu s[k] _).mono ?_; rintro e w' ⟨rfl,rfl⟩) | (go_at_call 130; refine(qfw s[k] _ [43,45,46] _ rfl hp).mono ?_; rintro e w' ⟨x,hx,rfl,rfl⟩))
        go_round
        case rel=>exact⟨k+1,by omega,by go_num,by rw[HR.out,h0'.out,Pl.qsl s k hlt hd'.out]; simp; omega⟩
        case measure=>simp[intOf]; omega
       ·have hp:Pl.qa0 s[k] [43,45,46]=false:=by simpa using hp
        have hd':Hid (Pl.qa0 s[k] Pl.qd1=false):=by show _=_; rw[← Pl.qrc,hd,hp]; rfl
        have he:Hid (Pl.run s.data.toList false=k):=by show _=_; rw[HR.out,Pl.qwx s k hlt _ hl'.out hd'.out]; rfl
        have hv:Hid (Pl.qdn s.data.toList=-1):=Pl.qe9 _ (Pl.qx1 s k he.out hlt hc)
        clear hc
        go_wp2_with (first | (go_at_call 132; refine(qbx s[k] _).mono ?_; rintro e w' ⟨rfl,rfl⟩) | (go_at_call 102; refine(qcu s[k] _).mono ?_; rintro e w' ⟨rfl,rfl⟩) | (go_at_call 130; refine(qfe s[k] _ [43,45,46] _ rfl hp).mono ?_; rintro e w' ⟨rfl,rfl⟩))
        go_ret
        exact⟨qa5 (by rw[hv.out]),rfl⟩
    ·have hk0:((k:Int)==0)=true:=beq_iff_eq.2 (by omega)
     have he:Hid (Pl.run s.data.toList false=0):=by
      obtain rfl:k=0:=by omega
      show _=_; rw[HR.out]; exact(Nat.zero_add _).trans (Pl.q0m s 0 hlt hl'.out)
     have hv:Hid (Pl.qdn s.data.toList=-1):=Pl.qe9 _ (Pl.qsg _ he.out)
     go_wp2_with (first | (go_at_call 132; refine(qbx s[k] _).mono ?_; rintro e w' ⟨rfl,rfl⟩))
     go_ret
     exact⟨qa5 (by rw[hv.out]),rfl⟩
  ·have he:Hid (Pl.run s.data.toList false=k):=by show _=_; rw[HR.out,Pl.q28 s k hlt]; rfl
   have hv:Hid (Pl.qdn s.data.toList=-1):=Pl.qe9 _ (Pl.qsh s k he.out hlt)
   go_wp2
   go_ret
   exact⟨qa5 (by rw[hv.out]),rfl⟩
theorem q09 (n:Nat):(madeCells (Value.int .u8 0).cells (n*1)).toList=List.replicate n (.int .u8 0):=by
 rw[Nat.mul_one]; exact toList_madeCells_one (.int .u8 0) n
theorem q51 (x:List Value) (n k:Nat) (z u:Value) (hx:x.length=k) (h:k<n):(x++List.replicate (n - k) z).set k u=(x++[u])++List.replicate (n - (k+1)) z:=by
 subst hx
 rw[List.set_append_right _ _ (Nat.le_refl _),Nat.sub_self,show n - x.length=(n - (x.length+1))+1 by omega,List.replicate_succ,List.set_cons_zero,List.append_assoc]; rfl
set_option maxRecDepth 100000 in
set_option maxHeartbeats 1600000 in
theorem q2n (s:ByteArray) (w:World) (hs:s.size≤100000000) :
  Calls Tryz.prog 187 #[.string s] w fun e w'=>e=.returned (.string ⟨(Pl.qeg s.data.toList).toArray⟩)∧Below w.heap.size w w':=by
 obtain⟨i0,hi,hz0,hz1,hz2⟩:=info_parts q36
 go_enter Tryz.func187,Tryz.ntmps187
 go_wp2_with (at_make; refine wpList_make_full _ rfl _ _ 82 rfl w.heap.size 5 i0 (.int .u8 0) 1 Tryz.underlying82 hi hz0 hz1 .i64 .i64 _ _ s.size rfl rfl rfl rfl (by rw[hz2]; omega) (by unfold maxLen; omega) (Nat.le_refl _) ?_; intro w1 hown0 hg0)
 rw[q09]at hown0
 have hb0:Below w.heap.size w w1:=(Below.refl _ _).grown hg0 (Nat.le_refl _) (fun k h=>by cases h)
 clear hg0
 go_loopw [4,10] (fun _ i wr=>∃ k:Nat,k≤s.size∧i=.int .i64 k∧wr.ownsRow w.heap.size 5 1 (.slice (some ⟨w.heap.size,0,none⟩) s.size s.size) s.size (Lib.byteCells (Pl.qeg (s.data.toList.take k))++List.replicate (s.size - k) (.int .u8 0))∧Below w.heap.size w wr) (fun _ i _=>s.size - (intOf i).toNat)
 case atStart=>exact⟨0,Nat.zero_le _,rfl,by simpa [Pl.qeg,Lib.byteCells] using hown0,hb0⟩
 case round=>
  obtain⟨k,hk,rfl,hown,hbw⟩:=hrel
  clear hown0 hb0
  by_cases hlt:k<s.size
  ·have hz:=hbw.size
   have hlen:(Lib.byteCells (Pl.qeg (s.data.toList.take k))).length=k:=by rw[qrh]; unfold Pl.qeg; rw[List.length_map,Pl.qwn s k hk]
   have hc0:wr.cell? ⟨w.heap.size,k,none⟩=some (.int .u8 0):=by
    rw[hown.cellAt k (by omega),List.getElem?_append_right (by omega),hlen]
    rw[Nat.sub_self,List.getElem?_replicate,if_pos (by omega)]
   have hf0:=hown.frozenAt k
   have HT:Hid (Lib.byteCells (Pl.qeg (s.data.toList.take (k+1)))=Lib.byteCells (Pl.qeg (s.data.toList.take k))++[.int .u8 (Pl.small s[k]).toNat]):=by
    show _=_
    rw[Pl.qg8 s k hlt,show Pl.qeg (s.data.toList.take k++[s[k]])=Pl.qeg (s.data.toList.take k)++[Pl.small s[k]] by simp[Pl.qeg],qgk]
   go_wp2_with (go_at_call 131; refine(qh6 s[k] _).mono ?_; rintro e w' ⟨rfl,rfl⟩)
   have hs1:=hown.stored k (.int .u8 (Pl.small s[k]).toNat)
   rw[q51 _ _ _ _ _ hlen hlt]at hs1
   go_roundw
   case rel=>
    refine⟨k+1,by omega,by go_num,?_,hbw.setCell (p:=⟨w.heap.size,k,none⟩) (Nat.le_refl _) _⟩
    rw[HT.out]
    exact hs1.1
   case measure=>simp[intOf]; omega
  ·have e:(Pl.qeg s.data.toList).length=s.size:=by unfold Pl.qeg; rw[List.length_map]; rfl
   rw[Pl.qkc s k (by omega),show s.size - k=0 by omega,List.replicate_zero,List.append_nil]at hown
   have hcv:=qre (P:=Tryz.prog) wr 82 9 5 Tryz.underlying82 Tryz.underlying5 Tryz.underlying9 w.heap.size _ (Pl.qeg s.data.toList) (by rw[e]; exact hown)
   clear e
   go_wp2
   go_ret
   exact⟨rfl,hbw⟩
def qvy:List UInt8:=[104,116,116,112]
def qny:List UInt8:=[104,116,116,112,115]
def qju:List UInt8:=[109,97,105,108,116,111]
def qw5 (l:List UInt8):Bool:=Pl.qeg l==qvy || (Pl.qeg l==qny || Pl.qeg l==qju)
set_option maxRecDepth 100000 in
set_option maxHeartbeats 1600000 in
theorem qpo (s:ByteArray) (w:World) (hs:s.size≤100000000) (ht:Tabs w) :
  Calls Tryz.prog 138 #[.string s] w fun e w'=>e=.returned (.bool (qw5 s.data.toList))∧Below w.heap.size w w':=by
 have HO:Hid (qw5 s.data.toList=(Pl.qeg s.data.toList==qvy || (Pl.qeg s.data.toList==qny || Pl.qeg s.data.toList==qju))):=rfl
 generalize hp:Pl.qeg s.data.toList=p at HO
 have HP:Hid (Pl.qeg s.data.toList=p):=hp
 clear hp
 have i0:∀ w,(Instr.index 294 (.agg qhb) (.int .i64 0)).run Tryz.prog w=.ok (.string ⟨#[104,116,116,112]⟩) w:=fun _=>by kernel_rfl
 have i1:∀ w,(Instr.index 294 (.agg qhb) (.int .i64 1)).run Tryz.prog w=.ok (.string ⟨#[104,116,116,112,115]⟩) w:=fun _=>by kernel_rfl
 have i2:∀ w,(Instr.index 294 (.agg qhb) (.int .i64 2)).run Tryz.prog w=.ok (.string ⟨#[109,97,105,108,116,111]⟩) w:=fun _=>by kernel_rfl
 go_enter Tryz.func138,Tryz.ntmps138
 go_wp2_with fail
 refine(q2n s _ hs).mono ?_
 rintro e w1 ⟨rfl,hb1⟩
 have ht1:=ht.kept hb1 ht.lt
 rw[HP.out]
 go_wp2_with (refine qg7 rfl 294 _ rfl 7 rfl qhb _ ht1.1 Tryz.underlying294 rfl (by kernel_rfl) ?_)
 go_loopw [5,9] (fun _ i wr=>∃ k:Nat,k≤3∧i=.int .i64 k∧(1≤k→(p==qvy)=false)∧(2≤k→(p==qny)=false)∧(3≤k→(p==qju)=false)∧Below w.heap.size w wr) (fun _ i _=>3 - (intOf i).toNat)
 case atStart=>exact⟨0,by omega,rfl,by omega,by omega,by omega,hb1⟩
 case round=>
  obtain⟨k,hk,rfl,h1,h2,h3,hbw⟩:=hrel
  have H1:Hid (1≤k→(p==qvy)=false):=h1
  have H2:Hid (2≤k→(p==qny)=false):=h2
  have H3:Hid (3≤k→(p==qju)=false):=h3
  clear h1 h2 h3
  rcases(show k=0∨k=1∨k=2∨k=3 by omega)with rfl | rfl | rfl | rfl
  ·by_cases hq:(p==qvy)=true
   ·have hq':(p==[104,116,116,112])=true:=hq
    clear hq
    go_wp2
    go_ret
    exact⟨qax (by rw[HO.out]; show true=((p==[104,116,116,112]) || _); rw[hq']; rfl),hbw⟩
   ·have hq:(p==qvy)=false:=by simpa using hq
    have HQ:Hid ((p==qvy)=false):=hq
    have hq':(p==[104,116,116,112])=false:=hq
    clear hq
    go_wp2
    go_roundw
    case rel=>exact⟨1,by omega,rfl,fun _=>HQ.out,by omega,by omega,hbw⟩
    case measure=>simp[intOf]
  ·by_cases hq:(p==qny)=true
   ·have hq':(p==[104,116,116,112,115])=true:=hq
    clear hq
    go_wp2
    go_ret
    exact⟨qax (by rw[HO.out]; show true=(_ || ((p==[104,116,116,112,115]) || _)); rw[hq']; simp),hbw⟩
   ·have hq:(p==qny)=false:=by simpa using hq
    have HQ:Hid ((p==qny)=false):=hq
    have hq':(p==[104,116,116,112,115])=false:=hq
    clear hq
    go_wp2
    go_roundw
    case rel=>exact⟨2,by omega,rfl,fun _=>H1.out (by omega),fun _=>HQ.out,by omega,hbw⟩
    case measure=>simp[intOf]
  ·by_cases hq:(p==qju)=true
   ·have hq':(p==[109,97,105,108,116,111])=true:=hq
    clear hq
    go_wp2
    go_ret
    exact⟨qax (by rw[HO.out]; show true=(_ || (_ || (p==[109,97,105,108,116,111]))); rw[hq']; simp),hbw⟩
   ·have hq:(p==qju)=false:=by simpa using hq
    have HQ:Hid ((p==qju)=false):=hq
    have hq':(p==[109,97,105,108,116,111])=false:=hq
    clear hq
    go_wp2
    go_roundw
    case rel=>exact⟨3,by omega,rfl,fun _=>H1.out (by omega),fun _=>H2.out (by omega),fun _=>HQ.out,hbw⟩
    case measure=>simp[intOf]
  ·go_wp2
   go_ret
   exact⟨qax (by rw[HO.out,H1.out (by omega),H2.out (by omega),H3.out (by omega)]; rfl),hbw⟩
end Go.Proofs.YtfkhljmiehdgmaaGreatDoor
namespace Go.Proofs.YtfkhljmiehdgmaaGreatDoor.Pl
def qbk:List (Int×List UInt8×List UInt8):=[
 (1,[38],[38,97,109,112,59]),(1,[60],[38,108,116,59]),(1,[62],[38,103,116,59]),(1,[34],[38,113,117,111,116,59]),(1,[39],[38,35,51,57,59]),
 (4,[226,128,168],[92,117,50,48,50,56]),(4,[226,128,169],[92,117,50,48,50,57])]
def fits (kd:Int) (l:List UInt8) (x:Int×List UInt8×List UInt8):Bool:=x.1==kd && x.2.1.isPrefixOf l
def qd6 (kd:Int) (l:List UInt8):List UInt8×List UInt8:=((qbk.find? (fits kd l)).map (·.2)).getD ([],[])
theorem qct (kd:Int) (l:List UInt8) (k:Nat) (x:Int×List UInt8×List UInt8) (hx:qbk[k]?=some x) (hn:(qbk.take k).find? (fits kd l)=none) (hf:fits kd l x=false):(qbk.take (k+1)).find? (fits kd l)=none:=by
 have hk:k<qbk.length:=(List.getElem?_eq_some_iff.1 hx).1
 rw[List.take_succ_eq_append_getElem hk,List.find?_append,hn]
 have:qbk[k]=x:=by
  rw[List.getElem?_eq_getElem hk]at hx; exact Option.some.inj hx
 rw[this]; simp[List.find?,hf]
theorem qgg (kd:Int) (l:List UInt8) (k:Nat) (x:Int×List UInt8×List UInt8) (hx:qbk[k]?=some x) (hn:(qbk.take k).find? (fits kd l)=none) (hf:fits kd l x=true):qd6 kd l=x.2:=by
 have hk:k<qbk.length:=(List.getElem?_eq_some_iff.1 hx).1
 have e:qbk[k]=x:=by
  rw[List.getElem?_eq_getElem hk]at hx; exact Option.some.inj hx
 have h:qbk=qbk.take k++x::qbk.drop (k+1):=by
  rw[← e,← List.drop_eq_getElem_cons hk,List.take_append_drop]
 unfold qd6
 rw[h,List.find?_append,hn]
 simp[List.find?,hf]
theorem q1x (kd:Int) (l:List UInt8) (hn:(qbk.take 7).find? (fits kd l)=none):qd6 kd l=([],[]):=by
 unfold qd6
 rw[show qbk=qbk.take 7 from rfl,hn]; rfl
end Go.Proofs.YtfkhljmiehdgmaaGreatDoor.Pl
namespace Go.Proofs.YtfkhljmiehdgmaaGreatDoor
open Go.RowKit
theorem qbj (s p:ByteArray) (l:List UInt8) (w:World) (hp:p.data.toList=l) :
  Calls Tryz.prog 191 #[.string s,.string p] w fun e w'=>e=.returned (.bool (l.isPrefixOf s.data.toList))∧w=w':=by
 refine(Tryz.strings_HasPrefix s p w).mono ?_
 rintro e w' ⟨rfl,rfl⟩
 exact⟨qax (by rw[hp]; rfl),rfl⟩
set_option maxRecDepth 100000 in
set_option maxHeartbeats 6400000 in
theorem qu1 (kd:Int) (s:ByteArray) (w:World) (ht:Tabs w) :
  Calls Tryz.prog 141 #[.int .i64 kd,.string s] w fun e w'=>e=.returned (.tuple #[.string ⟨(Pl.qd6 kd s.data.toList).1.toArray⟩,.string ⟨(Pl.qd6 kd s.data.toList).2.toArray⟩])∧Below w.heap.size w w':=by
 generalize ho:Pl.qd6 kd s.data.toList=o
 have HO:Hid (Pl.qd6 kd s.data.toList=o):=ho
 clear ho
 have i0:∀ w,(Instr.index 298 (.agg qd7) (.int .i64 0)).run Tryz.prog w=.ok (.agg #[.int .i64 1,.string ⟨#[38]⟩,.string ⟨#[38,97,109,112,59]⟩]) w:=fun _=>by kernel_rfl
 have i1:∀ w,(Instr.index 298 (.agg qd7) (.int .i64 1)).run Tryz.prog w=.ok (.agg #[.int .i64 1,.string ⟨#[60]⟩,.string ⟨#[38,108,116,59]⟩]) w:=fun _=>by kernel_rfl
 have i2:∀ w,(Instr.index 298 (.agg qd7) (.int .i64 2)).run Tryz.prog w=.ok (.agg #[.int .i64 1,.string ⟨#[62]⟩,.string ⟨#[38,103,116,59]⟩]) w:=fun _=>by kernel_rfl
 have i3:∀ w,(Instr.index 298 (.agg qd7) (.int .i64 3)).run Tryz.prog w=.ok (.agg #[.int .i64 1,.string ⟨#[34]⟩,.string ⟨#[38,113,117,111,116,59]⟩]) w:=fun _=>by kernel_rfl
 have i4:∀ w,(Instr.index 298 (.agg qd7) (.int .i64 4)).run Tryz.prog w=.ok (.agg #[.int .i64 1,.string ⟨#[39]⟩,.string ⟨#[38,35,51,57,59]⟩]) w:=fun _=>by kernel_rfl
 have i5:∀ w,(Instr.index 298 (.agg qd7) (.int .i64 5)).run Tryz.prog w=.ok (.agg #[.int .i64 4,.string ⟨#[226,128,168]⟩,.string ⟨#[92,117,50,48,50,56]⟩]) w:=fun _=>by kernel_rfl
 have i6:∀ w,(Instr.index 298 (.agg qd7) (.int .i64 6)).run Tryz.prog w=.ok (.agg #[.int .i64 4,.string ⟨#[226,128,169]⟩,.string ⟨#[92,117,50,48,50,57]⟩]) w:=fun _=>by kernel_rfl
 go_enter Tryz.func141,Tryz.ntmps141
 go_wp2_with (refine qg7 rfl 298 _ rfl 8 rfl qd7 _ ht.2.1 Tryz.underlying298 rfl (by kernel_rfl) ?_)
 go_loopw [7,9] (fun _ i wr=>∃ k:Nat,k≤7∧i=.int .i64 k∧(Pl.qbk.take k).find? (Pl.fits kd s.data.toList)=none∧Below w.heap.size w wr) (fun _ i _=>7 - (intOf i).toNat)
 case atStart=>exact⟨0,by omega,rfl,rfl,Below.refl _ _⟩
 case round=>
  obtain⟨k,hk,rfl,hn,hbw⟩:=hrel
  have HN:Hid ((Pl.qbk.take k).find? (Pl.fits kd s.data.toList)=none):=hn
  clear hn
  have hz:=hbw.size
  rcases(show k=0∨k=1∨k=2∨k=3∨k=4∨k=5∨k=6∨k=7 by omega)with rfl | rfl | rfl | rfl | rfl | rfl | rfl | rfl
  ·by_cases hq:((1:Int)==kd)=true
   ·by_cases hp:List.isPrefixOf [38] s.data.toList=true
    ·have HV:Hid (o=([38],[38,97,109,112,59])):=by
      show _=_; rw[← HO.out]; exact Pl.qgg kd _ 0 _ rfl HN.out (by show ((1:Int)==kd && List.isPrefixOf [38] _)=true; rw[hq,hp]; rfl)
     go_wp2_with (go_at_call 191; refine(qbj s _ [38] _ rfl).mono ?_; rintro e w' ⟨rfl,rfl⟩)
     go_region
     go_wp2
     go_ret2
     exact⟨by rw[HV.out]; rfl,by repeat (first | exact hbw | exact hbw.alloc hz _ | apply Below.drew)⟩
    ·have hp:List.isPrefixOf [38] s.data.toList=false:=Bool.eq_false_iff.2 hp
     have HV:Hid ((Pl.qbk.take (0+1)).find? (Pl.fits kd s.data.toList)=none):=
      Pl.qct kd _ 0 _ rfl HN.out (by show ((1:Int)==kd && List.isPrefixOf [38] _)=false; rw[hq,hp]; rfl)
     go_wp2_with (go_at_call 191; refine(qbj s _ [38] _ rfl).mono ?_; rintro e w' ⟨rfl,rfl⟩)
     go_roundw
     case rel=>exact⟨1,by omega,rfl,HV.out,by repeat (first | exact hbw | exact hbw.alloc hz _ | apply Below.drew)⟩
     case measure=>simp[intOf]
   ·have hq:((1:Int)==kd)=false:=by simpa using hq
    have HV:Hid ((Pl.qbk.take (0+1)).find? (Pl.fits kd s.data.toList)=none):=
     Pl.qct kd _ 0 _ rfl HN.out (by show ((1:Int)==kd && _)=false; rw[hq]; rfl)
    go_wp2
    go_roundw
    case rel=>exact⟨1,by omega,rfl,HV.out,by repeat (first | exact hbw | exact hbw.alloc hz _ | apply Below.drew)⟩
    case measure=>simp[intOf]
  ·by_cases hq:((1:Int)==kd)=true
   ·by_cases hp:List.isPrefixOf [60] s.data.toList=true
    ·have HV:Hid (o=([60],[38,108,116,59])):=by
      show _=_; rw[← HO.out]; exact Pl.qgg kd _ 1 _ rfl HN.out (by show ((1:Int)==kd && List.isPrefixOf [60] _)=true; rw[hq,hp]; rfl)
     go_wp2_with (go_at_call 191; refine(qbj s _ [60] _ rfl).mono ?_; rintro e w' ⟨rfl,rfl⟩)
     go_region
     go_wp2
     go_ret2
     exact⟨by rw[HV.out]; rfl,by repeat (first | exact hbw | exact hbw.alloc hz _ | apply Below.drew)⟩
    ·have hp:List.isPrefixOf [60] s.data.toList=false:=Bool.eq_false_iff.2 hp
     have HV:Hid ((Pl.qbk.take (1+1)).find? (Pl.fits kd s.data.toList)=none):=
      Pl.qct kd _ 1 _ rfl HN.out (by show ((1:Int)==kd && List.isPrefixOf [60] _)=false; rw[hq,hp]; rfl)
     go_wp2_with (go_at_call 191; refine(qbj s _ [60] _ rfl).mono ?_; rintro e w' ⟨rfl,rfl⟩)
     go_roundw
     case rel=>exact⟨2,by omega,rfl,HV.out,by repeat (first | exact hbw | exact hbw.alloc hz _ | apply Below.drew)⟩
     case measure=>simp[intOf]
   ·have hq:((1:Int)==kd)=false:=by simpa using hq
    have HV:Hid ((Pl.qbk.take (1+1)).find? (Pl.fits kd s.data.toList)=none):=
     Pl.qct kd _ 1 _ rfl HN.out (by show ((1:Int)==kd && _)=false; rw[hq]; rfl)
    go_wp2
    go_roundw
    case rel=>exact⟨2,by omega,rfl,HV.out,by repeat (first | exact hbw | exact hbw.alloc hz _ | apply Below.drew)⟩
    case measure=>simp[intOf]
  ·by_cases hq:((1:Int)==kd)=true
   ·by_cases hp:List.isPrefixOf [62] s.data.toList=true
    ·have HV:Hid (o=([62],[38,103,116,59])):=by
      show _=_; rw[← HO.out]; exact Pl.qgg kd _ 2 _ rfl HN.out (by show ((1:Int)==kd && List.isPrefixOf [62] _)=true; rw[hq,hp]; rfl)
     go_wp2_with (go_at_call 191; refine(qbj s _ [62] _ rfl).mono ?_; rintro e w' ⟨rfl,rfl⟩)
     go_region
     go_wp2
     go_ret2
     exact⟨by rw[HV.out]; rfl,by repeat (first | exact hbw | exact hbw.alloc hz _ | apply Below.drew)⟩
    ·have hp:List.isPrefixOf [62] s.data.toList=false:=Bool.eq_false_iff.2 hp
     have HV:Hid ((Pl.qbk.take (2+1)).find? (Pl.fits kd s.data.toList)=none):=
      Pl.qct kd _ 2 _ rfl HN.out (by show ((1:Int)==kd && List.isPrefixOf [62] _)=false; rw[hq,hp]; rfl)
     go_wp2_with (go_at_call 191; refine(qbj s _ [62] _ rfl).mono ?_; rintro e w' ⟨rfl,rfl⟩)
     go_roundw
     case rel=>exact⟨3,by omega,rfl,HV.out,by repeat (first | exact hbw | exact hbw.alloc hz _ | apply Below.drew)⟩
     case measure=>simp[intOf]
   ·have hq:((1:Int)==kd)=false:=by simpa using hq
    have HV:Hid ((Pl.qbk.take (2+1)).find? (Pl.fits kd s.data.toList)=none):=
     Pl.qct kd _ 2 _ rfl HN.out (by show ((1:Int)==kd && _)=false; rw[hq]; rfl)
    go_wp2
    go_roundw
    case rel=>exact⟨3,by omega,rfl,HV.out,by repeat (first | exact hbw | exact hbw.alloc hz _ | apply Below.drew)⟩
    case measure=>simp[intOf]
  ·by_cases hq:((1:Int)==kd)=true
   ·by_cases hp:List.isPrefixOf [34] s.data.toList=true
    ·have HV:Hid (o=([34],[38,113,117,111,116,59])):=by
      show _=_; rw[← HO.out]; exact Pl.qgg kd _ 3 _ rfl HN.out (by show ((1:Int)==kd && List.isPrefixOf [34] _)=true; rw[hq,hp]; rfl)
     go_wp2_with (go_at_call 191; refine(qbj s _ [34] _ rfl).mono ?_; rintro e w' ⟨rfl,rfl⟩)
     go_region
     go_wp2
     go_ret2
     exact⟨by rw[HV.out]; rfl,by repeat (first | exact hbw | exact hbw.alloc hz _ | apply Below.drew)⟩
    ·have hp:List.isPrefixOf [34] s.data.toList=false:=Bool.eq_false_iff.2 hp
     have HV:Hid ((Pl.qbk.take (3+1)).find? (Pl.fits kd s.data.toList)=none):=
      Pl.qct kd _ 3 _ rfl HN.out (by show ((1:Int)==kd && List.isPrefixOf [34] _)=false; rw[hq,hp]; rfl)
     go_wp2_with (go_at_call 191; refine(qbj s _ [34] _ rfl).mono ?_; rintro e w' ⟨rfl,rfl⟩)
     go_roundw
     case rel=>exact⟨4,by omega,rfl,HV.out,by repeat (first | exact hbw | exact hbw.alloc hz _ | apply Below.drew)⟩
     case measure=>simp[intOf]
   ·have hq:((1:Int)==kd)=false:=by simpa using hq
    have HV:Hid ((Pl.qbk.take (3+1)).find? (Pl.fits kd s.data.toList)=none):=
     Pl.qct kd _ 3 _ rfl HN.out (by show ((1:Int)==kd && _)=false; rw[hq]; rfl)
    go_wp2
    go_roundw
    case rel=>exact⟨4,by omega,rfl,HV.out,by repeat (first | exact hbw | exact hbw.alloc hz _ | apply Below.drew)⟩
    case measure=>simp[intOf]
  ·by_cases hq:((1:Int)==kd)=true
   ·by_cases hp:List.isPrefixOf [39] s.data.toList=true
    ·have HV:Hid (o=([39],[38,35,51,57,59])):=by
      show _=_; rw[← HO.out]; exact Pl.qgg kd _ 4 _ rfl HN.out (by show ((1:Int)==kd && List.isPrefixOf [39] _)=true; rw[hq,hp]; rfl)
     go_wp2_with (go_at_call 191; refine(qbj s _ [39] _ rfl).mono ?_; rintro e w' ⟨rfl,rfl⟩)
     go_region
     go_wp2
     go_ret2
     exact⟨by rw[HV.out]; rfl,by repeat (first | exact hbw | exact hbw.alloc hz _ | apply Below.drew)⟩
    ·have hp:List.isPrefixOf [39] s.data.toList=false:=Bool.eq_false_iff.2 hp
     have HV:Hid ((Pl.qbk.take (4+1)).find? (Pl.fits kd s.data.toList)=none):=
      Pl.qct kd _ 4 _ rfl HN.out (by show ((1:Int)==kd && List.isPrefixOf [39] _)=false; rw[hq,hp]; rfl)
     go_wp2_with (go_at_call 191; refine(qbj s _ [39] _ rfl).mono ?_; rintro e w' ⟨rfl,rfl⟩)
     go_roundw
     case rel=>exact⟨5,by omega,rfl,HV.out,by repeat (first | exact hbw | exact hbw.alloc hz _ | apply Below.drew)⟩
     case measure=>simp[intOf]
   ·have hq:((1:Int)==kd)=false:=by simpa using hq
    have HV:Hid ((Pl.qbk.take (4+1)).find? (Pl.fits kd s.data.toList)=none):=
     Pl.qct kd _ 4 _ rfl HN.out (by show ((1:Int)==kd && _)=false; rw[hq]; rfl)
    go_wp2
    go_roundw
    case rel=>exact⟨5,by omega,rfl,HV.out,by repeat (first | exact hbw | exact hbw.alloc hz _ | apply Below.drew)⟩
    case measure=>simp[intOf]
  ·by_cases hq:((4:Int)==kd)=true
   ·by_cases hp:List.isPrefixOf [226,128,168] s.data.toList=true
    ·have HV:Hid (o=([226,128,168],[92,117,50,48,50,56])):=by
      show _=_; rw[← HO.out]; exact Pl.qgg kd _ 5 _ rfl HN.out (by show ((4:Int)==kd && List.isPrefixOf [226,128,168] _)=true; rw[hq,hp]; rfl)
     go_wp2_with (go_at_call 191; refine(qbj s _ [226,128,168] _ rfl).mono ?_; rintro e w' ⟨rfl,rfl⟩)
     go_region
     go_wp2
     go_ret2
     exact⟨by rw[HV.out]; rfl,by repeat (first | exact hbw | exact hbw.alloc hz _ | apply Below.drew)⟩
    ·have hp:List.isPrefixOf [226,128,168] s.data.toList=false:=Bool.eq_false_iff.2 hp
     have HV:Hid ((Pl.qbk.take (5+1)).find? (Pl.fits kd s.data.toList)=none):=
      Pl.qct kd _ 5 _ rfl HN.out (by show ((4:Int)==kd && List.isPrefixOf [226,128,168] _)=false; rw[hq,hp]; rfl)
     go_wp2_with (go_at_call 191; refine(qbj s _ [226,128,168] _ rfl).mono ?_; rintro e w' ⟨rfl,rfl⟩)
     go_roundw
     case rel=>exact⟨6,by omega,rfl,HV.out,by repeat (first | exact hbw | exact hbw.alloc hz _ | apply Below.drew)⟩
     case measure=>simp[intOf]
   ·have hq:((4:Int)==kd)=false:=by simpa using hq
    have HV:Hid ((Pl.qbk.take (5+1)).find? (Pl.fits kd s.data.toList)=none):=
     Pl.qct kd _ 5 _ rfl HN.out (by show ((4:Int)==kd && _)=false; rw[hq]; rfl)
    go_wp2
    go_roundw
    case rel=>exact⟨6,by omega,rfl,HV.out,by repeat (first | exact hbw | exact hbw.alloc hz _ | apply Below.drew)⟩
    case measure=>simp[intOf]
  ·by_cases hq:((4:Int)==kd)=true
   ·by_cases hp:List.isPrefixOf [226,128,169] s.data.toList=true
    ·have HV:Hid (o=([226,128,169],[92,117,50,48,50,57])):=by
      show _=_; rw[← HO.out]; exact Pl.qgg kd _ 6 _ rfl HN.out (by show ((4:Int)==kd && List.isPrefixOf [226,128,169] _)=true; rw[hq,hp]; rfl)
     go_wp2_with (go_at_call 191; refine(qbj s _ [226,128,169] _ rfl).mono ?_; rintro e w' ⟨rfl,rfl⟩)
     go_region
     go_wp2
     go_ret2
     exact⟨by rw[HV.out]; rfl,by repeat (first | exact hbw | exact hbw.alloc hz _ | apply Below.drew)⟩
    ·have hp:List.isPrefixOf [226,128,169] s.data.toList=false:=Bool.eq_false_iff.2 hp
     have HV:Hid ((Pl.qbk.take (6+1)).find? (Pl.fits kd s.data.toList)=none):=
      Pl.qct kd _ 6 _ rfl HN.out (by show ((4:Int)==kd && List.isPrefixOf [226,128,169] _)=false; rw[hq,hp]; rfl)
     go_wp2_with (go_at_call 191; refine(qbj s _ [226,128,169] _ rfl).mono ?_; rintro e w' ⟨rfl,rfl⟩)
     go_roundw
     case rel=>exact⟨7,by omega,rfl,HV.out,by repeat (first | exact hbw | exact hbw.alloc hz _ | apply Below.drew)⟩
     case measure=>simp[intOf]
   ·have hq:((4:Int)==kd)=false:=by simpa using hq
    have HV:Hid ((Pl.qbk.take (6+1)).find? (Pl.fits kd s.data.toList)=none):=
     Pl.qct kd _ 6 _ rfl HN.out (by show ((4:Int)==kd && _)=false; rw[hq]; rfl)
    go_wp2
    go_roundw
    case rel=>exact⟨7,by omega,rfl,HV.out,by repeat (first | exact hbw | exact hbw.alloc hz _ | apply Below.drew)⟩
    case measure=>simp[intOf]
  ·have HV:Hid (o=([],[])):=by
    show _=_; rw[← HO.out]; exact Pl.q1x kd _ HN.out
   go_wp2
   go_ret2
   exact⟨by rw[HV.out]; rfl,hbw⟩
end Go.Proofs.YtfkhljmiehdgmaaGreatDoor
namespace Go.Proofs.YtfkhljmiehdgmaaGreatDoor.Pl
def ctl (b:UInt8):Bool:=decide (b.toNat<32) || decide (b.toNat=127)
def qdh (kd:Int) (b:UInt8):Bool:=
 bif kd==3 then !(qa0 b qfv) else bif kd==4 then ctl b || qa0 b [34,39,38,47,60,62,92,96] else bif kd==5 then odd b else false
theorem qtx (b:UInt8):qdh 3 b=!(qa0 b qfv):=rfl
theorem qxf (b:UInt8):qdh 4 b=(ctl b || qa0 b [34,39,38,47,60,62,92,96]):=rfl
theorem qxe (b:UInt8):qdh 5 b=(ctl b || qa0 b [34,39,38,47,60,62,92]):=by
 show odd b=_; unfold odd ctl; rw[Bool.or_assoc]
theorem qty (b:UInt8):qdh 1 b=false:=rfl
theorem qrf (b:UInt8) (h:qcm b=true):qdh 3 b=false:=by rw[qtx,← qq2,h]; rfl
theorem qtw (b:UInt8) (h:qde b=true):qdh 3 b=false:=by rw[qtx,← qq2,h]; simp
theorem qv7 (b:UInt8) (h:qa0 b [45,46,95,126,47,63,35,91,93,64,33,36,40,41,42,43,44,59,61]=true):qdh 3 b=false:=by rw[qtx,← qq2,h]; simp
theorem qze (b:UInt8) (h1:qcm b=false) (h2:qde b=false) (h:qa0 b [45,46,95,126,47,63,35,91,93,64,33,36,40,41,42,43,44,59,61]=false):qdh 3 b=true:=by rw[qtx,← qq2,h,h1,h2]; rfl
theorem q5e (b:UInt8) (h:b.toNat<32):ctl b=true:=by simp[ctl,h]
theorem q18 (b:UInt8) (h:b.toNat=127):ctl b=true:=by simp[ctl,h]
theorem q17 (b:UInt8) (h:¬ b.toNat<32) (h':¬ b.toNat=127):ctl b=false:=by simp[ctl,h,h']
end Go.Proofs.YtfkhljmiehdgmaaGreatDoor.Pl
namespace Go.Proofs.YtfkhljmiehdgmaaGreatDoor
open Go.RowKit
set_option maxRecDepth 100000 in
set_option maxHeartbeats 3200000 in
theorem qq3 (b:UInt8) (w:World) (ht:Tabs w) :
  Calls Tryz.prog 143 #[.int .i64 3,.int .u8 b.toNat] w fun e w'=>e=.returned (.bool (Pl.qdh 3 b))∧w=w':=by
 have c0:w.cell? ⟨9,21,none⟩=some _:=ht.2.2 21 _ rfl
 have c1:w.cell? ⟨9,22,none⟩=some _:=ht.2.2 22 _ rfl
 have c2:w.cell? ⟨9,23,none⟩=some (.string ⟨#[45,46,95,126,47,63,35,91,93,64,33,36,40,41,42,43,44,59,61]⟩):=ht.2.2 23 _ rfl
 clear ht
 by_cases h1:Pl.qcm b=true
 ·have HV:Hid (Pl.qdh 3 b=false):=Pl.qrf b h1
  go_enter Tryz.func143,Tryz.ntmps143
  go_wp2_with (first | (go_at_call 132; refine(qbx b _).mono ?_; rintro e w' ⟨rfl,rfl⟩) | (go_at_call 102; refine(qcu b _).mono ?_; rintro e w' ⟨rfl,rfl⟩))
  go_ret
  exact⟨qax (by rw[HV.out]),rfl⟩
 have h1:Pl.qcm b=false:=Bool.eq_false_iff.2 h1
 by_cases h2:Pl.qde b=true
 ·have HV:Hid (Pl.qdh 3 b=false):=Pl.qtw b h2
  go_enter Tryz.func143,Tryz.ntmps143
  go_wp2_with (first | (go_at_call 132; refine(qbx b _).mono ?_; rintro e w' ⟨rfl,rfl⟩) | (go_at_call 102; refine(qcu b _).mono ?_; rintro e w' ⟨rfl,rfl⟩))
  go_ret
  exact⟨qax (by rw[HV.out]),rfl⟩
 have h2:Pl.qde b=false:=Bool.eq_false_iff.2 h2
 by_cases hp:Pl.qa0 b [45,46,95,126,47,63,35,91,93,64,33,36,40,41,42,43,44,59,61]=true
 ·have HV:Hid (Pl.qdh 3 b=false):=Pl.qv7 b hp
  go_enter Tryz.func143,Tryz.ntmps143
  go_wp2_with (first | (go_at_call 132; refine(qbx b _).mono ?_; rintro e w' ⟨rfl,rfl⟩) | (go_at_call 102; refine(qcu b _).mono ?_; rintro e w' ⟨rfl,rfl⟩) | (go_at_call 130; refine(qfw b _ [45,46,95,126,47,63,35,91,93,64,33,36,40,41,42,43,44,59,61] _ rfl hp).mono ?_; rintro e w' ⟨x,hx,rfl,rfl⟩))
  go_ret
  exact⟨qax (by rw[HV.out]; simp; omega),rfl⟩
 have hp:Pl.qa0 b [45,46,95,126,47,63,35,91,93,64,33,36,40,41,42,43,44,59,61]=false:=Bool.eq_false_iff.2 hp
 have HV:Hid (Pl.qdh 3 b=true):=Pl.qze b h1 h2 hp
 go_enter Tryz.func143,Tryz.ntmps143
 go_wp2_with (first | (go_at_call 132; refine(qbx b _).mono ?_; rintro e w' ⟨rfl,rfl⟩) | (go_at_call 102; refine(qcu b _).mono ?_; rintro e w' ⟨rfl,rfl⟩) | (go_at_call 130; refine(qfe b _ [45,46,95,126,47,63,35,91,93,64,33,36,40,41,42,43,44,59,61] _ rfl hp).mono ?_; rintro e w' ⟨rfl,rfl⟩))
 go_ret
 exact⟨qax (by rw[HV.out]),rfl⟩
set_option maxRecDepth 100000 in
set_option maxHeartbeats 3200000 in
theorem qvv (b:UInt8) (w:World) (ht:Tabs w) :
  Calls Tryz.prog 143 #[.int .i64 1,.int .u8 b.toNat] w fun e w'=>e=.returned (.bool (Pl.qdh 1 b))∧w=w':=by
 have c0:w.cell? ⟨9,7,none⟩=some _:=ht.2.2 7 _ rfl
 have c1:w.cell? ⟨9,8,none⟩=some _:=ht.2.2 8 _ rfl
 have c2:w.cell? ⟨9,9,none⟩=some _:=ht.2.2 9 _ rfl
 clear ht
 by_cases h1:b.toNat<32
 ·have HV:Hid (Pl.qdh 1 b=false):=Pl.qty b
  go_enter Tryz.func143,Tryz.ntmps143
  go_wp2_with (first | fail)
  go_ret
  exact⟨qax (by rw[HV.out]),rfl⟩
 by_cases h2:b.toNat=127
 ·have HV:Hid (Pl.qdh 1 b=false):=Pl.qty b
  have h2:((b.toNat:Int)==127)=true:=beq_iff_eq.2 (by omega)
  go_enter Tryz.func143,Tryz.ntmps143
  go_wp2_with (first | fail)
  go_ret
  exact⟨qax (by rw[HV.out]),rfl⟩
 have hcn:Hid (Pl.ctl b=false):=Pl.q17 b h1 h2
 have h2:((b.toNat:Int)==127)=false:=beq_eq_false_iff_ne.2 (by omega)
 have hp:Pl.qa0 b []=false:=rfl
 have HV:Hid (Pl.qdh 1 b=false):=Pl.qty b
 go_enter Tryz.func143,Tryz.ntmps143
 go_wp2_with (first | (go_at_call 130; refine(qfe b _ [] _ rfl hp).mono ?_; rintro e w' ⟨rfl,rfl⟩))
 go_ret
 exact⟨qax (by rw[HV.out]),rfl⟩
set_option maxRecDepth 100000 in
set_option maxHeartbeats 3200000 in
theorem qs7 (b:UInt8) (w:World) (ht:Tabs w) :
  Calls Tryz.prog 143 #[.int .i64 4,.int .u8 b.toNat] w fun e w'=>e=.returned (.bool (Pl.qdh 4 b))∧w=w':=by
 have c0:w.cell? ⟨9,28,none⟩=some _:=ht.2.2 28 _ rfl
 have c1:w.cell? ⟨9,29,none⟩=some _:=ht.2.2 29 _ rfl
 have c2:w.cell? ⟨9,30,none⟩=some _:=ht.2.2 30 _ rfl
 clear ht
 by_cases h1:b.toNat<32
 ·have HV:Hid (Pl.qdh 4 b=true):=by show _=_; rw[Pl.qxf,Pl.q5e b h1]; rfl
  go_enter Tryz.func143,Tryz.ntmps143
  go_wp2_with (first | fail)
  go_ret
  exact⟨qax (by rw[HV.out]),rfl⟩
 by_cases h2:b.toNat=127
 ·have HV:Hid (Pl.qdh 4 b=true):=by show _=_; rw[Pl.qxf,Pl.q18 b h2]; rfl
  have h2:((b.toNat:Int)==127)=true:=beq_iff_eq.2 (by omega)
  go_enter Tryz.func143,Tryz.ntmps143
  go_wp2_with (first | fail)
  go_ret
  exact⟨qax (by rw[HV.out]),rfl⟩
 have hcn:Hid (Pl.ctl b=false):=Pl.q17 b h1 h2
 have h2:((b.toNat:Int)==127)=false:=beq_eq_false_iff_ne.2 (by omega)
 by_cases hp:Pl.qa0 b [34,39,38,47,60,62,92,96]=true
 ·have HV:Hid (Pl.qdh 4 b=true):=by show _=_; rw[Pl.qxf,hcn.out,hp]; rfl
  go_enter Tryz.func143,Tryz.ntmps143
  go_wp2_with (first | (go_at_call 130; refine(qfw b _ [34,39,38,47,60,62,92,96] _ rfl hp).mono ?_; rintro e w' ⟨x,hx,rfl,rfl⟩))
  go_ret
  exact⟨qax (by rw[HV.out]),rfl⟩
 ·have hp:Pl.qa0 b [34,39,38,47,60,62,92,96]=false:=Bool.eq_false_iff.2 hp
  have HV:Hid (Pl.qdh 4 b=false):=by show _=_; rw[Pl.qxf,hcn.out,hp]; rfl
  go_enter Tryz.func143,Tryz.ntmps143
  go_wp2_with (first | (go_at_call 130; refine(qfe b _ [34,39,38,47,60,62,92,96] _ rfl hp).mono ?_; rintro e w' ⟨rfl,rfl⟩))
  go_ret
  exact⟨qax (by rw[HV.out]),rfl⟩
set_option maxRecDepth 100000 in
set_option maxHeartbeats 3200000 in
theorem qs8 (b:UInt8) (w:World) (ht:Tabs w) :
  Calls Tryz.prog 143 #[.int .i64 5,.int .u8 b.toNat] w fun e w'=>e=.returned (.bool (Pl.qdh 5 b))∧w=w':=by
 have c0:w.cell? ⟨9,35,none⟩=some _:=ht.2.2 35 _ rfl
 have c1:w.cell? ⟨9,36,none⟩=some _:=ht.2.2 36 _ rfl
 have c2:w.cell? ⟨9,37,none⟩=some _:=ht.2.2 37 _ rfl
 clear ht
 by_cases h1:b.toNat<32
 ·have HV:Hid (Pl.qdh 5 b=true):=by show _=_; rw[Pl.qxe,Pl.q5e b h1]; rfl
  go_enter Tryz.func143,Tryz.ntmps143
  go_wp2_with (first | fail)
  go_ret
  exact⟨qax (by rw[HV.out]),rfl⟩
 by_cases h2:b.toNat=127
 ·have HV:Hid (Pl.qdh 5 b=true):=by show _=_; rw[Pl.qxe,Pl.q18 b h2]; rfl
  have h2:((b.toNat:Int)==127)=true:=beq_iff_eq.2 (by omega)
  go_enter Tryz.func143,Tryz.ntmps143
  go_wp2_with (first | fail)
  go_ret
  exact⟨qax (by rw[HV.out]),rfl⟩
 have hcn:Hid (Pl.ctl b=false):=Pl.q17 b h1 h2
 have h2:((b.toNat:Int)==127)=false:=beq_eq_false_iff_ne.2 (by omega)
 by_cases hp:Pl.qa0 b [34,39,38,47,60,62,92]=true
 ·have HV:Hid (Pl.qdh 5 b=true):=by show _=_; rw[Pl.qxe,hcn.out,hp]; rfl
  go_enter Tryz.func143,Tryz.ntmps143
  go_wp2_with (first | (go_at_call 130; refine(qfw b _ [34,39,38,47,60,62,92] _ rfl hp).mono ?_; rintro e w' ⟨x,hx,rfl,rfl⟩))
  go_ret
  exact⟨qax (by rw[HV.out]),rfl⟩
 ·have hp:Pl.qa0 b [34,39,38,47,60,62,92]=false:=Bool.eq_false_iff.2 hp
  have HV:Hid (Pl.qdh 5 b=false):=by show _=_; rw[Pl.qxe,hcn.out,hp]; rfl
  go_enter Tryz.func143,Tryz.ntmps143
  go_wp2_with (first | (go_at_call 130; refine(qfe b _ [34,39,38,47,60,62,92] _ rfl hp).mono ?_; rintro e w' ⟨rfl,rfl⟩))
  go_ret
  exact⟨qax (by rw[HV.out]),rfl⟩
end Go.Proofs.YtfkhljmiehdgmaaGreatDoor
namespace Go.Proofs.YtfkhljmiehdgmaaGreatDoor.Pl
open Go.Lib (decodeL decodeN encodeRune)
theorem qn8 (s:ByteArray) (pos:Nat):Utf8.decode s pos=decodeL (s.data.toList.drop pos):=by
 rw[Lib.decode_N s pos,qtr]
 simp[List.getD_eq_getElem?_getD,List.getElem?_drop]
theorem q2g (l:List UInt8) (hne:l≠[]):qdb l=encodeRune (if((decodeL l).1:Int)=0 then 65533 else((decodeL l).1:Int))++qdb (l.drop (decodeL l).2):=by
 by_cases hb:(decodeL l).1=65533∧(decodeL l).2=1
 ·have hc:qdv l=0:=by unfold qdv bad; rw[if_neg hne]; simp[hb.1,hb.2]
  rw[qt1 l hne (.inl hc),if_neg (by omega),hb.1,hb.2]
  rfl
 have hc:qdv l=(decodeL l).2:=by
  unfold qdv bad; rw[if_neg hne,if_neg]
  simpa using hb
 have hw:=Lib.decodeL_width l
 have he:=Lib.encode_decode l hne hb
 match l,hne with
 | b::r,_=>
   by_cases h0:b=0
   ·have hd:decodeL (b::r)=(b.toNat,1):=Lib.decodeL_ascii b r (by rw[h0]; decide)
    rw[qt1 (b::r) (by simp) (.inr (by rw[h0]; rfl)),hd]
    simp[h0]; rfl
   ·have hr:(decodeL (b::r)).1≠0:=by
     intro q
     rw[q]at he
     have hlen:=congrArg List.length he
     have hlen2:min (decodeL (b::r)).2 (r.length+1)=1:=by
      rw[List.length_take]at hlen
      exact hlen.symm
     have hle:=Lib.decodeL_le (b::r) (by simp)
     simp only[List.length_cons]at hle
     have h1:(decodeL (b::r)).2=1:=by omega
     rw[h1]at he
     have:encodeRune ((0:Nat):Int)=[0]:=by decide
     rw[this]at he
     simp at he
     exact h0 he.symm
    rw[qzh (b::r) (by simp) (by rw[hc]; rintro(q | q); omega; simp at q; exact h0 q),hc,if_neg (by omega),he]
theorem qzg (s:ByteArray) (pos:Nat) (h:pos<s.size):qdb (s.data.toList.drop pos)=encodeRune (if((Utf8.decode s pos).1:Int)=0 then 65533 else((Utf8.decode s pos).1:Int))++qdb (s.data.toList.drop (pos+(Utf8.decode s pos).2)):=by
 rw[qn8,q2g _ (by rw[qh0 s pos h]; simp),List.drop_drop]
end Go.Proofs.YtfkhljmiehdgmaaGreatDoor.Pl

/-
  Steps of the proof (texts laid together, blanks left out): PlainB, PlainD, PlainE, PlainC, PlainF, PlainH, PlainI, PgWS, TgB, TgA.
-/
import Derived.Test.YtfkhljmiehdgmaaGreatDoorTaAA
import Derived.Lib.MapLaws
import Derived.Lib.TrimUEq
import Derived.Lib.TrimU
import Derived.Lib.Bytealg
import Derived.Test.YtfkhljmiehdgmaaGreatDoorTaAB
import Derived.Test.YtfkhljmiehdgmaaGreatDoorTaAC
import Derived.Maps.AppendAt
import Derived.Deep.RegionLaw
import Derived.BigRegion
namespace Go.Proofs.YtfkhljmiehdgmaaGreatDoor.Pl
def qmv (b:UInt8):List UInt8:=
 bif (b.toNat:Int)==38 then[38,97,109,112,59] else bif (b.toNat:Int)==60 then[38,108,116,59] else bif (b.toNat:Int)==62 then[38,103,116,59] else bif (b.toNat:Int)==34 then[38,113,117,111,116,59] else bif (b.toNat:Int)==39 then[38,35,51,57,59] else[b]
def qic (l:List UInt8):List UInt8:=l.flatMap qmv
def two (b:UInt8) (all:List UInt8):List UInt8:=[all.getD (b.toNat / 16) 0,all.getD (b.toNat % 16) 0]
def qzw:List UInt8:=[48,49,50,51,52,53,54,55,56,57,65,66,67,68,69,70]
def qfl:List UInt8:=[48,49,50,51,52,53,54,55,56,57,97,98,99,100,101,102]
def qfv:List UInt8:=[97,98,99,100,101,102,103,104,105,106,107,108,109,110,111,112,113,114,115,116,117,118,119,120,121,122,65,66,67,68,69,70,71,72,73,74,75,76,77,78,79,80,81,82,83,84,85,86,87,88,89,90,48,49,50,51,52,53,54,55,56,57,45,46,95,126,47,63,35,91,93,64,33,36,40,41,42,43,44,59,61]
def qln (b:UInt8):List UInt8:=bif qa0 b qfv then[b] else 37::two b qzw
def qik (l:List UInt8):List UInt8:=l.flatMap qln
def qeg (l:List UInt8):List UInt8:=l.map small
def qkb (h:List UInt8):List UInt8:=bif ((h.getD 0 0).toNat:Int)==48 then h.drop 1 else h
def qmz (b:UInt8):List UInt8:=bif odd b then 92::(qkb (two b qfl)++[32]) else[b]
def qr8 (l:List UInt8):List UInt8:=l.flatMap qmz
def qez:Nat→List UInt8→List UInt8
 | 0,_=>[]
 | _+1,[]=>[]
 | n+1,b::l=>
   if(odd b || ((b.toNat:Int)==96))=true then[92,120]++two b qfl++qez n l
   else if(b::l).take 3=[226,128,168] then[92,117,50,48,50,56]++qez n (l.drop 2)
   else if(b::l).take 3=[226,128,169] then[92,117,50,48,50,57]++qez n (l.drop 2)
   else[b]++qez n l
def qdy (l:List UInt8):List UInt8:=qez l.length l
theorem q8h (x l:List UInt8):(ByteArray.mk x.toArray++ByteArray.mk l.toArray:ByteArray)=⟨(x++l).toArray⟩:=by
 apply ByteArray.ext; simp
theorem qgf {f:UInt8→List UInt8} (m:Nat) (hf:∀ b,(f b).length≤m) (l:List UInt8):(l.flatMap f).length≤m*l.length:=by
 induction l with
 | nil=>simp
 | cons b l ih=>
   have:=hf b
   simp only[List.flatMap_cons,List.length_append,List.length_cons]
   rw[Nat.mul_add]; omega
theorem qi6 {m:Nat} {c:Bool} {x y:List UInt8} (hx:x.length≤m) (hy:y.length≤m):(bif c then x else y).length≤m:=by
 cases c<;>assumption
theorem qxo (b:UInt8):(qmv b).length≤6:=by
 unfold qmv
 repeat' apply qi6
 all_goals simp
theorem qk6 (b:UInt8):(qln b).length≤6:=by
 unfold qln
 repeat' apply qi6
 all_goals simp[two]
theorem qu2 (b:UInt8):(qmz b).length≤6:=by
 have:(qkb (two b qfl)).length≤2:=by
  unfold qkb
  apply qi6<;>simp[two]
 unfold qmz
 apply qi6
 ·simp; omega
 ·simp
def qil:List UInt8:=[97,98,99,100,101,102,103,104,105,106,107,108,109,110,111,112,113,114,115,116,117,118,119,120,121,122,65,66,67,68,69,70,71,72,73,74,75,76,77,78,79,80,81,82,83,84,85,86,87,88,89,90]
def qd1:List UInt8:=[48,49,50,51,52,53,54,55,56,57,43,45,46]
def run (l:List UInt8):Bool→Nat
 | later=>match l with
   | []=>0
   | b::r=>if qa0 b qil || (later && qa0 b qd1) then run r true+1 else 0
def qbz (l:List UInt8):Nat:=if run l false=0 then 0 else if l[run l false]?=some 58 then run l false+1 else 0
theorem qyu {b:UInt8} (h:qa0 b qfv=true):qln b=[b]:=by simp[qln,h]
theorem q1b {b:UInt8} (h:qa0 b qfv=false):qln b=[37]++two b qzw:=by simp[qln,h]
theorem q4y (b:UInt8) (all:ByteArray) (h1:b.toNat / 16<all.size) (h2:b.toNat % 16<all.size):two b all.data.toList=[all[b.toNat / 16],all[b.toNat % 16]]:=by
 have e:∀ i (h:i<all.size),all.data.toList.getD i 0=all[i]:=by
  intro i h
  rw[List.getD_eq_getElem?_getD,List.getElem?_eq_getElem (by simpa using h)]
  rfl
 unfold two
 rw[e _ h1,e _ h2]
theorem qwn (s:ByteArray) (k:Nat) (hk:k≤s.size):(s.data.toList.take k).length=k:=by
 have:s.data.size=s.size:=rfl
 simp; omega
theorem qh0 (s:ByteArray) (k:Nat) (h:k<s.size):s.data.toList.drop k=s[k]::s.data.toList.drop (k+1):=by
 rw[List.drop_eq_getElem_cons (by simpa using h)]; rfl
theorem qrb (s:ByteArray) (k:Nat) (h:¬ k<s.size):s.data.toList.drop k=[]:=by
 have:s.data.size=s.size:=rfl
 simp; omega
theorem q5a (s:ByteArray) (k:Nat) (h:k<s.size):s.data.toList[k]?=some s[k]:=by
 rw[List.getElem?_eq_getElem (by simpa using h)]; rfl
theorem q60 (s:ByteArray) (k:Nat) (h:¬ k<s.size):s.data.toList[k]?=none:=by
 have:s.data.size=s.size:=rfl
 rw[List.getElem?_eq_none (by simp; omega)]
theorem qx5 (s:ByteArray) (k:Nat) (h:k<s.size) (p:Bool) (hc:qa0 s[k] qil=true):run (s.data.toList.drop k) p=run (s.data.toList.drop (k+1)) true+1:=by
 rw[qh0 s k h]; simp[run,hc]
theorem qsl (s:ByteArray) (k:Nat) (h:k<s.size) (hc:qa0 s[k] qd1=true):run (s.data.toList.drop k) true=run (s.data.toList.drop (k+1)) true+1:=by
 rw[qh0 s k h]; simp[run,hc]
theorem q0m (s:ByteArray) (k:Nat) (h:k<s.size) (hc:qa0 s[k] qil=false):run (s.data.toList.drop k) false=0:=by
 rw[qh0 s k h]; simp[run,hc]
theorem qwx (s:ByteArray) (k:Nat) (h:k<s.size) (p:Bool) (hc:qa0 s[k] qil=false) (hd:qa0 s[k] qd1=false):run (s.data.toList.drop k) p=0:=by
 rw[qh0 s k h]; simp[run,hc,hd]
theorem q28 (s:ByteArray) (k:Nat) (h:¬ k<s.size) (p:Bool):run (s.data.toList.drop k) p=0:=by
 rw[qrb s k h]; rfl
theorem qsg (l:List UInt8) (h:run l false=0):qbz l=0:=by simp[qbz,h]
theorem qsh (s:ByteArray) (k:Nat) (h:run s.data.toList false=k) (hk:¬ k<s.size):qbz s.data.toList=0:=by
 simp[qbz,h,q60 s k hk]
theorem qva (s:ByteArray) (k:Nat) (h:run s.data.toList false=k) (h0:0<k) (hk:k<s.size) (hc:s[k].toNat=58):qbz s.data.toList=k+1:=by
 have e:s[k]=58:=UInt8.toNat_inj.1 (by simpa using hc)
 simp[qbz,h,q5a s k hk,e]; omega
theorem qx1 (s:ByteArray) (k:Nat) (h:run s.data.toList false=k) (hk:k<s.size) (hc:¬ s[k].toNat=58):qbz s.data.toList=0:=by
 have e:¬ s[k]=58:=fun e=>hc (by rw[e]; rfl)
 simp[qbz,h,q5a s k hk,e]
theorem qgr:∀(n:Nat) (l:List UInt8),l.length≤n→qez n l=qez l.length l
 | 0,[],_=>rfl
 | n+1,[],_=>rfl
 | n+1,b::l,h=>by
   simp only[List.length_cons]at h
   have h1:=qgr n l (by omega)
   have h2:=qgr n (l.drop 2) (by simp; omega)
   have h3:=qgr l.length (l.drop 2) (by simp)
   simp only[qez,List.length_cons,h1,h2,h3]
theorem qho (b:UInt8) (l:List UInt8):qdy (b::l)=if(odd b || ((b.toNat:Int)==96))=true then[92,120]++two b qfl++qdy l
  else if(b::l).take 3=[226,128,168] then[92,117,50,48,50,56]++qdy (l.drop 2)
  else if(b::l).take 3=[226,128,169] then[92,117,50,48,50,57]++qdy (l.drop 2)
  else[b]++qdy l:=by
 have h3:=qgr l.length (l.drop 2) (by simp)
 unfold qdy
 simp only[qez,List.length_cons,h3]
theorem qjp:∀(n:Nat) (l:List UInt8),(qez n l).length≤6*n
 | 0,_=>by simp[qez]
 | n+1,[]=>by simp[qez]
 | n+1,b::l=>by
   have h1:=qjp n l
   have h2:=qjp n (l.drop 2)
   simp only[qez]
   repeat' split
   all_goals simp only[List.length_append,List.length_cons,List.length_nil,two]
   all_goals omega
theorem qsf (l:List UInt8):(qdy l).length≤6*l.length:=qjp _ l
end Go.Proofs.YtfkhljmiehdgmaaGreatDoor.Pl
namespace Go.Proofs.YtfkhljmiehdgmaaGreatDoor.Pl
open Go.Lib (decodeL decodeN)
def bad (l:List UInt8):Bool:=decide ((decodeL l).1=65533) && decide ((decodeL l).2=1)
def qdv (l:List UInt8):Nat:=if l=[] then 0 else if bad l then 0 else(decodeL l).2
theorem qtr (l:List UInt8):decodeL l=decodeN l.length (l.getD 0 0).toNat (l.getD 1 0).toNat (l.getD 2 0).toNat (l.getD 3 0).toNat:=by
 have:=Lib.decode_N ⟨l.toArray⟩ 0
 simpa [decodeL] using this
theorem qw3 (s:ByteArray):s.data.toList.length=s.size:=rfl
theorem qzi (l:List UInt8):qdv l≤l.length:=by
 unfold qdv
 by_cases h:l=[]
 ·rw[if_pos h]; omega
 rw[if_neg h]
 split
 ·omega
 ·exact Lib.decodeL_le l h
def qh9:Nat→List UInt8→List UInt8
 | 0,_=>[]
 | n+1,l=>if l=[] then[] else if qdv l=0∨l[0]?=some 0 then[239,191,189]++qh9 n (l.drop 1) else l.take (qdv l)++qh9 n (l.drop (qdv l))
def qdb (l:List UInt8):List UInt8:=qh9 l.length l
theorem qe6:∀(n:Nat) (l:List UInt8),l.length≤n→qh9 n l=qh9 l.length l
 | 0,l,h=>by
   have:l=[]:=by simpa using h
   subst this; rfl
 | n+1,[],_=>rfl
 | n+1,b::l,h=>by
   simp only[List.length_cons]at h
   have h1:=qe6 n ((b::l).drop 1) (by simp; omega)
   have h2:=qe6 l.length ((b::l).drop 1) (by simp)
   by_cases c:qdv (b::l)=0
   ·simp only[qh9,List.length_cons,h1,h2,c,true_or,if_true]
   ·have h3:=qe6 n ((b::l).drop (qdv (b::l))) (by simp; omega)
    have h4:=qe6 l.length ((b::l).drop (qdv (b::l))) (by simp; omega)
    simp only[qh9,List.length_cons,h1,h2,h3,h4]
theorem q2f:qdb []=[]:=rfl
theorem qt1 (l:List UInt8) (hne:l≠[]) (h:qdv l=0∨l[0]?=some 0):qdb l=[239,191,189]++qdb (l.drop 1):=by
 match l,hne with
 | b::l,_=>
   unfold qdb
   rw[List.length_cons,qh9,if_neg (by simp),if_pos h,qe6 l.length _ (by simp)]
theorem qzh (l:List UInt8) (hne:l≠[]) (h:¬(qdv l=0∨l[0]?=some 0)):qdb l=l.take (qdv l)++qdb (l.drop (qdv l)):=by
 match l,hne with
 | b::l,_=>
   unfold qdb
   rw[List.length_cons,qh9,if_neg (by simp),if_neg h,qe6 l.length _ (by simp; omega)]
theorem qt0 (l:List UInt8):(qdb l).length≤3*l.length:=by
 unfold qdb
 have:∀ n l,(qh9 n l).length≤3*l.length:=by
  intro n
  induction n with
  | zero=>intro l; simp[qh9]
  | succ n ih=>
    intro l
    rw[qh9]
    split
    ·simp
    rename_i hne
    have hp:0<l.length:=List.length_pos_iff.2 hne
    split
    ·have:=ih (l.drop 1)
     simp only[List.length_append,List.length_cons,List.length_nil,List.length_drop]at this ⊢; omega
    ·have:=ih (l.drop (qdv l))
     have hc:=qzi l
     simp only[List.length_append,List.length_take,List.length_drop]at this ⊢; omega
 exact this _ l
end Go.Proofs.YtfkhljmiehdgmaaGreatDoor.Pl
namespace Go.Proofs.YtfkhljmiehdgmaaGreatDoor.Pl
def qrk:List UInt8:=[35,98,108,111,99,107,101,100]
def http:List UInt8:=[104,116,116,112,58]
def q76:List UInt8:=[104,116,116,112,115,58]
def q49:List UInt8:=[109,97,105,108,116,111,58]
def qe5 (l:List UInt8):List UInt8:=
 if 0<qbz l∧qeg (l.take (qbz l))≠http∧qeg (l.take (qbz l))≠q76∧qeg (l.take (qbz l))≠q49 then qrk
 else l.take (qbz l)++qik (l.drop (qbz l))
def qan (kd:Int) (l:List UInt8):List UInt8:=
 if kd=1 then qic (qdb l) else if kd=3 then qik (qdb l) else if kd=2 then qe5 (qdb l) else if kd=4 then qdy (qdb l) else if kd=5 then qr8 (qdb l) else[]
def qgw (kd:Int):Int:=if 1≤kd∧kd≤5 then 0 else 1
theorem qpd (l:List UInt8):qbz l≤l.length:=by
 unfold qbz
 split
 ·omega
 split
 ·rename_i h
  have:=(List.getElem?_eq_some_iff.1 h).1
  omega
 ·omega
theorem qp2 (l:List UInt8) (n:Nat) (h:l.length≤n):(qdb l).length≤3*n:=by
 have:=qt0 l; omega
theorem qwo (l:List UInt8) (n:Nat):(ByteArray.mk l.toArray).extract 0 n=⟨(l.take n).toArray⟩:=by
 apply ByteArray.ext
 apply Array.toList_inj.1
 rw[ByteArray.data_extract,Array.toList_extract,List.extract_eq_take_drop]; simp
theorem q4j (l:List UInt8) (n:Nat):(ByteArray.mk l.toArray).extract n l.length=⟨(l.drop n).toArray⟩:=by
 apply ByteArray.ext
 apply Array.toList_inj.1
 rw[ByteArray.data_extract,Array.toList_extract,List.extract_eq_take_drop]
 show (l.drop n).take _=_
 apply List.take_of_length_le
 rw[List.length_drop]; omega
theorem qol (p:UInt8→Bool) (h:(List.range 256).all (fun n=>p (UInt8.ofNat n))=true) (b:UInt8):p b=true:=by
 have:=List.all_eq_true.1 h b.toNat (List.mem_range.2 (UInt8.toNat_lt b))
 simpa using this
theorem qs1 (b:UInt8):qcm b=qa0 b qil:=by
 have:=qol (fun b=>qcm b==qa0 b qil) (by decide +kernel) b
 simpa using this
theorem qrc (b:UInt8):(qde b || qa0 b [43,45,46])=qa0 b qd1:=by
 have:=qol (fun b=>(qde b || qa0 b [43,45,46])==qa0 b qd1) (by decide +kernel) b
 simpa using this
theorem qq2 (b:UInt8):(qcm b || (qde b || qa0 b [45,46,95,126,47,63,35,91,93,64,33,36,40,41,42,43,44,59,61]))=qa0 b qfv:=by
 have:=qol (fun b=>(qcm b || (qde b || qa0 b [45,46,95,126,47,63,35,91,93,64,33,36,40,41,42,43,44,59,61]))==qa0 b qfv) (by decide +kernel) b
 simpa using this
theorem qd0:∀(l:List UInt8) (b:UInt8),(0≤Lib.indexByte l b∧qa0 b l=true)∨(Lib.indexByte l b=-1∧qa0 b l=false)
 | [],_=>.inr ⟨rfl,rfl⟩
 | c::l,b=>by
   have ih:=qd0 l b
   unfold Lib.indexByte
   by_cases h:(c==b)=true
   ·left; rw[if_pos h]; exact⟨by omega,by simp[qa0,h]⟩
   ·have hf:(c==b)=false:=by simpa using h
    rw[if_neg h]
    rcases ih with ⟨a,e⟩ | ⟨a,e⟩
    ·left
     have:(Lib.indexByte l b==-1)=false:=by simp; omega
     rw[if_neg (by rw[this]; simp)]
     exact⟨by omega,by simp only[qa0,List.any_cons,hf,Bool.false_or]at e ⊢; exact e⟩
    ·right
     rw[if_pos (by rw[a]; rfl)]
     exact⟨rfl,by simp only[qa0,List.any_cons,hf,Bool.false_or]at e ⊢; exact e⟩
theorem qgo (b:UInt8):((b.toNat:Int).toNat.toUInt8)=b:=by simp
def qdn (l:List UInt8):Int:=if qbz l=0 then -1 else(qbz l:Int) - 1
theorem qe9 (l:List UInt8) (h:qbz l=0):qdn l=-1:=by simp[qdn,h]
theorem qjc (l:List UInt8) (k:Nat) (h:qbz l=k+1):qdn l=k:=by simp[qdn,h]
end Go.Proofs.YtfkhljmiehdgmaaGreatDoor.Pl
namespace Go.Proofs.YtfkhljmiehdgmaaGreatDoor
open Go.RowKit
theorem qb2 (b:UInt8) (all:ByteArray) (l:List UInt8) (w:World) (ha:all.data.toList=l) (h:Pl.qa0 b l=true) :
  Calls Tryz.prog 130 #[.string all,.int .u8 b.toNat] w fun e w'=>∃ x:Int,0≤x∧e=.returned (.int .i64 x)∧w=w':=by
 refine(Tryz.strings_IndexByte all b.toNat w).mono ?_
 rintro e w' ⟨rfl,rfl⟩
 refine⟨_,?_,rfl,rfl⟩
 rw[Pl.qgo,ha]
 rcases Pl.qd0 l b with ⟨a,_⟩ | ⟨_,a⟩
 ·exact a
 ·rw[h]at a; cases a
theorem qb4 (b:UInt8) (all:ByteArray) (l:List UInt8) (w:World) (ha:all.data.toList=l) (h:Pl.qa0 b l=false) :
  Calls Tryz.prog 130 #[.string all,.int .u8 b.toNat] w fun e w'=>e=.returned (.int .i64 (-1))∧w=w':=by
 refine(Tryz.strings_IndexByte all b.toNat w).mono ?_
 rintro e w' ⟨rfl,rfl⟩
 refine⟨qa5 ?_,rfl⟩
 rw[Pl.qgo,ha]
 rcases Pl.qd0 l b with ⟨_,a⟩ | ⟨a,_⟩
 ·rw[h]at a; cases a
 ·exact a
theorem qwy (s p:ByteArray) (l:List UInt8) (w:World) (hp:p.data.toList=l) :
  Calls Tryz.prog 191 #[.string s,.string p] w fun e w'=>e=.returned (.bool (l.isPrefixOf s.data.toList))∧w=w':=by
 refine(Tryz.strings_HasPrefix s p w).mono ?_
 rintro e w' ⟨rfl,rfl⟩
 exact⟨qax (by rw[hp]; rfl),rfl⟩
set_option maxRecDepth 100000 in
set_option maxHeartbeats 1600000 in
theorem qy0 (n:List UInt8) (w:World) (ht:PTabs w) :
  Calls Tryz.prog 186 #[.string ⟨n.toArray⟩] w fun e w'=>e=.returned (.int .i64 (Pl.qex n))∧w=w':=by
 obtain⟨c0,d0,e0⟩:=qku ht.at' 0 _ rfl
 obtain⟨c1,d1,e1⟩:=qku ht.at' 1 _ rfl
 obtain⟨c2,d2,e2⟩:=qku ht.at' 2 _ rfl
 obtain⟨c3,d3,e3⟩:=qku ht.at' 3 _ rfl
 obtain⟨c4,d4,e4⟩:=qku ht.at' 4 _ rfl
 simp only[bs,Pl.qek,Nat.mul_zero,Nat.reduceMul,Nat.reduceAdd]at c0 c1 c2 c3 c4 d0 d1 d2 d3 d4 e0 e1 e2 e3 e4
 clear ht
 go_enter Tryz.func186,Tryz.ntmps186
 go_wp2
 go_loop [3,4] (fun _ i=>∃ k:Nat,k≤5∧i=.int .i64 k∧(Pl.qdf.take k).find? (Pl.qcs n)=none) (fun _ i=>5 - (intOf i).toNat)
 case atStart=>exact⟨0,by omega,rfl,rfl⟩
 case round=>
  obtain⟨k,hk,rfl,hn⟩:=hrel
  have HN:Hid ((Pl.qdf.take k).find? (Pl.qcs n)=none):=hn
  clear hn
  rcases(show k=0∨k=1∨k=2∨k=3∨k=4∨k=5 by omega)with rfl | rfl | rfl | rfl | rfl | rfl
  ·by_cases hq:([104,114,101,102]==n)=true
   ·have HV:Hid (Pl.qex n=1):=Pl.qe2 n 0 _ rfl HN.out (by show (([104,114,101,102]==n) || _)=true; rw[hq]; rfl)
    go_wp2
    go_ret
    exact⟨qa5 (by rw[HV.out]),rfl⟩
   ·have hq:=Bool.eq_false_iff.2 hq
    have HV:Hid ((Pl.qdf.take (0+1)).find? (Pl.qcs n)=none):=Pl.qcx (Pl.qcs n) 0 _ rfl HN.out (by show (([104,114,101,102]==n) || _)=false; rw[hq]; rfl)
    go_wp2
    go_round
    case rel=>exact⟨1,by omega,rfl,HV.out⟩
    case measure=>simp[intOf]
  ·by_cases hq:([115,114,99]==n)=true
   ·have HV:Hid (Pl.qex n=1):=Pl.qe2 n 1 _ rfl HN.out (by show (([115,114,99]==n) || _)=true; rw[hq]; rfl)
    go_wp2
    go_ret
    exact⟨qa5 (by rw[HV.out]),rfl⟩
   ·have hq:=Bool.eq_false_iff.2 hq
    have HV:Hid ((Pl.qdf.take (1+1)).find? (Pl.qcs n)=none):=Pl.qcx (Pl.qcs n) 1 _ rfl HN.out (by show (([115,114,99]==n) || _)=false; rw[hq]; rfl)
    go_wp2
    go_round
    case rel=>exact⟨2,by omega,rfl,HV.out⟩
    case measure=>simp[intOf]
  ·by_cases hq:([97,99,116,105,111,110]==n)=true
   ·have HV:Hid (Pl.qex n=1):=Pl.qe2 n 2 _ rfl HN.out (by show (([97,99,116,105,111,110]==n) || _)=true; rw[hq]; rfl)
    go_wp2
    go_ret
    exact⟨qa5 (by rw[HV.out]),rfl⟩
   ·have hq:=Bool.eq_false_iff.2 hq
    have HV:Hid ((Pl.qdf.take (2+1)).find? (Pl.qcs n)=none):=Pl.qcx (Pl.qcs n) 2 _ rfl HN.out (by show (([97,99,116,105,111,110]==n) || _)=false; rw[hq]; rfl)
    go_wp2
    go_round
    case rel=>exact⟨3,by omega,rfl,HV.out⟩
    case measure=>simp[intOf]
  ·by_cases hq:([115,116,121,108,101]==n)=true
   ·have HV:Hid (Pl.qex n=2):=Pl.qe2 n 3 _ rfl HN.out (by show (([115,116,121,108,101]==n) || _)=true; rw[hq]; rfl)
    go_wp2
    go_ret
    exact⟨qa5 (by rw[HV.out]),rfl⟩
   ·have hq:=Bool.eq_false_iff.2 hq
    have HV:Hid ((Pl.qdf.take (3+1)).find? (Pl.qcs n)=none):=Pl.qcx (Pl.qcs n) 3 _ rfl HN.out (by show (([115,116,121,108,101]==n) || _)=false; rw[hq]; rfl)
    go_wp2
    go_round
    case rel=>exact⟨4,by omega,rfl,HV.out⟩
    case measure=>simp[intOf]
  ·by_cases hq:([111,110]==n)=true
   ·have HV:Hid (Pl.qex n=2):=Pl.qe2 n 4 _ rfl HN.out (by show (([111,110]==n) || _)=true; rw[hq]; rfl)
    go_wp2
    go_ret
    exact⟨qa5 (by rw[HV.out]),rfl⟩
   ·have hq:=Bool.eq_false_iff.2 hq
    by_cases hp:List.isPrefixOf [111,110] n=true
    ·have HV:Hid (Pl.qex n=2):=Pl.qe2 n 4 _ rfl HN.out (by show (([111,110]==n) || (true && List.isPrefixOf [111,110] n))=true; rw[hp]; simp)
     go_wp2_with (go_at_call 191; refine(qwy ⟨n.toArray⟩ _ [111,110] _ rfl).mono ?_; rintro e w' ⟨rfl,rfl⟩)
     go_ret
     exact⟨qa5 (by rw[HV.out]),rfl⟩
    ·have hp:=Bool.eq_false_iff.2 hp
     have HV:Hid ((Pl.qdf.take (4+1)).find? (Pl.qcs n)=none):=Pl.qcx (Pl.qcs n) 4 _ rfl HN.out (by show (([111,110]==n) || (true && List.isPrefixOf [111,110] n))=false; rw[hq,hp]; rfl)
     go_wp2_with (go_at_call 191; refine(qwy ⟨n.toArray⟩ _ [111,110] _ rfl).mono ?_; rintro e w' ⟨rfl,rfl⟩)
     go_round
     case rel=>exact⟨5,by omega,rfl,HV.out⟩
     case measure=>simp[intOf]
  ·have HV:Hid (Pl.qex n=0):=Pl.qvs n HN.out
   go_wp2
   go_ret
   exact⟨qa5 (by rw[HV.out]),rfl⟩
namespace Pl
theorem qtb (b:UInt8):qfg b=(b==95 || (qde b || (decide (97≤b.toNat) && decide (b.toNat≤122)))):=rfl
theorem q4s (f:UInt8→Bool) (s:ByteArray) (k:Nat) (h:k<s.size) (h0:(s.data.toList.take k).all f=true) (h1:f s[k]=true):(s.data.toList.take (k+1)).all f=true:=by
 rw[qg8 s k h,List.all_append,h0]; simp[h1]
theorem q8k (f:UInt8→Bool) (s:ByteArray) (k:Nat) (h:k<s.size) (h1:f s[k]=false):s.data.toList.all f=false:=by
 rw[qww s k h,List.all_append]; simp[h1]
theorem q7f (f:UInt8→Bool) (s:ByteArray) (k:Nat) (h:¬ k<s.size) (h0:(s.data.toList.take k).all f=true):s.data.toList.all f=true:=by
 rw[← qkc s k (by omega)]; exact h0
theorem qy3 (s:ByteArray) (h1:s.size≠0) (h2:s.size≤8):qce s.data.toList=s.data.toList.all qfg:=by
 unfold qce
 have e1:s.data.toList.isEmpty=false:=by
  rw[List.isEmpty_eq_false_iff]
  intro q
  apply h1
  have:=congrArg List.length q
  simpa using this
 have e2:decide (s.data.toList.length≤8)=true:=decide_eq_true (by simpa using h2)
 rw[e1,e2]; rfl
theorem qs6 (s:ByteArray) (h2:¬ s.size≤8):qce s.data.toList=false:=by
 unfold qce
 have e2:decide (s.data.toList.length≤8)=false:=decide_eq_false (by simpa using h2)
 rw[e2]; simp
end Pl
set_option maxRecDepth 100000 in
set_option maxHeartbeats 1600000 in
theorem qco (s:ByteArray) (w:World) :
  Calls Tryz.prog 72 #[.string s] w fun e w'=>e=.returned (.bool (Pl.qce s.data.toList))∧w=w':=by
 by_cases h0:s.size=0
 ·obtain rfl:s=⟨#[]⟩:=ByteArray.ext (Array.eq_empty_of_size_eq_zero h0)
  go_enter Tryz.func72,Tryz.ntmps72
  go_wp2_with fail
  go_ret
  exact⟨rfl,rfl⟩
 have HE:Hid ((s.toList.isEmpty)=false):=by
  show _=_
  rw[Lib.toList_data,List.isEmpty_eq_false_iff]
  intro q
  apply h0
  have:=congrArg List.length q
  simpa using this
 have c0:=HE.out
 by_cases h8:s.size≤8
 rotate_left
 ·have HV:=(show Hid _ from Pl.qs6 s h8)
  have c8:(8:Int)<(s.size:Int):=by omega
  clear h8
  go_enter Tryz.func72,Tryz.ntmps72
  go_wp2_with fail
  go_ret
  exact⟨qax HV.out.symm,rfl⟩
 have HV:=(show Hid _ from Pl.qy3 s h0 h8)
 have c8:¬(8:Int)<(s.size:Int):=by omega
 go_enter Tryz.func72,Tryz.ntmps72
 go_wp2_with fail
 clear c0 c8
 go_loop [14] (fun i=>∃ k:Nat,k≤s.size∧i=.int .i64 k∧Hid ((s.data.toList.take k).all Pl.qfg=true)) (fun i=>s.size - (intOf i).toNat)
 case atStart=>exact⟨0,Nat.zero_le _,rfl,rfl⟩
 case round=>
  obtain⟨k,hk,rfl,HN⟩:=hrel
  by_cases hlt:k<s.size
  ·have HB:Hid (∀ x,Pl.qfg s[k]=x→(x=true→(s.data.toList.take (k+1)).all Pl.qfg=true)∧(x=false→s.data.toList.all Pl.qfg=false)):=by
    rintro x rfl
    exact⟨fun q=>Pl.q4s _ s k hlt HN.out q,fun q=>Pl.q8k _ s k hlt q⟩
   have HI:=(show Hid _ from Pl.qtb s[k])
   by_cases d1:s[k]=95
   ·have HT:=(show Hid _ from(HB.out true (by rw[HI.out,d1]; rfl)).1 rfl)
    have e1:(s[k].toNat:Int)=95:=by rw[d1]; rfl
    clear HB HI HN d1
    go_wp2_with (go_at_call 102; refine(qcu s[k] _).mono ?_; rintro e w' ⟨rfl,rfl⟩)
    go_round
    case rel=>exact⟨k+1,by omega,by go_num,HT⟩
    case measure=>simp[intOf]; omega
   ·have e1:¬(s[k].toNat:Int)=95:=fun q=>d1 (UInt8.toNat_inj.1 (show s[k].toNat=95 by omega))
    by_cases d2:Pl.qde s[k]=true
    ·have HT:=(show Hid _ from(HB.out true (by rw[HI.out,d2]; simp)).1 rfl)
     clear HB HI HN d1
     go_wp2_with (go_at_call 102; refine(qcu s[k] _).mono ?_; rintro e w' ⟨rfl,rfl⟩; rw[d2])
     go_round
     case rel=>exact⟨k+1,by omega,by go_num,HT⟩
     case measure=>simp[intOf]; omega
    ·have d2:=Bool.eq_false_iff.2 d2
     by_cases d3:97≤s[k].toNat
     ·by_cases d4:s[k].toNat≤122
      ·have HT:=(show Hid _ from(HB.out true (by rw[HI.out,d2]; simp[d3,d4])).1 rfl)
       have e3:¬(s[k].toNat:Int)<97:=by omega
       have e4:¬(122:Int)<(s[k].toNat:Int):=by omega
       clear HB HI HN d1 d3 d4
       go_wp2_with (go_at_call 102; refine(qcu s[k] _).mono ?_; rintro e w' ⟨rfl,rfl⟩; rw[d2])
       go_round
       case rel=>exact⟨k+1,by omega,by go_num,HT⟩
       case measure=>simp[intOf]; omega
      ·have HT:=(show Hid _ from(HB.out false (by rw[HI.out,d2]; have:decide (s[k].toNat≤122)=false:=decide_eq_false d4; rw[this]; simp[d1])).2 rfl)
       have e3:¬(s[k].toNat:Int)<97:=by omega
       have e4:(122:Int)<(s[k].toNat:Int):=by omega
       clear HB HI HN d1 d3 d4
       go_wp2_with (go_at_call 102; refine(qcu s[k] _).mono ?_; rintro e w' ⟨rfl,rfl⟩; rw[d2])
       go_ret
       exact⟨qax (by rw[HV.out,HT.out]),rfl⟩
     ·have HT:=(show Hid _ from(HB.out false (by rw[HI.out,d2]; have:decide (97≤s[k].toNat)=false:=decide_eq_false d3; rw[this]; simp[d1])).2 rfl)
      have e3:(s[k].toNat:Int)<97:=by omega
      clear HB HI HN d1 d3
      go_wp2_with (go_at_call 102; refine(qcu s[k] _).mono ?_; rintro e w' ⟨rfl,rfl⟩; rw[d2])
      go_ret
      exact⟨qax (by rw[HV.out,HT.out]),rfl⟩
  ·have HT:=(show Hid _ from Pl.q7f Pl.qfg s k hlt HN.out)
   clear HN
   go_wp2
   go_ret
   exact⟨qax (by rw[HV.out,HT.out]),rfl⟩
set_option maxRecDepth 100000 in
set_option maxHeartbeats 1600000 in
theorem qvu (s:ByteArray) (w:World) :
  Calls Tryz.prog 229 #[.string s] w fun e w'=>e=.returned (.bool (Pl.qeh s.data.toList))∧w=w':=by
 have HV:Hid (Pl.qeh s.data.toList=(decide (s.size≤3) && !(Pl.qa0 61 s.data.toList))):=by
  show _=_
  unfold Pl.qeh
  congr 2
 by_cases h3:s.size≤3
 ·have c3:(s.size:Int)≤3:=by omega
  by_cases ha:Pl.qa0 61 s.data.toList=true
  ·have HV:Hid (Pl.qeh s.data.toList=false):=by show _=_; rw[HV.out,ha]; simp
   have HC:=(show Hid _ from fun w=>qb2 61 s _ w rfl ha)
   clear ha
   go_enter Tryz.func229,Tryz.ntmps229
   go_wp2_with (go_at_call 130; refine(HC.out _).mono ?_; rintro e w' ⟨x,hx,rfl,rfl⟩)
   go_ret
   refine⟨qax ?_,rfl⟩
   rw[HV.out]
   simp; omega
  ·have ha:=Bool.eq_false_iff.2 ha
   have HV:Hid (Pl.qeh s.data.toList=true):=by show _=_; rw[HV.out,ha]; simp[h3]
   have HC:=(show Hid _ from fun w=>qb4 61 s _ w rfl ha)
   clear ha
   go_enter Tryz.func229,Tryz.ntmps229
   go_wp2_with (go_at_call 130; refine(HC.out _).mono ?_; rintro e w' ⟨rfl,rfl⟩)
   go_ret
   exact⟨qax HV.out.symm,rfl⟩
 ·have c3:¬(s.size:Int)≤3:=by omega
  have HV:Hid (Pl.qeh s.data.toList=false):=by show _=_; rw[HV.out]; simp[h3]
  clear h3
  go_enter Tryz.func229,Tryz.ntmps229
  go_wp2_with fail
  go_ret
  exact⟨qax HV.out.symm,rfl⟩
def qcl (p:Pl.Pt):List Value:=[.int .i64 p.kind,.int .i64 p.pos,bs p.text,.int .i64 p.mate]
def qbq (L:List Pl.Pt):List Value:=L.flatMap qcl
theorem qvk (L:List Pl.Pt):(qbq L).length=L.length*4:=by
 induction L with
 | nil=>rfl
 | cons p L ih=>show (qbq L).length+4=_; rw[ih,List.length_cons]; omega
theorem qsq (L:List Pl.Pt) (p:Pl.Pt):qbq (L++[p])=qbq L++qcl p:=by simp[qbq]
theorem qdz:∀(L:List Pl.Pt) (k:Nat) (p:Pl.Pt),L[k]?=some p→∀(j:Nat) (v:Value),(qcl p)[j]?=some v→(qbq L)[k*4+j]?=some v
 | [],k,p,e=>by simp at e
 | q::L,0,p,e=>by
   simp only[List.getElem?_cons_zero,Option.some.injEq]at e
   subst e
   intro j v hv
   show (qcl q++qbq L)[0*4+j]?=some v
   rw[Nat.zero_mul,Nat.zero_add,List.getElem?_append_left (List.getElem?_eq_some_iff.1 hv).1]
   exact hv
 | q::L,k+1,p,e=>by
   intro j v hv
   have:=qdz L k p (by simpa using e) j v hv
   show (qcl q++qbq L)[(k+1)*4+j]?=some v
   rw[List.getElem?_append_right (by simp[qcl]; omega)]
   have e:(k+1)*4+j - (qcl q).length=k*4+j:=by simp[qcl]; omega
   rw[e]
   exact this
theorem qli:∀(L:List Pl.Pt) (m n:Nat),m<L.length→(qbq L).set (m*4+3) (.int .i64 n)=qbq (Pl.qbm L m n)
 | [],m,n,h=>by simp at h
 | q::L,0,n,_=>rfl
 | q::L,m+1,n,h=>by
   have ih:=qli L m n (by simpa using h)
   have e:Pl.qbm (q::L) (m+1) n=q::Pl.qbm L m n:=by simp[Pl.qbm]
   rw[e]
   show (qcl q++qbq L).set ((m+1)*4+3) _=qcl q++qbq (Pl.qbm L m n)
   rw[List.set_append_right _ _ (by simp[qcl]; omega)]
   have e2:(m+1)*4+3 - (qcl q).length=m*4+3:=by simp[qcl]; omega
   rw[e2,ih]
def qeb (L:List Nat):List Value:=L.map fun(n:Nat)=>Value.int .i64 (n:Int)
theorem qah {w w':World} {B n k:Nat} {e:TypeId} {v:Value} {xs:List Value} (h:w.ownsRow B e k v n xs) (hb:∀ g,v.ownBlock=some g→w'.heap[g]?=w.heap[g]?):w'.ownsRow B e k v n xs:=by
 refine⟨h.1,?_⟩
 rcases h.2 with h0 | ⟨g,cap,cur,hv,hle,hg,rest⟩
 ·exact .inl h0
 ·exact .inr ⟨g,cap,cur,hv,hle,(hb g (by rw[hv]; rfl)).trans hg,rest⟩
theorem qae {w:World} {B n k:Nat} {e:TypeId} {v:Value} {xs:List Value} (h:w.ownsRow B e k v n xs) (g:Nat) (hg:v.ownBlock=some g):∃ cur,w.heap[g]?=some (.cells cur e (0,0)):=by
 rcases h.2 with ⟨rfl,_⟩ | ⟨g',cap,cur,rfl,_,hh,_⟩
 ·simp[Value.ownBlock]at hg
 ·simp[Value.ownBlock]at hg
  subst hg
  exact⟨cur,hh⟩
theorem qao {w:World} {B n k:Nat} {e:TypeId} {v:Value} {xs:List Value} (h:w.ownsRow B e k v n xs) (hn:0<n):∃ g cap,v=.slice (some ⟨g,0,none⟩) n cap∧B≤g∧g<w.heap.size:=by
 rcases h.2 with ⟨_,h0⟩ | ⟨g,cap,cur,hv,hle,hg,rest⟩
 ·omega
 ·exact⟨g,cap,hv,hle,(Array.getElem?_eq_some_iff.1 hg).1⟩
theorem qll {w:World} {B n k:Nat} {e:TypeId} {g cap:Nat} {xs:List Value} (h:w.ownsRow B e k (.slice (some ⟨g,0,none⟩) n cap) n xs) (m:Nat) (hm:m≤n):w.ownsRow B e k (.slice (some ⟨g,0,none⟩) m cap) m (xs.take (m*k)):=by
 have hmk:m*k≤n*k:=Nat.mul_le_mul_right k hm
 refine⟨by rw[List.length_take,h.1]; omega,?_⟩
 rcases h.2 with ⟨h0,_⟩ | ⟨g',cap',cur,hv,hle,hg,h1,h2,h3,h4⟩
 ·cases h0
 ·injection hv with e1 e2 e3
  injection e1 with e1
  injection e1 with e1
  subst e1 e3
  exact .inr ⟨g,cap,cur,rfl,hle,hg,by omega,h2,h3,by rw[← h4,List.take_take,Nat.min_eq_left hmk]⟩
structure CtAt (w:World) (B g:Nat) (t:List UInt8) (c:Pl.Ct) (vp vo:Value):Prop where
 blk:w.heap[g]?=some (.cells #[bs t,bs c.op,bs c.cl,vp,vo] 222 (0,0))
 parts:w.ownsRow B 229 4 vp c.parts.length (qbq c.parts)
 opened:w.ownsRow B 3 1 vo c.opened.length (qeb c.opened)
 le:B≤g
structure Cur (B g:Nat) (w w':World):Prop where
 below:Below B w w'
 keep:∀ k cs t fz,w.heap[k]?=some (.cells cs t fz)→k≠g→t≠229→t≠3→w'.heap[k]?=w.heap[k]?
theorem Cur.refl (B g:Nat) (w:World):Cur B g w w:=⟨Below.refl _ _,fun _ _ _ _ _ _ _ _=>rfl⟩
theorem Cur.trans {B g:Nat} {a b c:World} (h:Cur B g a b) (k:Cur B g b c):Cur B g a c:=
 ⟨h.below.trans k.below,fun i cs t fz hi h1 h2 h3=>(k.keep i cs t fz ((h.keep i cs t fz hi h1 h2 h3).trans hi) h1 h2 h3).trans (h.keep i cs t fz hi h1 h2 h3)⟩
theorem Cur.of_below {B g:Nat} {w w':World} (h:Below w.heap.size w w') (hB:B≤w.heap.size):Cur B g w w':=
 ⟨h.mono hB,fun k _ _ _ hk _ _ _=>h.block k (Array.getElem?_eq_some_iff.1 hk).1⟩
theorem CtAt.lt {w:World} {B g:Nat} {t:List UInt8} {c:Pl.Ct} {vp vo:Value} (h:CtAt w B g t c vp vo):g<w.heap.size:=(Array.getElem?_eq_some_iff.1 h.blk).1
theorem CtAt.kept {w w':World} {B g:Nat} {t:List UInt8} {c:Pl.Ct} {vp vo:Value} (h:CtAt w B g t c vp vo) (hb:∀ k,k<w.heap.size→w'.heap[k]?=w.heap[k]?):CtAt w' B g t c vp vo:=
 ⟨(hb g h.lt).trans h.blk,qah h.parts fun k hk=>hb k (h.parts.lt k hk).2,qah h.opened fun k hk=>hb k (h.opened.lt k hk).2,h.le⟩
theorem CtAt.below {w w':World} {B g:Nat} {t:List UInt8} {c:Pl.Ct} {vp vo:Value} (h:CtAt w B g t c vp vo) (hb:Below w.heap.size w w'):CtAt w' B g t c vp vo:=h.kept hb.block
theorem CtAt.alloc {w:World} {B g:Nat} {t:List UInt8} {c:Pl.Ct} {vp vo:Value} (h:CtAt w B g t c vp vo) (o:Obj):CtAt (w.alloc o) B g t c vp vo:=h.kept fun _ hk=>heap_alloc_old w o hk
theorem CtAt.cell {w:World} {B g:Nat} {t:List UInt8} {c:Pl.Ct} {vp vo:Value} (h:CtAt w B g t c vp vo):∀(j:Nat) (v:Value),[bs t,bs c.op,bs c.cl,vp,vo][j]?=some v→w.cell? ⟨g,j,none⟩=some v:=fun j v hv=>qaa h.blk j v hv
theorem CtAt.thaw {w:World} {B g:Nat} {t:List UInt8} {c:Pl.Ct} {vp vo:Value} (h:CtAt w B g t c vp vo) (j:Nat):w.frozen? ⟨g,j,none⟩=false:=by simp[World.frozen?,h.blk]
theorem qej:(222:TypeId)≠229:=by decide
theorem qf5:(222:TypeId)≠3:=by decide
theorem qjk:(229:TypeId)≠3:=by decide
theorem qaf {w:World} {k l:Nat} {cs cs':Array Value} {t t':TypeId} {fz fz':Nat×Nat} (h:w.heap[k]?=some (.cells cs t fz)) (h':w.heap[l]?=some (.cells cs' t' fz')) (hne:t≠t'):k≠l:=by
 rintro rfl
 rw[h]at h'
 simp only[Option.some.injEq,Obj.cells.injEq]at h'
 exact hne h'.2.1
theorem CtAt.more {w w':World} {B g:Nat} {t:List UInt8} {c:Pl.Ct} {vp vo vp':Value} (h:CtAt w B g t c vp vo) (p:Pl.Pt) (hown:w'.ownsRow B 229 4 vp' (c.parts.length+1) (qbq c.parts++qcl p)) (hgr:w.grownBy w' vp.ownBlock) :
  CtAt (w'.setCell ⟨g,3,none⟩ vp') B g t { c with parts:=c.parts++[p] } vp' vo∧Cur B g w (w'.setCell ⟨g,3,none⟩ vp'):=by
 have hgb:∀ k,vp.ownBlock=some k→g≠k:=fun k hk=>by
  obtain⟨cur,hc⟩:=qae h.parts k hk
  exact qaf h.blk hc qej
 have hob:∀ k l,vo.ownBlock=some k→vp.ownBlock=some l→k≠l:=fun k l hk hl=>by
  obtain⟨cur,hc⟩:=qae h.opened k hk
  obtain⟨cur',hc'⟩:=qae h.parts l hl
  exact fun e=>qaf hc' hc qjk e.symm
 have hg':w'.heap[g]?=some (.cells #[bs t,bs c.op,bs c.cl,vp,vo] 222 (0,0)):=(hgr.block g h.lt (fun e=>hgb g e.symm rfl)).trans h.blk
 have hset:∀ k,k≠g→(w'.setCell ⟨g,3,none⟩ vp').heap[k]?=w'.heap[k]?:=fun k hk=>Below.heap_setCell _ _ _ _ hk
 have hvg:∀ k,vp'.ownBlock=some k→k≠g:=fun k hk=>by
  obtain⟨cur,hc⟩:=qae hown k hk
  exact fun e=>qaf hg' hc qej e.symm
 refine⟨⟨?_,?_,?_,h.le⟩,⟨?_,?_⟩⟩
 ·rw[heap_setCell_same _ _ _ _ _ _ hg']; rfl
 ·have e:({ c with parts:=c.parts++[p] }:Pl.Ct).parts.length=c.parts.length+1:=by simp
  rw[e]
  show World.ownsRow _ _ _ _ _ _ (qbq (c.parts++[p]))
  rw[qsq]
  exact qah hown fun k hk=>hset k (hvg k hk)
 ·refine qah h.opened fun k hk=>?_
  have hkl:=(h.opened.lt k hk).2
  obtain⟨cur,hc⟩:=qae h.opened k hk
  refine(hset k (fun e=>qaf h.blk hc qf5 e.symm)).trans (hgr.block k hkl (fun e=>hob k k hk e.symm rfl))
 ·refine Below.trans ⟨hgr.os,hgr.tape,hgr.output,hgr.size,fun k hk=>hgr.block k (by have:=h.lt; have:=h.le; omega) (fun e=>by have:=(h.parts.lt k e.symm).1; omega)⟩ ((Below.refl _ _).setCell (p:=⟨g,3,none⟩) h.le _)
 ·intro k cs ty fz hk h1 h2 h3
  refine(hset k h1).trans (hgr.block k (Array.getElem?_eq_some_iff.1 hk).1 (fun e=>?_))
  obtain⟨cur,hc⟩:=qae h.parts k e.symm
  exact qaf hk hc h2 rfl
theorem CtAt.push {w w':World} {B g:Nat} {t:List UInt8} {c:Pl.Ct} {vp vo vo':Value} (h:CtAt w B g t c vp vo) (n:Nat) (hown:w'.ownsRow B 3 1 vo' (c.opened.length+1) (qeb c.opened++[.int .i64 n])) (hgr:w.grownBy w' vo.ownBlock) :
  CtAt (w'.setCell ⟨g,4,none⟩ vo') B g t { c with opened:=c.opened++[n] } vp vo'∧Cur B g w (w'.setCell ⟨g,4,none⟩ vo'):=by
 have hgb:∀ k,vo.ownBlock=some k→g≠k:=fun k hk=>by
  obtain⟨cur,hc⟩:=qae h.opened k hk
  exact qaf h.blk hc qf5
 have hob:∀ k l,vp.ownBlock=some k→vo.ownBlock=some l→k≠l:=fun k l hk hl=>by
  obtain⟨cur,hc⟩:=qae h.parts k hk
  obtain⟨cur',hc'⟩:=qae h.opened l hl
  exact qaf hc hc' qjk
 have hg':w'.heap[g]?=some (.cells #[bs t,bs c.op,bs c.cl,vp,vo] 222 (0,0)):=(hgr.block g h.lt (fun e=>hgb g e.symm rfl)).trans h.blk
 have hset:∀ k,k≠g→(w'.setCell ⟨g,4,none⟩ vo').heap[k]?=w'.heap[k]?:=fun k hk=>Below.heap_setCell _ _ _ _ hk
 have hvg:∀ k,vo'.ownBlock=some k→k≠g:=fun k hk=>by
  obtain⟨cur,hc⟩:=qae hown k hk
  exact fun e=>qaf hg' hc qf5 e.symm
 refine⟨⟨?_,?_,?_,h.le⟩,⟨?_,?_⟩⟩
 ·rw[heap_setCell_same _ _ _ _ _ _ hg']; rfl
 ·refine qah h.parts fun k hk=>?_
  have hkl:=(h.parts.lt k hk).2
  obtain⟨cur,hc⟩:=qae h.parts k hk
  refine(hset k (fun e=>qaf h.blk hc qej e.symm)).trans (hgr.block k hkl (fun e=>hob k k hk e.symm rfl))
 ·have e:({ c with opened:=c.opened++[n] }:Pl.Ct).opened.length=c.opened.length+1:=by simp
  rw[e]
  have e2:qeb ({ c with opened:=c.opened++[n] }:Pl.Ct).opened=qeb c.opened++[.int .i64 n]:=by simp[qeb]
  rw[e2]
  exact qah hown fun k hk=>hset k (hvg k hk)
 ·refine Below.trans ⟨hgr.os,hgr.tape,hgr.output,hgr.size,fun k hk=>hgr.block k (by have:=h.lt; have:=h.le; omega) (fun e=>by have:=(h.opened.lt k e.symm).1; omega)⟩ ((Below.refl _ _).setCell (p:=⟨g,4,none⟩) h.le _)
 ·intro k cs ty fz hk h1 h2 h3
  refine(hset k h1).trans (hgr.block k (Array.getElem?_eq_some_iff.1 hk).1 (fun e=>?_))
  obtain⟨cur,hc⟩:=qae h.opened k e.symm
  exact qaf hk hc h3 rfl
structure CtTo (w w':World) (B g:Nat) (t:List UInt8) (c:Pl.Ct):Prop where
 ex:∃ vp vo,CtAt w' B g t c vp vo
 cur:Cur B g w w'
theorem qgd (w:World) (cs:List Value) (t:TypeId):∀(j:Nat) (u:Value),cs[j]?=some u→(w.alloc (.cells cs.toArray t)).cell? ((⟨w.heap.size,0,none⟩:Addr).add j)=some u:=by
 intro j u hj
 have:(⟨w.heap.size,0,none⟩:Addr).add j=⟨w.heap.size,j,none⟩:=by simp only[Addr.add,Nat.zero_add]; split<;>simp_all
 rw[this]
 exact qaa (heap_alloc_new w _) j u (by simpa using hj)
theorem CtAt.ahead {w w0 w':World} {B g:Nat} {t:List UInt8} {c:Pl.Ct} {vp vo:Value} (h:CtAt w B g t c vp vo) (hb0:Below w.heap.size w w0) {row:Option Nat} (hrow:row=vp.ownBlock∨row=vo.ownBlock) (hgr:w0.grownBy w' row) (j:Nat) (v:Value) (hv:[bs t,bs c.op,bs c.cl,vp,vo][j]?=some v):w'.cell? ⟨g,j,none⟩=some v∧w'.frozen? ⟨g,j,none⟩=false:=by
 have hne:some g≠row:=by
  rintro rfl
  rcases hrow with e | e
  ·obtain⟨cur,hc⟩:=qae h.parts g e.symm
   exact qaf h.blk hc qej rfl
  ·obtain⟨cur,hc⟩:=qae h.opened g e.symm
   exact qaf h.blk hc qf5 rfl
 have hb:w'.heap[g]?=some (.cells #[bs t,bs c.op,bs c.cl,vp,vo] 222 (0,0)):=(hgr.block g (Nat.lt_of_lt_of_le h.lt hb0.size) hne).trans ((hb0.block g h.lt).trans h.blk)
 exact⟨qaa hb j v hv,by simp[World.frozen?,hb]⟩
theorem CtAt.moreTo {w w0 w':World} {B g:Nat} {t:List UInt8} {c:Pl.Ct} {vp vo vp':Value} (h:CtAt w B g t c vp vo) (hb0:Below w.heap.size w w0) (p:Pl.Pt) (hown:w'.ownsRow B 229 4 vp' (c.parts.length+1) (qbq c.parts++qcl p)) (hgr:w0.grownBy w' vp.ownBlock) :
  CtTo w (w'.setCell ⟨g,3,none⟩ vp') B g t { c with parts:=c.parts++[p] }:=by
 obtain⟨h1,h2⟩:=(h.below hb0).more p hown hgr
 exact⟨⟨_,_,h1⟩,(Cur.of_below hb0 (Nat.le_trans h.le (Nat.le_of_lt h.lt))).trans h2⟩
theorem qbl {P:Program} {ops:Array Oper} {o:Oper} {a:Act} {w:World} {K:Act→World→Prop} {Q:Exit→Act→World→Prop} {E:Prop}
  (hg:o.guard=none) (s x:Operand) (t:TypeId) (hop:o.op=Op.call { callee:=Callee.builtin Builtin.append,args:=#[s,x],argTypes:=#[t,t] })
  (base:Nat) (e:TypeId) (i:TypeInfo) (z:Value) (size bytes:Nat) (ht:P.underlying t=some (.slice e)) (hi:P.info? e=some i) (hz:i.zero=some z)
  (hsize:i.size=size) (hby:i.bytes=bytes) (hzs:z.cells.size=size) (hsz:0<size)
  (v:Value) (n:Nat) (xs:List Value) (hs:a.eval s=v) (hown:w.ownsRow base e size v n xs)
  (ad:Addr) (m c:Nat) (news:List Value) (hx:a.eval x=.slice (some ad) m c) (hl:news.length=m*size) (hnews:∀ j u,news[j]?=some u→w.cell? (ad.add j)=some u) (h1:∀ u∈news,u.oneCell'=true)
  (h63:n+m≤maxLen) (hbytes:(n+m)*bytes≤140737488355328) (hbase:base≤w.heap.size)
  (hK:∀ v' w',w'.ownsRow base e size v' (n+m) (xs++news)→w.grownBy w' v.ownBlock→(v'.ownBlock=v.ownBlock∨v'.ownBlock=some w.heap.size)→K (a.put o.dst v') w') :
  if Region.wanted o (yielded ops a.tmps)=true then Oper.wp P o a w K Q else E:=by
 have hw:Region.wanted o (yielded ops a.tmps)=true:=by simp[Region.wanted,hg]
 rw[if_pos hw]
 obtain⟨v',w',hr,h2,h3,h4,h5⟩:=run_append_own_at (P:=P) w base t o.type e i z size bytes ht hi hz hsize hby hzs hsz v n xs hown ad m c news hl hnews h1 h63 hbytes hbase
 unfold Oper.wp
 simp[execOp,hop,resolve,invoke,builtin,hs,hx,hr,Result.andThen]
 exact hK v' w' h2 h3 h5
end Go.Proofs.YtfkhljmiehdgmaaGreatDoor

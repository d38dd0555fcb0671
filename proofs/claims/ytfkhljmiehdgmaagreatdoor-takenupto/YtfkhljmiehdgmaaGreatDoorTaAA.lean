/-
  Steps of the proof (texts laid together, blanks left out): Laid, Aid, PlainA, PgA, PgC, PgMk, PgTabs, PcA, PcB.
-/
import Derived.Test.YtfkhljmiehdgmaaGreatDoorRows
import Derived.WalkKit
import Derived.ProofKit
import Derived.OpenShut
import Derived.Lib.LaidTab
import Derived.WalkSpells
import Derived.WalkLawsBesides
import Derived.Lib.UnsafeStr
import Derived.Lib.Split
import Derived.Lib.SlTrimSet
namespace Go.Proofs.YtfkhljmiehdgmaaGreatDoor
open Go.ChangeShapes Go.WideShapes Go.ChangeAt Go.RowKit
def qfj {H:Type}:Nat→DataW H→List Value
 | 0,_=>[]
 | _+1,.lit (.int k n)=>[.int k n]
 | _+1,.lit (.bool b)=>[.bool b]
 | _+1,.lit (.string l)=>[.string ⟨l.toArray⟩]
 | n+1,.agg ps=>ps.flatMap (qfj n)
 | _+1,_=>[]
def qzz (P:Program):Nat→List Field→Option Nat
 | o,[]=>some o
 | o,f::fs=>if f.offset=o then qzz P (o+P.cellsOf f.type) fs else none
def qfp (P:Program):Nat→TypeId→Bool
 | 0,_=>false
 | n+1,t=>match P.underlying t with
   | some (.int _)=>true
   | some .bool=>true
   | some .string=>true
   | some (.array k e)=>P.cellsOf t==k*P.cellsOf e && qfp P n e
   | some (.struct fs)=>qzz P 0 fs.toList==some (P.cellsOf t) && fs.toList.all fun f=>qfp P n f.type
   | _=>false
theorem qss {α β:Type} (g:α→List β) (sz:Nat):∀(xs:List α) (cs:List β),cs.length=xs.length*sz→(∀ i x,xs[i]?=some x→(cs.drop (i*sz)).take sz=g x)→cs=xs.flatMap g
 | [],cs,h,_=>by simpa using h
 | x::xs,cs,h,hx=>by
   have h0:cs.take sz=g x:=by simpa using hx 0 x rfl
   have ih:=qss g sz xs (cs.drop sz) (by rw[List.length_drop,h,List.length_cons,Nat.succ_mul]; omega) (fun i y hy=>by
    have:=hx (i+1) y (by simpa using hy)
    rw[List.drop_drop,show sz+i*sz=(i+1)*sz by rw[Nat.succ_mul]; omega]
    exact this)
   rw[List.flatMap_cons,← h0,← ih,List.take_append_drop]
theorem qz0 {α β:Type} {P:Program} (g:α→List β) (cs:List β):∀(fs:List Field) (xs:List α) (o e:Nat),fs.length=xs.length→qzz P o fs=some e→e=cs.length →
  (∀(i:Nat) (f:Field) (x:α),fs[i]?=some f→xs[i]?=some x→(cs.drop f.offset).take (P.cellsOf f.type)=g x)→cs.drop o=xs.flatMap g
 | [],[],o,e,_,ht,he,_=>by
   simp only[qzz,Option.some.injEq]at ht
   subst ht; subst he
   simp
 | [],_::_,_,_,hl,_,_,_=>by simp at hl
 | _::_,[],_,_,hl,_,_,_=>by simp at hl
 | f::fs,x::xs,o,e,hl,ht,he,hx=>by
   simp only[qzz]at ht
   split at ht
   ·rename_i ho
    have h0:=hx 0 f x rfl rfl
    rw[ho]at h0
    have ih:=qz0 g cs fs xs (o+P.cellsOf f.type) e (by simpa using hl) ht he (fun i f' x' hf hx'=>hx (i+1) f' x' (by simpa using hf) (by simpa using hx'))
    rw[List.flatMap_cons,← h0,← ih,← List.drop_drop,List.take_append_drop]
   ·cases ht
theorem qj1 {H:Type} {enc:TypeId×Value→H} {P:Program} {w:World} {base:Nat} {sp:Nat→Bool} {held:Bool}:∀(F fuel:Nat) (t:TypeId) (cs:List Value) (d:DataW H) (p:List MemPlace),
  qfp P F t=true→DataW.trod enc P w base sp held fuel t cs=some (d,p)→cs=qfj F d
 | 0,_,_,_,_,_,h,_=>by simp[qfp]at h
 | F+1,fuel,t,cs,d,p,h,hd=>by
   unfold qfp at h
   split at h
   ·rename_i k hu
    obtain⟨n,rfl,e,_⟩:=DataW.trod_int hu hd
    cases e; rfl
   ·rename_i hu
    obtain⟨b,rfl,e⟩:=DataW.trod_bool hu hd
    cases e; rfl
   ·rename_i hu
    obtain⟨s,rfl,e,_⟩:=DataW.trod_string hu hd
    cases e; rfl
   ·rename_i k e hu
    simp only[Bool.and_eq_true,beq_iff_eq]at h
    obtain⟨xs,m,rfl,hx,hl,hn,hi⟩:=DataW.trod_array hu hd
    cases hx
    show cs=(xs.map (·.1)).flatMap (qfj F)
    rw[List.flatMap_map]
    refine qss _ (P.cellsOf e) xs cs (by rw[hl,h.1,hn]) ?_
    intro i x hx
    have hin:i<k:=by
     have:=(List.getElem?_eq_some_iff.1 hx).1
     omega
    have:=hi i hin
    rw[hx]at this
    exact qj1 F m e _ x.1 x.2 h.2 this
   ·rename_i fs hu
    simp only[Bool.and_eq_true,beq_iff_eq]at h
    obtain⟨xs,m,rfl,hx,hl,hn,hi⟩:=DataW.trod_struct hu hd
    cases hx
    show cs=(xs.map (·.1)).flatMap (qfj F)
    rw[List.flatMap_map]
    have:=qz0 (P:=P) (fun x:DataW H×List MemPlace=>qfj F x.1) cs fs.toList xs 0 _ (by simpa using hn.symm) h.1 hl.symm (fun i f x hf hx=>by
     have h1:=hi i f (by simpa using hf)
     rw[hx]at h1
     exact qj1 F m f.type _ x.1 x.2 (List.all_eq_true.1 h.2 f (List.mem_of_getElem? hf)) h1)
    simpa using this
   ·cases h
theorem qbt {P:Program} {W:World}:∀ {laid:List (String×DataW Unit)} {ps:List MemPlace},DataW.LaidVars P W laid ps→∀(i:Nat) (name:String) (d:DataW Unit),laid[i]?=some (name,d) →
  ∀(g:Nat) (t:TypeId) (F:Nat),P.globalNamed name=some g→(P.globals[g]?).map (·.type)=some t→qfp P F t=true→∀(j:Nat) (v:Value),(qfj F d)[j]?=some v→W.cell? ⟨g,j,none⟩=some v
 | [],_,_,i,_,_,hi=>by simp at hi
 | (n,d)::r,ps,h,i,name,d',hi=>by
   obtain⟨g',t',cs,fuel,p,q,hg',ht',hvar,hd,hr,_⟩:=h
   intro g t F hg ht hp j v hv
   match i with
   | 0=>
     simp only[List.getElem?_cons_zero,Option.some.injEq,Prod.mk.injEq]at hi
     obtain⟨rfl,rfl⟩:=hi
     obtain rfl:=Option.some.inj (hg.symm.trans hg')
     obtain rfl:=Option.some.inj (ht.symm.trans ht')
     have e:=qj1 F fuel t _ _ _ hp hd
     rw[← e]at hv
     have:=World.var?_cell hg hvar j
     rw[this]
     simpa using hv
   | i+1=>exact qbt hr i name d' (by simpa using hi) g t F hg ht hp j v hv
end Go.Proofs.YtfkhljmiehdgmaaGreatDoor
namespace Go.Proofs.YtfkhljmiehdgmaaGreatDoor
open Go.RowKit
theorem qre {P:Program} (w:World) (src dst e:TypeId) (hs:P.underlying src=some (.slice e)) (he:P.underlying e=some (.int .u8)) (hd:P.underlying dst=some .string)
  (B:Nat) (v:Value) (l:List UInt8) (h:w.ownsRow B e 1 v l.length (Lib.byteCells l)) :
  (convert src dst v).run P w=.ok (.string ⟨l.toArray⟩) w:=by
 rcases h with ⟨hl,⟨rfl,h0⟩ | ⟨g,cap,cur,rfl,hb,hg,hn,hm,hc,ht⟩⟩
 ·have:l=[]:=by simpa using h0
  subst this
  exact run_convert_bytes_nil w src e hs he 0 0 dst hd
 ·refine run_convert_bytes_back w src dst e ⟨g,0,none⟩ cap l hs he hd ?_
  intro j hj
  have e2:w.cell? ((⟨g,0,none⟩:Addr).add j)=(Lib.byteCells l)[j]?:=by
   have hh:w.ownsRow B e 1 (.slice (some ⟨g,0,none⟩) l.length cap) l.length (Lib.byteCells l):=⟨hl,.inr ⟨g,cap,cur,rfl,hb,hg,hn,hm,hc,ht⟩⟩
   have:=hh.cellAt j (by simpa using hj)
   have ha:((⟨g,0,none⟩:Addr).add j)=⟨g,j,none⟩:=by unfold Addr.add; split<;>simp_all
   rw[ha,this]
  rw[e2]
  simp[Lib.byteCells,List.getElem?_eq_getElem hj]
theorem qrh (l:List UInt8):(Lib.byteCells l).length=l.length:=Lib.byteCells_length l
theorem qgk (l:List UInt8) (b:UInt8):Lib.byteCells (l++[b])=Lib.byteCells l++[.int .u8 b.toNat]:=by
 rw[Lib.byteCells_append]; rfl
theorem qwb {B:Nat} {a w w':World} {e:TypeId} {v:Value} {n:Nat} {xs:List Value} (h:Below B a w) (ho:w.ownsRow B e 1 v n xs) (hg:w.grownBy w' v.ownBlock) (hB:B≤w.heap.size):Below B a w':=
 h.grown hg hB fun k hk=>(ho.lt k hk).1
theorem qbw {P:Program} (w:World) (g:Nat) (ty:TypeId) (cs:Array Value) (d:TypeDesc) (hg:∀ j v,cs.toList[j]?=some v→w.cell? ⟨g,j,none⟩=some v)
  (hu:P.underlying ty=some d) (hd:(match d with | .struct _ | .array _ _=>true | _=>false)=true) (hi:(P.info? ty).map (·.size)=some cs.size) :
  (loadVar ty ⟨g,0,none⟩).run P w=.ok (.agg cs) w:=by
 have hl:(loadCells ⟨g,0,none⟩ cs.toList.length).run P w=.ok cs.toList.toArray w:=
  run_loadCells_list (P:=P) w ⟨g,0,none⟩ cs.toList (fun j v hv=>by
   have hadd:(⟨g,0,none⟩:Addr).add j=⟨g,j,none⟩:=by unfold Addr.add; split<;>simp_all
   rw[hadd]
   exact hg j v hv)
 cases hq:P.info? ty with
 | none=>simp[hq]at hi
 | some i=>
   have hs:i.size=cs.size:=by simpa [hq] using hi
   have hagg:(isAgg ty).run P w=.ok true w:=by
    unfold isAgg
    rw[Sem.run_bind,run_underlying hu w]
    cases d<;>simp_all
   simp only[Array.length_toList,Array.toArray_toList]at hl
   simp[loadVar,Sem.run_bind,hagg,sizeOf,typeInfo,hq,hs,hl]
theorem qg7 {P:Program} {ops:Array Oper} {rest:List Oper} {o:Oper} {a:Act} {w:World} {Q:Exit→Act→World→Prop} (hgd:o.guard=none) (ty:TypeId) (x:Operand) (ho:o.op=.load ty x)
  (g:Nat) (hx:a.eval x=.pointer (some ⟨g,0,none⟩)) (cs:Array Value) (d:TypeDesc) (hg:∀ j v,cs.toList[j]?=some v→w.cell? ⟨g,j,none⟩=some v)
  (hu:P.underlying ty=some d) (hd:(match d with | .struct _ | .array _ _=>true | _=>false)=true) (hi:(P.info? ty).map (·.size)=some cs.size)
  (h:wpList P ops Q rest (a.put o.dst (.agg cs)) w):wpList P ops Q (o::rest) a w:=
 wpList_plain hgd fun K hK=>by
  unfold Oper.wp execOp
  simp only[ho,hx,Instr.loadAt,Instr.sureAddr,Sem.run_bind,Sem.run_pure,Result.andThen_ok,qbw w g ty cs d hg hu hd hi]
  exact hK _ _ h
end Go.Proofs.YtfkhljmiehdgmaaGreatDoor
namespace Go.Proofs.YtfkhljmiehdgmaaGreatDoor.Pl
def qg4 (b:UInt8):Bool:=decide (65≤b.toNat) && decide (b.toNat≤90)
def qcm (b:UInt8):Bool:=(decide (97≤b.toNat) && decide (b.toNat≤122)) || qg4 b
def qde (b:UInt8):Bool:=decide (48≤b.toNat) && decide (b.toNat≤57)
def small (b:UInt8):UInt8:=if qg4 b then b+32 else b
def qa0 (b:UInt8) (l:List UInt8):Bool:=l.any fun c=>c==b
def odd (b:UInt8):Bool:=decide (b.toNat<32) || (decide (b.toNat=127) || qa0 b [34,39,38,47,60,62,92])
theorem qg8 (s:ByteArray) (k:Nat) (h:k<s.size):s.data.toList.take (k+1)=s.data.toList.take k++[s[k]]:=by
 rw[List.take_succ_eq_append_getElem (by simpa using h)]; rfl
theorem qkc (s:ByteArray) (k:Nat) (h:s.size≤k):s.data.toList.take k=s.data.toList:=
 List.take_of_length_le (by simpa using h)
theorem qww (s:ByteArray) (k:Nat) (h:k<s.size):s.data.toList=s.data.toList.take k++s[k]::s.data.toList.drop (k+1):=by
 have:=List.take_append_drop k s.data.toList
 rw[List.drop_eq_getElem_cons (by simpa using h)]at this
 exact this.symm
theorem beq8 (a b:UInt8):((a.toNat:Int)==(b.toNat:Int))=(a==b):=by
 rw[Bool.eq_iff_iff]
 simp only[beq_iff_eq,Int.natCast_inj,UInt8.toNat_inj]
theorem qj2 (a:UInt8) (n:Nat) (h:n<256):((a.toNat:Int)==(n:Int))=(a==UInt8.ofNat n):=by
 rw[← beq8]; simp[Nat.mod_eq_of_lt h]
abbrev Step:=Nat×List UInt8×Nat
def qbs:List Step:=[
 (1,[60],2),(2,[97],3),(2,[47],11),(2,[33],13),(3,[9,10,12,13,32,47],4),(3,[62],34),(4,[9,10,12,13,32,47],4),(4,[62],34),
 (5,[9,10,12,13,32],6),(5,[61],7),(5,[47],4),(5,[62],34),(6,[9,10,12,13,32],6),(6,[61],7),(6,[47],4),(6,[62],34),
 (7,[9,10,12,13,32],7),(7,[34],8),(7,[39],9),(7,[62],34),(8,[34],4),(9,[39],4),(10,[9,10,12,13,32],4),(10,[62],34),
 (11,[97],12),(11,[62],1),(12,[62],1),(13,[45],14),(13,[62],1),(14,[45],15),(14,[62],1),(15,[45],16),(16,[45],17),(17,[62],1),(17,[45],17),(18,[62],1)]
def qbf:List Step:=[
 (20,[34],21),(20,[39],22),(20,[96],23),(20,[47],24),(21,[34,10],20),(22,[39,10],20),(23,[96],20),(24,[47],25),(24,[42],26),(25,[10],20),(26,[42],27),
 (27,[47],20),(27,[42],27),(28,[34],29),(28,[39],30),(28,[47],31),(29,[34,10],28),(30,[39,10],28),(31,[42],32),(32,[42],33),(33,[47],28),(33,[42],33)]
def qbi:List Nat:=[0,0,1,0,0,0,0,0,0,0,0,0,0,0,0,0,0,0,0,0,0,0,0,0,20,0,0,0,0,0,0,28,0,0]
def qar:List Nat:=[0,0,0,0,5,0,5,10,0,0,0,18,0,18,18,0,15,15,0,0,0,0,0,0,0,0,0,26,0,0,0,0,0,32]
def qat:List Bool:=[false,false,false,false,false,false,false,false,false,false,false,false,false,false,false,false,false,false,false,false,false,true,true,true,false,false,false,false,false,true,true,false,false,false]
def qfc:List UInt8:=[116,105,116,108,101]
def qiv:List UInt8:=[116,101,120,116,97,114,101,97]
def qdm:List UInt8:=[115,99,114,105,112,116]
def qek:List UInt8:=[115,116,121,108,101]
def qk8:List (List UInt8×Nat):=[(qfc,19),(qiv,19),(qdm,20),(qek,28)]
def qdf:List (List UInt8×Bool×Int):=[([104,114,101,102],false,1),([115,114,99],false,1),([97,99,116,105,111,110],false,1),(qek,false,2),([111,110],true,2)]
structure St where
 mode:Nat
 name:List UInt8
 elem:List UInt8
 kind:Int
 read:Nat
 esc:Bool
def hit (m:Nat) (b:UInt8) (r:Step):Bool:=decide (r.1=m) && qa0 b r.2.1
def lookup (l:List Step) (m:Nat) (b:UInt8):Nat:=match l.find? (hit m b) with
 | some r=>r.2.2
 | none=>0
def qd2 (b:UInt8):UInt8:=if qcm b then 97 else b
def qa1 (m:Nat) (b:UInt8):Nat:=if m<19 then lookup qbs m (qd2 b) else lookup qbf m (qd2 b)
def or3 (a b c:Nat):Nat:=if a≠0 then a else if b≠0 then b else c
def qdg (n:List UInt8) (b:UInt8):List UInt8:=if n.length=9 then n else n++[small b]
def qci (n:List UInt8):List UInt8:=if n=qfc∨n=qiv∨n=qdm∨n=qek then n else[]
def qcs (n:List UInt8) (r:List UInt8×Bool×Int):Bool:=r.1==n || (r.2.1 && r.1.isPrefixOf n)
def qex (n:List UInt8):Int:=match qdf.find? (qcs n) with
 | some r=>r.2.2
 | none=>0
def qhf (n:List UInt8):Nat:=if n=qfc then 19 else if n=qiv then 19 else if n=qdm then 20 else if n=qek then 28 else 1
def qac (n:List UInt8):St:=if qhf n=1 then⟨1,[],[],0,0,false⟩ else⟨qhf n,[],n,0,0,false⟩
def St.named (s:St):St:=⟨s.mode,[],if s.mode=3 then qci s.name else s.elem,if s.mode=5 then qex s.name else s.kind,s.read,s.esc⟩
def St.led1 (s:St) (tz:Nat) (b:UInt8):St:=
 if tz=3 then { s with mode:=tz,name:=qdg s.name b }
 else if tz=5 then { s with mode:=tz,name:=qdg s.name b,kind:=0 }
 else if tz=4∨tz=10 then { s with mode:=tz,kind:=0 }
 else if tz=34 then qac s.elem
 else { s with mode:=tz }
def St.led (s:St) (tz:Nat) (b:UInt8):St:=if tz=s.mode then s.led1 tz b else s.named.led1 tz b
def St.ending (s:St):List UInt8:=60::47::s.elem
def qgx:List UInt8:=[9,10,12,13,32,47,62]
def St.ends (s:St) (b:UInt8):Bool:=decide (s.read=s.ending.length) && qa0 b qgx
def qev (b:UInt8):Nat:=if b=62 then 1 else 12
def St.readEnd (s:St) (b:UInt8):Nat:=if s.ending[s.read]?=some (small b) then s.read+1 else if b=60 then 1 else 0
def qp6 (m:Nat):Nat:=qbi.getD m 0
def St.table2 (s:St) (b:UInt8):St:=s.led (or3 (qa1 s.mode b) (qar.getD s.mode 0) s.mode) b
def St.table (s:St) (b:UInt8):St:=if qa1 s.mode b=0∧qp6 s.mode≠0 then({ s with mode:=qp6 s.mode }:St).table2 b else s.table2 b
def St.quiet (s:St) (b:UInt8):St:=if qat.getD s.mode false && (s.esc || b==92) then { s with esc:=!s.esc } else s.table b
def St.behind (s:St) (b:UInt8):St:=
 if 19≤s.mode then(if s.ends b then⟨qev b,[],[],0,0,false⟩ else({ s with read:=s.readEnd b }:St).quiet b) else s.quiet b
def St.start:St:=⟨1,[],[],0,0,false⟩
def qdp:St→List UInt8→List Nat
 | _,[]=>[]
 | s,b::l=>(s.behind b).mode::qdp (s.behind b) l
def qr9 (s:St) (l:List UInt8):St:=l.foldl St.behind s
theorem ql1 (s:St) (l m:List UInt8):qdp s (l++m)=qdp s l++qdp (qr9 s l) m:=by
 induction l generalizing s with
 | nil=>rfl
 | cons b l ih=>simp only[List.cons_append,qdp,qr9,List.foldl_cons]; rw[ih]; rfl
theorem qqx (s:St) (l:List UInt8):(qdp s l).length=l.length:=by
 induction l generalizing s with
 | nil=>rfl
 | cons b l ih=>simp[qdp,ih]
theorem qoy (s:St) (l:List UInt8) (b:UInt8):qdp s (l++[b])=qdp s l++[((qr9 s l).behind b).mode]:=by
 rw[ql1]; rfl
def qnl (n:List UInt8):Prop:=n=[]∨n=qfc∨n=qiv∨n=qdm∨n=qek
structure St.Ok (s:St):Prop where
 lo:1≤s.mode
 hi:s.mode≤33
 name:s.name.length≤9
 named:s.mode≠3→s.mode≠5→s.name=[]
 elem:qnl s.elem
 bare:s.mode<4∨(10<s.mode∧s.mode<19)→s.elem=[]∧s.kind=0
 low:s.mode<19→s.read=0
 calm:qat.getD s.mode false=false→s.esc=false
 read:s.read≤s.ending.length
 wrap:-3≤s.kind∧s.kind≤3
 high:19≤s.mode→s.elem≠[]∧s.kind=0
theorem qqk {α:Type} {l:List α} (f:α→Bool) (k:Nat) (x:α) (hx:l[k]?=some x) (hn:(l.take k).find? f=none) (h:f x=true):l.find? f=some x:=by
 obtain⟨hk,rfl⟩:=List.getElem?_eq_some_iff.1 hx
 have e:l=l.take k++l[k]::l.drop (k+1):=by rw[← List.drop_eq_getElem_cons hk,List.take_append_drop]
 have e2:l.find? f=(l.take k++l[k]::l.drop (k+1)).find? f:=congrArg (List.find? f) e
 rw[e2,List.find?_append,hn,List.find?_cons_of_pos h]; rfl
theorem qcx {α:Type} {l:List α} (f:α→Bool) (k:Nat) (x:α) (hx:l[k]?=some x) (hn:(l.take k).find? f=none) (h:f x=false):(l.take (k+1)).find? f=none:=by
 obtain⟨hk,rfl⟩:=List.getElem?_eq_some_iff.1 hx
 rw[List.take_succ_eq_append_getElem hk,List.find?_append,hn,List.find?_cons_of_neg (by simp[h])]; rfl
theorem qe2 (n:List UInt8) (k:Nat) (x:List UInt8×Bool×Int) (hx:qdf[k]?=some x) (hn:(qdf.take k).find? (qcs n)=none) (h:qcs n x=true):qex n=x.2.2:=by
 unfold qex; rw[qqk _ k x hx hn h]
theorem qvs (n:List UInt8) (hn:(qdf.take 5).find? (qcs n)=none):qex n=0:=by
 unfold qex; rw[show qdf=qdf.take 5 from rfl,hn]
def qd8 (m:Nat) (b:UInt8):Nat:=if qa1 m b=0∧qp6 m≠0 then qp6 m else m
def qjv (m:Nat) (b:UInt8):Nat:=or3 (qa1 (qd8 m b) b) (qar.getD (qd8 m b) 0) (qd8 m b)
theorem qws (s:St) (b:UInt8):s.table b=(St.mk (qd8 s.mode b) s.name s.elem s.kind s.read s.esc).led (qjv s.mode b) b:=by
 unfold St.table St.table2 qjv qd8
 by_cases h:qa1 s.mode b=0∧qp6 s.mode≠0
 ·rw[if_pos h,if_pos h]
 ·rw[if_neg h,if_neg h]
def qsc (m:Nat) (b:UInt8):Bool:=
 let r:=qd8 m b
 let t:=qjv m b
 decide (1≤r) && decide (r≤33) && decide (1≤t) && decide (t≤34)
 && (if m<19 then decide (r<19) && (decide (t<19) || decide (t=34)) else decide (19≤r) && decide (19≤t) && decide (t≤33))
 && (decide (r=m) || (decide (m=2) && decide (r=1)) || decide (24≤m))
 && (if t=34 then decide (3≤m) && decide (m≤10) else true)
 && (if t=3 then decide (m=2) || decide (m=3) else true)
 && (if t=5 then decide (m=4) || decide (m=5) || decide (m=6) else true)
 && (if t=4∨(6≤t∧t≤10) then decide (3≤m) && decide (m≤10) else true)
 && (if t=1∨t=2∨(11≤t∧t≤18) then decide (m=1) || decide (m=2) || (decide (11≤m) && decide (m≤18)) else true)
def named:List UInt8:=[9,10,12,13,32,33,34,39,42,45,47,60,61,62,96,97]
def cls (b:UInt8):UInt8:=if qa0 (qd2 b) named then qd2 b else 0
theorem qoj {b:UInt8} {l:List UInt8}:qa0 b l=true↔b∈l:=by
 unfold qa0
 rw[List.any_eq_true]
 constructor
 ·rintro⟨x,hx,e⟩
  rw[beq_iff_eq]at e
  exact e▸hx
 ·intro h
  exact⟨b,h,by simp⟩
theorem q2e (b:UInt8):cls b∈0::named:=by
 unfold cls
 split
 ·rename_i h
  exact List.mem_cons_of_mem _ (qoj.1 h)
 ·exact List.mem_cons_self
theorem qud (b:UInt8):qd2 (cls b)=cls b:=by
 have:∀ c∈(0::named:List UInt8),qd2 c=c:=by decide
 exact this _ (q2e b)
theorem q2l (b:UInt8) (l:List UInt8) (hl:l.all (fun c=>qa0 c named)=true):qa0 (qd2 b) l=qa0 (cls b) l:=by
 unfold cls
 split
 ·rfl
 ·rename_i h
  rw[Bool.eq_iff_iff,qoj,qoj]
  constructor
  ·intro hb
   exact absurd (List.all_eq_true.1 hl _ hb) h
  ·intro h0
   exact absurd (List.all_eq_true.1 hl _ h0) (by decide)
theorem qpt {α:Type} {f g:α→Bool}:∀(l:List α),(∀ x∈l,f x=g x)→l.find? f=l.find? g
 | [],_=>rfl
 | x::l,h=>by
   rw[List.find?_cons,List.find?_cons,h x List.mem_cons_self,qpt l (fun y hy=>h y (List.mem_cons_of_mem _ hy))]
theorem qpm (m:Nat) (b:UInt8) (l:List Step) (hl:l.all (fun r=>r.2.1.all (fun c=>qa0 c named))=true):lookup l m (qd2 b)=lookup l m (qd2 (cls b)):=by
 unfold lookup
 rw[qud,qpt l]
 intro r hr
 unfold hit
 rw[q2l b r.2.1 (List.all_eq_true.1 hl r hr)]
theorem qpa (m:Nat) (b:UInt8):qa1 m b=qa1 m (cls b):=by
 unfold qa1
 rw[qpm m b qbs (by decide +kernel),qpm m b qbf (by decide +kernel)]
theorem qpf (m:Nat) (b:UInt8):qd8 m b=qd8 m (cls b):=by unfold qd8; rw[qpa]
theorem q1e (m:Nat) (b:UInt8):qjv m b=qjv m (cls b):=by unfold qjv; rw[qpf,qpa]
theorem q0f (m:Nat) (b:UInt8):qsc m b=qsc m (cls b):=by
 unfold qsc
 rw[qpf,q1e]
theorem q0e:((List.range 34).all fun m=>m==0 || (0::named).all fun c=>qsc m c)=true:=by decide +kernel
theorem q0g (m:Nat) (h1:1≤m) (h2:m≤33) (b:UInt8):qsc m b=true:=by
 rw[q0f]
 have:=(List.all_eq_true.1 q0e) m (List.mem_range.2 (by omega))
 simp only[Bool.or_eq_true,beq_iff_eq]at this
 rcases this with h | h
 ·omega
 ·exact List.all_eq_true.1 h _ (q2e b)
def hexB:List UInt8:=[48,49,50,51,52,53,54,55,56,57,97,98,99,100,101,102,65,66,67,68,69,70]
def qe1:List (Nat×Nat×List UInt8×Int):=[(21,23,[120],2),(21,23,[117],4),(29,30,hexB,5)]
structure Mk where
 ref:Bool
 hex:Int
 pct:Int
 far:Int
def Mk.none:Mk:=⟨false,0,0,0⟩
structure Sx where
 st:St
 ma:Mk
def qei (left:Int) (b:UInt8):Int:=if 0<left∧qa0 b hexB=true then left - 1 else 0
def qim (b:UInt8):Bool:=qcm b || (qde b || b==35)
def qaq (m:Nat):Int:=if m=1∨m=19∨m=8∨m=9 then 1 else if m=21∨m=22 then 4 else if m=29∨m=30 then 5 else 0
def qcr (kind:Int) (m:Nat):Bool:=kind==1 && (m==8 || m==9)
def qi5:List UInt8:=[47,63,35,58]
def qbv (kind:Int) (m:Nat) (far:Int) (b:UInt8):Bool:=b==58 && (qcr kind m && far==2)
def qcc (kind:Int) (m:Nat) (far:Int) (b:UInt8):Int:=if qbv kind m far b=true then 2 else if qa0 b qi5=true then 3 else if far=0 then 1 else far
def qam (kind:Int) (m:Nat) (k:Mk) (b:UInt8):Mk:=
 ⟨if qaq m=1 then b==38 || (k.ref && qim b) else false,qei k.hex b,if qcr kind m=true then(if b=37 then 2 else qei k.pct b) else 0,if qcr kind m=true then qcc kind m k.far b else 0⟩
def qfk (m:Nat) (b:UInt8) (r:Nat×Nat×List UInt8×Int):Bool:=decide (r.1≤m) && (decide (m≤r.2.1) && qa0 b r.2.2.1)
def qby (m:Nat) (esc:Bool) (b:UInt8):Mk:=if esc=false then Mk.none else match qe1.find? (qfk m b) with
 | some r=>⟨false,r.2.2.2,0,0⟩
 | Option.none=>Mk.none
def qcq (s:St) (k:Mk) (t:Nat) (b:UInt8):Mk:=if t=s.mode∧t≠34 then qam s.kind s.mode k b else Mk.none
def Sx.led (x:Sx) (t:Nat) (b:UInt8):Sx:=⟨x.st.led t b,qcq x.st x.ma t b⟩
def qjq (s:St) (k:Mk) (b:UInt8):Mk:=if(qat.getD s.mode false && (s.esc || b==92))=true then qby s.mode s.esc b else qcq ⟨qd8 s.mode b,s.name,s.elem,s.kind,s.read,s.esc⟩ k (qjv s.mode b) b
def qee (s:St) (k:Mk) (b:UInt8):Mk:=if 19≤s.mode∧s.ends b=true then Mk.none else qjq s k b
def Sx.behind (x:Sx) (b:UInt8):Sx:=⟨x.st.behind b,qee x.st x.ma b⟩
def Sx.start:Sx:=⟨St.start,Mk.none⟩
def qau (x:Sx) (l:List UInt8):Sx:=l.foldl Sx.behind x
theorem qz8 (l:List UInt8):∀ x:Sx,(qau x l).st=qr9 x.st l:=by
 induction l with
 | nil=>intro x; rfl
 | cons b l ih=>intro x; exact ih (x.behind b)
theorem qjm (x:Sx) (l:List UInt8) (b:UInt8):qau x (l++[b])=(qau x l).behind b:=by simp[qau]
end Go.Proofs.YtfkhljmiehdgmaaGreatDoor.Pl
namespace Go.Proofs.YtfkhljmiehdgmaaGreatDoor
open Go.RowKit
def bs (l:List UInt8):Value:=.string ⟨l.toArray⟩
def qid (l:List Pl.Step):List Value:=l.flatMap fun r=>[.int .u8 (r.1:Int),bs r.2.1,.int .u8 (r.2.2:Int)]
def qhd (l:List Nat):List Value:=l.map fun(m:Nat)=>Value.int .u8 ((m:Nat):Int)
def qks (l:List Bool):List Value:=l.map fun m=>.bool m
def qn6:List Value:=Pl.qk8.flatMap fun r=>[bs r.1,.int .u8 (r.2:Int)]
def qnr:List Value:=Pl.qe1.flatMap fun r=>[.int .u8 (r.1:Int),.int .u8 (r.2.1:Int),bs r.2.2.1,.int .i64 r.2.2.2]
def qoi:List Value:=Pl.qdf.flatMap fun r=>[bs r.1,.bool r.2.1,.int .i64 r.2.2]
def Lies (w:World) (g:Nat) (l:List Value):Prop:=∀(j:Nat) (v:Value),l[j]?=some v→w.cell? ⟨g,j,none⟩=some v
theorem Lies.lt {w:World} {g:Nat} {l:List Value} (h:Lies w g l) (hl:0<l.length):g<w.heap.size:=by
 have:=h 0 l[0] (by simp[hl])
 rcases Nat.lt_or_ge g w.heap.size with h' | h'
 ·exact h'
 ·simp[World.cell?,Array.getElem?_eq_none h']at this
theorem Lies.kept {w w':World} {g B:Nat} {l:List Value} (h:Lies w g l) (hb:Below B w w') (hB:g<B):Lies w' g l:=fun j v hv=>(hb.cell (p:=⟨g,j,none⟩) hB).trans (h j v hv)
structure PTabs (w:World):Prop where
 mt:Lies w 4 (qid Pl.qbs)
 ct:Lies w 5 (qid Pl.qbf)
 rd:Lies w 1 (qhd Pl.qbi)
 ot:Lies w 2 (qhd Pl.qar)
 es:Lies w 0 (qks Pl.qat)
 el:Lies w 6 qn6
 at':Lies w 10 qoi
 le:Lies w 3 qnr
theorem PTabs.lt {w:World} (h:PTabs w):4<w.heap.size∧5<w.heap.size∧1<w.heap.size∧2<w.heap.size∧0<w.heap.size∧6<w.heap.size∧10<w.heap.size∧3<w.heap.size:=
 ⟨h.mt.lt (by decide),h.ct.lt (by decide),h.rd.lt (by decide),h.ot.lt (by decide),h.es.lt (by decide),h.el.lt (by decide),h.at'.lt (by decide),h.le.lt (by decide)⟩
theorem PTabs.kept {w w':World} (h:PTabs w) (hb:Below w.heap.size w w'):PTabs w':=by
 obtain⟨h1,h2,h3,h4,h5,h6,h7,h8⟩:=h.lt
 exact⟨h.mt.kept hb h1,h.ct.kept hb h2,h.rd.kept hb h3,h.ot.kept hb h4,h.es.kept hb h5,h.el.kept hb h6,h.at'.kept hb h7,h.le.kept hb h8⟩
theorem PTabs.kept' {w0 w w':World} (h:PTabs w) (h0:PTabs w0) (hb:Below w0.heap.size w w'):PTabs w':=by
 obtain⟨h1,h2,h3,h4,h5,h6,h7,h8⟩:=h0.lt
 exact⟨h.mt.kept hb h1,h.ct.kept hb h2,h.rd.kept hb h3,h.ot.kept hb h4,h.es.kept hb h5,h.el.kept hb h6,h.at'.kept hb h7,h.le.kept hb h8⟩
theorem PTabs.alloc {w:World} (h:PTabs w) (o:Obj):PTabs (w.alloc o):=h.kept ((Below.refl _ w).alloc (Nat.le_refl _) o)
theorem PTabs.drew {w:World} (h:PTabs w):PTabs w.drew:=⟨h.mt,h.ct,h.rd,h.ot,h.es,h.el,h.at',h.le⟩
theorem PTabs.drewN {w:World} (h:PTabs w) (n:Nat):PTabs (w.drewN n):=⟨h.mt,h.ct,h.rd,h.ot,h.es,h.el,h.at',h.le⟩
theorem q62 {α:Type} (f:α→Value) (g:α→Value) (h:α→Value):∀(l:List α) (k:Nat) (x:α),l[k]?=some x →
  (l.flatMap fun r=>[f r,g r,h r])[3*k]?=some (f x)∧(l.flatMap fun r=>[f r,g r,h r])[3*k+1]?=some (g x)∧(l.flatMap fun r=>[f r,g r,h r])[3*k+2]?=some (h x)
 | [],k,x,e=>by simp at e
 | y::l,0,x,e=>by
   simp only[List.getElem?_cons_zero,Option.some.injEq]at e
   subst e
   exact⟨rfl,rfl,rfl⟩
 | y::l,k+1,x,e=>by
   have:=q62 f g h l k x (by simpa using e)
   simp only[List.flatMap_cons,show 3*(k+1)=3*k+3 by omega]
   exact this
theorem q8c {α:Type} (f:α→Value) (g:α→Value):∀(l:List α) (k:Nat) (x:α),l[k]?=some x →
  (l.flatMap fun r=>[f r,g r])[2*k]?=some (f x)∧(l.flatMap fun r=>[f r,g r])[2*k+1]?=some (g x)
 | [],k,x,e=>by simp at e
 | y::l,0,x,e=>by
   simp only[List.getElem?_cons_zero,Option.some.injEq]at e
   subst e
   exact⟨rfl,rfl⟩
 | y::l,k+1,x,e=>by
   have:=q8c f g l k x (by simpa using e)
   simp only[List.flatMap_cons,show 2*(k+1)=2*k+2 by omega]
   exact this
theorem qwu {w:World} {g:Nat} {l:List Pl.Step} (h:Lies w g (qid l)) (k:Nat) (r:Pl.Step) (hk:l[k]?=some r) :
  w.cell? ⟨g,k*3,none⟩=some (.int .u8 (r.1:Int))∧w.cell? ⟨g,k*3+1,none⟩=some (bs r.2.1)∧w.cell? ⟨g,k*3+2,none⟩=some (.int .u8 (r.2.2:Int)):=by
 obtain⟨a,b,c⟩:=q62 (fun r:Pl.Step=>Value.int .u8 (r.1:Int)) (fun r=>bs r.2.1) (fun r=>.int .u8 (r.2.2:Int)) l k r hk
 rw[Nat.mul_comm k 3]
 exact⟨h _ _ a,h _ _ b,h _ _ c⟩
theorem qec {w:World} (h:Lies w 6 qn6) (k:Nat) (r:List UInt8×Nat) (hk:Pl.qk8[k]?=some r) :
  w.cell? ⟨6,2*k,none⟩=some (bs r.1)∧w.cell? ⟨6,2*k+1,none⟩=some (.int .u8 (r.2:Int)):=by
 obtain⟨a,b⟩:=q8c (fun r:List UInt8×Nat=>bs r.1) (fun r=>Value.int .u8 (r.2:Int)) Pl.qk8 k r hk
 exact⟨h _ _ a,h _ _ b⟩
theorem qku {w:World} (h:Lies w 10 qoi) (k:Nat) (r:List UInt8×Bool×Int) (hk:Pl.qdf[k]?=some r) :
  w.cell? ⟨10,3*k,none⟩=some (bs r.1)∧w.cell? ⟨10,3*k+1,none⟩=some (.bool r.2.1)∧w.cell? ⟨10,3*k+2,none⟩=some (.int .i64 r.2.2):=by
 obtain⟨a,b,c⟩:=q62 (fun r:List UInt8×Bool×Int=>bs r.1) (fun r=>Value.bool r.2.1) (fun r=>.int .i64 r.2.2) Pl.qdf k r hk
 exact⟨h _ _ a,h _ _ b,h _ _ c⟩
theorem q8b {α:Type} (f:α→Value) (g:α→Value) (h:α→Value) (i:α→Value):∀(l:List α) (k:Nat) (x:α),l[k]?=some x →
  (l.flatMap fun r=>[f r,g r,h r,i r])[4*k]?=some (f x)∧(l.flatMap fun r=>[f r,g r,h r,i r])[4*k+1]?=some (g x)∧(l.flatMap fun r=>[f r,g r,h r,i r])[4*k+2]?=some (h x)∧(l.flatMap fun r=>[f r,g r,h r,i r])[4*k+3]?=some (i x)
 | [],k,x,e=>by simp at e
 | y::l,0,x,e=>by
   simp only[List.getElem?_cons_zero,Option.some.injEq]at e
   subst e
   exact⟨rfl,rfl,rfl,rfl⟩
 | y::l,k+1,x,e=>by
   have:=q8b f g h i l k x (by simpa using e)
   simp only[List.flatMap_cons,show 4*(k+1)=4*k+4 by omega]
   exact this
theorem q3u {w:World} (h:Lies w 3 qnr) (k:Nat) (r:Nat×Nat×List UInt8×Int) (hk:Pl.qe1[k]?=some r) :
  w.cell? ⟨3,4*k,none⟩=some (.int .u8 (r.1:Int))∧w.cell? ⟨3,4*k+1,none⟩=some (.int .u8 (r.2.1:Int))∧w.cell? ⟨3,4*k+2,none⟩=some (bs r.2.2.1)∧w.cell? ⟨3,4*k+3,none⟩=some (.int .i64 r.2.2.2):=by
 obtain⟨a,b,c,d⟩:=q8b (fun r:Nat×Nat×List UInt8×Int=>Value.int .u8 (r.1:Int)) (fun r=>.int .u8 (r.2.1:Int)) (fun r=>bs r.2.2.1) (fun r=>.int .i64 r.2.2.2) Pl.qe1 k r hk
 exact⟨h _ _ a,h _ _ b,h _ _ c,h _ _ d⟩
theorem qb5 {w:World} {g:Nat} {l:List Nat} (h:Lies w g (qhd l)) (k:Nat) (hk:k<l.length):w.cell? ⟨g,k,none⟩=some (.int .u8 ((l.getD k 0:Nat):Int)):=by
 refine h _ _ ?_
 simp[qhd,List.getElem?_map,List.getElem?_eq_getElem hk,List.getD_eq_getElem?_getD]
theorem qed {w:World} {g:Nat} {l:List Bool} (h:Lies w g (qks l)) (k:Nat) (hk:k<l.length):w.cell? ⟨g,k,none⟩=some (.bool (l.getD k false)):=by
 refine h _ _ ?_
 simp[qks,List.getElem?_map,List.getElem?_eq_getElem hk,List.getD_eq_getElem?_getD]
end Go.Proofs.YtfkhljmiehdgmaaGreatDoor
namespace Go.Proofs.YtfkhljmiehdgmaaGreatDoor.Pl
def qbc:List UInt8:=[9,10,12,13,32]
def qet:List UInt8:=[9,12,13,32]
def qfg (b:UInt8):Bool:=b==95 || (qde b || (decide (97≤b.toNat) && decide (b.toNat≤122)))
def qce (l:List UInt8):Bool:=!l.isEmpty && (decide (l.length≤8) && l.all qfg)
def isNm (l:List UInt8):Bool:=l==[46] || (decide ((Go.Lib.split l [46]).length≤4) && (Go.Lib.split l [46]).all qce)
structure Tg where
 kind:Nat
 slip:Nat
 name:List UInt8
 op:List UInt8
 cl:List UInt8
def qa6:List UInt8→Nat
 | []=>2
 | b::_=>if b=33 then 7 else if b=61 then 8 else if b=35 then 3 else if b=94 then 4 else if b=47 then 5 else if b=62 then 6 else 2
def qc4 (kind:Nat) (n:List UInt8):Tg:=if(if kind=6 then qce n else isNm n)=true then⟨kind,0,n,[],[]⟩ else⟨kind,3,[],[],[]⟩
def qcz:List UInt8→List UInt8→List (List UInt8)
 | cur,[]=>if cur=[] then[] else[cur]
 | cur,b::l=>if qa0 b qbc=true then(if cur=[] then qcz [] l else cur::qcz [] l) else qcz (cur++[b]) l
def qkx (l:List UInt8):List (List UInt8):=qcz [] l
def qeh (l:List UInt8):Bool:=decide (l.length≤3) && !(qa0 61 l)
def qga (c:List UInt8):Tg:=
 if Go.Lib.hasSuffix (c.drop 1) [61]=false then⟨8,4,[],[],[]⟩ else
 match qkx (Go.Lib.trimSuffix (c.drop 1) [61]) with
 | [a,b]=>if qeh a=true∧qeh b=true then⟨8,0,[],a,b⟩ else⟨8,4,[],[],[]⟩
 | _=>⟨8,4,[],[],[]⟩
def qcg (c:List UInt8):Tg:=
 if qa6 c=7 then⟨7,0,[],[],[]⟩ else if qa6 c=8 then qga c else if qa6 c=2 then qc4 2 c
 else qc4 (qa6 c) (Go.Lib.trimLeftS (c.drop 1) qbc)
structure Pt where
 kind:Nat
 pos:Nat
 text:List UInt8
 mate:Nat
structure Ct where
 op:List UInt8
 cl:List UInt8
 parts:List Pt
 opened:List Nat
def qdr (t:List UInt8) (a z:Nat):Nat×Nat:=
 if(Go.Lib.trimRightS (t.take a) qet).getLast?.any (·!= 10) || (Go.Lib.trimLeftS (t.drop z) qet).head?.any (·!= 10) then(a,z)
 else((Go.Lib.trimRightS (t.take a) qet).length,t.length - (Go.Lib.trimPrefix (Go.Lib.trimLeftS (t.drop z) qet) [10]).length)
def Ct.addText (c:Ct) (t:List UInt8) (a z:Nat):Ct:=if a<z then { c with parts:=c.parts++[⟨1,a,(t.drop a).take (z - a),0⟩] } else c
def qbm (l:List Pt) (m n:Nat):List Pt:=l.modify m fun p=>{ p with mate:=n }
def qmw (l:List Pt) (m:Nat):List UInt8:=match l[m]? with
 | some p=>p.text
 | none=>[]
def qox (l:List Pt) (m:Nat):Nat:=match l[m]? with
 | some p=>p.pos
 | none=>0
def Ct.take (c:Ct) (one:Tg) (a:Nat):Nat×Ct:=
 if one.slip≠0 then(one.slip,c)
 else if one.kind=7 then(0,c)
 else if one.kind=8 then(0,{ c with op:=one.op,cl:=one.cl })
 else if one.kind=3∨one.kind=4 then
  (if c.opened.length=6 then(8,c) else(0,{ c with parts:=c.parts++[⟨one.kind,a,one.name,0⟩],opened:=c.opened++[c.parts.length] }))
 else if one.kind=5 then
  (match c.opened.getLast? with
   | none=>(5,c)
   | some m=>if qmw c.parts m≠one.name then(6,c) else(0,{ c with parts:=qbm c.parts m c.parts.length++[⟨5,a,one.name,m⟩],opened:=c.opened.dropLast }))
 else(0,{ c with parts:=c.parts++[⟨one.kind,a,one.name,0⟩] })
def Ct.left (c:Ct):Nat×Nat:=match c.opened.getLast? with
 | none=>(0,0)
 | some m=>(7,qox c.parts m)
inductive Tagged where
 | slip (kind pos:Nat)
 | over (c:Ct)
 | next (c:Ct) (a:Nat)
def Ct.step (c:Ct) (t:List UInt8) (a:Nat):Tagged:=
 if(Go.Lib.cut (t.drop a) c.op).2.2=false then .over (c.addText t a t.length)
 else
  let at_:=a+(Go.Lib.cut (t.drop a) c.op).1.length
  let rest:=(Go.Lib.cut (t.drop a) c.op).2.1
  if(Go.Lib.cut rest c.cl).2.2=false then .slip 2 at_
  else
   let inner:=(Go.Lib.cut rest c.cl).1
   let tz:=at_+c.op.length+inner.length+c.cl.length
   let one:=qcg (Go.Lib.trimS inner qbc)
   let o:=if one.kind≠2 then qdr t at_ tz else(at_,tz)
   let r:=(c.addText t a o.1).take one at_
   if r.1≠0 then .slip r.1 at_ else .next r.2 o.2
def Ct.go (t:List UInt8):Nat→Ct→Nat→(Nat×Nat)×List Pt
 | 0,_,_=>((0,0),[])
 | n+1,c,a=>match c.step t a with
   | .slip k p=>((k,p),[])
   | .over d=>(d.left,d.parts)
   | .next d b=>Ct.go t n d b
def Ct.start:Ct:=⟨[123,123],[125,125],[],[]⟩
def qav (t:List UInt8):(Nat×Nat)×List Pt:=if 2000<t.length then((1,0),[]) else
 if(Ct.go t (t.length+1) Ct.start 0).1.1=0 then((0,0),(Ct.go t (t.length+1) Ct.start 0).2) else((Ct.go t (t.length+1) Ct.start 0).1,[])
inductive Wf:Nat→List Pt→Prop
 | nil (o:Nat):Wf o []
 | leaf (o:Nat) (p:Pt) (l:List Pt):(p.kind=1∨p.kind=2∨p.kind=6)→Wf (o+1) l→Wf o (p::l)
 | sec (o:Nat) (p q:Pt) (b l:List Pt):(p.kind=3∨p.kind=4)→q.kind=5→p.mate=o+1+b.length→q.mate=o→Wf (o+1) b→Wf (o+b.length+2) l→Wf o (p::b++q::l)
inductive WfO:List Pt→List Nat→Prop
 | done (l:List Pt):Wf 0 l→WfO l []
 | opn (l:List Pt) (p:Pt) (m:List Pt) (st:List Nat):WfO l st→(p.kind=3∨p.kind=4)→Wf (l.length+1) m→WfO (l++p::m) (st++[l.length])
theorem Wf.append {o:Nat} {l m:List Pt} (h:Wf o l) (hm:Wf (o+l.length) m):Wf o (l++m):=by
 induction h with
 | nil o=>simpa using hm
 | leaf o p l hk _ ih=>
   refine .leaf o p _ hk (ih ?_)
   simpa [Nat.add_assoc,Nat.add_comm,Nat.add_left_comm] using hm
 | sec o p q b l hp hq h1 h2 hb _ _ ih=>
   have e:p::b++q::l++m=p::b++q::(l++m):=by simp
   rw[e]
   refine .sec o p q b _ hp hq h1 h2 hb (ih ?_)
   simpa [Nat.add_assoc,Nat.add_comm,Nat.add_left_comm] using hm
theorem Wf.one {o:Nat} (p:Pt) (hk:p.kind=1∨p.kind=2∨p.kind=6):Wf o [p]:=.leaf o p [] hk (.nil _)
theorem WfO.snoc {l:List Pt} {st:List Nat} (h:WfO l st) (p:Pt) (hk:p.kind=1∨p.kind=2∨p.kind=6):WfO (l++[p]) st:=by
 cases h with
 | done l h=>exact .done _ (h.append (.one p hk))
 | opn l q m st h hq hm=>
   have e:l++q::m++[p]=l++q::(m++[p]):=by simp
   rw[e]
   exact .opn l q _ st h hq (hm.append (.one p hk))
theorem WfO.push {l:List Pt} {st:List Nat} (h:WfO l st) (p:Pt) (hk:p.kind=3∨p.kind=4):WfO (l++[p]) (st++[l.length]):=.opn l p [] st h hk (.nil _)
theorem qm8 (l:List Pt) (p:Pt) (m:List Pt) (n:Nat):qbm (l++p::m) l.length n=l++{ p with mate:=n }::m:=by
 unfold qbm
 induction l with
 | nil=>rfl
 | cons x l ih=>simpa using ih
theorem qxp (l:List Pt) (p:Pt) (m:List Pt):qmw (l++p::m) l.length=p.text:=by
 unfold qmw; simp
theorem WfO.last {l:List Pt} {st:List Nat} (h:WfO l st) (m:Nat) (hm:st.getLast?=some m) :
  ∃(a:List Pt) (p:Pt) (b:List Pt),l=a++p::b∧m=a.length∧(p.kind=3∨p.kind=4)∧Wf (a.length+1) b∧WfO a st.dropLast:=by
 cases h with
 | done l h=>simp at hm
 | opn l q m' st h hq hb=>
   rw[List.getLast?_concat]at hm
   refine⟨l,q,m',rfl,(Option.some.inj hm).symm,hq,hb,?_⟩
   rw[List.dropLast_concat]
   exact h
theorem WfO.pop {l:List Pt} {st:List Nat} (h:WfO l st) (m:Nat) (hm:st.getLast?=some m) (q:Pt) (hq:q.kind=5) (hqm:q.mate=m):WfO (qbm l m l.length++[q]) st.dropLast:=by
 obtain⟨a,p,b,rfl,rfl,hp,hb,ha⟩:=h.last m hm
 have W:∀(p':Pt),(p'.kind=3∨p'.kind=4)→p'.mate=(a++p::b).length→∀ o,o=a.length→Wf o (p'::b++[q]):=by
  rintro p' hk hmm o rfl
  refine .sec _ p' q b [] hk hq ?_ hqm hb (.nil _)
  rw[hmm]; simp; omega
 rw[qm8]
 generalize hP:({ p with mate:=(a++p::b).length }:Pt)=p'
 have hk':p'.kind=3∨p'.kind=4:=by subst hP; exact hp
 have hm':p'.mate=(a++p::b).length:=by subst hP; rfl
 have e:a++p'::b++[q]=a++(p'::b++[q]):=by simp
 rw[e]
 generalize hst:st.dropLast=st' at ha
 clear hP hst hm h
 cases ha with
 | done a ha=>exact .done _ (ha.append (W p' hk' hm' _ (Nat.zero_add _)))
 | opn l' q' m' st' ha hq' hb'=>
   have e2:l'++q'::m'++(p'::b++[q])=l'++q'::(m'++(p'::b++[q])):=by simp
   rw[e2]
   exact .opn l' q' _ st' ha hq' (hb'.append (W p' hk' hm' _ (by simp; omega)))
theorem WfO.lt {l:List Pt} {st:List Nat} (h:WfO l st):∀ m∈st,m<l.length:=by
 induction h with
 | done l _=>intro m hm; cases hm
 | opn l p b st _ _ _ ih=>
   intro m hm
   rcases List.mem_append.1 hm with h | h
   ·have:=ih m h; simp; omega
   ·simp at h; subst h; simp
end Go.Proofs.YtfkhljmiehdgmaaGreatDoor.Pl

/-
  Steps of the proof (texts laid together, blanks left out): PnC, PgScope, PgSl, PgScT, PgHi.
-/
import Derived.Test.YtfkhljmiehdgmaaGreatDoorTaAU
import Derived.Test.YtfkhljmiehdgmaaGreatDoorTaAT
import Derived.Test.YtfkhljmiehdgmaaGreatDoorTaAD
import Derived.ScopeJumps
import Derived.WalkMore
import Derived.Test.YtfkhljmiehdgmaaGreatDoorTaAB
namespace Go.Proofs.YtfkhljmiehdgmaaGreatDoor
open Go.RowKit Go.Maps
theorem qio {a b:Pl.En} (h:qfh a=qfh b):a=b:=by
 obtain⟨i,⟨⟨m,n,e,k,r,es⟩,⟨rf,hx,pc,fr⟩⟩⟩:=a
 obtain⟨i',⟨⟨m',n',e',k',r',es'⟩,⟨rf',hx',pc',fr'⟩⟩⟩:=b
 unfold qfh qab bs at h
 simp only[List.append_toArray,List.cons_append,List.nil_append,Value.agg.injEq,Array.mk.injEq,List.cons.injEq,Value.int.injEq,true_and,Value.string.injEq,Value.bool.injEq,and_true,ByteArray.mk.injEq]at h
 obtain⟨h1,h2,h3,h4,h5,h6,h7,h8,h9,h10,h11⟩:=h
 have e1:i=i':=by omega
 have e2:m=m':=by omega
 have e6:r=r':=by omega
 subst e1 e2 e6 h3 h4 h5 h7 h8 h9 h10 h11
 rfl
structure Fix where
 g:Nat
 bS:Nat
 bp:Nat
 be:Nat
 bn:Nat
 pv:Nat→Value
def qjn (F:Fix) (n:Nat) (vv:Value) (f:Pl.Ft):Array Value:=#[.slice (some ⟨F.bS,0,none⟩) n n,.map (some F.bp),.map (some F.be),.map (some F.bn),vv,.int .i64 f.code,.int .i64 f.kind,bs f.place,.int .i64 f.pos]
structure SrcAt (w:World) (B:Nat) (F:Fix) (S:List Pl.Src):Prop where
 blk:∃ cs fz,w.heap[F.bS]?=some (.cells cs 173 fz)
 name:∀ i s,S[i]?=some s→w.cell? ⟨F.bS,i*2,none⟩=some (bs s.name)
 slice:∀ i s,S[i]?=some s→w.cell? ⟨F.bS,i*2+1,none⟩=some (F.pv i)
 row:∀ i s,S[i]?=some s→w.ownsRow B 229 4 (F.pv i) s.parts.length (qbq s.parts)
def qbu:Nat→List Pl.Src→List (Value×Value)
 | _,[]=>[]
 | i,s::l=>(bs s.name,.int .i64 i)::qbu (i+1) l
def ql4 (l:List (Pl.En×Pl.Sx)):List (Value×Value):=l.map fun p=>(qfh p.1,qad p.2)
structure SeAt (w:World) (B:Nat) (F:Fix) (S:List Pl.Src) (vv:Value) (s:Pl.Sr):Prop where
 blk:w.heap[F.g]?=some (.cells (qjn F S.length vv s.fault) 178 (0,0))
 src:SrcAt w B F S
 places:qep w F.bp (qbu 1 (S.drop 1))
 ends:qep w F.be (ql4 s.ends)
 le:B≤F.g∧B≤F.be
 apart:F.g≠F.be∧F.bp≠F.be
structure Cue (B:Nat) (F:Fix) (w w':World):Prop where
 below:Below B w w'
 keep:∀ k,k<w.heap.size→k≠F.g→k≠F.be→w'.heap[k]?=w.heap[k]?
theorem Cue.refl (B:Nat) (F:Fix) (w:World):Cue B F w w:=⟨Below.refl _ _,fun _ _ _ _=>rfl⟩
theorem Cue.trans {B:Nat} {F:Fix} {a b c:World} (h:Cue B F a b) (k:Cue B F b c):Cue B F a c:=
 ⟨h.below.trans k.below,fun i hi h1 h2=>(k.keep i (Nat.lt_of_lt_of_le hi h.below.size) h1 h2).trans (h.keep i hi h1 h2)⟩
theorem Cue.of_below {B:Nat} {F:Fix} {w w':World} (h:Below w.heap.size w w') (hB:B≤w.heap.size):Cue B F w w':=
 ⟨h.mono hB,fun k hk _ _=>h.block k hk⟩
theorem SrcAt.kept {w w':World} {B:Nat} {F:Fix} {S:List Pl.Src} (h:SrcAt w B F S) (hb:w'.heap[F.bS]?=w.heap[F.bS]?) (hr:∀ i s k,S[i]?=some s→(F.pv i).ownBlock=some k→w'.heap[k]?=w.heap[k]?):SrcAt w' B F S:=by
 refine⟨?_,fun i s hs=>(World.cell?_of_block hb).trans (h.name i s hs),fun i s hs=>(World.cell?_of_block hb).trans (h.slice i s hs),fun i s hs=>qah (h.row i s hs) fun k hk=>hr i s k hs hk⟩
 obtain⟨cs,fz,hc⟩:=h.blk
 exact⟨cs,fz,hb.trans hc⟩
theorem qh7:(178:TypeId)≠173:=by decide
theorem qjb:(178:TypeId)≠229:=by decide
theorem qai {w:World} {k b:Nat} {L:List (Value×Value)} {cs:Array Value} {t:TypeId} {fz:Nat×Nat} (h:w.heap[k]?=some (.cells cs t fz)) (hm:qep w b L):k≠b:=by
 rintro rfl
 obtain⟨es,c,hb,_⟩:=hm
 rw[h]at hb; cases hb
theorem SeAt.srcKept {w w':World} {B:Nat} {F:Fix} {S:List Pl.Src} {vv:Value} {s:Pl.Sr} (h:SeAt w B F S vv s) (hk:∀ k,k<w.heap.size→k≠F.g→k≠F.be→w'.heap[k]?=w.heap[k]?):SrcAt w' B F S:=by
 obtain⟨cs,fz,hc⟩:=h.src.blk
 refine h.src.kept (hk _ (Array.getElem?_eq_some_iff.1 hc).1 (fun e=>qaf h.blk hc qh7 e.symm) (qai hc h.ends)) fun i s' k hs hv=>?_
 obtain⟨cur,hc'⟩:=qae (h.src.row i s' hs) k hv
 exact hk k (Array.getElem?_eq_some_iff.1 hc').1 (fun e=>qaf h.blk hc' qjb e.symm) (qai hc' h.ends)
theorem SeAt.below {w w':World} {B:Nat} {F:Fix} {S:List Pl.Src} {vv:Value} {s:Pl.Sr} (h:SeAt w B F S vv s) (hb:Below w.heap.size w w'):SeAt w' B F S vv s:=
 ⟨(hb.block _ (Array.getElem?_eq_some_iff.1 h.blk).1).trans h.blk,h.srcKept fun k hk _ _=>hb.block k hk,h.places.heap (hb.block _ h.places.lt),h.ends.heap (hb.block _ h.ends.lt),h.le,h.apart⟩
theorem SeAt.alloc {w:World} {B:Nat} {F:Fix} {S:List Pl.Src} {vv:Value} {s:Pl.Sr} (h:SeAt w B F S vv s) (o:Obj):SeAt (w.alloc o) B F S vv s:=h.below ((Below.refl _ _).alloc (Nat.le_refl _) o)
theorem SeAt.drewN {w:World} {B:Nat} {F:Fix} {S:List Pl.Src} {vv:Value} {s:Pl.Sr} (h:SeAt w B F S vv s) (n:Nat):SeAt (w.drewN n) B F S vv s:=⟨h.blk,h.src.kept rfl fun _ _ _ _ _=>rfl,h.places,h.ends,h.le,h.apart⟩
theorem SeAt.other {w:World} {B:Nat} {F:Fix} {S:List Pl.Src} {vv:Value} {s:Pl.Sr} (h:SeAt w B F S vv s) {k:Nat} {cs:Array Value} {t:TypeId} {fz:Nat×Nat} (hk:w.heap[k]?=some (.cells cs t fz)) (h1:t≠178) (h2:t≠173) (h3:t≠229) (j:Nat) (v:Value):SeAt (w.setCell ⟨k,j,none⟩ v) B F S vv s:=by
 have hset:∀ i,i≠k→(w.setCell ⟨k,j,none⟩ v).heap[i]?=w.heap[i]?:=fun i hi=>Below.heap_setCell _ _ _ _ hi
 obtain⟨cs',fz',hc⟩:=h.src.blk
 refine⟨(hset _ (qaf h.blk hk h1.symm)).trans h.blk,h.src.kept (hset _ (qaf hc hk h2.symm)) (fun i s' q hs hv=>?_),h.places.heap (hset _ (qai hk h.places).symm),h.ends.heap (hset _ (qai hk h.ends).symm),h.le,h.apart⟩
 obtain⟨cur,hc'⟩:=qae (h.src.row i s' hs) q hv
 exact hset q (qaf hc' hk h3.symm)
theorem SeAt.cell {w:World} {B:Nat} {F:Fix} {S:List Pl.Src} {vv:Value} {s:Pl.Sr} (h:SeAt w B F S vv s):∀(j:Nat) (v:Value),(qjn F S.length vv s.fault)[j]?=some v→w.cell? ⟨F.g,j,none⟩=some v:=fun j v hv=>qaa h.blk j v (by simpa using hv)
theorem SeAt.thaw {w:World} {B:Nat} {F:Fix} {S:List Pl.Src} {vv:Value} {s:Pl.Sr} (h:SeAt w B F S vv s) (j:Nat):w.frozen? ⟨F.g,j,none⟩=false:=by simp[World.frozen?,h.blk]
theorem SeAt.put {w w':World} {B:Nat} {F:Fix} {S:List Pl.Src} {vv:Value} {s:Pl.Sr} (h:SeAt w B F S vv s) {l:List (Pl.En×Pl.Sx)} (hm:qep w' F.be (ql4 l)) (hg:w.grownBy w' (some F.be)):SeAt w' B F S vv { s with ends:=l }:=by
 have hk:∀ k,k<w.heap.size→k≠F.be→w'.heap[k]?=w.heap[k]?:=fun k hk hne=>hg.block k hk (fun e=>hne (Option.some.inj e))
 exact⟨(hk _ (Array.getElem?_eq_some_iff.1 h.blk).1 h.apart.1).trans h.blk,h.srcKept fun k hk1 _ h3=>hk k hk1 h3,h.places.heap (hk _ h.places.lt h.apart.2),hm,h.le,h.apart⟩
theorem Cue.put {w w':World} {B:Nat} {F:Fix} (hB:B≤F.be) (hlt:F.be<w.heap.size) (hg:w.grownBy w' (some F.be)):Cue B F w w':=
 ⟨⟨hg.os,hg.tape,hg.output,hg.size,fun k hk=>hg.block k (by omega) (fun x=>by have:=Option.some.inj x; omega)⟩,fun k hk _ h2=>hg.block k hk (fun e=>h2 (Option.some.inj e))⟩
theorem qlk (n:List UInt8):∀(l:List Pl.Src) (i:Nat),(Pl.qg1 n i l=0→1≤i→∀ p∈qbu i l,p.1≠bs n)∧(Pl.qg1 n i l≠0→(bs n,Value.int .i64 (Pl.qg1 n i l))∈qbu i l)
 | [],i=>⟨fun _ _ p hp=>(by cases hp),fun h=>absurd rfl h⟩
 | s::l,i=>by
   have ih:=qlk n l (i+1)
   unfold Pl.qg1 qbu
   by_cases h:s.name=n
   ·rw[if_pos h]
    exact⟨fun h1 h2=>by omega,fun _=>by rw[h]; simp⟩
   ·rw[if_neg h]
    refine⟨fun h1 h2 p hp=>?_,fun h1=>List.mem_cons_of_mem _ (ih.2 h1)⟩
    rcases List.mem_cons.1 hp with rfl | hp
    ·intro e
     unfold bs at e
     injection e with e
     injection e with e
     exact h (Array.toList_inj.2 e)
    ·exact ih.1 h1 (by omega) p hp
theorem qvm (l:List Pl.Src):∀(i:Nat) (p:Value×Value),p∈qbu i l→∃ s∈l,p.1=bs s.name:=by
 induction l with
 | nil=>intro i p hp; cases hp
 | cons s l ih=>
   intro i p hp
   rcases List.mem_cons.1 hp with rfl | hp
   ·exact⟨s,by simp,rfl⟩
   ·obtain⟨s',h1,h2⟩:=ih (i+1) p hp
    exact⟨s',List.mem_cons_of_mem _ h1,h2⟩
theorem qph (l:List Pl.Src):∀(i k:Nat) (p:Value×Value),(qbu i l)[k]?=some p→∃ s,l[k]?=some s∧p.1=bs s.name:=by
 induction l with
 | nil=>intro i k p hp; simp[qbu]at hp
 | cons s l ih=>
   intro i k p hp
   cases k with
   | zero=>simp only[qbu,List.getElem?_cons_zero,Option.some.injEq]at hp; subst hp; exact⟨s,rfl,rfl⟩
   | succ k=>
     obtain⟨s',h1,h2⟩:=ih (i+1) k p (by simpa [qbu] using hp)
     exact⟨s',by simpa using h1,h2⟩
structure SrcsOk (S:List Pl.Src):Prop where
 few:1≤S.length∧S.length≤7
 one:∀(i j:Nat) (a b:Pl.Src),1≤i→1≤j→S[i]?=some a→S[j]?=some b→a.name=b.name→i=j
 short:∀(i:Nat) (a:Pl.Src),S[i]?=some a→a.name.length≤100000
 parts:∀(i:Nat) (a:Pl.Src),S[i]?=some a→a.parts.length≤2000∧∀ p∈a.parts,p.text.length≤2000∧p.pos≤2000∧p.mate≤2000
 wf:∀(i:Nat) (a:Pl.Src),S[i]?=some a→Pl.Wf 0 a.parts
theorem q8j {a b:List UInt8} (h:bs a=bs b):a=b:=by
 unfold bs at h
 injection h with h
 injection h with h
 exact Array.toList_inj.2 h
theorem qu3 (s:ByteArray) (h:s.size≤maxLen):∃ l,keyOf Tryz.prog 9 (.string s)=some l:=by
 unfold keyOf mapKey
 simp[Tryz.underlying9,h]
theorem qv9 (l:List UInt8):(⟨l.toArray⟩:ByteArray).size=l.length:=by simp[ByteArray.size]
theorem qnh {S:List Pl.Src} (h:SrcsOk S):KeysOk Tryz.prog 9 (qbu 1 (S.drop 1)):=by
 refine⟨fun p hp=>?_,fun i j p q hi hj hpq=>?_⟩
 ·obtain⟨s,hs,e⟩:=qvm _ _ _ hp
  obtain⟨k,hk⟩:=List.getElem?_of_mem (List.mem_of_mem_drop hs)
  rw[e]
  exact qu3 _ (by rw[qv9]; have:=h.short k s hk; unfold maxLen; omega)
 ·obtain⟨a,h1,h2⟩:=qph _ _ _ _ hi
  obtain⟨b,h3,h4⟩:=qph _ _ _ _ hj
  rw[List.getElem?_drop]at h1 h3
  have:=h.one (1+i) (1+j) a b (by omega) (by omega) h1 h3 (q8j (by rw[← h2,← h4,hpq]))
  omega
theorem qw6 (w:World):(zeroValue 3).run Tryz.prog w=.ok (.int .i64 0) w:=by
 have e:Tryz.t3.zero=some (.int .i64 0):=by kernel_rfl
 simp[zeroValue,go_sem,e]
theorem SeAt.place {w:World} {B:Nat} {F:Fix} {S:List Pl.Src} {vv:Value} {s:Pl.Sr} (h:SeAt w B F S vv s) (hS:SrcsOk S) (n:List UInt8) (hn:n.length≤100000):(Instr.lookup 174 (.map (some F.bp)) (.string ⟨n.toArray⟩) false).run Tryz.prog w=.ok (.int .i64 (Pl.qag S n:Nat)) w:=by
 obtain⟨kl,hkl⟩:=qu3 ⟨n.toArray⟩ (by rw[qv9]; unfold maxLen; omega)
 obtain⟨f1,f2⟩:=qlk n (S.drop 1) 1
 by_cases h0:Pl.qag S n=0
 ·rw[h0]
  exact qhr qk4 Tryz.underlying174 (qw6 w) h.places (qnh hS) hkl (f1 h0 (Nat.le_refl _)) false
 ·exact qg0 qk4 Tryz.underlying174 h.places (qnh hS) hkl (f2 h0) false
theorem qq9 {l:List (Pl.En×Pl.Sx)} {i:Nat} {p:Value×Value} (h:(ql4 l)[i]?=some p):∃ q,l[i]?=some q∧p=(qfh q.1,qad q.2):=by
 unfold ql4 at h
 rw[List.getElem?_map]at h
 obtain⟨q,h1,h2⟩:=Option.map_eq_some_iff.1 h
 exact⟨q,h1,h2.symm⟩
theorem qkn {n:Nat} {l:List (Pl.En×Pl.Sx)} (h:Pl.EndsOk n l) (hn:n≤7):KeysOk Tryz.prog 180 (ql4 l):=by
 refine⟨fun p hp=>?_,fun i j p q hi hj hpq=>?_⟩
 ·obtain⟨i,hi⟩:=List.getElem?_of_mem hp
  obtain⟨r,h1,rfl⟩:=qq9 hi
  have:=h.key r (List.mem_of_getElem? h1)
  exact qpw this.1.ok this.1.far (by omega)
 ·obtain⟨a,h1,rfl⟩:=qq9 hi
  obtain⟨b,h2,rfl⟩:=qq9 hj
  exact h.one i j a b h1 h2 (qio hpq)
theorem qxz (w:World):(zeroValue 162).run Tryz.prog w=.ok (qad Pl.Sx.none) w:=by
 have e:qad Pl.Sx.none=.agg #[.int .u8 0,.string ⟨#[]⟩,.string ⟨#[]⟩,.int .i64 0,.int .i64 0,.bool false,.bool false,.int .i64 0,.int .i64 0,.int .i64 0]:=rfl
 rw[e]
 have e:Tryz.t162.zero=some (.agg #[.int .u8 0,.string ⟨#[]⟩,.string ⟨#[]⟩,.int .i64 0,.int .i64 0,.bool false,.bool false,.int .i64 0,.int .i64 0,.int .i64 0]):=by kernel_rfl
 simp[zeroValue,go_sem,e]
theorem qto {l:List (Pl.En×Pl.Sx)} {e:Pl.En} (h:Pl.qa7 l e=none):∀ p∈ql4 l,p.1≠qfh e:=by
 intro p hp
 unfold ql4 at hp
 obtain⟨q,h1,rfl⟩:=List.mem_map.1 hp
 exact fun x=>Pl.qjx h q h1 (qio x)
theorem q11 {l:List (Pl.En×Pl.Sx)} {e:Pl.En} {x:Pl.Sx} (h:Pl.qa7 l e=some x):(qfh e,qad x)∈ql4 l:=List.mem_map.2 ⟨(e,x),Pl.qf3 h,rfl⟩
theorem SeAt.look {w:World} {B:Nat} {F:Fix} {S:List Pl.Src} {vv:Value} {s:Pl.Sr} (h:SeAt w B F S vv s) (hS:SrcsOk S) (ho:Pl.EndsOk S.length s.ends) (e:Pl.En) (he:Pl.SxFit e.2) (hi:e.1≤6) (c:Bool) :
  (Instr.lookup 175 (.map (some F.be)) (qfh e) c).run Tryz.prog w=.ok (if c then .tuple #[qad ((Pl.qa7 s.ends e).getD Pl.Sx.none),.bool (Pl.qa7 s.ends e).isSome] else qad ((Pl.qa7 s.ends e).getD Pl.Sx.none)) w:=by
 obtain⟨kl,hkl⟩:=qpw he.ok he.far hi
 cases hg:Pl.qa7 s.ends e with
 | none=>exact qhr qdu Tryz.underlying175 (qxz w) h.ends (qkn ho hS.few.2) hkl (qto hg) c
 | some x=>exact qg0 qdu Tryz.underlying175 h.ends (qkn ho hS.few.2) hkl (q11 hg) c
theorem SeAt.store {w:World} {B:Nat} {F:Fix} {S:List Pl.Src} {vv:Value} {s:Pl.Sr} (h:SeAt w B F S vv s) (hS:SrcsOk S) (ho:Pl.EndsOk S.length s.ends) (e:Pl.En) (he:Pl.SxFit e.2) (hi:e.1≤6) (x:Pl.Sx) :
  ∃ w',(Instr.mapUpdate 175 (.map (some F.be)) (qfh e) (qad x)).run Tryz.prog w=.ok () w'∧SeAt w' B F S vv { s with ends:=Pl.qbg s.ends e x }∧Cue B F w w'∧w'.heap.size=w.heap.size:=by
 obtain⟨kl,hkl⟩:=qpw he.ok he.far hi
 cases hg:Pl.qa7 s.ends e with
 | none=>
   obtain⟨w',h1,h2,h3,h4⟩:=qhq (val:=qad x) qdu Tryz.underlying175 h.ends (qkn ho hS.few.2) hkl (qto hg)
   refine⟨w',h1,h.put ?_ h3,Cue.put h.le.2 h.ends.lt h3,h4⟩
   rw[Pl.qem hg]
   unfold ql4 at h2 ⊢
   rw[List.map_append]
   exact h2
 | some y=>
   obtain⟨i,i1,i2⟩:=Pl.qha hg x
   obtain⟨w',h1,h2,h3,h4⟩:=qjd (val:=qad x) (v:=qad y) qdu Tryz.underlying175 h.ends (qkn ho hS.few.2) hkl i (by unfold ql4; rw[List.getElem?_map,i1]; rfl)
   refine⟨w',h1,h.put ?_ h3,Cue.put h.le.2 h.ends.lt h3,h4⟩
   rw[i2]
   unfold ql4 at h2 ⊢
   rw[List.map_set]
   exact h2
end Go.Proofs.YtfkhljmiehdgmaaGreatDoor
namespace Go.Proofs.YtfkhljmiehdgmaaGreatDoor
open Go.RowKit
def qia (w:World) (g:Nat):Prop:=∃ cs t,w.heap[g]?=some (.cells cs t (0,0))∧cs.size=6
theorem qia.lt {w:World} {g:Nat} (h:qia w g):g<w.heap.size:=by
 obtain⟨cs,t,h,_⟩:=h
 exact(Array.getElem?_eq_some_iff.1 h).1
theorem qia.kept {w w':World} {g B:Nat} (h:qia w g) (hb:Below B w w') (hB:g<B):qia w' g:=by
 obtain⟨cs,t,h,hs⟩:=h
 exact⟨cs,t,(hb.block g hB).trans h,hs⟩
theorem qia.alloc {w:World} {g:Nat} (h:qia w g) (o:Obj):qia (w.alloc o) g:=h.kept ((Below.refl _ w).alloc (Nat.le_refl _) o) h.lt
theorem qia.drew {w:World} {g:Nat} (h:qia w g):qia w.drew g:=h
theorem qia.cell {w:World} {g:Nat} (h:qia w g) (j:Nat) (hj:j<6):∃ v,w.cell? ⟨g,j,none⟩=some v:=by
 obtain⟨cs,t,h,hs⟩:=h
 exact⟨cs[j],by rw[cell_of_row w g j cs t _ h,Array.getElem?_eq_getElem (by omega)]⟩
theorem qia.thaw {w:World} {g:Nat} (h:qia w g) (j:Nat):w.frozen? ⟨g,j,none⟩=false:=by
 obtain⟨cs,t,h,hs⟩:=h
 simp[World.frozen?,h]
theorem qfq {P:Program} {a:Act} {w:World} {Q:Exit→Act→World→Prop} {c rest:Code} (l:Nat) (hf:findLabel c l=some rest)
  (first:c.wp P (Exit.jump l (fun a' w'=>rest.wp P (Exit.noGoto Q) a' w') Q) a w):(Code.scope c).wp P Q a w:=by
 refine wp_scope_jumps l (fun a' w'=>rest.wp P (Exit.noGoto Q) a' w') (fun _ _=>0) hf first ?_
 intro a' w' hJ b k cs
 obtain⟨e,a₁,w₁,hq,harr⟩:=hJ b k cs
 refine⟨e,a₁,w₁,?_,harr⟩
 cases e with
 | goto l'=>exact hq.elim
 | normal=>exact hq
 | exit id=>exact hq
 | ret=>exact hq
 | panic ch=>exact hq
 | outgrown=>exact hq
theorem qia.set {w:World} {g:Nat} (h:qia w g) (p:Addr) (v:Value):qia (w.setCell p v) g:=by
 obtain⟨cs,t,h,hs⟩:=h
 by_cases hg:g=p.block
 ·subst hg
  refine⟨if p.spot.isSome then cs else cs.setIfInBounds p.off v,t,?_,?_⟩
  ·simp only[World.setCell,Array.getElem?_modify,↓reduceIte,h,Option.map_some]
  ·split<;>simp[hs]
 ·exact⟨cs,t,(Below.heap_setCell w p v g hg).trans h,hs⟩
def qhx (l:List Nat):List Value:=l.map fun(m:Nat)=>.int .i64 (m:Int)
theorem qs9 (l:List Nat):(qhx l).length=l.length:=by simp[qhx]
theorem qq4 (l:List Nat) (m:Nat):qhx (l++[m])=qhx l++[.int .i64 (m:Int)]:=by simp[qhx]
theorem q37:(Tryz.prog.info? 3).map (fun i=>(i.zero,i.size,i.bytes))=some (some (.int .i64 0),1,8):=by kernel_rfl
theorem q22 (l:List Value) (x y:Value) (n k:Nat) (hl:l.length=k) (hk:k<n):(l++List.replicate (n - k) x).set k y=(l++[y])++List.replicate (n - (k+1)) x:=by
 obtain⟨j,hj⟩:∃ j,n - k=j+1:=⟨n - k - 1,by omega⟩
 have hj':n - (k+1)=j:=by omega
 rw[hj,hj',List.replicate_succ,List.set_append_right _ _ (by omega),hl,Nat.sub_self,List.set_cons_zero,List.append_assoc]
 rfl
theorem qkg {w w':World} {B g:Nat} {e:TypeId} {n cap:Nat} {xs:List Value} (h:w.ownsRow B e 1 (.slice (some ⟨g,0,none⟩) n cap) n xs) (hb:w'.heap[g]?=w.heap[g]?):w'.ownsRow B e 1 (.slice (some ⟨g,0,none⟩) n cap) n xs:=by
 refine⟨h.1,?_⟩
 rcases h.2 with hn | ⟨g',cap',cur,hv,hB,hg,rest⟩
 ·exact .inl hn
 ·simp only[Value.slice.injEq,Option.some.injEq,Addr.mk.injEq,and_true,true_and]at hv
  obtain⟨rfl,rfl⟩:=hv
  exact .inr ⟨g,cap,cur,rfl,hB,hb.trans hg,rest⟩
def qb7 (n:Nat) (w:World) (g:Nat):Prop:=∃ cs t,w.heap[g]?=some (.cells cs t (0,0))∧cs.size=n
theorem qb7.lt {n:Nat} {w:World} {g:Nat} (h:qb7 n w g):g<w.heap.size:=by
 obtain⟨cs,t,h,_⟩:=h
 exact(Array.getElem?_eq_some_iff.1 h).1
theorem qb7.kept {n:Nat} {w w':World} {g B:Nat} (h:qb7 n w g) (hb:Below B w w') (hB:g<B):qb7 n w' g:=by
 obtain⟨cs,t,h,hs⟩:=h
 exact⟨cs,t,(hb.block g hB).trans h,hs⟩
theorem qb7.alloc {n:Nat} {w:World} {g:Nat} (h:qb7 n w g) (o:Obj):qb7 n (w.alloc o) g:=h.kept ((Below.refl _ w).alloc (Nat.le_refl _) o) h.lt
theorem qb7.drew {n:Nat} {w:World} {g:Nat} (h:qb7 n w g):qb7 n w.drew g:=h
theorem qm7 (n:Nat) (w:World) (g:Nat) (cs:Array Value) (t:TypeId) (hg:w.heap.size=g) (hs:cs.size=n):qb7 n (w.alloc (.cells cs t)) g:=by
 subst hg
 exact⟨cs,t,heap_alloc_new w _,hs⟩
theorem qb7.cell {n:Nat} {w:World} {g:Nat} (h:qb7 n w g) (j:Nat) (hj:j<n):∃ v,w.cell? ⟨g,j,none⟩=some v:=by
 obtain⟨cs,t,h,hs⟩:=h
 exact⟨cs[j],by rw[cell_of_row w g j cs t _ h,Array.getElem?_eq_getElem (by omega)]⟩
theorem qb7.thaw {n:Nat} {w:World} {g:Nat} (h:qb7 n w g) (j:Nat):w.frozen? ⟨g,j,none⟩=false:=by
 obtain⟨cs,t,h,hs⟩:=h
 simp[World.frozen?,h]
theorem qb7.set {n:Nat} {w:World} {g:Nat} (h:qb7 n w g) (p:Addr) (v:Value):qb7 n (w.setCell p v) g:=by
 obtain⟨cs,t,h,hs⟩:=h
 by_cases hg:g=p.block
 ·subst hg
  refine⟨if p.spot.isSome then cs else cs.setIfInBounds p.off v,t,?_,?_⟩
  ·simp only[World.setCell,Array.getElem?_modify,↓reduceIte,h,Option.map_some]
  ·split<;>simp[hs]
 ·exact⟨cs,t,(Below.heap_setCell w p v g hg).trans h,hs⟩
theorem qb7.cellA {n:Nat} {w:World} {g:Nat} (h:qb7 n w g) (j:Nat) (hj:j<n):∃ v,∀ o,(w.alloc o).cell? ⟨g,j,none⟩=some v:=by
 obtain⟨v,hv⟩:=h.cell j hj
 exact⟨v,fun o=>((Below.refl w.heap.size w).alloc (Nat.le_refl _) o).cell (p:=⟨g,j,none⟩) h.lt |>.trans hv⟩
theorem qb7.thawA {n:Nat} {w:World} {g:Nat} (h:qb7 n w g) (j:Nat) (o:Obj):(w.alloc o).frozen? ⟨g,j,none⟩=false:=(h.alloc o).thaw j
theorem qas (w:World) (o:Obj) (g:Nat) (h:w.heap.size=g):(w.alloc o).heap[g]?=some o:=by rw[← h]; exact heap_alloc_new w o
theorem q1n (w:World) (a b:Obj):((w.alloc a).alloc b).heap[w.heap.size+1]?=some b:=qas _ _ _ (by simp)
theorem q6z (w:World) (a b c:Obj):(((w.alloc a).alloc b).alloc c).heap[w.heap.size+1]?=some b:=(heap_alloc_old _ _ (by simp)).trans (q1n w a b)
theorem qe3 (w:World) (a b c d:Obj):((((w.alloc a).alloc b).alloc c).alloc d).heap[w.heap.size+1]?=some b:=(heap_alloc_old _ _ (by simp)).trans (q6z w a b c)
theorem qv0 (w:World) (a b c d e:Obj):(((((w.alloc a).alloc b).alloc c).alloc d).alloc e).heap[w.heap.size+1]?=some b:=(heap_alloc_old _ _ (by simp)).trans (qe3 w a b c d)
theorem qn1 (w:World) (a b c d:Obj):((((w.alloc a).alloc b).alloc c).alloc d).heap[w.heap.size+1+1]?=some c:=(heap_alloc_old _ _ (by simp)).trans (qas _ _ _ (by simp))
def qf8 (w:World) (g:Nat):Nat→List Value→World
 | _,[]=>w
 | k,v::l=>qf8 (w.setCell ⟨g,k,none⟩ v) g (k+1) l
theorem qqm (g:Nat) (l:List Value):∀(w:World) (k:Nat) (p:Addr),(∀ j,k≤j→j<k+l.length→p≠⟨g,j,none⟩)→(qf8 w g k l).cell? p=w.cell? p:=by
 induction l with
 | nil=>intro w k p _; rfl
 | cons v l ih=>
   intro w k p h
   show (qf8 (w.setCell ⟨g,k,none⟩ v) g (k+1) l).cell? p=_
   rw[ih _ _ _ (fun j h1 h2=>h j (by omega) (by simp only[List.length_cons]; omega))]
   exact World.cell?_setCell_other _ _ _ _ (Ne.symm (h k (Nat.le_refl _) (by simp)))
theorem qlf {n:Nat} (g:Nat) (l:List Value):∀(w:World) (k:Nat),qb7 n w g→k+l.length≤n→∀(j:Nat) (v:Value),l[j]?=some v→(qf8 w g k l).cell? ⟨g,k+j,none⟩=some v:=by
 induction l with
 | nil=>intro w k _ _ j v hv; simp at hv
 | cons x l ih=>
   intro w k hs hk j v hv
   simp only[List.length_cons]at hk
   show (qf8 (w.setCell ⟨g,k,none⟩ x) g (k+1) l).cell? _=_
   match j,hv with
   | 0,hv=>
     obtain rfl:x=v:=by simpa using hv
     rw[qqm _ _ _ _ _ (fun j h1 h2 q=>by simp only[Addr.mk.injEq]at q; omega)]
     obtain⟨u,hu⟩:=hs.cell k (by omega)
     exact World.cell?_setCell_same _ _ _ (u:=u) hu
   | j+1,hv=>
     have:=ih (w.setCell ⟨g,k,none⟩ x) (k+1) (hs.set _ _) (by omega) j v (by simpa using hv)
     rw[show k+(j+1)=k+1+j by omega]
     exact this
theorem qsd {n:Nat} (g g':Nat) (l:List Value):∀(w:World) (k:Nat),qb7 n w g'→qb7 n (qf8 w g k l) g':=by
 induction l with
 | nil=>intro w k h; exact h
 | cons x l ih=>intro w k h; exact ih _ _ (h.set _ _)
theorem qkt {B:Nat} {a:World} (g:Nat) (hg:B≤g) (l:List Value):∀(w:World) (k:Nat),Below B a w→Below B a (qf8 w g k l):=by
 induction l with
 | nil=>intro w k h; exact h
 | cons x l ih=>intro w k h; exact ih _ _ (h.setCell (p:=⟨g,k,none⟩) hg _)
def set5 (w:World) (g:Nat) (v0 v1 v2 v3 v4:Value):World:=((((w.setCell ⟨g,0,none⟩ v0).setCell ⟨g,1,none⟩ v1).setCell ⟨g,2,none⟩ v2).setCell ⟨g,3,none⟩ v3).setCell ⟨g,4,none⟩ v4
theorem q0j (w:World) (g:Nat) (v0 v1 v2 v3 v4:Value):set5 w g v0 v1 v2 v3 v4=qf8 w g 0 [v0,v1,v2,v3,v4]:=rfl
theorem qzj {w:World} {g:Nat} (h:qb7 5 w g) (v0 v1 v2 v3 v4:Value):∀(j:Nat) (v:Value),(#[v0,v1,v2,v3,v4]:Array Value).toList[j]?=some v→(set5 w g v0 v1 v2 v3 v4).cell? ⟨g,j,none⟩=some v:=by
 intro j v hv
 have:=qlf (n:=5) g [v0,v1,v2,v3,v4] w 0 h (by simp) j v hv
 rw[Nat.zero_add]at this
 rw[q0j]
 exact this
theorem qe7 {B:Nat} {a w:World} {g:Nat} (h:Below B a w) (hg:B≤g) (v0 v1 v2 v3 v4:Value):Below B a (set5 w g v0 v1 v2 v3 v4):=by
 rw[q0j]
 exact qkt g hg _ _ _ h
theorem qc7 {P:Program} {fn:Func} {R:Ending→World→Prop} {a:Act} {w:World} {p:Tmp} {ty:TypeId} (h:fn.results=#[.cell p ty]) (g:Nat) (d:TypeDesc) (hu:P.underlying ty=some d) (hd:aggD d=true) (hi:(P.info? ty).map (·.size)=some 5)
  (hp:a.tmps.getD p undef=.pointer (some ⟨g,0,none⟩)) (hs:qb7 5 w g) (hdf:a.defers=[]) (v0 v1 v2 v3 v4:Value) (hR:R (.returned (.agg #[v0,v1,v2,v3,v4])) (set5 w g v0 v1 v2 v3 v4)):bodyPost P fn R .ret a (set5 w g v0 v1 v2 v3 v4):=
 bodyPost_ret (qbn h a.tmps _ g _ d hp (qzj hs v0 v1 v2 v3 v4) hu hd hi) hdf hR
def qcn (w:World) (g:Nat) (v0 v1 v2 v3 v4 v5 v6 v7 v8 v9:Value):World:=(((((((((w.setCell ⟨g,0,none⟩ v0).setCell ⟨g,1,none⟩ v1).setCell ⟨g,2,none⟩ v2).setCell ⟨g,3,none⟩ v3).setCell ⟨g,4,none⟩ v4).setCell ⟨g,5,none⟩ v5).setCell ⟨g,6,none⟩ v6).setCell ⟨g,7,none⟩ v7).setCell ⟨g,8,none⟩ v8).setCell ⟨g,9,none⟩ v9
theorem qma (w:World) (g:Nat) (v0 v1 v2 v3 v4 v5 v6 v7 v8 v9:Value):qcn w g v0 v1 v2 v3 v4 v5 v6 v7 v8 v9=qf8 w g 0 [v0,v1,v2,v3,v4,v5,v6,v7,v8,v9]:=rfl
theorem qck {w:World} {g:Nat} (h:qb7 10 w g) (v0 v1 v2 v3 v4 v5 v6 v7 v8 v9:Value):∀(j:Nat) (v:Value),(#[v0,v1,v2,v3,v4,v5,v6,v7,v8,v9]:Array Value).toList[j]?=some v→(qcn w g v0 v1 v2 v3 v4 v5 v6 v7 v8 v9).cell? ⟨g,j,none⟩=some v:=by
 intro j v hv
 have:=qlf (n:=10) g [v0,v1,v2,v3,v4,v5,v6,v7,v8,v9] w 0 h (by simp) j v hv
 rw[Nat.zero_add]at this
 rw[qma]
 exact this
theorem qaw {B:Nat} {a w:World} {g:Nat} (h:Below B a w) (hg:B≤g) (v0 v1 v2 v3 v4 v5 v6 v7 v8 v9:Value):Below B a (qcn w g v0 v1 v2 v3 v4 v5 v6 v7 v8 v9):=by
 rw[qma]
 exact qkt g hg _ _ _ h
theorem qap {P:Program} {fn:Func} {R:Ending→World→Prop} {a:Act} {w:World} {p:Tmp} {ty:TypeId} (h:fn.results=#[.cell p ty]) (g:Nat) (d:TypeDesc) (hu:P.underlying ty=some d) (hd:aggD d=true) (hi:(P.info? ty).map (·.size)=some 10)
  (hp:a.tmps.getD p undef=.pointer (some ⟨g,0,none⟩)) (hs:qb7 10 w g) (hdf:a.defers=[]) (v0 v1 v2 v3 v4 v5 v6 v7 v8 v9:Value) (hR:R (.returned (.agg #[v0,v1,v2,v3,v4,v5,v6,v7,v8,v9])) (qcn w g v0 v1 v2 v3 v4 v5 v6 v7 v8 v9)):bodyPost P fn R .ret a (qcn w g v0 v1 v2 v3 v4 v5 v6 v7 v8 v9):=
 bodyPost_ret (qbn h a.tmps _ g _ d hp (qck hs v0 v1 v2 v3 v4 v5 v6 v7 v8 v9) hu hd hi) hdf hR
theorem SxAt.alloc {w:World} {g:Nat} {s:Pl.Sx} (h:SxAt w g s) (hg:g<w.heap.size) (o:Obj):SxAt (w.alloc o) g s:=h.kept ((Below.refl _ w).alloc (Nat.le_refl _) o) hg
theorem SxAt.setMode {w:World} {g:Nat} {s:Pl.Sx} (h:SxAt w g s) (m:Nat) (z:Int) (hz:z=(m:Int)):SxAt (w.setCell ⟨g,0,none⟩ (.int .u8 z)) g ⟨⟨m,s.st.name,s.st.elem,s.st.kind,s.st.read,s.st.esc⟩,⟨s.ma.ref,s.ma.hex,s.ma.pct,s.ma.far⟩⟩:=
 ⟨(World.cell?_setCell_same _ _ _ h.mode).trans (by rw[hz]),(World.cell?_setCell_other _ _ _ _ (by simp)).trans h.name,(World.cell?_setCell_other _ _ _ _ (by simp)).trans h.elem,(World.cell?_setCell_other _ _ _ _ (by simp)).trans h.kind,(World.cell?_setCell_other _ _ _ _ (by simp)).trans h.read,(World.cell?_setCell_other _ _ _ _ (by simp)).trans h.ref,(World.cell?_setCell_other _ _ _ _ (by simp)).trans h.esc,(World.cell?_setCell_other _ _ _ _ (by simp)).trans h.hex,(World.cell?_setCell_other _ _ _ _ (by simp)).trans h.pct,(World.cell?_setCell_other _ _ _ _ (by simp)).trans h.far⟩
theorem SxAt.setName {w:World} {g:Nat} {s:Pl.Sx} (h:SxAt w g s) (n:List UInt8):SxAt (w.setCell ⟨g,1,none⟩ (.string ⟨n.toArray⟩)) g ⟨⟨s.st.mode,n,s.st.elem,s.st.kind,s.st.read,s.st.esc⟩,⟨s.ma.ref,s.ma.hex,s.ma.pct,s.ma.far⟩⟩:=
 ⟨(World.cell?_setCell_other _ _ _ _ (by simp)).trans h.mode,World.cell?_setCell_same _ _ _ h.name,(World.cell?_setCell_other _ _ _ _ (by simp)).trans h.elem,(World.cell?_setCell_other _ _ _ _ (by simp)).trans h.kind,(World.cell?_setCell_other _ _ _ _ (by simp)).trans h.read,(World.cell?_setCell_other _ _ _ _ (by simp)).trans h.ref,(World.cell?_setCell_other _ _ _ _ (by simp)).trans h.esc,(World.cell?_setCell_other _ _ _ _ (by simp)).trans h.hex,(World.cell?_setCell_other _ _ _ _ (by simp)).trans h.pct,(World.cell?_setCell_other _ _ _ _ (by simp)).trans h.far⟩
theorem SxAt.setKind {w:World} {g:Nat} {s:Pl.Sx} (h:SxAt w g s) (k:Int):SxAt (w.setCell ⟨g,3,none⟩ (.int .i64 k)) g ⟨⟨s.st.mode,s.st.name,s.st.elem,k,s.st.read,s.st.esc⟩,⟨s.ma.ref,s.ma.hex,s.ma.pct,s.ma.far⟩⟩:=
 ⟨(World.cell?_setCell_other _ _ _ _ (by simp)).trans h.mode,(World.cell?_setCell_other _ _ _ _ (by simp)).trans h.name,(World.cell?_setCell_other _ _ _ _ (by simp)).trans h.elem,World.cell?_setCell_same _ _ _ h.kind,(World.cell?_setCell_other _ _ _ _ (by simp)).trans h.read,(World.cell?_setCell_other _ _ _ _ (by simp)).trans h.ref,(World.cell?_setCell_other _ _ _ _ (by simp)).trans h.esc,(World.cell?_setCell_other _ _ _ _ (by simp)).trans h.hex,(World.cell?_setCell_other _ _ _ _ (by simp)).trans h.pct,(World.cell?_setCell_other _ _ _ _ (by simp)).trans h.far⟩
theorem SxAt.setRead {w:World} {g:Nat} {s:Pl.Sx} (h:SxAt w g s) (r:Nat):SxAt (w.setCell ⟨g,4,none⟩ (.int .i64 (r:Int))) g ⟨⟨s.st.mode,s.st.name,s.st.elem,s.st.kind,r,s.st.esc⟩,⟨s.ma.ref,s.ma.hex,s.ma.pct,s.ma.far⟩⟩:=
 ⟨(World.cell?_setCell_other _ _ _ _ (by simp)).trans h.mode,(World.cell?_setCell_other _ _ _ _ (by simp)).trans h.name,(World.cell?_setCell_other _ _ _ _ (by simp)).trans h.elem,(World.cell?_setCell_other _ _ _ _ (by simp)).trans h.kind,World.cell?_setCell_same _ _ _ h.read,(World.cell?_setCell_other _ _ _ _ (by simp)).trans h.ref,(World.cell?_setCell_other _ _ _ _ (by simp)).trans h.esc,(World.cell?_setCell_other _ _ _ _ (by simp)).trans h.hex,(World.cell?_setCell_other _ _ _ _ (by simp)).trans h.pct,(World.cell?_setCell_other _ _ _ _ (by simp)).trans h.far⟩
theorem SxAt.setRef {w:World} {g:Nat} {s:Pl.Sx} (h:SxAt w g s) (r:Bool):SxAt (w.setCell ⟨g,5,none⟩ (.bool r)) g ⟨⟨s.st.mode,s.st.name,s.st.elem,s.st.kind,s.st.read,s.st.esc⟩,⟨r,s.ma.hex,s.ma.pct,s.ma.far⟩⟩:=
 ⟨(World.cell?_setCell_other _ _ _ _ (by simp)).trans h.mode,(World.cell?_setCell_other _ _ _ _ (by simp)).trans h.name,(World.cell?_setCell_other _ _ _ _ (by simp)).trans h.elem,(World.cell?_setCell_other _ _ _ _ (by simp)).trans h.kind,(World.cell?_setCell_other _ _ _ _ (by simp)).trans h.read,World.cell?_setCell_same _ _ _ h.ref,(World.cell?_setCell_other _ _ _ _ (by simp)).trans h.esc,(World.cell?_setCell_other _ _ _ _ (by simp)).trans h.hex,(World.cell?_setCell_other _ _ _ _ (by simp)).trans h.pct,(World.cell?_setCell_other _ _ _ _ (by simp)).trans h.far⟩
theorem SxAt.setEsc {w:World} {g:Nat} {s:Pl.Sx} (h:SxAt w g s) (e:Bool):SxAt (w.setCell ⟨g,6,none⟩ (.bool e)) g ⟨⟨s.st.mode,s.st.name,s.st.elem,s.st.kind,s.st.read,e⟩,⟨s.ma.ref,s.ma.hex,s.ma.pct,s.ma.far⟩⟩:=
 ⟨(World.cell?_setCell_other _ _ _ _ (by simp)).trans h.mode,(World.cell?_setCell_other _ _ _ _ (by simp)).trans h.name,(World.cell?_setCell_other _ _ _ _ (by simp)).trans h.elem,(World.cell?_setCell_other _ _ _ _ (by simp)).trans h.kind,(World.cell?_setCell_other _ _ _ _ (by simp)).trans h.read,(World.cell?_setCell_other _ _ _ _ (by simp)).trans h.ref,World.cell?_setCell_same _ _ _ h.esc,(World.cell?_setCell_other _ _ _ _ (by simp)).trans h.hex,(World.cell?_setCell_other _ _ _ _ (by simp)).trans h.pct,(World.cell?_setCell_other _ _ _ _ (by simp)).trans h.far⟩
theorem SxAt.setHex {w:World} {g:Nat} {s:Pl.Sx} (h:SxAt w g s) (r:Int):SxAt (w.setCell ⟨g,7,none⟩ (.int .i64 r)) g ⟨⟨s.st.mode,s.st.name,s.st.elem,s.st.kind,s.st.read,s.st.esc⟩,⟨s.ma.ref,r,s.ma.pct,s.ma.far⟩⟩:=
 ⟨(World.cell?_setCell_other _ _ _ _ (by simp)).trans h.mode,(World.cell?_setCell_other _ _ _ _ (by simp)).trans h.name,(World.cell?_setCell_other _ _ _ _ (by simp)).trans h.elem,(World.cell?_setCell_other _ _ _ _ (by simp)).trans h.kind,(World.cell?_setCell_other _ _ _ _ (by simp)).trans h.read,(World.cell?_setCell_other _ _ _ _ (by simp)).trans h.ref,(World.cell?_setCell_other _ _ _ _ (by simp)).trans h.esc,World.cell?_setCell_same _ _ _ h.hex,(World.cell?_setCell_other _ _ _ _ (by simp)).trans h.pct,(World.cell?_setCell_other _ _ _ _ (by simp)).trans h.far⟩
theorem SxAt.setPct {w:World} {g:Nat} {s:Pl.Sx} (h:SxAt w g s) (r:Int):SxAt (w.setCell ⟨g,8,none⟩ (.int .i64 r)) g ⟨⟨s.st.mode,s.st.name,s.st.elem,s.st.kind,s.st.read,s.st.esc⟩,⟨s.ma.ref,s.ma.hex,r,s.ma.far⟩⟩:=
 ⟨(World.cell?_setCell_other _ _ _ _ (by simp)).trans h.mode,(World.cell?_setCell_other _ _ _ _ (by simp)).trans h.name,(World.cell?_setCell_other _ _ _ _ (by simp)).trans h.elem,(World.cell?_setCell_other _ _ _ _ (by simp)).trans h.kind,(World.cell?_setCell_other _ _ _ _ (by simp)).trans h.read,(World.cell?_setCell_other _ _ _ _ (by simp)).trans h.ref,(World.cell?_setCell_other _ _ _ _ (by simp)).trans h.esc,(World.cell?_setCell_other _ _ _ _ (by simp)).trans h.hex,World.cell?_setCell_same _ _ _ h.pct,(World.cell?_setCell_other _ _ _ _ (by simp)).trans h.far⟩
theorem SxAt.setFar {w:World} {g:Nat} {s:Pl.Sx} (h:SxAt w g s) (r:Int):SxAt (w.setCell ⟨g,9,none⟩ (.int .i64 r)) g ⟨⟨s.st.mode,s.st.name,s.st.elem,s.st.kind,s.st.read,s.st.esc⟩,⟨s.ma.ref,s.ma.hex,s.ma.pct,r⟩⟩:=
 ⟨(World.cell?_setCell_other _ _ _ _ (by simp)).trans h.mode,(World.cell?_setCell_other _ _ _ _ (by simp)).trans h.name,(World.cell?_setCell_other _ _ _ _ (by simp)).trans h.elem,(World.cell?_setCell_other _ _ _ _ (by simp)).trans h.kind,(World.cell?_setCell_other _ _ _ _ (by simp)).trans h.read,(World.cell?_setCell_other _ _ _ _ (by simp)).trans h.ref,(World.cell?_setCell_other _ _ _ _ (by simp)).trans h.esc,(World.cell?_setCell_other _ _ _ _ (by simp)).trans h.hex,(World.cell?_setCell_other _ _ _ _ (by simp)).trans h.pct,World.cell?_setCell_same _ _ _ h.far⟩
structure Mid (w0 w:World) (g:Nat) (s:Pl.Sx):Prop where
 eq:w0.heap.size=g
 tabs0:PTabs w0
 below:Below w0.heap.size w0 w
 at':SxAt w g s
 slot:qb7 10 w g
 res:qb7 10 w (g+1)
theorem Mid.tabs {w0 w:World} {g:Nat} {s:Pl.Sx} (h:Mid w0 w g s):PTabs w:=h.tabs0.kept h.below
theorem Mid.start {w0:World} (s:Pl.Sx) (ht:PTabs w0) (cs:Array Value) (t t':TypeId) (hc:cs.size=10):Mid w0 ((w0.alloc (.cells (qab s) t)).alloc (.cells cs t')) w0.heap.size s:=
 ⟨rfl,ht,((Below.refl _ _).alloc (Nat.le_refl _) _).alloc (by simp) _,(qg9 w0 s t).alloc (by simp) _,(qm7 10 w0 _ _ _ rfl rfl).alloc _,qm7 10 _ _ _ _ (by simp) hc⟩
theorem Mid.kept {w0 w w':World} {g:Nat} {s:Pl.Sx} (h:Mid w0 w g s) (hb:Below w.heap.size w w'):Mid w0 w' g s:=
 ⟨h.eq,h.tabs0,h.below.trans (hb.mono h.below.size),h.at'.kept hb h.slot.lt,h.slot.kept hb h.slot.lt,h.res.kept hb h.res.lt⟩
theorem Mid.alloc {w0 w:World} {g:Nat} {s:Pl.Sx} (h:Mid w0 w g s) (o:Obj):Mid w0 (w.alloc o) g s:=h.kept ((Below.refl _ w).alloc (Nat.le_refl _) o)
theorem Mid.drew {w0 w:World} {g:Nat} {s:Pl.Sx} (h:Mid w0 w g s):Mid w0 w.drew g s:=h.kept (Below.refl _ w).drew
theorem Mid.setMode {w0 w:World} {g:Nat} {s:Pl.Sx} (h:Mid w0 w g s) (m:Nat) (z:Int) (hz:z=(m:Int)):Mid w0 (w.setCell ⟨g,0,none⟩ (.int .u8 z)) g ⟨⟨m,s.st.name,s.st.elem,s.st.kind,s.st.read,s.st.esc⟩,⟨s.ma.ref,s.ma.hex,s.ma.pct,s.ma.far⟩⟩:=
 ⟨h.eq,h.tabs0,h.below.setCell (p:=⟨g,0,none⟩) (Nat.le_of_eq h.eq) _,h.at'.setMode m z hz,h.slot.set _ _,h.res.set _ _⟩
theorem Mid.setName {w0 w:World} {g:Nat} {s:Pl.Sx} (h:Mid w0 w g s) (n:List UInt8):Mid w0 (w.setCell ⟨g,1,none⟩ (.string ⟨n.toArray⟩)) g ⟨⟨s.st.mode,n,s.st.elem,s.st.kind,s.st.read,s.st.esc⟩,⟨s.ma.ref,s.ma.hex,s.ma.pct,s.ma.far⟩⟩:=
 ⟨h.eq,h.tabs0,h.below.setCell (p:=⟨g,1,none⟩) (Nat.le_of_eq h.eq) _,h.at'.setName n,h.slot.set _ _,h.res.set _ _⟩
theorem Mid.setKind {w0 w:World} {g:Nat} {s:Pl.Sx} (h:Mid w0 w g s) (k:Int):Mid w0 (w.setCell ⟨g,3,none⟩ (.int .i64 k)) g ⟨⟨s.st.mode,s.st.name,s.st.elem,k,s.st.read,s.st.esc⟩,⟨s.ma.ref,s.ma.hex,s.ma.pct,s.ma.far⟩⟩:=
 ⟨h.eq,h.tabs0,h.below.setCell (p:=⟨g,3,none⟩) (Nat.le_of_eq h.eq) _,h.at'.setKind k,h.slot.set _ _,h.res.set _ _⟩
theorem Mid.setRead {w0 w:World} {g:Nat} {s:Pl.Sx} (h:Mid w0 w g s) (r:Nat):Mid w0 (w.setCell ⟨g,4,none⟩ (.int .i64 (r:Int))) g ⟨⟨s.st.mode,s.st.name,s.st.elem,s.st.kind,r,s.st.esc⟩,⟨s.ma.ref,s.ma.hex,s.ma.pct,s.ma.far⟩⟩:=
 ⟨h.eq,h.tabs0,h.below.setCell (p:=⟨g,4,none⟩) (Nat.le_of_eq h.eq) _,h.at'.setRead r,h.slot.set _ _,h.res.set _ _⟩
theorem Mid.setRef {w0 w:World} {g:Nat} {s:Pl.Sx} (h:Mid w0 w g s) (r:Bool):Mid w0 (w.setCell ⟨g,5,none⟩ (.bool r)) g ⟨⟨s.st.mode,s.st.name,s.st.elem,s.st.kind,s.st.read,s.st.esc⟩,⟨r,s.ma.hex,s.ma.pct,s.ma.far⟩⟩:=
 ⟨h.eq,h.tabs0,h.below.setCell (p:=⟨g,5,none⟩) (Nat.le_of_eq h.eq) _,h.at'.setRef r,h.slot.set _ _,h.res.set _ _⟩
theorem Mid.setEsc {w0 w:World} {g:Nat} {s:Pl.Sx} (h:Mid w0 w g s) (e:Bool):Mid w0 (w.setCell ⟨g,6,none⟩ (.bool e)) g ⟨⟨s.st.mode,s.st.name,s.st.elem,s.st.kind,s.st.read,e⟩,⟨s.ma.ref,s.ma.hex,s.ma.pct,s.ma.far⟩⟩:=
 ⟨h.eq,h.tabs0,h.below.setCell (p:=⟨g,6,none⟩) (Nat.le_of_eq h.eq) _,h.at'.setEsc e,h.slot.set _ _,h.res.set _ _⟩
theorem Mid.setHex {w0 w:World} {g:Nat} {s:Pl.Sx} (h:Mid w0 w g s) (r:Int):Mid w0 (w.setCell ⟨g,7,none⟩ (.int .i64 r)) g ⟨⟨s.st.mode,s.st.name,s.st.elem,s.st.kind,s.st.read,s.st.esc⟩,⟨s.ma.ref,r,s.ma.pct,s.ma.far⟩⟩:=
 ⟨h.eq,h.tabs0,h.below.setCell (p:=⟨g,7,none⟩) (Nat.le_of_eq h.eq) _,h.at'.setHex r,h.slot.set _ _,h.res.set _ _⟩
theorem Mid.setPct {w0 w:World} {g:Nat} {s:Pl.Sx} (h:Mid w0 w g s) (r:Int):Mid w0 (w.setCell ⟨g,8,none⟩ (.int .i64 r)) g ⟨⟨s.st.mode,s.st.name,s.st.elem,s.st.kind,s.st.read,s.st.esc⟩,⟨s.ma.ref,s.ma.hex,r,s.ma.far⟩⟩:=
 ⟨h.eq,h.tabs0,h.below.setCell (p:=⟨g,8,none⟩) (Nat.le_of_eq h.eq) _,h.at'.setPct r,h.slot.set _ _,h.res.set _ _⟩
theorem Mid.setFar {w0 w:World} {g:Nat} {s:Pl.Sx} (h:Mid w0 w g s) (r:Int):Mid w0 (w.setCell ⟨g,9,none⟩ (.int .i64 r)) g ⟨⟨s.st.mode,s.st.name,s.st.elem,s.st.kind,s.st.read,s.st.esc⟩,⟨s.ma.ref,s.ma.hex,s.ma.pct,r⟩⟩:=
 ⟨h.eq,h.tabs0,h.below.setCell (p:=⟨g,9,none⟩) (Nat.le_of_eq h.eq) _,h.at'.setFar r,h.slot.set _ _,h.res.set _ _⟩
end Go.Proofs.YtfkhljmiehdgmaaGreatDoor

/-
  Several texts laid together: each opens with its own remark.
-/
import Derived.Maps.OwnOps
import Derived.Test.YtfkhljmiehdgmaaGreatDoorPgWA
import Derived.Test.YtfkhljmiehdgmaaGreatDoorMhE
import Derived.Test.YtfkhljmiehdgmaaGreatDoorMhC
import Derived.DeepKeys3
import Derived.Test.YtfkhljmiehdgmaaGreatDoorMhF
import Derived.Test.YtfkhljmiehdgmaaGreatDoorMhL
import Derived.Test.YtfkhljmiehdgmaaGreatDoorMhG
import Derived.Test.YtfkhljmiehdgmaaGreatDoorMhH
import Derived.Test.YtfkhljmiehdgmaaGreatDoorMhO

/-
  A map of the call's own by its entries in their order: look-ups and stores, whatever its elements are.
-/
namespace Go.Proofs.YtfkhljmiehdgmaaGreatDoor
open Go.RowKit Go.Maps Go.MapKept Go.ChangeMaps

/-- block b is a map whose entries are, in the order in which they came, L -/
def MapAt (w : World) (b : Nat) (L : List (Value × Value)) : Prop := ∃ es clock, w.heap[b]? = some (.map es clock) ∧ es.toList.map (fun e => (e.key, e.val)) = L
/-- all keys are keys of type K, and no two are the same -/
structure KeysOk (P : Program) (K : TypeId) (L : List (Value × Value)) : Prop where
  key : ∀ p ∈ L, ∃ l, keyOf P K p.1 = some l
  one : ∀ (i j : Nat) (p q : Value × Value), L[i]? = some p → L[j]? = some q → p.1 = q.1 → i = j

theorem mapAt_made (w : World) : MapAt (w.alloc (.map #[] 0)) w.heap.size [] := ⟨#[], 0, heap_alloc_new w _, rfl⟩
theorem MapAt.lt {w : World} {b : Nat} {L : List (Value × Value)} (h : MapAt w b L) : b < w.heap.size := by
  obtain ⟨es, c, hb, _⟩ := h
  rcases Nat.lt_or_ge b w.heap.size with q | q
  · exact q
  · rw [Array.getElem?_eq_none q] at hb; cases hb
theorem MapAt.heap {w w' : World} {b : Nat} {L : List (Value × Value)} (h : MapAt w b L) (hw : w'.heap[b]? = w.heap[b]?) : MapAt w' b L := by
  obtain ⟨es, c, hb, hl⟩ := h
  exact ⟨es, c, hw.trans hb, hl⟩
theorem MapAt.kept {w w' : World} {b : Nat} {L : List (Value × Value)} {row : Option Nat} (h : MapAt w b L) (hg : w.grownBy w' row) (hne : some b ≠ row) : MapAt w' b L := h.heap (hg.block b h.lt hne)

section
variable {P : Program} {K t e : TypeId} {w : World} {b : Nat} {L : List (Value × Value)}

theorem mapFind (law : Keyed P K) (h : MapAt w b L) (hk : KeysOk P K L) {key : Value} {kl : Lit} (hkey : keyOf P K key = some kl) :
    ∃ es clock, w.heap[b]? = some (.map es clock) ∧ es.toList.map (fun e => (e.key, e.val)) = L ∧ (∀ W : World,
      (((Instr.findKey K key es.toList).run P W = .ok none W ∧ ∀ p ∈ L, p.1 ≠ key) ∨
      ∃ (j : Nat) (v : Value), (Instr.findKey K key es.toList).run P W = .ok (some (j, v)) W ∧ L[j]? = some (key, v) ∧ es[j]?.map (·.key) = some key)) := by
  obtain ⟨es, clock, hb, hl⟩ := h
  refine ⟨es, clock, hb, hl, fun W => ?_⟩
  have hks : ∀ x ∈ es.toList, ∃ l, keyOf P K x.key = some l := fun x hx => hk.key (x.key, x.val) (by rw [← hl]; exact List.mem_map.2 ⟨x, hx, rfl⟩)
  rcases law.find W hkey es.toList hks with ⟨h1, h2⟩ | ⟨j, e0, h1, h2, h3⟩
  · refine .inl ⟨h1, fun p hp => ?_⟩
    rw [← hl] at hp
    obtain ⟨x, hx, rfl⟩ := List.mem_map.1 hp
    exact h2 x hx
  · refine .inr ⟨j, e0.val, h1, ?_, ?_⟩
    · rw [← hl, List.getElem?_map, h2]; simp [h3]
    · rw [← Array.getElem?_toList, h2]; simp [h3]

theorem run_lookup_no (law : Keyed P K) (ht : P.underlying t = some (.map K e)) {z : Value} (hz : (zeroValue e).run P w = .ok z w) (h : MapAt w b L) (hk : KeysOk P K L) {key : Value} {kl : Lit} (hkey : keyOf P K key = some kl) (hno : ∀ p ∈ L, p.1 ≠ key) (c : Bool) :
    (Instr.lookup t (.map (some b)) key c).run P w = .ok (if c then .tuple #[z, .bool false] else z) w := by
  obtain ⟨es, clock, hb, hl, hf⟩ := mapFind law h hk hkey
  rcases hf w with ⟨h1, _⟩ | ⟨j, v, _, h2, _⟩
  · simp [Instr.lookup, run_underlying ht, MapKept.run_getObj_map hb, law.check w _ hkey, h1, hz, Result.andThen]
  · exact absurd rfl (hno _ (List.mem_of_getElem? h2))

theorem run_lookup_yes (law : Keyed P K) (ht : P.underlying t = some (.map K e)) (h : MapAt w b L) (hk : KeysOk P K L) {key : Value} {kl : Lit} (hkey : keyOf P K key = some kl) {v : Value} (hv : (key, v) ∈ L) (c : Bool) :
    (Instr.lookup t (.map (some b)) key c).run P w = .ok (if c then .tuple #[v, .bool true] else v) w := by
  obtain ⟨es, clock, hb, hl, hf⟩ := mapFind law h hk hkey
  rcases hf w with ⟨_, h1⟩ | ⟨j, u, h1, h2, _⟩
  · exact absurd rfl (h1 _ hv)
  · obtain ⟨i, hi, hiv⟩ := List.getElem_of_mem hv
    have e1 : i = j := hk.one i j (key, v) (key, u) (by rw [List.getElem?_eq_getElem hi, hiv]) h2 rfl
    subst e1
    rw [List.getElem?_eq_getElem hi, hiv] at h2
    have e2 : v = u := by simpa using h2
    subst e2
    simp [Instr.lookup, run_underlying ht, MapKept.run_getObj_map hb, law.check w _ hkey, h1, Result.andThen]

theorem run_update_no (law : Keyed P K) (ht : P.underlying t = some (.map K e)) (h : MapAt w b L) (hk : KeysOk P K L) {key val : Value} {kl : Lit} (hkey : keyOf P K key = some kl) (hno : ∀ p ∈ L, p.1 ≠ key) :
    ∃ w', (Instr.mapUpdate t (.map (some b)) key val).run P w = .ok () w' ∧ MapAt w' b (L ++ [(key, val)]) ∧ w.grownBy w' (some b) ∧ w'.heap.size = w.heap.size := by
  obtain ⟨es, clock, hb, hl, hf⟩ := mapFind law h hk hkey
  rcases hf w with ⟨h1, _⟩ | ⟨j, u, _, h2, _⟩
  · refine ⟨setBlock w b (.map (es.push ⟨key, val, clock⟩) (clock + 1)), ?_, ⟨_, _, heap_setBlock_same hb _, ?_⟩, ⟨rfl, rfl, rfl, by simp [setBlock], fun i _ hi => heap_setBlock_other hb _ (fun e => hi (by rw [e]))⟩, by simp [setBlock]⟩
    · simp [Instr.mapUpdate, run_underlying ht, MapKept.run_getObj_map hb, law.check w false hkey, h1, MapKept.run_setObj_map _ hb, Result.andThen, setBlock]
    · rw [Array.toList_push, List.map_append, hl]; rfl
  · exact absurd rfl (hno _ (List.mem_of_getElem? h2))

theorem run_update_yes (law : Keyed P K) (ht : P.underlying t = some (.map K e)) (h : MapAt w b L) (hk : KeysOk P K L) {key val v : Value} {kl : Lit} (hkey : keyOf P K key = some kl) (i : Nat) (hv : L[i]? = some (key, v)) :
    ∃ w', (Instr.mapUpdate t (.map (some b)) key val).run P w = .ok () w' ∧ MapAt w' b (L.set i (key, val)) ∧ w.grownBy w' (some b) ∧ w'.heap.size = w.heap.size := by
  obtain ⟨es, clock, hb, hl, hf⟩ := mapFind law h hk hkey
  rcases hf w with ⟨_, h1⟩ | ⟨j, u, h1, h2, h3⟩
  · exact absurd rfl (h1 _ (List.mem_of_getElem? hv))
  · have e1 : i = j := hk.one i j _ _ hv h2 rfl
    subst e1
    obtain ⟨e0, h4, h5⟩ := Option.map_eq_some_iff.1 h3
    refine ⟨setBlock w b (.map (es.modify i (fun e' => { e' with key := key, val := val })) clock), ?_, ⟨_, _, heap_setBlock_same hb _, ?_⟩, ⟨rfl, rfl, rfl, by simp [setBlock], fun i _ hi => heap_setBlock_other hb _ (fun e => hi (by rw [e]))⟩, by simp [setBlock]⟩
    · simp [Instr.mapUpdate, run_underlying ht, MapKept.run_getObj_map hb, law.check w false hkey, h1, h4, h5, law.stays w hkey, MapKept.run_setObj_map _ hb, Result.andThen, setBlock]
    · rw [Array.toList_modify, modify_eq_set _ _ _ _ (by rw [Array.getElem?_toList]; exact h4), List.map_set, hl]
end

/-- a look-up at the operation -/
theorem wpList_lookup_run {P : Program} (w : World) {ops : Array Oper} {rest : List Oper} {o : Oper} {a : Act} {Q : Exit → Act → World → Prop}
    (hg : o.guard = none) (m x : Operand) (t : TypeId) (c : Bool) (hop : o.op = Op.lookup t m x c) (mv key v : Value) (hm : a.eval m = mv) (hx : a.eval x = key)
    (hrun : (Instr.lookup t mv key c).run P w = .ok v w) (hK : wpList P ops Q rest (a.put o.dst v) w) :
    wpList P ops Q (o :: rest) a w := by
  refine wpList_plain hg fun K' hK' => ?_
  unfold Oper.wp
  simp [execOp, hop, hm, hx, hrun, Result.andThen]
  exact hK' _ _ hK

/-- a store at the operation -/
theorem wpList_update_run {P : Program} (w : World) {ops : Array Oper} {rest : List Oper} {o : Oper} {a : Act} {Q : Exit → Act → World → Prop}
    (hg : o.guard = none) (m x v : Operand) (t : TypeId) (hop : o.op = Op.mapUpdate t m x v) (mv key val : Value) (hm : a.eval m = mv) (hx : a.eval x = key) (hv : a.eval v = val) (w' : World)
    (hrun : (Instr.mapUpdate t mv key val).run P w = .ok () w') (hK : wpList P ops Q rest (a.put o.dst undef) w') :
    wpList P ops Q (o :: rest) a w := by
  refine wpList_plain hg fun K' hK' => ?_
  unfold Oper.wp
  simp [execOp, hop, hm, hx, hv, hrun, Result.andThen]
  exact hK' _ _ hK

end Go.Proofs.YtfkhljmiehdgmaaGreatDoor

/-
  The search's maps: keys that are structs.
-/
namespace Go.Proofs.YtfkhljmiehdgmaaGreatDoor
open Go.RowKit Go.Maps

def enVal (e : Pl.En) : Value := .agg (#[.int .i64 e.1] ++ (sxCells e.2))
theorem entry_keyed : Keyed Tryz.prog 180 := Keyed.of_law (deep_law (m := 4) (by decide) (by kernel_rfl) (by kernel_rfl) (by kernel_rfl))
theorem name_keyed : Keyed Tryz.prog 9 := string_keyed Tryz.underlying9
theorem kl_int (d : Nat) (n : Int) (h : (Lit.int .i64 n).wf = true) : Tryz.prog.keyLits (d + 1) 3 [.int .i64 n] = some [.int .i64 n] := by
  unfold Program.keyLits; simp [Tryz.underlying3, h]
theorem kl_mode (d : Nat) (n : Int) (h : (Lit.int .u8 n).wf = true) : Tryz.prog.keyLits (d + 1) 158 [.int .u8 n] = some [.int .u8 n] := by
  unfold Program.keyLits; simp [Tryz.underlying158, h]
theorem kl_bool (d : Nat) (b : Bool) : Tryz.prog.keyLits (d + 1) 4 [.bool b] = some [.bool b] := by
  unfold Program.keyLits; simp [Tryz.underlying4]
theorem kl_str (d : Nat) (s : ByteArray) (h : s.size ≤ maxLen) : Tryz.prog.keyLits (d + 1) 9 [.string s] = some [.string s.data.toList] := by
  unfold Program.keyLits; simp [Tryz.underlying9, h]
theorem cells_int : Tryz.prog.cellsOf 3 = 1 := by kernel_rfl
theorem cells_mode : Tryz.prog.cellsOf 158 = 1 := by kernel_rfl
theorem cells_bool : Tryz.prog.cellsOf 4 = 1 := by kernel_rfl
theorem cells_str : Tryz.prog.cellsOf 9 = 1 := by kernel_rfl
theorem cells_marks : Tryz.prog.cellsOf 160 = 5 := by kernel_rfl
theorem cells_state : Tryz.prog.cellsOf 162 = 10 := by kernel_rfl
theorem cells_entry : Tryz.prog.cellsOf 180 = 11 := by kernel_rfl
theorem mk_lits (d : Nat) (r e : Bool) (a b c : Int) (ha : (Lit.int .i64 a).wf = true) (hb : (Lit.int .i64 b).wf = true) (hc : (Lit.int .i64 c).wf = true) : ∃ l, Tryz.prog.keyLits (d + 2) 160 [.bool r, .bool e, .int .i64 a, .int .i64 b, .int .i64 c] = some l := by
  unfold Program.keyLits
  simp only [Tryz.underlying160]
  simp [cells_marks, cells_int, cells_bool, kl_int, kl_bool, ha, hb, hc]
theorem st_lits (d : Nat) (m : Int) (n e : ByteArray) (k rd : Int) (r es : Bool) (a b c : Int) (hm : (Lit.int .u8 m).wf = true) (hn : n.size ≤ maxLen) (he : e.size ≤ maxLen) (hk : (Lit.int .i64 k).wf = true) (hr : (Lit.int .i64 rd).wf = true) (ha : (Lit.int .i64 a).wf = true) (hb : (Lit.int .i64 b).wf = true) (hc : (Lit.int .i64 c).wf = true) :
    ∃ l, Tryz.prog.keyLits (d + 3) 162 [.int .u8 m, .string n, .string e, .int .i64 k, .int .i64 rd, .bool r, .bool es, .int .i64 a, .int .i64 b, .int .i64 c] = some l := by
  obtain ⟨l, hl⟩ := mk_lits d r es a b c ha hb hc
  unfold Program.keyLits
  simp only [Tryz.underlying162]
  simp [cells_state, cells_marks, cells_int, cells_mode, cells_str, kl_int, kl_mode, kl_str, hm, hn, he, hk, hr, hl]
theorem sx_fits {x : Pl.Sx} (h : Pl.SxOk x) : (Lit.int .u8 x.st.mode).wf = true ∧ x.st.name.length ≤ 9 ∧ x.st.elem.length ≤ 8 ∧ (Lit.int .i64 x.st.kind).wf = true ∧ (Lit.int .i64 (x.st.read : Int)).wf = true ∧ (Lit.int .i64 x.ma.hex).wf = true ∧ (Lit.int .i64 x.ma.pct).wf = true := by
  have h1 := h.st.hi
  have h2 := h.st.name
  have h3 := h.st.wrap
  have h4 := h.st.read
  have h5 := h.ma.hex
  have h6 := h.ma.pct
  have he : x.st.elem.length ≤ 8 := by
    rcases h.st.elem with e | e | e | e | e <;> rw [e] <;> decide
  have hr : x.st.read ≤ 10 := by
    have : x.st.ending.length = x.st.elem.length + 2 := rfl
    omega
  exact ⟨WalkArith.wf_u8 (by omega), h2, he, WalkArith.wf_i64 (by omega), WalkArith.wf_i64 (by omega), WalkArith.wf_i64 (by omega), WalkArith.wf_i64 (by omega)⟩
theorem en_key {e : Pl.En} (h : Pl.SxOk e.2) (hf : 0 ≤ e.2.ma.far ∧ e.2.ma.far ≤ 3) (hi : e.1 ≤ 6) : ∃ l, keyOf Tryz.prog 180 (enVal e) = some l := by
  obtain ⟨h1, h2, h3, h4, h5, h6, h7⟩ := sx_fits h
  obtain ⟨d, hs⟩ : ∃ d, Tryz.prog.types.size + 1 = (d + 3) + 1 := ⟨Tryz.prog.types.size - 3, by
    have : 4 ≤ Tryz.prog.types.size := by decide +kernel
    omega⟩
  obtain ⟨l, hl⟩ := st_lits d e.2.st.mode ⟨e.2.st.name.toArray⟩ ⟨e.2.st.elem.toArray⟩ e.2.st.kind e.2.st.read e.2.ma.ref e.2.st.esc e.2.ma.hex e.2.ma.pct e.2.ma.far h1 (by simp [ByteArray.size]; unfold maxLen; omega) (by simp [ByteArray.size]; unfold maxLen; omega) h4 h5 h6 h7 (WalkArith.wf_i64 (by omega))
  have hk : Tryz.prog.keyType 180 = true := by kernel_rfl
  have hfm : (enVal e).formed Tryz.prog 180 = true := by
    unfold enVal Value.formed
    simp [Tryz.underlying180, cells_entry, sxCells]
  unfold keyOf
  simp only [Tryz.underlying180]
  rw [hk, hfm, hs]
  unfold Program.keyLits
  simp only [Tryz.underlying180]
  have hi64 : (Lit.int .i64 (e.1 : Int)).wf = true := WalkArith.wf_i64 (by omega)
  unfold enVal sxCells bs
  simp [Value.cells, cells_entry, cells_state, cells_int, kl_int, hi64, hl]

end Go.Proofs.YtfkhljmiehdgmaaGreatDoor

/-
  The search in memory: its sources, its maps, what is known.
-/
namespace Go.Proofs.YtfkhljmiehdgmaaGreatDoor
open Go.RowKit Go.Maps

theorem enVal_inj {a b : Pl.En} (h : enVal a = enVal b) : a = b := by
  obtain ⟨i, ⟨⟨m, n, e, k, r, es⟩, ⟨rf, hx, pc, fr⟩⟩⟩ := a
  obtain ⟨i', ⟨⟨m', n', e', k', r', es'⟩, ⟨rf', hx', pc', fr'⟩⟩⟩ := b
  unfold enVal sxCells bs at h
  simp only [List.append_toArray, List.cons_append, List.nil_append, Value.agg.injEq, Array.mk.injEq, List.cons.injEq, Value.int.injEq, true_and, Value.string.injEq, Value.bool.injEq, and_true, ByteArray.mk.injEq] at h
  obtain ⟨h1, h2, h3, h4, h5, h6, h7, h8, h9, h10, h11⟩ := h
  have e1 : i = i' := by omega
  have e2 : m = m' := by omega
  have e6 : r = r' := by omega
  subst e1 e2 e6 h3 h4 h5 h7 h8 h9 h10 h11
  rfl

/-- where the search and what hangs on it lie -/
structure Fix where
  g : Nat
  bS : Nat
  bp : Nat
  be : Nat
  bn : Nat
  pv : Nat → Value
def srCells (F : Fix) (n : Nat) (vv : Value) (f : Pl.Ft) : Array Value := #[.slice (some ⟨F.bS, 0, none⟩) n n, .map (some F.bp), .map (some F.be), .map (some F.bn), vv, .int .i64 f.code, .int .i64 f.kind, bs f.place, .int .i64 f.pos]
/-- the sources in memory -/
structure SrcAt (w : World) (B : Nat) (F : Fix) (S : List Pl.Src) : Prop where
  blk : ∃ cs fz, w.heap[F.bS]? = some (.cells cs 173 fz)
  name : ∀ i s, S[i]? = some s → w.cell? ⟨F.bS, i * 2, none⟩ = some (bs s.name)
  slice : ∀ i s, S[i]? = some s → w.cell? ⟨F.bS, i * 2 + 1, none⟩ = some (F.pv i)
  row : ∀ i s, S[i]? = some s → w.ownsRow B 229 4 (F.pv i) s.parts.length (ptCells s.parts)
def placesL : Nat → List Pl.Src → List (Value × Value)
  | _, [] => []
  | i, s :: l => (bs s.name, .int .i64 i) :: placesL (i + 1) l
def endsL (l : List (Pl.En × Pl.Sx)) : List (Value × Value) := l.map fun p => (enVal p.1, sxVal p.2)
/-- the search in memory, but for its visits -/
structure SeAt (w : World) (B : Nat) (F : Fix) (S : List Pl.Src) (vv : Value) (s : Pl.Sr) : Prop where
  blk : w.heap[F.g]? = some (.cells (srCells F S.length vv s.fault) 178 (0, 0))
  src : SrcAt w B F S
  places : MapAt w F.bp (placesL 1 (S.drop 1))
  ends : MapAt w F.be (endsL s.ends)
  le : B ≤ F.g ∧ B ≤ F.be
  apart : F.g ≠ F.be ∧ F.bp ≠ F.be
/-- how the world may turn while ends are looked for -/
structure Cue (B : Nat) (F : Fix) (w w' : World) : Prop where
  below : Below B w w'
  keep : ∀ k, k < w.heap.size → k ≠ F.g → k ≠ F.be → w'.heap[k]? = w.heap[k]?
theorem Cue.refl (B : Nat) (F : Fix) (w : World) : Cue B F w w := ⟨Below.refl _ _, fun _ _ _ _ => rfl⟩
theorem Cue.trans {B : Nat} {F : Fix} {a b c : World} (h : Cue B F a b) (k : Cue B F b c) : Cue B F a c :=
  ⟨h.below.trans k.below, fun i hi h1 h2 => (k.keep i (Nat.lt_of_lt_of_le hi h.below.size) h1 h2).trans (h.keep i hi h1 h2)⟩
theorem Cue.of_below {B : Nat} {F : Fix} {w w' : World} (h : Below w.heap.size w w') (hB : B ≤ w.heap.size) : Cue B F w w' :=
  ⟨h.mono hB, fun k hk _ _ => h.block k hk⟩

theorem SrcAt.kept {w w' : World} {B : Nat} {F : Fix} {S : List Pl.Src} (h : SrcAt w B F S) (hb : w'.heap[F.bS]? = w.heap[F.bS]?) (hr : ∀ i s k, S[i]? = some s → (F.pv i).ownBlock = some k → w'.heap[k]? = w.heap[k]?) : SrcAt w' B F S := by
  refine ⟨?_, fun i s hs => (World.cell?_of_block hb).trans (h.name i s hs), fun i s hs => (World.cell?_of_block hb).trans (h.slice i s hs), fun i s hs => ownsRow_same (h.row i s hs) fun k hk => hr i s k hs hk⟩
  obtain ⟨cs, fz, hc⟩ := h.blk
  exact ⟨cs, fz, hb.trans hc⟩
theorem ty_search_source : (178 : TypeId) ≠ 173 := by decide
theorem ty_search_part : (178 : TypeId) ≠ 229 := by decide
theorem map_not_cells {w : World} {k b : Nat} {L : List (Value × Value)} {cs : Array Value} {t : TypeId} {fz : Nat × Nat} (h : w.heap[k]? = some (.cells cs t fz)) (hm : MapAt w b L) : k ≠ b := by
  rintro rfl
  obtain ⟨es, c, hb, _⟩ := hm
  rw [h] at hb; cases hb
/-- the sources stand still -/
theorem SeAt.srcKept {w w' : World} {B : Nat} {F : Fix} {S : List Pl.Src} {vv : Value} {s : Pl.Sr} (h : SeAt w B F S vv s) (hk : ∀ k, k < w.heap.size → k ≠ F.g → k ≠ F.be → w'.heap[k]? = w.heap[k]?) : SrcAt w' B F S := by
  obtain ⟨cs, fz, hc⟩ := h.src.blk
  refine h.src.kept (hk _ (Array.getElem?_eq_some_iff.1 hc).1 (fun e => ty_apart h.blk hc ty_search_source e.symm) (map_not_cells hc h.ends)) fun i s' k hs hv => ?_
  obtain ⟨cur, hc'⟩ := ownsRow_ty (h.src.row i s' hs) k hv
  exact hk k (Array.getElem?_eq_some_iff.1 hc').1 (fun e => ty_apart h.blk hc' ty_search_part e.symm) (map_not_cells hc' h.ends)
theorem SeAt.below {w w' : World} {B : Nat} {F : Fix} {S : List Pl.Src} {vv : Value} {s : Pl.Sr} (h : SeAt w B F S vv s) (hb : Below w.heap.size w w') : SeAt w' B F S vv s :=
  ⟨(hb.block _ (Array.getElem?_eq_some_iff.1 h.blk).1).trans h.blk, h.srcKept fun k hk _ _ => hb.block k hk, h.places.heap (hb.block _ h.places.lt), h.ends.heap (hb.block _ h.ends.lt), h.le, h.apart⟩
theorem SeAt.alloc {w : World} {B : Nat} {F : Fix} {S : List Pl.Src} {vv : Value} {s : Pl.Sr} (h : SeAt w B F S vv s) (o : Obj) : SeAt (w.alloc o) B F S vv s := h.below ((Below.refl _ _).alloc (Nat.le_refl _) o)
theorem SeAt.drewN {w : World} {B : Nat} {F : Fix} {S : List Pl.Src} {vv : Value} {s : Pl.Sr} (h : SeAt w B F S vv s) (n : Nat) : SeAt (w.drewN n) B F S vv s := ⟨h.blk, h.src.kept rfl fun _ _ _ _ _ => rfl, h.places, h.ends, h.le, h.apart⟩
/-- a cell of a block that is none of the search's is written -/
theorem SeAt.other {w : World} {B : Nat} {F : Fix} {S : List Pl.Src} {vv : Value} {s : Pl.Sr} (h : SeAt w B F S vv s) {k : Nat} {cs : Array Value} {t : TypeId} {fz : Nat × Nat} (hk : w.heap[k]? = some (.cells cs t fz)) (h1 : t ≠ 178) (h2 : t ≠ 173) (h3 : t ≠ 229) (j : Nat) (v : Value) : SeAt (w.setCell ⟨k, j, none⟩ v) B F S vv s := by
  have hset : ∀ i, i ≠ k → (w.setCell ⟨k, j, none⟩ v).heap[i]? = w.heap[i]? := fun i hi => Below.heap_setCell _ _ _ _ hi
  obtain ⟨cs', fz', hc⟩ := h.src.blk
  refine ⟨(hset _ (ty_apart h.blk hk h1.symm)).trans h.blk, h.src.kept (hset _ (ty_apart hc hk h2.symm)) (fun i s' q hs hv => ?_), h.places.heap (hset _ (map_not_cells hk h.places).symm), h.ends.heap (hset _ (map_not_cells hk h.ends).symm), h.le, h.apart⟩
  obtain ⟨cur, hc'⟩ := ownsRow_ty (h.src.row i s' hs) q hv
  exact hset q (ty_apart hc' hk h3.symm)
/-- the search's cells -/
theorem SeAt.cell {w : World} {B : Nat} {F : Fix} {S : List Pl.Src} {vv : Value} {s : Pl.Sr} (h : SeAt w B F S vv s) : ∀ (j : Nat) (v : Value), (srCells F S.length vv s.fault)[j]? = some v → w.cell? ⟨F.g, j, none⟩ = some v := fun j v hv => cells_at_block h.blk j v (by simpa using hv)
theorem SeAt.thaw {w : World} {B : Nat} {F : Fix} {S : List Pl.Src} {vv : Value} {s : Pl.Sr} (h : SeAt w B F S vv s) (j : Nat) : w.frozen? ⟨F.g, j, none⟩ = false := by simp [World.frozen?, h.blk]
/-- the map of ends has turned -/
theorem SeAt.put {w w' : World} {B : Nat} {F : Fix} {S : List Pl.Src} {vv : Value} {s : Pl.Sr} (h : SeAt w B F S vv s) {l : List (Pl.En × Pl.Sx)} (hm : MapAt w' F.be (endsL l)) (hg : w.grownBy w' (some F.be)) : SeAt w' B F S vv { s with ends := l } := by
  have hk : ∀ k, k < w.heap.size → k ≠ F.be → w'.heap[k]? = w.heap[k]? := fun k hk hne => hg.block k hk (fun e => hne (Option.some.inj e))
  exact ⟨(hk _ (Array.getElem?_eq_some_iff.1 h.blk).1 h.apart.1).trans h.blk, h.srcKept fun k hk1 _ h3 => hk k hk1 h3, h.places.heap (hk _ h.places.lt h.apart.2), hm, h.le, h.apart⟩
theorem Cue.put {w w' : World} {B : Nat} {F : Fix} (hB : B ≤ F.be) (hlt : F.be < w.heap.size) (hg : w.grownBy w' (some F.be)) : Cue B F w w' :=
  ⟨⟨hg.os, hg.tape, hg.output, hg.size, fun k hk => hg.block k (by omega) (fun x => by have := Option.some.inj x; omega)⟩, fun k hk _ h2 => hg.block k hk (fun e => h2 (Option.some.inj e))⟩

/- look-ups -/
theorem placesL_find (n : List UInt8) : ∀ (l : List Pl.Src) (i : Nat), (Pl.placeGo n i l = 0 → 1 ≤ i → ∀ p ∈ placesL i l, p.1 ≠ bs n) ∧ (Pl.placeGo n i l ≠ 0 → (bs n, Value.int .i64 (Pl.placeGo n i l)) ∈ placesL i l)
  | [], i => ⟨fun _ _ p hp => (by cases hp), fun h => absurd rfl h⟩
  | s :: l, i => by
    have ih := placesL_find n l (i + 1)
    unfold Pl.placeGo placesL
    by_cases h : s.name = n
    · rw [if_pos h]
      exact ⟨fun h1 h2 => by omega, fun _ => by rw [h]; simp⟩
    · rw [if_neg h]
      refine ⟨fun h1 h2 p hp => ?_, fun h1 => List.mem_cons_of_mem _ (ih.2 h1)⟩
      rcases List.mem_cons.1 hp with rfl | hp
      · intro e
        unfold bs at e
        injection e with e
        injection e with e
        exact h (Array.toList_inj.2 e)
      · exact ih.1 h1 (by omega) p hp

theorem placesL_key (l : List Pl.Src) : ∀ (i : Nat) (p : Value × Value), p ∈ placesL i l → ∃ s ∈ l, p.1 = bs s.name := by
  induction l with
  | nil => intro i p hp; cases hp
  | cons s l ih =>
    intro i p hp
    rcases List.mem_cons.1 hp with rfl | hp
    · exact ⟨s, by simp, rfl⟩
    · obtain ⟨s', h1, h2⟩ := ih (i + 1) p hp
      exact ⟨s', List.mem_cons_of_mem _ h1, h2⟩
theorem placesL_at (l : List Pl.Src) : ∀ (i k : Nat) (p : Value × Value), (placesL i l)[k]? = some p → ∃ s, l[k]? = some s ∧ p.1 = bs s.name := by
  induction l with
  | nil => intro i k p hp; simp [placesL] at hp
  | cons s l ih =>
    intro i k p hp
    cases k with
    | zero => simp only [placesL, List.getElem?_cons_zero, Option.some.injEq] at hp; subst hp; exact ⟨s, rfl, rfl⟩
    | succ k =>
      obtain ⟨s', h1, h2⟩ := ih (i + 1) k p (by simpa [placesL] using hp)
      exact ⟨s', by simpa using h1, h2⟩
/-- what is asked of the sources: names of their own, and short -/
structure SrcsOk (S : List Pl.Src) : Prop where
  few : 1 ≤ S.length ∧ S.length ≤ 7
  one : ∀ (i j : Nat) (a b : Pl.Src), 1 ≤ i → 1 ≤ j → S[i]? = some a → S[j]? = some b → a.name = b.name → i = j
  short : ∀ (i : Nat) (a : Pl.Src), S[i]? = some a → a.name.length ≤ 100000
  parts : ∀ (i : Nat) (a : Pl.Src), S[i]? = some a → a.parts.length ≤ 2000 ∧ ∀ p ∈ a.parts, p.text.length ≤ 2000 ∧ p.pos ≤ 2000 ∧ p.mate ≤ 2000
  wf : ∀ (i : Nat) (a : Pl.Src), S[i]? = some a → Pl.Wf 0 a.parts
theorem bs_inj {a b : List UInt8} (h : bs a = bs b) : a = b := by
  unfold bs at h
  injection h with h
  injection h with h
  exact Array.toList_inj.2 h
theorem str_key (s : ByteArray) (h : s.size ≤ maxLen) : ∃ l, keyOf Tryz.prog 9 (.string s) = some l := by
  unfold keyOf mapKey
  simp [Tryz.underlying9, h]
theorem bs_size (l : List UInt8) : (⟨l.toArray⟩ : ByteArray).size = l.length := by simp [ByteArray.size]
theorem places_ok {S : List Pl.Src} (h : SrcsOk S) : KeysOk Tryz.prog 9 (placesL 1 (S.drop 1)) := by
  refine ⟨fun p hp => ?_, fun i j p q hi hj hpq => ?_⟩
  · obtain ⟨s, hs, e⟩ := placesL_key _ _ _ hp
    obtain ⟨k, hk⟩ := List.getElem?_of_mem (List.mem_of_mem_drop hs)
    rw [e]
    exact str_key _ (by rw [bs_size]; have := h.short k s hk; unfold maxLen; omega)
  · obtain ⟨a, h1, h2⟩ := placesL_at _ _ _ _ hi
    obtain ⟨b, h3, h4⟩ := placesL_at _ _ _ _ hj
    rw [List.getElem?_drop] at h1 h3
    have := h.one (1 + i) (1 + j) a b (by omega) (by omega) h1 h3 (bs_inj (by rw [← h2, ← h4, hpq]))
    omega
theorem int_zero (w : World) : (zeroValue 3).run Tryz.prog w = .ok (.int .i64 0) w := by
  have e : Tryz.t3.zero = some (.int .i64 0) := by kernel_rfl
  simp [zeroValue, go_sem, e]
theorem SeAt.place {w : World} {B : Nat} {F : Fix} {S : List Pl.Src} {vv : Value} {s : Pl.Sr} (h : SeAt w B F S vv s) (hS : SrcsOk S) (n : List UInt8) (hn : n.length ≤ 100000) : (Instr.lookup 174 (.map (some F.bp)) (.string ⟨n.toArray⟩) false).run Tryz.prog w = .ok (.int .i64 (Pl.placeOf S n : Nat)) w := by
  obtain ⟨kl, hkl⟩ := str_key ⟨n.toArray⟩ (by rw [bs_size]; unfold maxLen; omega)
  obtain ⟨f1, f2⟩ := placesL_find n (S.drop 1) 1
  by_cases h0 : Pl.placeOf S n = 0
  · rw [h0]
    exact run_lookup_no name_keyed Tryz.underlying174 (int_zero w) h.places (places_ok hS) hkl (f1 h0 (Nat.le_refl _)) false
  · exact run_lookup_yes name_keyed Tryz.underlying174 h.places (places_ok hS) hkl (f2 h0) false
theorem endsL_at {l : List (Pl.En × Pl.Sx)} {i : Nat} {p : Value × Value} (h : (endsL l)[i]? = some p) : ∃ q, l[i]? = some q ∧ p = (enVal q.1, sxVal q.2) := by
  unfold endsL at h
  rw [List.getElem?_map] at h
  obtain ⟨q, h1, h2⟩ := Option.map_eq_some_iff.1 h
  exact ⟨q, h1, h2.symm⟩
theorem ends_keys {n : Nat} {l : List (Pl.En × Pl.Sx)} (h : Pl.EndsOk n l) (hn : n ≤ 7) : KeysOk Tryz.prog 180 (endsL l) := by
  refine ⟨fun p hp => ?_, fun i j p q hi hj hpq => ?_⟩
  · obtain ⟨i, hi⟩ := List.getElem?_of_mem hp
    obtain ⟨r, h1, rfl⟩ := endsL_at hi
    have := h.key r (List.mem_of_getElem? h1)
    exact en_key this.1.ok this.1.far (by omega)
  · obtain ⟨a, h1, rfl⟩ := endsL_at hi
    obtain ⟨b, h2, rfl⟩ := endsL_at hj
    exact h.one i j a b h1 h2 (enVal_inj hpq)
theorem state_zero (w : World) : (zeroValue 162).run Tryz.prog w = .ok (sxVal Pl.Sx.none) w := by
  have e : sxVal Pl.Sx.none = .agg #[.int .u8 0, .string ⟨#[]⟩, .string ⟨#[]⟩, .int .i64 0, .int .i64 0, .bool false, .bool false, .int .i64 0, .int .i64 0, .int .i64 0] := rfl
  rw [e]
  have e : Tryz.t162.zero = some (.agg #[.int .u8 0, .string ⟨#[]⟩, .string ⟨#[]⟩, .int .i64 0, .int .i64 0, .bool false, .bool false, .int .i64 0, .int .i64 0, .int .i64 0]) := by kernel_rfl
  simp [zeroValue, go_sem, e]
theorem ends_none {l : List (Pl.En × Pl.Sx)} {e : Pl.En} (h : Pl.getKey l e = none) : ∀ p ∈ endsL l, p.1 ≠ enVal e := by
  intro p hp
  unfold endsL at hp
  obtain ⟨q, h1, rfl⟩ := List.mem_map.1 hp
  exact fun x => Pl.getKey_none h q h1 (enVal_inj x)
theorem ends_some {l : List (Pl.En × Pl.Sx)} {e : Pl.En} {x : Pl.Sx} (h : Pl.getKey l e = some x) : (enVal e, sxVal x) ∈ endsL l := List.mem_map.2 ⟨(e, x), Pl.getKey_mem h, rfl⟩
theorem SeAt.look {w : World} {B : Nat} {F : Fix} {S : List Pl.Src} {vv : Value} {s : Pl.Sr} (h : SeAt w B F S vv s) (hS : SrcsOk S) (ho : Pl.EndsOk S.length s.ends) (e : Pl.En) (he : Pl.SxFit e.2) (hi : e.1 ≤ 6) (c : Bool) :
    (Instr.lookup 175 (.map (some F.be)) (enVal e) c).run Tryz.prog w = .ok (if c then .tuple #[sxVal ((Pl.getKey s.ends e).getD Pl.Sx.none), .bool (Pl.getKey s.ends e).isSome] else sxVal ((Pl.getKey s.ends e).getD Pl.Sx.none)) w := by
  obtain ⟨kl, hkl⟩ := en_key he.ok he.far hi
  cases hg : Pl.getKey s.ends e with
  | none => exact run_lookup_no entry_keyed Tryz.underlying175 (state_zero w) h.ends (ends_keys ho hS.few.2) hkl (ends_none hg) c
  | some x => exact run_lookup_yes entry_keyed Tryz.underlying175 h.ends (ends_keys ho hS.few.2) hkl (ends_some hg) c
theorem SeAt.store {w : World} {B : Nat} {F : Fix} {S : List Pl.Src} {vv : Value} {s : Pl.Sr} (h : SeAt w B F S vv s) (hS : SrcsOk S) (ho : Pl.EndsOk S.length s.ends) (e : Pl.En) (he : Pl.SxFit e.2) (hi : e.1 ≤ 6) (x : Pl.Sx) :
    ∃ w', (Instr.mapUpdate 175 (.map (some F.be)) (enVal e) (sxVal x)).run Tryz.prog w = .ok () w' ∧ SeAt w' B F S vv { s with ends := Pl.putKey s.ends e x } ∧ Cue B F w w' ∧ w'.heap.size = w.heap.size := by
  obtain ⟨kl, hkl⟩ := en_key he.ok he.far hi
  cases hg : Pl.getKey s.ends e with
  | none =>
    obtain ⟨w', h1, h2, h3, h4⟩ := run_update_no (val := sxVal x) entry_keyed Tryz.underlying175 h.ends (ends_keys ho hS.few.2) hkl (ends_none hg)
    refine ⟨w', h1, h.put ?_ h3, Cue.put h.le.2 h.ends.lt h3, h4⟩
    rw [Pl.putKey_new hg]
    unfold endsL at h2 ⊢
    rw [List.map_append]
    exact h2
  | some y =>
    obtain ⟨i, i1, i2⟩ := Pl.putKey_old hg x
    obtain ⟨w', h1, h2, h3, h4⟩ := run_update_yes (val := sxVal x) (v := sxVal y) entry_keyed Tryz.underlying175 h.ends (ends_keys ho hS.few.2) hkl i (by unfold endsL; rw [List.getElem?_map, i1]; rfl)
    refine ⟨w', h1, h.put ?_ h3, Cue.put h.le.2 h.ends.lt h3, h4⟩
    rw [i2]
    unfold endsL at h2 ⊢
    rw [List.map_set]
    exact h2

end Go.Proofs.YtfkhljmiehdgmaaGreatDoor

/-
  The search's walk through a text.
-/
namespace Go.Proofs.YtfkhljmiehdgmaaGreatDoor
open Go.RowKit

def TabB (B : Nat) (w : World) : Prop := PTabs w ∧ ∃ w0, PTabs w0 ∧ w0.heap.size ≤ B
theorem TabB.kept {B : Nat} {w w' : World} (h : TabB B w) (hb : Below B w w') : TabB B w' := by
  obtain ⟨h1, w0, h2, h3⟩ := h
  exact ⟨h1.kept' h2 (hb.mono h3), w0, h2, h3⟩
/-- what is asked of the state behind a byte -/
def BehindC : Prop := ∀ (x : Pl.Sx) (b : UInt8) (w : World), PTabs w → Pl.SxOk x →
    Calls Tryz.prog 63 #[sxVal x, .int .u8 b.toNat] w fun e w' => e = .returned (sxVal (x.behind b)) ∧ Below w.heap.size w w'
/-- what is asked of what is behind a partial -/
def BehC (S : List Pl.Src) (k : Nat) : Prop := ∀ (w : World) (B : Nat) (F : Fix) (vv : Value) (s : Pl.Sr) (n : List UInt8) (x : Pl.Sx), SeAt w B F S vv s → Pl.EndsOk S.length s.ends → 257 ≤ s.ends.length + k → Pl.SxFit x → n.length ≤ 2000 → TabB B w →
    Calls Tryz.prog 156 #[.pointer (some ⟨F.g, 0, none⟩), .string ⟨n.toArray⟩, sxVal x] w fun e w' => e = .returned (sxVal (Pl.behV S k s n x).2) ∧ SeAt w' B F S vv (Pl.behV S k s n x).1 ∧ Cue B F w w'
def enCells (e : Pl.En) : Array Value := #[.int .i64 e.1, .int .u8 (e.2.st.mode : Int), bs e.2.st.name, bs e.2.st.elem, .int .i64 e.2.st.kind, .int .i64 (e.2.st.read : Int), .bool e.2.ma.ref, .bool e.2.st.esc, .int .i64 e.2.ma.hex, .int .i64 e.2.ma.pct, .int .i64 e.2.ma.far]
theorem enVal_cells (e : Pl.En) : enVal e = .agg (enCells e) := rfl
/-- a state in a block of its own -/
def StIn (w : World) (G : Nat) (x : Pl.Sx) : Prop := w.heap[G]? = some (.cells (sxCells x) 162 (0, 0))
theorem StIn.at' {w : World} {G : Nat} {x : Pl.Sx} (h : StIn w G x) : SxAt w G x := by
  have c := cells_at_block h
  exact ⟨c 0 _ rfl, c 1 _ rfl, c 2 _ rfl, c 3 _ rfl, c 4 _ rfl, c 5 _ rfl, c 6 _ rfl, c 7 _ rfl, c 8 _ rfl, c 9 _ rfl⟩
theorem StIn.slot {w : World} {G : Nat} {x : Pl.Sx} (h : StIn w G x) : SlotN 10 w G := ⟨_, _, h, rfl⟩
theorem StIn.lt {w : World} {G : Nat} {x : Pl.Sx} (h : StIn w G x) : G < w.heap.size := (Array.getElem?_eq_some_iff.1 h).1
theorem StIn.below {w w' : World} {G : Nat} {x : Pl.Sx} (h : StIn w G x) (hb : Below w.heap.size w w') : StIn w' G x := (hb.block _ h.lt).trans h
theorem setFrom_heap {g : Nat} {t : TypeId} : ∀ (l : List Value) (w : World) (k : Nat) (pre old : List Value), w.heap[g]? = some (.cells (pre ++ old).toArray t (0, 0)) → pre.length = k → old.length = l.length → (setFrom w g k l).heap[g]? = some (.cells (pre ++ l).toArray t (0, 0))
  | [], w, k, pre, old, h, _, ho => by
    have : old = [] := List.length_eq_zero_iff.1 ho
    subst this
    exact h
  | v :: l, w, k, pre, old, h, hk, ho => by
    cases old with
    | nil => simp at ho
    | cons u old =>
      show (setFrom (w.setCell ⟨g, k, none⟩ v) g (k + 1) l).heap[g]? = _
      have h1 := heap_setCell_same w g k _ t v h
      have e : (pre ++ u :: old).toArray.setIfInBounds k v = ((pre ++ [v]) ++ old).toArray := by
        rw [List.setIfInBounds_toArray, List.set_append_right _ _ (by omega), hk, Nat.sub_self]
        simp
      rw [e] at h1
      have := setFrom_heap l _ (k + 1) (pre ++ [v]) old h1 (by simp [hk]) (by simpa using ho)
      rw [this]
      simp
theorem StIn.set {w : World} {G : Nat} {x : Pl.Sx} (h : StIn w G x) (y : Pl.Sx) : StIn (set10 w G (.int .u8 (y.st.mode : Int)) (.string ⟨y.st.name.toArray⟩) (.string ⟨y.st.elem.toArray⟩) (.int .i64 y.st.kind) (.int .i64 (y.st.read : Int)) (.bool y.ma.ref) (.bool y.st.esc) (.int .i64 y.ma.hex) (.int .i64 y.ma.pct) (.int .i64 y.ma.far)) G y := by
  unfold StIn at h ⊢
  rw [set10_eq]
  exact setFrom_heap (t := 162) _ w 0 [] (sxCells x).toList (by simpa using h) rfl rfl
theorem set10_far {w : World} {G k : Nat} (h : k ≠ G) (v0 v1 v2 v3 v4 v5 v6 v7 v8 v9 : Value) : (set10 w G v0 v1 v2 v3 v4 v5 v6 v7 v8 v9).heap[k]? = w.heap[k]? := by
  have e : ∀ (w : World) (j : Nat) (v : Value), (w.setCell ⟨G, j, none⟩ v).heap[k]? = w.heap[k]? := fun w j v => Below.heap_setCell _ _ _ _ h
  unfold set10
  rw [e, e, e, e, e, e, e, e, e, e]
theorem ty_state_search : (162 : TypeId) ≠ 178 := by decide
theorem ty_state_source : (162 : TypeId) ≠ 173 := by decide
theorem ty_state_part : (162 : TypeId) ≠ 229 := by decide
/-- all blocks but one of a state's stand still -/
theorem SeAt.far {w w' : World} {B : Nat} {F : Fix} {S : List Pl.Src} {vv : Value} {s : Pl.Sr} (h : SeAt w B F S vv s) {G : Nat} {x : Pl.Sx} (hG : StIn w G x) (hk : ∀ k, k ≠ G → w'.heap[k]? = w.heap[k]?) : SeAt w' B F S vv s := by
  obtain ⟨cs', fz', hc⟩ := h.src.blk
  refine ⟨(hk _ (ty_apart h.blk hG ty_state_search.symm)).trans h.blk, h.src.kept (hk _ (ty_apart hc hG ty_state_source.symm)) (fun i s' q hs hv => ?_), h.places.heap (hk _ (map_not_cells hG h.places).symm), h.ends.heap (hk _ (map_not_cells hG h.ends).symm), h.le, h.apart⟩
  obtain ⟨cur, hc'⟩ := ownsRow_ty (h.src.row i s' hs) q hv
  exact hk q (ty_apart hc' hG ty_state_part.symm)
/-- what holds ahead of each round: the search, the state in its block, the result's block -/
structure Wki (w wr : World) (B : Nat) (F : Fix) (S : List Pl.Src) (vv : Value) (s : Pl.Sr) (G R : Nat) (x : Pl.Sx) : Prop where
  se : SeAt wr B F S vv s
  now : StIn wr G x
  res : StIn wr R Pl.Sx.none
  ne : G ≠ R
  old : w.heap.size ≤ G ∧ w.heap.size ≤ R ∧ B ≤ w.heap.size
  cue : Cue B F w wr
  tabs : TabB B wr
theorem Wki.below {w wr w' : World} {B : Nat} {F : Fix} {S : List Pl.Src} {vv : Value} {s : Pl.Sr} {G R : Nat} {x : Pl.Sx} (h : Wki w wr B F S vv s G R x) (hb : Below wr.heap.size wr w') : Wki w w' B F S vv s G R x :=
  have hB : B ≤ wr.heap.size := Nat.le_trans h.old.2.2 h.cue.below.size
  ⟨h.se.below hb, h.now.below hb, h.res.below hb, h.ne, h.old, h.cue.trans (Cue.of_below hb hB), h.tabs.kept (hb.mono hB)⟩
theorem Wki.alloc {w wr : World} {B : Nat} {F : Fix} {S : List Pl.Src} {vv : Value} {s : Pl.Sr} {G R : Nat} {x : Pl.Sx} (h : Wki w wr B F S vv s G R x) (o : Obj) : Wki w (wr.alloc o) B F S vv s G R x := h.below ((Below.refl _ _).alloc (Nat.le_refl _) o)
theorem Wki.drewN {w wr : World} {B : Nat} {F : Fix} {S : List Pl.Src} {vv : Value} {s : Pl.Sr} {G R : Nat} {x : Pl.Sx} (h : Wki w wr B F S vv s G R x) (n : Nat) : Wki w (wr.drewN n) B F S vv s G R x := h.below (below_drewN (Below.refl _ _) n)
theorem Wki.set {w wr : World} {B : Nat} {F : Fix} {S : List Pl.Src} {vv : Value} {s : Pl.Sr} {G R : Nat} {x : Pl.Sx} (h : Wki w wr B F S vv s G R x) (y : Pl.Sx) : Wki w (set10 wr G (.int .u8 (y.st.mode : Int)) (.string ⟨y.st.name.toArray⟩) (.string ⟨y.st.elem.toArray⟩) (.int .i64 y.st.kind) (.int .i64 (y.st.read : Int)) (.bool y.ma.ref) (.bool y.st.esc) (.int .i64 y.ma.hex) (.int .i64 y.ma.pct) (.int .i64 y.ma.far)) B F S vv s G R y := by
  have hfar := fun k (hk : k ≠ G) => set10_far (w := wr) hk (.int .u8 (y.st.mode : Int)) (.string ⟨y.st.name.toArray⟩) (.string ⟨y.st.elem.toArray⟩) (.int .i64 y.st.kind) (.int .i64 (y.st.read : Int)) (.bool y.ma.ref) (.bool y.st.esc) (.int .i64 y.ma.hex) (.int .i64 y.ma.pct) (.int .i64 y.ma.far)
  have hbel : Below G wr (set10 wr G (.int .u8 (y.st.mode : Int)) (.string ⟨y.st.name.toArray⟩) (.string ⟨y.st.elem.toArray⟩) (.int .i64 y.st.kind) (.int .i64 (y.st.read : Int)) (.bool y.ma.ref) (.bool y.st.esc) (.int .i64 y.ma.hex) (.int .i64 y.ma.pct) (.int .i64 y.ma.far)) := below_set10 (Below.refl _ _) (Nat.le_refl _) _ _ _ _ _ _ _ _ _ _
  have hs := h.now.set y
  generalize set10 wr G _ _ _ _ _ _ _ _ _ _ = w' at hfar hbel hs ⊢
  refine ⟨h.se.far h.now hfar, hs, (hfar _ h.ne.symm).trans h.res, h.ne, h.old, ⟨h.cue.below.trans (hbel.mono (Nat.le_trans h.old.2.2 h.old.1)), fun k hk h1 h2 => (hfar k (by have := h.old.1; omega)).trans (h.cue.keep k hk h1 h2)⟩, h.tabs.kept (hbel.mono (Nat.le_trans h.old.2.2 h.old.1))⟩
/-- behind a call that may turn the search -/
theorem Wki.turn {w wr w' : World} {B : Nat} {F : Fix} {S : List Pl.Src} {vv : Value} {s s' : Pl.Sr} {G R : Nat} {x : Pl.Sx} (h : Wki w wr B F S vv s G R x) (hs : SeAt w' B F S vv s') (hc : Cue B F wr w') : Wki w w' B F S vv s' G R x := by
  have h1 := hc.keep G h.now.lt (fun e => ty_apart h.se.blk h.now ty_state_search.symm e.symm) (map_not_cells h.now h.se.ends)
  have h2 := hc.keep R h.res.lt (fun e => ty_apart h.se.blk h.res ty_state_search.symm e.symm) (map_not_cells h.res h.se.ends)
  exact ⟨hs, h1.trans h.now, h2.trans h.res, h.ne, h.old, h.cue.trans hc, h.tabs.kept hc.below⟩

end Go.Proofs.YtfkhljmiehdgmaaGreatDoor

/-
  What is behind a partial: a name that is not there; an end that is known.
-/
namespace Go.Proofs.YtfkhljmiehdgmaaGreatDoor
open Go.RowKit

theorem SeAt.drew {w : World} {B : Nat} {F : Fix} {S : List Pl.Src} {vv : Value} {s : Pl.Sr} (h : SeAt w B F S vv s) : SeAt w.drew B F S vv s := h.drewN 1
theorem none_cells' : sxCells Pl.Sx.none = #[.int .u8 0, .string ⟨#[]⟩, .string ⟨#[]⟩, .int .i64 0, .int .i64 0, .bool false, .bool false, .int .i64 0, .int .i64 0, .int .i64 0] := rfl
theorem ty_entry_search : (180 : TypeId) ≠ 178 := by decide
theorem ty_entry_state : (180 : TypeId) ≠ 162 := by decide
/-- what holds on the way: the search, the entry and the result in their blocks -/
structure Bhi (w wr : World) (B : Nat) (F : Fix) (S : List Pl.Src) (vv : Value) (s : Pl.Sr) (E R : Nat) (e : Pl.En) (y : Pl.Sx) : Prop where
  se : SeAt wr B F S vv s
  ent : wr.heap[E]? = some (.cells (enCells e) 180 (0, 0))
  res : StIn wr R y
  old : w.heap.size ≤ R ∧ B ≤ w.heap.size
  cue : Cue B F w wr
  tabs : TabB B wr
theorem Bhi.below {w wr w' : World} {B : Nat} {F : Fix} {S : List Pl.Src} {vv : Value} {s : Pl.Sr} {E R : Nat} {e : Pl.En} {y : Pl.Sx} (h : Bhi w wr B F S vv s E R e y) (hb : Below wr.heap.size wr w') : Bhi w w' B F S vv s E R e y :=
  have hB : B ≤ wr.heap.size := Nat.le_trans h.old.2 h.cue.below.size
  ⟨h.se.below hb, (hb.block _ (Array.getElem?_eq_some_iff.1 h.ent).1).trans h.ent, h.res.below hb, h.old, h.cue.trans (Cue.of_below hb hB), h.tabs.kept (hb.mono hB)⟩
theorem Bhi.alloc {w wr : World} {B : Nat} {F : Fix} {S : List Pl.Src} {vv : Value} {s : Pl.Sr} {E R : Nat} {e : Pl.En} {y : Pl.Sx} (h : Bhi w wr B F S vv s E R e y) (o : Obj) : Bhi w (wr.alloc o) B F S vv s E R e y := h.below ((Below.refl _ _).alloc (Nat.le_refl _) o)
theorem Bhi.drew {w wr : World} {B : Nat} {F : Fix} {S : List Pl.Src} {vv : Value} {s : Pl.Sr} {E R : Nat} {e : Pl.En} {y : Pl.Sx} (h : Bhi w wr B F S vv s E R e y) : Bhi w wr.drew B F S vv s E R e y := h.below (Below.refl _ _).drew
theorem Bhi.turn {w wr w' : World} {B : Nat} {F : Fix} {S : List Pl.Src} {vv : Value} {s s' : Pl.Sr} {E R : Nat} {e : Pl.En} {y : Pl.Sx} (h : Bhi w wr B F S vv s E R e y) (hs : SeAt w' B F S vv s') (hc : Cue B F wr w') : Bhi w w' B F S vv s' E R e y := by
  have h1 := hc.keep E (Array.getElem?_eq_some_iff.1 h.ent).1 (fun q => ty_apart h.se.blk h.ent ty_entry_search.symm q.symm) (map_not_cells h.ent h.se.ends)
  have h2 := hc.keep R h.res.lt (fun q => ty_apart h.se.blk h.res ty_state_search.symm q.symm) (map_not_cells h.res h.se.ends)
  exact ⟨hs, h1.trans h.ent, h2.trans h.res, h.old, h.cue.trans hc, h.tabs.kept hc.below⟩
theorem Bhi.set {w wr : World} {B : Nat} {F : Fix} {S : List Pl.Src} {vv : Value} {s : Pl.Sr} {E R : Nat} {e : Pl.En} {x : Pl.Sx} (h : Bhi w wr B F S vv s E R e x) (y : Pl.Sx) : Bhi w (set10 wr R (.int .u8 (y.st.mode : Int)) (.string ⟨y.st.name.toArray⟩) (.string ⟨y.st.elem.toArray⟩) (.int .i64 y.st.kind) (.int .i64 (y.st.read : Int)) (.bool y.ma.ref) (.bool y.st.esc) (.int .i64 y.ma.hex) (.int .i64 y.ma.pct) (.int .i64 y.ma.far)) B F S vv s E R e y := by
  have hfar := fun k (hk : k ≠ R) => set10_far (w := wr) hk (.int .u8 (y.st.mode : Int)) (.string ⟨y.st.name.toArray⟩) (.string ⟨y.st.elem.toArray⟩) (.int .i64 y.st.kind) (.int .i64 (y.st.read : Int)) (.bool y.ma.ref) (.bool y.st.esc) (.int .i64 y.ma.hex) (.int .i64 y.ma.pct) (.int .i64 y.ma.far)
  have hbel : Below R wr (set10 wr R (.int .u8 (y.st.mode : Int)) (.string ⟨y.st.name.toArray⟩) (.string ⟨y.st.elem.toArray⟩) (.int .i64 y.st.kind) (.int .i64 (y.st.read : Int)) (.bool y.ma.ref) (.bool y.st.esc) (.int .i64 y.ma.hex) (.int .i64 y.ma.pct) (.int .i64 y.ma.far)) := below_set10 (Below.refl _ _) (Nat.le_refl _) _ _ _ _ _ _ _ _ _ _
  have hs := h.res.set y
  generalize set10 wr R _ _ _ _ _ _ _ _ _ _ = w' at hfar hbel hs ⊢
  exact ⟨h.se.far h.res hfar, (hfar _ (ty_apart h.ent h.res ty_entry_state)).trans h.ent, hs, h.old, ⟨h.cue.below.trans (hbel.mono (Nat.le_trans h.old.2 h.old.1)), fun k hk h1 h2 => (hfar k (by have := h.old.1; omega)).trans (h.cue.keep k hk h1 h2)⟩, h.tabs.kept (hbel.mono (Nat.le_trans h.old.2 h.old.1))⟩
/-- what the search hands back behind a partial -/
theorem Bhi.post {w wr : World} {B : Nat} {F : Fix} {S : List Pl.Src} {vv : Value} {s : Pl.Sr} {E R : Nat} {e : Pl.En} {y : Pl.Sx} (h : Bhi w wr B F S vv s E R e y) {a : Act} (hp : a.tmps.getD 6 undef = .pointer (some ⟨R, 0, none⟩)) (hd : a.defers = []) :
    bodyPost Tryz.prog Tryz.f156 (fun ed w' => ed = .returned (sxVal y) ∧ SeAt w' B F S vv s ∧ Cue B F w w') .ret a wr :=
  bodyPost_ret (results_cell Tryz.results156 _ _ R _ _ hp (cells_at_block h.res) Tryz.underlying162 rfl (by kernel_rfl)) hd ⟨rfl, h.se, h.cue⟩
theorem ent_cell {w : World} {E : Nat} {e : Pl.En} (h : w.heap[E]? = some (.cells (enCells e) 180 (0, 0))) : ∀ (j : Nat) (v : Value), (enCells e).toList[j]? = some v → w.cell? ⟨E, j, none⟩ = some v := fun j v hv => cells_at_block h j v hv

set_option maxRecDepth 100000 in
set_option maxHeartbeats 6400000 in
theorem behind_absent (S : List Pl.Src) (hS : SrcsOk S) (w : World) (B : Nat) (F : Fix) (vv : Value) (s : Pl.Sr) (n : List UInt8) (x : Pl.Sx) (h : SeAt w B F S vv s) (hn : n.length ≤ 2000) (hB : B ≤ w.heap.size) (h0 : Pl.placeOf S n = 0) :
    Calls Tryz.prog 156 #[.pointer (some ⟨F.g, 0, none⟩), .string ⟨n.toArray⟩, sxVal x] w fun ed w' => ed = .returned (sxVal x) ∧ SeAt w' B F S vv s ∧ Cue B F w w' := by
  have b1 : ∀ o o', ((w.alloc o).alloc o').cell? ⟨F.g, 1, none⟩ = some (.map (some F.bp)) := fun o o' => ((h.alloc o).alloc o').cell 1 _ rfl
  have b2 : ∀ o o' o'', (((w.alloc o).alloc o').alloc o'').cell? ⟨F.g, 1, none⟩ = some (.map (some F.bp)) := fun o o' o'' => (((h.alloc o).alloc o').alloc o'').cell 1 _ rfl
  have l1 := fun o o' => ((h.alloc o).alloc o').drew.place hS n (by omega)
  have l2 := fun o o' o'' => (((h.alloc o).alloc o').alloc o'').drew.place hS n (by omega)
  rw [h0] at l1 l2
  generalize (⟨n.toArray⟩ : ByteArray) = N at l1 l2 ⊢
  unfold sxVal sxCells bs
  have HS := (show Hid _ from h)
  clear h
  go_enter Tryz.func156, Tryz.ntmps156
  go_wp2_with fail
  go_region
  go_wp2_with fail
  refine bodyPost_ret (results_cell Tryz.results156 _ _ (w.heap.size + 1) _ _ rfl (cells_at_block ((heap_alloc_old _ _ (by simp)).trans (heap_new_at (w.alloc _) _ _ (by simp)))) Tryz.underlying162 rfl (by kernel_rfl)) rfl ⟨rfl, (((HS.out.alloc _).alloc _).alloc _).drew, Cue.of_below ((((Below.refl _ _).alloc (Nat.le_refl _) _).alloc (by simp) _).alloc (by simp; omega) _).drew hB⟩

/-- up to where the ends are looked at -/
theorem behind_begin {w : World} {B : Nat} {F : Fix} {S : List Pl.Src} {vv : Value} {s : Pl.Sr} {x : Pl.Sx} (h : SeAt w B F S vv s) (hB : B ≤ w.heap.size) (ht : TabB B w) (i : Nat) :
    Bhi w (((w.alloc (.cells (sxCells x) 162)).alloc (.cells (sxCells Pl.Sx.none) 162)).alloc (.cells (enCells (i, x)) 180)).drew B F S vv s (w.heap.size + 1 + 1) (w.heap.size + 1) (i, x) Pl.Sx.none := by
  have hb := ((((Below.refl w.heap.size w).alloc (Nat.le_refl _) (.cells (sxCells x) 162)).alloc (by simp) (.cells (sxCells Pl.Sx.none) 162)).alloc (by simp; omega) (.cells (enCells (i, x)) 180)).drew
  exact ⟨(((h.alloc _).alloc _).alloc _).drew, heap_new_at (World.alloc (w.alloc _) _) _ _ (by simp), (heap_alloc_old _ _ (by simp)).trans (heap_new_at (w.alloc _) _ _ (by simp)), ⟨by omega, hB⟩, Cue.of_below hb hB, ht.kept (hb.mono hB)⟩

set_option maxRecDepth 100000 in
set_option maxHeartbeats 6400000 in
theorem behind_known (S : List Pl.Src) (hS : SrcsOk S) (w : World) (B : Nat) (F : Fix) (vv : Value) (s : Pl.Sr) (n : List UInt8) (x : Pl.Sx) (h : SeAt w B F S vv s) (ho : Pl.EndsOk S.length s.ends) (hx : Pl.SxFit x) (hn : n.length ≤ 2000) (hB : B ≤ w.heap.size) (ht : TabB B w) (h0 : Pl.placeOf S n ≠ 0) (y : Pl.Sx) (hy : Pl.getKey s.ends (Pl.placeOf S n, x) = some y) :
    Calls Tryz.prog 156 #[.pointer (some ⟨F.g, 0, none⟩), .string ⟨n.toArray⟩, sxVal x] w fun ed w' => ed = .returned (sxVal y) ∧ SeAt w' B F S vv s ∧ Cue B F w w' := by
  have b1 : ∀ o o', ((w.alloc o).alloc o').cell? ⟨F.g, 1, none⟩ = some (.map (some F.bp)) := fun o o' => ((h.alloc o).alloc o').cell 1 _ rfl
  have b2 : ∀ o o' o'', (((w.alloc o).alloc o').alloc o'').cell? ⟨F.g, 1, none⟩ = some (.map (some F.bp)) := fun o o' o'' => (((h.alloc o).alloc o').alloc o'').cell 1 _ rfl
  have l1 := fun o o' => ((h.alloc o).alloc o').drew.place hS n (by omega)
  have l2 := fun o o' o'' => (((h.alloc o).alloc o').alloc o'').drew.place hS n (by omega)
  have hi6 : Pl.placeOf S n ≤ 6 := by have := Pl.placeOf_lt S n h0; have := hS.few; omega
  have HI := (show Hid _ from behind_begin (x := x) h hB ht (Pl.placeOf S n))
  generalize hi : Pl.placeOf S n = i at *
  have i0 : ((i : Int) == 0) = false := by rw [beq_eq_false_iff_ne]; omega
  generalize (⟨n.toArray⟩ : ByteArray) = N at l1 l2 ⊢
  rw [none_cells'] at HI
  unfold enCells sxCells bs at HI
  unfold sxVal sxCells bs
  clear h
  have HY := (show Hid _ from hy)
  clear hy
  go_enter Tryz.func156, Tryz.ntmps156
  go_wp2_with fail
  go_region
  go_wp2_with fail
  clear b1 b2 l1 l2
  generalize World.drew _ = w3 at HI ⊢
  have l3 := HI.out.se.drew.look hS ho (i, x) hx hi6 true
  have l4 := fun o => (HI.out.se.alloc o).drew.look hS ho (i, x) hx hi6 true
  rw [HY.out] at l3 l4
  have b1 : w3.cell? ⟨F.g, 2, none⟩ = some (.map (some F.be)) := HI.out.se.cell 2 _ rfl
  have b2 : ∀ o, (w3.alloc o).cell? ⟨F.g, 2, none⟩ = some (.map (some F.be)) := fun o => (HI.out.se.alloc o).cell 2 _ rfl
  have he := ent_cell HI.out.ent
  have hf := fun o => ent_cell (HI.out.alloc o).ent
  unfold enCells bs at he hf
  have hr := fun o => (HI.out.alloc o).res
  have r0 := fun o => (hr o).at'.mode
  have r1 := fun o => (hr o).at'.name
  have r2 := fun o => (hr o).at'.elem
  have r3 := fun o => (hr o).at'.kind
  have r4 := fun o => (hr o).at'.read
  have r5 := fun o => (hr o).at'.ref
  have r6 := fun o => (hr o).at'.esc
  have r7 := fun o => (hr o).at'.hex
  have r8 := fun o => (hr o).at'.pct
  have r9 := fun o => (hr o).at'.far
  have f0 := fun o => (hr o).slot.thaw 0
  have f1 := fun o => (hr o).slot.thaw 1
  have f2 := fun o => (hr o).slot.thaw 2
  have f3 := fun o => (hr o).slot.thaw 3
  have f4 := fun o => (hr o).slot.thaw 4
  have f5 := fun o => (hr o).slot.thaw 5
  have f6 := fun o => (hr o).slot.thaw 6
  have f7 := fun o => (hr o).slot.thaw 7
  have f8 := fun o => (hr o).slot.thaw 8
  have f9 := fun o => (hr o).slot.thaw 9
  have m0 := he 0 _ rfl
  have m1 := he 1 _ rfl
  have m2 := he 2 _ rfl
  have m3 := he 3 _ rfl
  have m4 := he 4 _ rfl
  have m5 := he 5 _ rfl
  have m6 := he 6 _ rfl
  have m7 := he 7 _ rfl
  have m8 := he 8 _ rfl
  have m9 := he 9 _ rfl
  have m10 := he 10 _ rfl
  have n0 := fun o => hf o 0 _ rfl
  have n1 := fun o => hf o 1 _ rfl
  have n2 := fun o => hf o 2 _ rfl
  have n3 := fun o => hf o 3 _ rfl
  have n4 := fun o => hf o 4 _ rfl
  have n5 := fun o => hf o 5 _ rfl
  have n6 := fun o => hf o 6 _ rfl
  have n7 := fun o => hf o 7 _ rfl
  have n8 := fun o => hf o 8 _ rfl
  have n9 := fun o => hf o 9 _ rfl
  have n10 := fun o => hf o 10 _ rfl
  clear he hf hr
  have HT := (show Hid _ from ((HI.out.alloc (.cells (sxCells y) 162)).set y).drew)
  unfold sxCells bs at HT
  simp only [enVal_cells] at l3 l4
  unfold sxVal sxCells enCells bs at l3 l4
  simp only [Option.getD_some, Option.isSome_some, if_true] at l3 l4
  go_region
  go_wp2_with fail
  unfold set10 at HT
  refine (HT.out).post ?_ ?_
  · rfl
  · rfl

end Go.Proofs.YtfkhljmiehdgmaaGreatDoor

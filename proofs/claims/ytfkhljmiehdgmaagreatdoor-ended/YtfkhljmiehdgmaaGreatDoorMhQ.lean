/-
  Several texts laid together: each opens with its own remark.
-/
import Derived.Test.YtfkhljmiehdgmaaGreatDoorMhP
import Derived.Test.YtfkhljmiehdgmaaGreatDoorPnE
import Derived.Deep.RegionWith
import Derived.Test.YtfkhljmiehdgmaaGreatDoorMhF
import Derived.Test.YtfkhljmiehdgmaaGreatDoorMhC
import Derived.Deep.DeepCutAuto
import Derived.Deep.RegionLaw

/-
  What is behind a partial: an end that is looked for.
-/
namespace Go.Proofs.YtfkhljmiehdgmaaGreatDoor
open Go.RowKit

/-- the map of ends as it lies -/
theorem SeAt.obj {w : World} {B : Nat} {F : Fix} {S : List Pl.Src} {vv : Value} {s : Pl.Sr} (h : SeAt w B F S vv s) : ∃ es clock, w.heap[F.be]? = some (.map es clock) ∧ es.size = s.ends.length := by
  obtain ⟨es, c, h1, h2⟩ := h.ends
  refine ⟨es, c, h1, ?_⟩
  have := congrArg List.length h2
  simpa [endsL] using this

theorem len_map {w : World} {b : Nat} {es : Array MapEntry} {clock : Nat} (h : w.heap[b]? = some (.map es clock)) : (Builtin.len_ #[175] 3 #[.map (some b)]).run Tryz.prog w = .ok (.int .i64 (es.size : Nat)) w := by
  unfold Builtin.len_
  simp [go_sem, run_underlying Tryz.underlying175, Go.MapKept.run_getObj_map h, Result.andThen]
theorem SeAt.len {w : World} {B : Nat} {F : Fix} {S : List Pl.Src} {vv : Value} {s : Pl.Sr} (h : SeAt w B F S vv s) : (Builtin.len_ #[175] 3 #[.map (some F.be)]).run Tryz.prog w = .ok (.int .i64 (s.ends.length : Nat)) w := by
  obtain ⟨es, c, h1, h2⟩ := h.obj
  rw [← h2]
  exact len_map h1

/-- a fault is stored -/
def setFt (w : World) (g : Nat) (a b c d : Value) : World := (((w.setCell ⟨g, 5, none⟩ a).setCell ⟨g, 6, none⟩ b).setCell ⟨g, 7, none⟩ c).setCell ⟨g, 8, none⟩ d
theorem setFt_far {w : World} {g k : Nat} (h : k ≠ g) (a b c d : Value) : (setFt w g a b c d).heap[k]? = w.heap[k]? := by
  have e : ∀ (w : World) (j : Nat) (v : Value), (w.setCell ⟨g, j, none⟩ v).heap[k]? = w.heap[k]? := fun w j v => Below.heap_setCell _ _ _ _ h
  unfold setFt
  rw [e, e, e, e]
theorem setFt_below {B : Nat} {a w : World} {g : Nat} (h : Below B a w) (hg : B ≤ g) (x y z u : Value) : Below B a (setFt w g x y z u) :=
  (((h.setCell (p := ⟨g, 5, none⟩) hg x).setCell (p := ⟨g, 6, none⟩) hg y).setCell (p := ⟨g, 7, none⟩) hg z).setCell (p := ⟨g, 8, none⟩) hg u
theorem SeAt.fault {w : World} {B : Nat} {F : Fix} {S : List Pl.Src} {vv : Value} {s : Pl.Sr} (h : SeAt w B F S vv s) (f : Pl.Ft) : SeAt (setFt w F.g (.int .i64 f.code) (.int .i64 f.kind) (.string ⟨f.place.toArray⟩) (.int .i64 f.pos)) B F S vv { s with fault := f } ∧ Cue B F w (setFt w F.g (.int .i64 f.code) (.int .i64 f.kind) (.string ⟨f.place.toArray⟩) (.int .i64 f.pos)) := by
  have hset := fun k (hk : k ≠ F.g) => setFt_far (w := w) hk (.int .i64 f.code) (.int .i64 f.kind) (.string ⟨f.place.toArray⟩) (.int .i64 f.pos)
  have hbl : (setFt w F.g (.int .i64 f.code) (.int .i64 f.kind) (.string ⟨f.place.toArray⟩) (.int .i64 f.pos)).heap[F.g]? = some (.cells (srCells F S.length vv f) 178 (0, 0)) :=
    setFrom_heap (t := 178) [.int .i64 f.code, .int .i64 f.kind, .string ⟨f.place.toArray⟩, .int .i64 f.pos] w 5 [.slice (some ⟨F.bS, 0, none⟩) S.length S.length, .map (some F.bp), .map (some F.be), .map (some F.bn), vv] [.int .i64 s.fault.code, .int .i64 s.fault.kind, bs s.fault.place, .int .i64 s.fault.pos] (by have := h.blk; unfold srCells at this; simpa using this) rfl rfl
  have hb := setFt_below (Below.refl B w) h.le.1 (.int .i64 f.code) (.int .i64 f.kind) (.string ⟨f.place.toArray⟩) (.int .i64 f.pos)
  generalize setFt w F.g _ _ _ _ = w' at hset hbl hb ⊢
  refine ⟨⟨hbl, h.srcKept fun k _ h1 _ => hset k h1, h.places.heap (hset _ (map_not_cells h.blk h.places).symm), h.ends.heap (hset _ h.apart.1.symm), h.le, h.apart⟩, hb, fun k _ h1 _ => hset k h1⟩

end Go.Proofs.YtfkhljmiehdgmaaGreatDoor

/-
  What is behind a partial: too many ends.
-/
namespace Go.Proofs.YtfkhljmiehdgmaaGreatDoor
open Go.RowKit

set_option maxRecDepth 100000 in
set_option maxHeartbeats 6400000 in
theorem behind_full (S : List Pl.Src) (hS : SrcsOk S) (w : World) (B : Nat) (F : Fix) (vv : Value) (s : Pl.Sr) (n : List UInt8) (x : Pl.Sx) (h : SeAt w B F S vv s) (ho : Pl.EndsOk S.length s.ends) (hx : Pl.SxFit x) (hn : n.length ≤ 2000) (hB : B ≤ w.heap.size) (ht : TabB B w) (h0 : Pl.placeOf S n ≠ 0) (hy : Pl.getKey s.ends (Pl.placeOf S n, x) = none) (hf : s.ends.length = 256) :
    Calls Tryz.prog 156 #[.pointer (some ⟨F.g, 0, none⟩), .string ⟨n.toArray⟩, sxVal x] w fun ed w' => ed = .returned (sxVal Pl.Sx.none) ∧ SeAt w' B F S vv { s with fault := Pl.fullFt } ∧ Cue B F w w' := by
  have b1 : ∀ o o', ((w.alloc o).alloc o').cell? ⟨F.g, 1, none⟩ = some (.map (some F.bp)) := fun o o' => ((h.alloc o).alloc o').cell 1 _ rfl
  have b2 : ∀ o o' o'', (((w.alloc o).alloc o').alloc o'').cell? ⟨F.g, 1, none⟩ = some (.map (some F.bp)) := fun o o' o'' => (((h.alloc o).alloc o').alloc o'').cell 1 _ rfl
  have l1 := fun o o' => ((h.alloc o).alloc o').drew.place hS n (by omega)
  have l2 := fun o o' o'' => (((h.alloc o).alloc o').alloc o'').drew.place hS n (by omega)
  have hi6 : Pl.placeOf S n ≤ 6 := by have := Pl.placeOf_lt S n h0; have := hS.few; omega
  have HI := (show Hid _ from behind_begin (x := x) h hB ht (Pl.placeOf S n))
  generalize hi : Pl.placeOf S n = i at *
  have i0 : ((i : Int) == 0) = false := by rw [beq_eq_false_iff_ne]; omega
  generalize (⟨n.toArray⟩ : ByteArray) = N at l1 l2 ⊢
  rw [none_cells'] at HI
  unfold enCells sxCells bs at HI
  unfold sxVal
  rw [none_cells']
  unfold sxCells bs
  clear h
  have HY := (show Hid _ from hy)
  clear hy
  go_enter Tryz.func156, Tryz.ntmps156
  go_wp2_with fail
  go_region
  go_wp2_with fail
  clear b1 b2 l1 l2
  generalize World.drew _ = w3 at HI ⊢
  have l3 := HI.out.se.drew.look hS ho (i, x) hx hi6 true
  have l4 := fun o => (HI.out.se.alloc o).drew.look hS ho (i, x) hx hi6 true
  rw [HY.out] at l3 l4
  have b1 : w3.cell? ⟨F.g, 2, none⟩ = some (.map (some F.be)) := HI.out.se.cell 2 _ rfl
  have b2 : ∀ o, (w3.alloc o).cell? ⟨F.g, 2, none⟩ = some (.map (some F.be)) := fun o => (HI.out.se.alloc o).cell 2 _ rfl
  have he := ent_cell HI.out.ent
  have hg := fun o => ent_cell (HI.out.alloc o).ent
  unfold enCells bs at he hg
  have hr := fun o => (HI.out.alloc o).res
  have m0 := he 0 _ rfl
  have m1 := he 1 _ rfl
  have m2 := he 2 _ rfl
  have m3 := he 3 _ rfl
  have m4 := he 4 _ rfl
  have m5 := he 5 _ rfl
  have m6 := he 6 _ rfl
  have m7 := he 7 _ rfl
  have m8 := he 8 _ rfl
  have m9 := he 9 _ rfl
  have m10 := he 10 _ rfl
  have n0 := fun o => hg o 0 _ rfl
  have n1 := fun o => hg o 1 _ rfl
  have n2 := fun o => hg o 2 _ rfl
  have n3 := fun o => hg o 3 _ rfl
  have n4 := fun o => hg o 4 _ rfl
  have n5 := fun o => hg o 5 _ rfl
  have n6 := fun o => hg o 6 _ rfl
  have n7 := fun o => hg o 7 _ rfl
  have n8 := fun o => hg o 8 _ rfl
  have n9 := fun o => hg o 9 _ rfl
  have n10 := fun o => hg o 10 _ rfl
  clear he hg hr
  simp only [Option.getD_none, Option.isSome_none, if_true, enVal_cells] at l3 l4
  unfold sxVal enCells at l3 l4
  simp only [none_cells'] at l3 l4
  unfold bs at l3 l4
  go_region
  have H4 := (show Hid _ from (HI.out.alloc (.cells (sxCells Pl.Sx.none) 162)).drew)
  rw [none_cells'] at H4
  clear l3 l4 b1 b2 m0 m1 m2 m3 m4 m5 m6 m7 m8 m9 m10 n0 n1 n2 n3 n4 n5 n6 n7 n8 n9 n10
  generalize World.drew _ = w4 at H4 ⊢
  have hl := H4.out.se.len
  rw [hf] at hl
  have b1 : w4.cell? ⟨F.g, 2, none⟩ = some (.map (some F.be)) := H4.out.se.cell 2 _ rfl
  have y5 : w4.cell? ⟨F.g, 5, none⟩ = some _ := H4.out.se.cell 5 _ rfl
  have y6 : w4.cell? ⟨F.g, 6, none⟩ = some _ := H4.out.se.cell 6 _ rfl
  have y7 : w4.cell? ⟨F.g, 7, none⟩ = some _ := H4.out.se.cell 7 _ rfl
  have y8 : w4.cell? ⟨F.g, 8, none⟩ = some _ := H4.out.se.cell 8 _ rfl
  have z5 := H4.out.se.thaw 5
  have z6 := H4.out.se.thaw 6
  have z7 := H4.out.se.thaw 7
  have z8 := H4.out.se.thaw 8
  have hr := H4.out.res
  have hne : F.g ≠ w.heap.size + 1 := ty_apart H4.out.se.blk hr ty_state_search.symm
  have r0 := hr.at'.mode
  have r1 := hr.at'.name
  have r2 := hr.at'.elem
  have r3 := hr.at'.kind
  have r4 := hr.at'.read
  have r5 := hr.at'.ref
  have r6 := hr.at'.esc
  have r7 := hr.at'.hex
  have r8 := hr.at'.pct
  have r9 := hr.at'.far
  have f0 := hr.slot.thaw 0
  have f1 := hr.slot.thaw 1
  have f2 := hr.slot.thaw 2
  have f3 := hr.slot.thaw 3
  have f4 := hr.slot.thaw 4
  have f5 := hr.slot.thaw 5
  have f6 := hr.slot.thaw 6
  have f7 := hr.slot.thaw 7
  have f8 := hr.slot.thaw 8
  have f9 := hr.slot.thaw 9
  clear hr
  have HF : Hid (Bhi w (set10 (setFt w4 F.g (.int .i64 3) (.int .i64 0) (.string ⟨#[]⟩) (.int .i64 0)) (w.heap.size + 1) (.int .u8 0) (.string ⟨#[]⟩) (.string ⟨#[]⟩) (.int .i64 0) (.int .i64 0) (.bool false) (.bool false) (.int .i64 0) (.int .i64 0) (.int .i64 0)) B F S vv { s with fault := Pl.fullFt } (w.heap.size + 1 + 1) (w.heap.size + 1) (i, x) Pl.Sx.none) := by
    have hf := SeAt.fault H4.out.se Pl.fullFt
    exact (H4.out.turn hf.1 hf.2).set Pl.Sx.none
  unfold set10 setFt at HF
  go_wp2_with fail
  refine HF.out.post ?_ ?_
  · rfl
  · rfl

end Go.Proofs.YtfkhljmiehdgmaaGreatDoor

/-
  A fault is kept.
-/
namespace Go.Proofs.YtfkhljmiehdgmaaGreatDoor
open Go.RowKit

set_option maxRecDepth 100000 in
set_option maxHeartbeats 6400000 in
theorem wrong_any (S : List Pl.Src) (w : World) (B : Nat) (F : Fix) (vv : Value) (s : Pl.Sr) (e : Pl.En) (kind : Int) (pos : Nat) (h : SeAt w B F S vv s) (hi : e.1 < S.length) (hB : B ≤ w.heap.size) :
    Calls Tryz.prog 107 #[.pointer (some ⟨F.g, 0, none⟩), enVal e, .int .i64 kind, .int .i64 pos] w fun ed w' => (∃ r, ed = .returned r) ∧ SeAt w' B F S vv (s.wrong S e.1 kind pos) ∧ Cue B F w w' := by
  obtain ⟨src, hsrc⟩ : ∃ src, S[e.1]? = some src := ⟨S[e.1], List.getElem?_eq_getElem hi⟩
  have hP : Pl.nameAt S e.1 = src.name := by unfold Pl.nameAt; rw [hsrc]
  have b0 : ∀ o, (w.alloc o).cell? ⟨F.g, 0, none⟩ = some (.slice (some ⟨F.bS, 0, none⟩) S.length S.length) := fun o => (h.alloc o).cell 0 _ rfl
  have b1 : ∀ o, (w.alloc o).cell? ⟨F.bS, e.1 * 2, none⟩ = some (.string ⟨src.name.toArray⟩) := fun o => (h.alloc o).src.name e.1 src hsrc
  have c1 : (e.1 : Int) < (S.length : Int) := by omega
  have HF : Hid (∀ o, SeAt (setFt (w.alloc o) F.g (.int .i64 3) (.int .i64 kind) (.string ⟨src.name.toArray⟩) (.int .i64 pos)).drew B F S vv (s.wrong S e.1 kind pos) ∧ Cue B F w (setFt (w.alloc o) F.g (.int .i64 3) (.int .i64 kind) (.string ⟨src.name.toArray⟩) (.int .i64 pos)).drew) := fun o => by
    have hf := SeAt.fault (h.alloc o) ⟨3, kind, Pl.nameAt S e.1, pos⟩
    rw [hP] at hf
    have h1 : Cue B F w (w.alloc o) := Cue.of_below ((Below.refl w.heap.size w).alloc (Nat.le_refl _) o) hB
    have h2 := h1.trans hf.2
    refine ⟨?_, h2.trans (Cue.of_below (Below.refl _ _).drew (Nat.le_trans hB h2.below.size))⟩
    have := hf.1.drew
    unfold Pl.Sr.wrong
    rw [hP]
    exact this
  have y5 : ∀ o, (w.alloc o).cell? ⟨F.g, 5, none⟩ = some _ := fun o => (h.alloc o).cell 5 _ rfl
  have y6 : ∀ o, (w.alloc o).cell? ⟨F.g, 6, none⟩ = some _ := fun o => (h.alloc o).cell 6 _ rfl
  have y7 : ∀ o, (w.alloc o).cell? ⟨F.g, 7, none⟩ = some _ := fun o => (h.alloc o).cell 7 _ rfl
  have y8 : ∀ o, (w.alloc o).cell? ⟨F.g, 8, none⟩ = some _ := fun o => (h.alloc o).cell 8 _ rfl
  have z5 : ∀ o, (w.alloc o).frozen? ⟨F.g, 5, none⟩ = false := fun o => (h.alloc o).thaw 5
  have z6 : ∀ o, (w.alloc o).frozen? ⟨F.g, 6, none⟩ = false := fun o => (h.alloc o).thaw 6
  have z7 : ∀ o, (w.alloc o).frozen? ⟨F.g, 7, none⟩ = false := fun o => (h.alloc o).thaw 7
  have z8 : ∀ o, (w.alloc o).frozen? ⟨F.g, 8, none⟩ = false := fun o => (h.alloc o).thaw 8
  rw [enVal_cells]
  unfold enCells bs
  clear h hP hsrc
  go_enter Tryz.func107, Tryz.ntmps107
  go_wp2_with fail
  go_region
  all_goals
    go_wp2_with fail
    go_end0
    unfold setFt at HF
    exact ⟨⟨_, rfl⟩, HF.out _⟩

end Go.Proofs.YtfkhljmiehdgmaaGreatDoor

/-
  The search in memory with its visits.
-/
namespace Go.Proofs.YtfkhljmiehdgmaaGreatDoor
open Go.RowKit Go.Maps

def numsL (l : List (Pl.En × Nat)) : List (Value × Value) := l.map fun p => (enVal p.1, .int .i64 (p.2 : Nat))
def markCells (l : List Int) : List Value := l.map fun z => .int .i64 z
def viCells1 (F : Fix) (i g n : Nat) : List Value := [F.pv i, .slice (some ⟨g, 0, none⟩) n n]
def viCells (F : Fix) : List Nat → List (Nat × List Int) → List Value
  | g :: M, v :: l => viCells1 F v.1 g v.2.length ++ viCells F M l
  | _, _ => []
theorem viCells_len (F : Fix) : ∀ (M : List Nat) (l : List (Nat × List Int)), M.length = l.length → (viCells F M l).length = l.length * 2
  | [], [], _ => rfl
  | g :: M, v :: l, h => by
    show (viCells F M l).length + 2 = _
    rw [viCells_len F M l (by simpa using h), List.length_cons]; omega
  | [], v :: l, h => by simp at h
  | g :: M, [], h => by simp at h
theorem viCells_snoc (F : Fix) (g : Nat) (v : Nat × List Int) : ∀ (M : List Nat) (l : List (Nat × List Int)), M.length = l.length → viCells F (M ++ [g]) (l ++ [v]) = viCells F M l ++ viCells1 F v.1 g v.2.length
  | [], [], _ => by simp [viCells]
  | h :: M, u :: l, e => by
    show viCells1 F u.1 h u.2.length ++ viCells F (M ++ [g]) (l ++ [v]) = _
    rw [viCells_snoc F g v M l (by simpa using e)]
    simp [viCells]
  | [], v :: l, h => by simp at h
  | g :: M, [], h => by simp at h
theorem viCells_mark (F : Fix) (f : List Int → List Int) (hf : ∀ l, (f l).length = l.length) : ∀ (M : List Nat) (l : List (Nat × List Int)) (k : Nat), viCells F M (l.modify k fun x => (x.1, f x.2)) = viCells F M l
  | [], l, k => by simp [viCells]
  | g :: M, [], k => by simp [viCells]
  | g :: M, v :: l, 0 => by simp [viCells, hf]
  | g :: M, v :: l, k + 1 => by
    show viCells F (g :: M) (v :: l.modify k _) = _
    show viCells1 F v.1 g v.2.length ++ viCells F M (l.modify k _) = _
    rw [viCells_mark F f hf M l k]
    rfl
/-- the search in memory, with its visits -/
structure SvAt (w : World) (B : Nat) (F : Fix) (S : List Pl.Src) (vv : Value) (M : List Nat) (s : Pl.Sr) : Prop where
  se : SeAt w B F S vv s
  nums : MapAt w F.bn (numsL s.nums)
  row : w.ownsRow B 205 2 vv s.vis.length (viCells F M s.vis)
  len : M.length = s.vis.length
  marks : ∀ (i g : Nat) (v : Nat × List Int), M[i]? = some g → s.vis[i]? = some v → w.heap[g]? = some (.cells (markCells v.2).toArray 3 (0, 0)) ∧ B ≤ g
  one : M.Nodup
  apart : F.bn ≠ F.be ∧ F.bn ≠ F.bp ∧ B ≤ F.bn
/-- how the world may turn while a text is gone through -/
structure Cuv (B : Nat) (F : Fix) (w w' : World) : Prop where
  below : Below B w w'
  keep : ∀ k cs t fz, w.heap[k]? = some (.cells cs t fz) → k ≠ F.g → t ≠ 205 → t ≠ 3 → w'.heap[k]? = w.heap[k]?
theorem Cuv.refl (B : Nat) (F : Fix) (w : World) : Cuv B F w w := ⟨Below.refl _ _, fun _ _ _ _ _ _ _ _ => rfl⟩
theorem Cuv.trans {B : Nat} {F : Fix} {a b c : World} (h : Cuv B F a b) (k : Cuv B F b c) : Cuv B F a c :=
  ⟨h.below.trans k.below, fun i cs t fz hi h1 h2 h3 => (k.keep i cs t fz ((h.keep i cs t fz hi h1 h2 h3).trans hi) h1 h2 h3).trans (h.keep i cs t fz hi h1 h2 h3)⟩
theorem Cuv.of_below {B : Nat} {F : Fix} {w w' : World} (h : Below w.heap.size w w') (hB : B ≤ w.heap.size) : Cuv B F w w' :=
  ⟨h.mono hB, fun k _ _ _ hk _ _ _ => h.block k (Array.getElem?_eq_some_iff.1 hk).1⟩
theorem Cuv.of_cue {w w' : World} {B : Nat} {F : Fix} {S : List Pl.Src} {vv : Value} {s : Pl.Sr} (h : SeAt w B F S vv s) (hc : Cue B F w w') : Cuv B F w w' :=
  ⟨hc.below, fun k _ _ _ hk h1 _ _ => hc.keep k (Array.getElem?_eq_some_iff.1 hk).1 h1 (map_not_cells hk h.ends)⟩
theorem ty_visit_search : (205 : TypeId) ≠ 178 := by decide
theorem ty_visit_source : (205 : TypeId) ≠ 173 := by decide
theorem ty_visit_part : (205 : TypeId) ≠ 229 := by decide
theorem ty_visit_int : (205 : TypeId) ≠ 3 := by decide
theorem ty_int_search : (3 : TypeId) ≠ 178 := by decide
theorem ty_int_source : (3 : TypeId) ≠ 173 := by decide
theorem ty_int_part : (3 : TypeId) ≠ 229 := by decide
/-- all that is not the search's stands still -/
theorem SvAt.kept {w w' : World} {B : Nat} {F : Fix} {S : List Pl.Src} {vv : Value} {M : List Nat} {s : Pl.Sr} (h : SvAt w B F S vv M s) (hs : SeAt w' B F S vv s) (hk : ∀ k, k < w.heap.size → (∀ cs t fz, w.heap[k]? = some (.cells cs t fz) → t = 205 ∨ t = 3) → k ≠ F.be → w'.heap[k]? = w.heap[k]?) : SvAt w' B F S vv M s := by
  refine ⟨hs, ?_, ?_, h.len, ?_, h.one, h.apart⟩
  · obtain ⟨es, c, hb, hl⟩ := h.nums
    exact ⟨es, c, (hk _ h.nums.lt (fun cs t fz e => by rw [hb] at e; cases e) h.apart.1).trans hb, hl⟩
  · refine ownsRow_same h.row fun k hv => ?_
    obtain ⟨cur, hc⟩ := ownsRow_ty h.row k hv
    exact hk k (Array.getElem?_eq_some_iff.1 hc).1 (fun cs t fz e => by rw [hc] at e; injection e with e; injection e with _ e _; exact .inl e.symm) (map_not_cells hc h.se.ends)
  · intro i g v hi hv
    obtain ⟨h1, h2⟩ := h.marks i g v hi hv
    exact ⟨(hk g (Array.getElem?_eq_some_iff.1 h1).1 (fun cs t fz e => by rw [h1] at e; injection e with e; injection e with _ e _; exact .inr e.symm) (map_not_cells h1 h.se.ends)).trans h1, h2⟩
theorem SvAt.below {w w' : World} {B : Nat} {F : Fix} {S : List Pl.Src} {vv : Value} {M : List Nat} {s : Pl.Sr} (h : SvAt w B F S vv M s) (hb : Below w.heap.size w w') : SvAt w' B F S vv M s := h.kept (h.se.below hb) fun k hk _ _ => hb.block k hk
theorem SvAt.alloc {w : World} {B : Nat} {F : Fix} {S : List Pl.Src} {vv : Value} {M : List Nat} {s : Pl.Sr} (h : SvAt w B F S vv M s) (o : Obj) : SvAt (w.alloc o) B F S vv M s := h.below ((Below.refl _ _).alloc (Nat.le_refl _) o)
theorem SvAt.drew {w : World} {B : Nat} {F : Fix} {S : List Pl.Src} {vv : Value} {M : List Nat} {s : Pl.Sr} (h : SvAt w B F S vv M s) : SvAt w.drew B F S vv M s := h.below (Below.refl _ _).drew
/-- behind a call that looks for ends alone -/
theorem SvAt.turn {w w' : World} {B : Nat} {F : Fix} {S : List Pl.Src} {vv : Value} {M : List Nat} {s s' : Pl.Sr} (h : SvAt w B F S vv M s) (hs : SeAt w' B F S vv s') (hc : Cue B F w w') (hn : s'.nums = s.nums) (hv : s'.vis = s.vis) : SvAt w' B F S vv M s' := by
  have hk : ∀ k, k < w.heap.size → (∀ cs t fz, w.heap[k]? = some (.cells cs t fz) → t = 205 ∨ t = 3) → k ≠ F.be → w'.heap[k]? = w.heap[k]? := fun k hk ht hne => hc.keep k hk (fun e => by
    subst e
    rcases ht _ _ _ h.se.blk with q | q
    · exact ty_visit_search q.symm
    · exact ty_int_search q.symm) hne
  refine ⟨hs, ?_, ?_, by rw [hv]; exact h.len, ?_, h.one, h.apart⟩
  · obtain ⟨es, c, hb, hl⟩ := h.nums
    rw [hn]
    exact ⟨es, c, (hk _ h.nums.lt (fun cs t fz e => by rw [hb] at e; cases e) h.apart.1).trans hb, hl⟩
  · rw [hv]
    refine ownsRow_same h.row fun k hv => ?_
    obtain ⟨cur, hc⟩ := ownsRow_ty h.row k hv
    exact hk k (Array.getElem?_eq_some_iff.1 hc).1 (fun cs t fz e => by rw [hc] at e; injection e with e; injection e with _ e _; exact .inl e.symm) (map_not_cells hc h.se.ends)
  · rw [hv]
    intro i g v hi hv
    obtain ⟨h1, h2⟩ := h.marks i g v hi hv
    exact ⟨(hk g (Array.getElem?_eq_some_iff.1 h1).1 (fun cs t fz e => by rw [h1] at e; injection e with e; injection e with _ e _; exact .inr e.symm) (map_not_cells h1 h.se.ends)).trans h1, h2⟩
/-- a cell of a block that is none of the search's is written -/
theorem SvAt.far {w w' : World} {B : Nat} {F : Fix} {S : List Pl.Src} {vv : Value} {M : List Nat} {s : Pl.Sr} (h : SvAt w B F S vv M s) {G : Nat} {x : Pl.Sx} (hG : StIn w G x) (hk : ∀ k, k ≠ G → w'.heap[k]? = w.heap[k]?) : SvAt w' B F S vv M s :=
  h.kept (h.se.far hG hk) fun k _ ht _ => hk k (fun e => by
    subst e
    rcases ht _ _ _ hG with q | q
    · exact absurd q (by decide)
    · exact absurd q (by decide))
/-- a mark is stored -/
theorem SvAt.mark {w : World} {B : Nat} {F : Fix} {S : List Pl.Src} {vv : Value} {M : List Nat} {s : Pl.Sr} (h : SvAt w B F S vv M s) {v g : Nat} (hg : M[v]? = some g) (a : Nat) (m : Int) : SvAt (w.setCell ⟨g, a, none⟩ (.int .i64 m)) B F S vv M (s.mark v a m) ∧ Cuv B F w (w.setCell ⟨g, a, none⟩ (.int .i64 m)) := by
  have hset : ∀ k, k ≠ g → (w.setCell ⟨g, a, none⟩ (.int .i64 m)).heap[k]? = w.heap[k]? := fun k hk => Below.heap_setCell _ _ _ _ hk
  have hvl : v < s.vis.length := by rw [← h.len]; exact (List.getElem?_eq_some_iff.1 hg).1
  obtain ⟨u, hu⟩ : ∃ u, s.vis[v]? = some u := ⟨_, List.getElem?_eq_getElem hvl⟩
  obtain ⟨hb, hB⟩ := h.marks v g u hg hu
  have hsame := heap_setCell_same w g a _ _ (.int .i64 m) hb
  have hnum : F.bn ≠ g := fun e => by
    obtain ⟨es, c, hb', _⟩ := h.nums
    rw [e, hb] at hb'; cases hb'
  have hse : SeAt (w.setCell ⟨g, a, none⟩ (.int .i64 m)) B F S vv (s.mark v a m) := by
    obtain ⟨cs', fz', hc⟩ := h.se.src.blk
    refine ⟨(hset _ (ty_apart h.se.blk hb ty_int_search.symm)).trans h.se.blk, h.se.src.kept (hset _ (ty_apart hc hb ty_int_source.symm)) (fun i s' q hs hv => ?_), h.se.places.heap (hset _ (map_not_cells hb h.se.places).symm), h.se.ends.heap (hset _ (map_not_cells hb h.se.ends).symm), h.se.le, h.se.apart⟩
    obtain ⟨cur, hc'⟩ := ownsRow_ty (h.se.src.row i s' hs) q hv
    exact hset q (ty_apart hc' hb ty_int_part.symm)
  have hvl2 : (s.mark v a m).vis.length = s.vis.length := by unfold Pl.Sr.mark; simp
  refine ⟨⟨hse, h.nums.heap (hset _ hnum), ?_, by rw [hvl2]; exact h.len, ?_, h.one, h.apart⟩, ⟨(Below.refl _ _).setCell (p := ⟨g, a, none⟩) hB _, fun k cs t fz hk _ _ h3 => hset k (fun e => by subst e; rw [hb] at hk; injection hk with hk; injection hk with _ hk _; exact h3 hk.symm)⟩⟩
  · rw [hvl2]
    have e : viCells F M (s.mark v a m).vis = viCells F M s.vis := viCells_mark F (fun l => l.set a m) (by simp) M s.vis v
    rw [e]
    refine ownsRow_same h.row fun k hk => hset k ?_
    obtain ⟨cur, hc⟩ := ownsRow_ty h.row k hk
    exact ty_apart hc hb ty_visit_int
  · intro i g' v' hi hv'
    have hv' : (s.vis.modify v fun x => (x.1, x.2.set a m))[i]? = some v' := hv'
    rw [List.getElem?_modify] at hv'
    by_cases hiv : v = i
    · subst hiv
      rw [hg] at hi
      obtain rfl := Option.some.inj hi
      rw [hu] at hv'
      simp only [if_true, Option.map_eq_map, Option.map_some, Option.some.injEq] at hv'
      subst hv'
      refine ⟨?_, hB⟩
      rw [hsame]
      simp [markCells, List.map_set]
    · obtain ⟨v0, e1, e2⟩ : ∃ v0, s.vis[i]? = some v0 ∧ v0 = v' := by
        cases hq : s.vis[i]? with
        | none => rw [hq] at hv'; cases hv'
        | some v0 => rw [hq] at hv'; simp [hiv] at hv'; exact ⟨v0, rfl, hv'⟩
      subst e2
      obtain ⟨h1, h2⟩ := h.marks i g' v0 hi e1
      refine ⟨(hset g' (fun e => ?_)).trans h1, h2⟩
      subst e
      have hlt1 := (List.getElem?_eq_some_iff.1 hi).1
      exact hiv ((List.getElem?_inj (List.getElem?_eq_some_iff.1 hg).1 h.one).1 (hg.trans hi.symm))

end Go.Proofs.YtfkhljmiehdgmaaGreatDoor

/-
  A visit begins.
-/
namespace Go.Proofs.YtfkhljmiehdgmaaGreatDoor
open Go.RowKit Go.Maps

structure NumsOk (n : Nat) (l : List (Pl.En × Nat)) : Prop where
  key : ∀ p ∈ l, Pl.SxFit p.1.2 ∧ p.1.1 < n
  one : Pl.KeysOne l
theorem numsL_at {l : List (Pl.En × Nat)} {i : Nat} {p : Value × Value} (h : (numsL l)[i]? = some p) : ∃ q, l[i]? = some q ∧ p = (enVal q.1, .int .i64 (q.2 : Nat)) := by
  unfold numsL at h
  rw [List.getElem?_map] at h
  obtain ⟨q, h1, h2⟩ := Option.map_eq_some_iff.1 h
  exact ⟨q, h1, h2.symm⟩
theorem nums_keys {n : Nat} {l : List (Pl.En × Nat)} (h : NumsOk n l) (hn : n ≤ 7) : KeysOk Tryz.prog 180 (numsL l) := by
  refine ⟨fun p hp => ?_, fun i j p q hi hj hpq => ?_⟩
  · obtain ⟨i, hi⟩ := List.getElem?_of_mem hp
    obtain ⟨r, h1, rfl⟩ := numsL_at hi
    have := h.key r (List.mem_of_getElem? h1)
    exact en_key this.1.ok this.1.far (by omega)
  · obtain ⟨a, h1, rfl⟩ := numsL_at hi
    obtain ⟨b, h2, rfl⟩ := numsL_at hj
    exact h.one i j a b h1 h2 (enVal_inj hpq)
theorem nums_none {l : List (Pl.En × Nat)} {e : Pl.En} (h : Pl.getKey l e = none) : ∀ p ∈ numsL l, p.1 ≠ enVal e := by
  intro p hp
  unfold numsL at hp
  obtain ⟨q, h1, rfl⟩ := List.mem_map.1 hp
  exact fun x => Pl.getKey_none h q h1 (enVal_inj x)
theorem nums_look {w : World} {bn : Nat} {n : Nat} {l : List (Pl.En × Nat)} (h : MapAt w bn (numsL l)) (ho : NumsOk n l) (hn : n ≤ 7) (e : Pl.En) (he : Pl.SxFit e.2) (hi : e.1 ≤ 6) :
    (Instr.lookup 176 (.map (some bn)) (enVal e) false).run Tryz.prog w = .ok (.int .i64 ((Pl.getKey l e).getD 0 : Nat)) w := by
  obtain ⟨kl, hkl⟩ := en_key he.ok he.far hi
  cases hg : Pl.getKey l e with
  | none => exact run_lookup_no entry_keyed Tryz.underlying176 (int_zero w) h (nums_keys ho hn) hkl (nums_none hg) false
  | some x => exact run_lookup_yes entry_keyed Tryz.underlying176 h (nums_keys ho hn) hkl (List.mem_map.2 ⟨(e, x), Pl.getKey_mem hg, rfl⟩) false
theorem nums_store {w : World} {bn : Nat} {n : Nat} {l : List (Pl.En × Nat)} (h : MapAt w bn (numsL l)) (ho : NumsOk n l) (hn : n ≤ 7) (e : Pl.En) (he : Pl.SxFit e.2) (hi : e.1 ≤ 6) (v : Nat) :
    ∃ w', (Instr.mapUpdate 176 (.map (some bn)) (enVal e) (.int .i64 v)).run Tryz.prog w = .ok () w' ∧ MapAt w' bn (numsL (Pl.putKey l e v)) ∧ w.grownBy w' (some bn) ∧ w'.heap.size = w.heap.size := by
  obtain ⟨kl, hkl⟩ := en_key he.ok he.far hi
  cases hg : Pl.getKey l e with
  | none =>
    obtain ⟨w', h1, h2, h3, h4⟩ := run_update_no (val := .int .i64 v) entry_keyed Tryz.underlying176 h (nums_keys ho hn) hkl (nums_none hg)
    refine ⟨w', h1, ?_, h3, h4⟩
    rw [Pl.putKey_new hg]
    unfold numsL at h2 ⊢
    rw [List.map_append]
    exact h2
  | some y =>
    obtain ⟨i, i1, i2⟩ := Pl.putKey_old hg v
    obtain ⟨w', h1, h2, h3, h4⟩ := run_update_yes (val := .int .i64 v) (v := .int .i64 (y : Nat)) entry_keyed Tryz.underlying176 h (nums_keys ho hn) hkl i (by unfold numsL; rw [List.getElem?_map, i1]; rfl)
    refine ⟨w', h1, ?_, h3, h4⟩
    rw [i2]
    unfold numsL at h2 ⊢
    rw [List.map_set]
    exact h2
theorem info_visit : (Tryz.prog.info? 205).map (fun i => (i.zero, i.size, i.bytes)) = some (some (.agg #[.slice none 0 0, .slice none 0 0]), 2, 48) := by kernel_rfl
theorem visit_cells : (Value.agg #[.slice none 0 0, .slice none 0 0]).cells.size = 2 := rfl
/-- ahead of what is kept of a visit -/
structure Vis1 (w wx : World) (B : Nat) (F : Fix) (S : List Pl.Src) (vv : Value) (M : List Nat) (s : Pl.Sr) (e : Pl.En) (n gV gM : Nat) : Prop where
  sv : SvAt wx B F S vv M s
  ent : wx.heap[w.heap.size]? = some (.cells (enCells e) 180 (0, 0))
  vis : wx.heap[gV]? = some (.cells #[F.pv e.1, .slice (some ⟨gM, 0, none⟩) n n] 205 (0, 0))
  mks : wx.heap[gM]? = some (.cells (markCells (List.replicate n 0)).toArray 3 (0, 0))
  old : w.heap.size ≤ gV ∧ w.heap.size ≤ gM
  below : Below w.heap.size w wx

theorem made_marks (n : Nat) : madeCells #[Value.int .i64 0] n = (markCells (List.replicate n 0)).toArray := by
  apply Array.ext'
  rw [toList_madeCells_one]
  simp [markCells]
/-- a map that is not the map of ends has turned -/
theorem SeAt.mapOther {w w' : World} {B : Nat} {F : Fix} {S : List Pl.Src} {vv : Value} {s : Pl.Sr} (h : SeAt w B F S vv s) {b : Nat} {L : List (Value × Value)} (hm : MapAt w b L) (h1 : b ≠ F.be) (h2 : b ≠ F.bp) (hg : w.grownBy w' (some b)) : SeAt w' B F S vv s := by
  have hk : ∀ k, k < w.heap.size → k ≠ b → w'.heap[k]? = w.heap[k]? := fun k hk hne => hg.block k hk (fun e => hne (Option.some.inj e))
  obtain ⟨cs', fz', hc⟩ := h.src.blk
  refine ⟨(hk _ (Array.getElem?_eq_some_iff.1 h.blk).1 (map_not_cells h.blk hm)).trans h.blk, h.src.kept (hk _ (Array.getElem?_eq_some_iff.1 hc).1 (map_not_cells hc hm)) (fun i s' q hs hv => ?_), h.places.heap (hk _ h.places.lt h2.symm), h.ends.heap (hk _ h.ends.lt h1.symm), h.le, h.apart⟩
  obtain ⟨cur, hc'⟩ := ownsRow_ty (h.src.row i s' hs) q hv
  exact hk q (Array.getElem?_eq_some_iff.1 hc').1 (map_not_cells hc' hm)
theorem SvAt.numsPut {w w' : World} {B : Nat} {F : Fix} {S : List Pl.Src} {vv : Value} {M : List Nat} {s : Pl.Sr} (h : SvAt w B F S vv M s) {l : List (Pl.En × Nat)} (hm : MapAt w' F.bn (numsL l)) (hg : w.grownBy w' (some F.bn)) : SvAt w' B F S vv M { s with nums := l } ∧ Cuv B F w w' := by
  have hk : ∀ k, k < w.heap.size → k ≠ F.bn → w'.heap[k]? = w.heap[k]? := fun k hk hne => hg.block k hk (fun e => hne (Option.some.inj e))
  have hse := h.se.mapOther h.nums h.apart.1 h.apart.2.1 hg
  refine ⟨⟨⟨hse.blk, hse.src, hse.places, hse.ends, hse.le, hse.apart⟩, hm, ?_, h.len, ?_, h.one, h.apart⟩, ⟨⟨hg.os, hg.tape, hg.output, hg.size, fun k hk => hg.block k (by have := h.nums.lt; have := h.apart.2.2; omega) (fun x => by have := Option.some.inj x; have := h.apart.2.2; omega)⟩, fun k cs t fz hk0 _ _ _ => hk k (Array.getElem?_eq_some_iff.1 hk0).1 (map_not_cells hk0 h.nums)⟩⟩
  · refine ownsRow_same h.row fun k hv => ?_
    obtain ⟨cur, hc⟩ := ownsRow_ty h.row k hv
    exact hk k (Array.getElem?_eq_some_iff.1 hc).1 (map_not_cells hc h.nums)
  · intro i g v hi hv
    obtain ⟨h1, h2⟩ := h.marks i g v hi hv
    exact ⟨(hk g (Array.getElem?_eq_some_iff.1 h1).1 (map_not_cells h1 h.nums)).trans h1, h2⟩
/-- a visit is put behind the others -/
theorem SvAt.visit {w w0 w' : World} {B : Nat} {F : Fix} {S : List Pl.Src} {vv vv' : Value} {M : List Nat} {s : Pl.Sr} (h : SvAt w B F S vv M s) (hb0 : Below w.heap.size w w0) {i g n : Nat} (hgM : w.heap[g]? = some (Obj.cells (markCells (List.replicate n 0)).toArray 3 (0, 0))) (hgB : B ≤ g) (hgn : g ∉ M) (hown : w'.ownsRow B 205 2 vv' (s.vis.length + 1) (viCells F M s.vis ++ viCells1 F i g n)) (hgr : w0.grownBy w' vv.ownBlock) :
    SvAt (w'.setCell ⟨F.g, 4, none⟩ vv') B F S vv' (M ++ [g]) { s with vis := s.vis ++ [(i, List.replicate n 0)] } ∧ Cuv B F w (w'.setCell ⟨F.g, 4, none⟩ vv') := by
  have hkeep : ∀ (k : Nat) (cs : Array Value) (t : TypeId) (fz : Nat × Nat), w.heap[k]? = some (.cells cs t fz) → t ≠ 205 → w'.heap[k]? = w.heap[k]? := fun k cs t fz hk ht => by
    have hlt := (Array.getElem?_eq_some_iff.1 hk).1
    refine (hgr.block k (Nat.lt_of_lt_of_le hlt hb0.size) (fun e => ?_)).trans (hb0.block k hlt)
    obtain ⟨cur, hc⟩ := ownsRow_ty h.row k e.symm
    exact ty_apart hk hc ht rfl
  have hkmap : ∀ b L, MapAt w b L → w'.heap[b]? = w.heap[b]? := fun b L hm => by
    refine (hgr.block b (Nat.lt_of_lt_of_le hm.lt hb0.size) (fun e => ?_)).trans (hb0.block b hm.lt)
    obtain ⟨cur, hc⟩ := ownsRow_ty h.row b e.symm
    exact map_not_cells hc hm rfl
  have hset : ∀ k, k ≠ F.g → (w'.setCell ⟨F.g, 4, none⟩ vv').heap[k]? = w'.heap[k]? := fun k hk => Below.heap_setCell _ _ _ _ hk
  have hg' := (hkeep _ _ _ _ h.se.blk ty_visit_search.symm).trans h.se.blk
  obtain ⟨cs', fz', hc⟩ := h.se.src.blk
  refine ⟨⟨⟨?_, ?_, ?_, ?_, h.se.le, h.se.apart⟩, ?_, ?_, ?_, ?_, ?_, h.apart⟩, ⟨?_, ?_⟩⟩
  · rw [heap_setCell_same _ _ _ _ _ _ hg']
    simp [srCells]
  · refine h.se.src.kept ((hset _ (ty_apart hc h.se.blk ty_search_source.symm)).trans (hkeep _ _ _ _ hc ty_visit_source.symm)) fun i' s' q hs hv => ?_
    obtain ⟨cur, hc'⟩ := ownsRow_ty (h.se.src.row i' s' hs) q hv
    exact (hset _ (ty_apart hc' h.se.blk ty_search_part.symm)).trans (hkeep _ _ _ _ hc' ty_visit_part.symm)
  · exact h.se.places.heap ((hset _ (map_not_cells h.se.blk h.se.places).symm).trans (hkmap _ _ h.se.places))
  · exact h.se.ends.heap ((hset _ (map_not_cells h.se.blk h.se.ends).symm).trans (hkmap _ _ h.se.ends))
  · exact h.nums.heap ((hset _ (map_not_cells h.se.blk h.nums).symm).trans (hkmap _ _ h.nums))
  · show World.ownsRow _ _ _ _ _ (s.vis ++ [_]).length _
    rw [List.length_append, viCells_snoc F g _ M s.vis h.len, show (List.replicate n (0 : Int)).length = n by simp]
    refine ownsRow_same hown fun k hk => hset k ?_
    obtain ⟨cur, hc'⟩ := ownsRow_ty hown k hk
    exact ty_apart hc' hg' ty_visit_search
  · simp [h.len]
  · intro j g' v hj hv
    rw [List.getElem?_append] at hj
    have hv : (s.vis ++ [(i, List.replicate n 0)])[j]? = some v := hv
    rw [List.getElem?_append, ← h.len] at hv
    split at hj
    · rename_i hjl
      rw [if_pos hjl] at hv
      obtain ⟨h1, h2⟩ := h.marks j g' v hj hv
      exact ⟨((hset g' (ty_apart h1 h.se.blk ty_int_search)).trans (hkeep _ _ _ _ h1 ty_visit_int.symm)).trans h1, h2⟩
    · rename_i hjl
      rw [if_neg hjl] at hv
      have hj0 : j - M.length = 0 := by
        have := (List.getElem?_eq_some_iff.1 hj).1
        simp at this; omega
      rw [hj0] at hj hv
      simp only [List.getElem?_cons_zero, Option.some.injEq] at hj hv
      subst hj hv
      exact ⟨((hset _ (ty_apart hgM h.se.blk ty_int_search)).trans (hkeep _ _ _ _ hgM ty_visit_int.symm)).trans hgM, hgB⟩
  · rw [List.nodup_append]
    exact ⟨h.one, by simp, fun a ha b hb e => by simp at hb; subst hb e; exact hgn ha⟩
  · have h1 := h.se.le.1
    have h2 := (Array.getElem?_eq_some_iff.1 h.se.blk).1
    exact Below.trans (hb0.mono (by omega)) (Below.trans ⟨hgr.os, hgr.tape, hgr.output, hgr.size, fun k hk => hgr.block k (by have := hb0.size; omega) (fun e => by have := (h.row.lt k e.symm).1; omega)⟩ ((Below.refl _ _).setCell (p := ⟨F.g, 4, none⟩) h.se.le.1 _))
  · intro k cs t fz hk h1 h2 _
    exact (hset k h1).trans (hkeep k cs t fz hk h2)

theorem SvAt.ahead {w w0 w' : World} {B : Nat} {F : Fix} {S : List Pl.Src} {vv : Value} {M : List Nat} {s : Pl.Sr} (h : SvAt w B F S vv M s) (hb0 : Below w.heap.size w w0) (hgr : w0.grownBy w' vv.ownBlock) : w'.cell? ⟨F.g, 4, none⟩ = some vv ∧ w'.frozen? ⟨F.g, 4, none⟩ = false := by
  have hlt := (Array.getElem?_eq_some_iff.1 h.se.blk).1
  have hb : w'.heap[F.g]? = some (.cells (srCells F S.length vv s.fault) 178 (0, 0)) := by
    refine (hgr.block _ (Nat.lt_of_lt_of_le hlt hb0.size) (fun e => ?_)).trans ((hb0.block _ hlt).trans h.se.blk)
    obtain ⟨cur, hc⟩ := ownsRow_ty h.row _ e.symm
    exact ty_apart h.se.blk hc ty_visit_search.symm rfl
  exact ⟨cells_at_block hb 4 _ rfl, by simp [World.frozen?, hb]⟩

end Go.Proofs.YtfkhljmiehdgmaaGreatDoor

/-
  A partial is gone through where it is named.
-/
namespace Go.Proofs.YtfkhljmiehdgmaaGreatDoor
open Go.RowKit

/-- what is asked of the going through of a text -/
def ThrC (S : List Pl.Src) (k : Nat) : Prop := ∀ (w : World) (B : Nat) (F : Fix) (vv : Value) (M : List Nat) (s : Pl.Sr) (e : Pl.En), SvAt w B F S vv M s → Pl.Pre S s e → 258 ≤ s.nums.length + k → TabB B w →
    Calls Tryz.prog 75 #[.pointer (some ⟨F.g, 0, none⟩), enVal e] w fun ed w' => (∃ r, ed = .returned r) ∧ (∃ vv' ext, SvAt w' B F S vv' (M ++ ext) (Pl.thruV S k s e)) ∧ Cuv B F w w'
structure Nmi (w wr : World) (B : Nat) (F : Fix) (S : List Pl.Src) (vv : Value) (M : List Nat) (s : Pl.Sr) (G : Nat) (y : Pl.Sx) (R : Nat) (z : Pl.Sx) (E : Nat) (e : Pl.En) : Prop where
  sv : SvAt wr B F S vv M s
  end' : StIn wr G y
  res : StIn wr R z
  ne : G ≠ R
  ent : wr.heap[E]? = some (.cells (enCells e) 180 (0, 0))
  old : w.heap.size ≤ R ∧ B ≤ w.heap.size
  cuv : Cuv B F w wr
  tabs : TabB B wr
theorem Nmi.below {w wr w' : World} {B : Nat} {F : Fix} {S : List Pl.Src} {vv : Value} {M : List Nat} {s : Pl.Sr} {G : Nat} {y : Pl.Sx} {R : Nat} {z : Pl.Sx} {E : Nat} {e : Pl.En} (h : Nmi w wr B F S vv M s G y R z E e) (hb : Below wr.heap.size wr w') : Nmi w w' B F S vv M s G y R z E e :=
  have hB : B ≤ wr.heap.size := Nat.le_trans h.old.2 h.cuv.below.size
  ⟨h.sv.below hb, h.end'.below hb, h.res.below hb, h.ne, (hb.block _ (Array.getElem?_eq_some_iff.1 h.ent).1).trans h.ent, h.old, h.cuv.trans (Cuv.of_below hb hB), h.tabs.kept (hb.mono hB)⟩
theorem Nmi.alloc {w wr : World} {B : Nat} {F : Fix} {S : List Pl.Src} {vv : Value} {M : List Nat} {s : Pl.Sr} {G : Nat} {y : Pl.Sx} {R : Nat} {z : Pl.Sx} {E : Nat} {e : Pl.En} (h : Nmi w wr B F S vv M s G y R z E e) (o : Obj) : Nmi w (wr.alloc o) B F S vv M s G y R z E e := h.below ((Below.refl _ _).alloc (Nat.le_refl _) o)
theorem Nmi.drew {w wr : World} {B : Nat} {F : Fix} {S : List Pl.Src} {vv : Value} {M : List Nat} {s : Pl.Sr} {G : Nat} {y : Pl.Sx} {R : Nat} {z : Pl.Sx} {E : Nat} {e : Pl.En} (h : Nmi w wr B F S vv M s G y R z E e) : Nmi w wr.drew B F S vv M s G y R z E e := h.below (Below.refl _ _).drew
theorem Nmi.turn {w wr w' : World} {B : Nat} {F : Fix} {S : List Pl.Src} {vv vv' : Value} {M M' : List Nat} {s s' : Pl.Sr} {G : Nat} {y : Pl.Sx} {R : Nat} {z : Pl.Sx} {E : Nat} {e : Pl.En} (h : Nmi w wr B F S vv M s G y R z E e) (hs : SvAt w' B F S vv' M' s') (hc : Cuv B F wr w') : Nmi w w' B F S vv' M' s' G y R z E e := by
  have k1 := hc.keep G _ _ _ h.end' (ty_apart h.end' h.sv.se.blk ty_state_search) (by decide) (by decide)
  have k2 := hc.keep R _ _ _ h.res (ty_apart h.res h.sv.se.blk ty_state_search) (by decide) (by decide)
  have k3 := hc.keep E _ _ _ h.ent (ty_apart h.ent h.sv.se.blk ty_entry_search) (by decide) (by decide)
  exact ⟨hs, k1.trans h.end', k2.trans h.res, h.ne, k3.trans h.ent, h.old, h.cuv.trans hc, h.tabs.kept hc.below⟩
theorem Nmi.set {w wr : World} {B : Nat} {F : Fix} {S : List Pl.Src} {vv : Value} {M : List Nat} {s : Pl.Sr} {G : Nat} {y : Pl.Sx} {R : Nat} {z : Pl.Sx} {E : Nat} {e : Pl.En} (h : Nmi w wr B F S vv M s G y R z E e) (x : Pl.Sx) : Nmi w (set10 wr R (.int .u8 (x.st.mode : Int)) (.string ⟨x.st.name.toArray⟩) (.string ⟨x.st.elem.toArray⟩) (.int .i64 x.st.kind) (.int .i64 (x.st.read : Int)) (.bool x.ma.ref) (.bool x.st.esc) (.int .i64 x.ma.hex) (.int .i64 x.ma.pct) (.int .i64 x.ma.far)) B F S vv M s G y R x E e := by
  have hfar := fun k (hk : k ≠ R) => set10_far (w := wr) hk (.int .u8 (x.st.mode : Int)) (.string ⟨x.st.name.toArray⟩) (.string ⟨x.st.elem.toArray⟩) (.int .i64 x.st.kind) (.int .i64 (x.st.read : Int)) (.bool x.ma.ref) (.bool x.st.esc) (.int .i64 x.ma.hex) (.int .i64 x.ma.pct) (.int .i64 x.ma.far)
  have hbel : Below R wr (set10 wr R (.int .u8 (x.st.mode : Int)) (.string ⟨x.st.name.toArray⟩) (.string ⟨x.st.elem.toArray⟩) (.int .i64 x.st.kind) (.int .i64 (x.st.read : Int)) (.bool x.ma.ref) (.bool x.st.esc) (.int .i64 x.ma.hex) (.int .i64 x.ma.pct) (.int .i64 x.ma.far)) := below_set10 (Below.refl _ _) (Nat.le_refl _) _ _ _ _ _ _ _ _ _ _
  have hs := h.res.set x
  generalize set10 wr R _ _ _ _ _ _ _ _ _ _ = w' at hfar hbel hs ⊢
  have hB := hbel.mono (Nat.le_trans h.old.2 h.old.1)
  refine ⟨h.sv.far h.res hfar, (hfar _ h.ne).trans h.end', hs, h.ne, (hfar _ (ty_apart h.ent h.res ty_entry_state)).trans h.ent, h.old, ⟨h.cuv.below.trans hB, fun k cs t fz hk h1 h2 h3 => (hfar k (fun e => ?_)).trans (h.cuv.keep k cs t fz hk h1 h2 h3)⟩, h.tabs.kept hB⟩
  have := (Array.getElem?_eq_some_iff.1 hk).1
  have := h.old.1
  omega
/-- two values handed back, the second out of its block -/
theorem Nmi.post {w wr : World} {B : Nat} {F : Fix} {S : List Pl.Src} {vv : Value} {M ext : List Nat} {s : Pl.Sr} {G : Nat} {y : Pl.Sx} {R : Nat} {z : Pl.Sx} {E : Nat} {e : Pl.En} (h : Nmi w wr B F S vv (M ++ ext) s G y R z E e) {a : Act} {n : Int} (h6 : a.tmps.getD 6 undef = .int .i64 n) (hp : a.tmps.getD 7 undef = .pointer (some ⟨R, 0, none⟩)) (hd : a.defers = []) :
    bodyPost Tryz.prog Tryz.f110 (fun ed w' => ed = .returned (.tuple #[.int .i64 n, sxVal z]) ∧ (∃ vv' ext', SvAt w' B F S vv' (M ++ ext') s) ∧ Cuv B F w w') .ret a wr := by
  refine bodyPost_ret ?_ hd (⟨rfl, ⟨vv, ext, h.sv⟩, h.cuv⟩ : _ ∧ _)
  have hl := run_loadVar_cells (P := Tryz.prog) wr R 162 (sxCells z) _ (cells_at_block h.res) Tryz.underlying162 rfl (by kernel_rfl)
  rw [Array.getD_eq_getD_getElem?] at h6 hp
  simp only [results, Tryz.results110]
  simp [h6, hp, asAddr, hl]
  rfl

end Go.Proofs.YtfkhljmiehdgmaaGreatDoor

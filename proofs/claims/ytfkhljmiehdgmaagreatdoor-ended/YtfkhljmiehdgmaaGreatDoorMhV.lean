/-
  Several texts laid together: each opens with its own remark.
-/
import Derived.Test.YtfkhljmiehdgmaaGreatDoorMhU
import Derived.Test.YtfkhljmiehdgmaaGreatDoorPnT
import Derived.Test.YtfkhljmiehdgmaaGreatDoorMhF

/-
  A plan is made, walked.
-/
namespace Go.Proofs.YtfkhljmiehdgmaaGreatDoor
open Go.RowKit Go.Maps

theorem thr_all (HB : BehindC) (S : List Pl.Src) (hS : SrcsOk S) : ∀ k, ThrC S k := by
  intro k
  induction k with
  | zero =>
    intro w B F vv M s e h hp hk ht
    have := hp.inv.few
    have := hp.inv.ends.few
    omega
  | succ k ih => exact thr_any HB S hS k ih

namespace Pl
theorem isIdent_len {n : List UInt8} (h : isIdent n = true) : n.length ≤ 8 := by
  unfold isIdent at h
  simp only [Bool.and_eq_true, decide_eq_true_eq] at h
  exact h.2.1
theorem cutEach_ok : ∀ (Z : List (List UInt8 × List UInt8)), (cutEach Z).1.code = 0 → (cutEach Z).2 = (Z.map fun z => ⟨z.1, (cutAll z.2).2⟩) ∧ ∀ (i : Nat) z, Z[i]? = some z → (cutAll z.2).1.1 = 0
  | [], _ => ⟨rfl, fun i z h => by simp at h⟩
  | (n, t) :: l, h => by
    unfold cutEach at h ⊢
    by_cases h0 : (cutAll t).1.1 = 0
    · rw [if_neg (fun q => q h0)] at h ⊢
      by_cases h1 : (cutEach l).1.code = 0
      · rw [if_neg (fun q => q h1)] at h ⊢
        obtain ⟨k1, k2⟩ := cutEach_ok l h1
        refine ⟨by rw [k1]; rfl, fun i z hz => ?_⟩
        cases i with
        | zero => simp at hz; subst hz; exact h0
        | succ i => exact k2 i z (by simpa using hz)
      · rw [if_pos h1] at h; exact absurd h h1
    · rw [if_pos h0] at h; cases h
end Pl
theorem srcs_ok (t : List UInt8) (P : List (List UInt8 × List UInt8)) (h6 : P.length ≤ 6) (ha : Pl.argsOk (P.map (·.1)) = true) (hc : (Pl.cutEach (([], t) :: P)).1.code = 0) : SrcsOk (Pl.cutEach (([], t) :: P)).2 := by
  obtain ⟨h1, h2⟩ := Pl.cutEach_ok _ hc
  rw [h1]
  have hat : ∀ (i : Nat) (a : Pl.Src), ((([], t) :: P).map fun z => (⟨z.1, (Pl.cutAll z.2).2⟩ : Pl.Src))[i]? = some a → ∃ z, (([], t) :: P)[i]? = some z ∧ a = ⟨z.1, (Pl.cutAll z.2).2⟩ := fun i a h => by
    rw [List.getElem?_map] at h
    obtain ⟨z, e1, e2⟩ := Option.map_eq_some_iff.1 h
    exact ⟨z, e1, e2.symm⟩
  have hnm : ∀ (i : Nat) (z : List UInt8 × List UInt8), (([], t) :: P)[i + 1]? = some z → (P.map (·.1))[i]? = some z.1 := fun i z h => by
    rw [List.getElem?_cons_succ] at h
    rw [List.getElem?_map, h]; rfl
  have hargs := (Pl.argsOk_iff _).1 ha
  refine ⟨by simp; omega, fun i j a b hi hj h3 h4 he => ?_, fun i a h3 => ?_, fun i a h3 => ?_, fun i a h3 => ?_⟩
  · obtain ⟨i, rfl⟩ : ∃ k, i = k + 1 := ⟨i - 1, by omega⟩
    obtain ⟨j, rfl⟩ : ∃ k, j = k + 1 := ⟨j - 1, by omega⟩
    obtain ⟨z, e1, rfl⟩ := hat _ _ h3
    obtain ⟨y, e2, rfl⟩ := hat _ _ h4
    have he : z.1 = y.1 := he
    have n1 := hnm i z e1
    have n2 := hnm j y e2
    rcases Nat.lt_trichotomy i j with q | q | q
    · exact absurd (he ▸ n1) ((hargs j y.1 n2).2 i q)
    · omega
    · exact absurd (he ▸ n2) ((hargs i z.1 n1).2 j q)
  · obtain ⟨z, e1, rfl⟩ := hat _ _ h3
    show z.1.length ≤ _
    cases i with
    | zero => simp at e1; subst e1; simp
    | succ i => have := Pl.isIdent_len (hargs i z.1 (hnm i z e1)).1; omega
  · obtain ⟨z, e1, rfl⟩ := hat _ _ h3
    have hz := h2 i z e1
    have hb := Pl.cutAll_b z.2 hz
    have hk := Pl.cutAll_ok z.2 hz
    have hin := Pl.cutAll_in z.2
    refine ⟨Nat.le_trans hk.2 hb.1, fun p hp => ⟨Nat.le_trans (hb.2 p hp).text hb.1, Nat.le_trans (hin.2 p hp).pos hb.1, Nat.le_trans (hb.2 p hp).mate hb.1⟩⟩
  · obtain ⟨z, e1, rfl⟩ := hat _ _ h3
    exact (Pl.cutAll_ok z.2 (h2 i z e1)).1

end Go.Proofs.YtfkhljmiehdgmaaGreatDoor

/-
  A plan is made, walked: what holds on the way.
-/
namespace Go.Proofs.YtfkhljmiehdgmaaGreatDoor
open Go.RowKit Go.Maps

/-- two values handed back, each out of a block -/
theorem po_two_cells {P : Program} {fn : Func} {R : Ending → World → Prop} {a : Act} {w : World} {p q : Tmp} {tp tq : TypeId} (h : fn.results = #[.cell p tp, .cell q tq]) (hdf : a.defers = []) (g1 g2 : Nat) (c1 c2 : Array Value) (hp : a.tmps.getD p undef = .pointer (some ⟨g1, 0, none⟩)) (hq : a.tmps.getD q undef = .pointer (some ⟨g2, 0, none⟩))
    (hb1 : w.heap[g1]? = some (.cells c1 tp (0, 0))) (hb2 : w.heap[g2]? = some (.cells c2 tq (0, 0))) (d1 d2 : TypeDesc) (hu1 : P.underlying tp = some d1) (hu2 : P.underlying tq = some d2) (hd1 : aggD d1 = true) (hd2 : aggD d2 = true) (hi1 : (P.info? tp).map (·.size) = some c1.size) (hi2 : (P.info? tq).map (·.size) = some c2.size) (hR : R (.returned (.tuple #[.agg c1, .agg c2])) w) : bodyPost P fn R .ret a w := by
  refine bodyPost_ret ?_ hdf hR
  have hl1 := run_loadVar_cells (P := P) w g1 tp c1 d1 (cells_at_block hb1) hu1 (by cases d1 <;> first | rfl | cases hd1) hi1
  have hl2 := run_loadVar_cells (P := P) w g2 tq c2 d2 (cells_at_block hb2) hu2 (by cases d2 <;> first | rfl | cases hd2) hi2
  rw [Array.getD_eq_getD_getElem?] at hp hq
  simp only [results, h]
  simp [hp, hq, asAddr, hl1, hl2]

def argsFine (L : List (ByteArray × ByteArray)) : Bool := decide (L.length ≤ 6) && Pl.argsOk (namesOf L)
theorem names_pairs (L : List (ByteArray × ByteArray)) : (pairsOf L).map (·.1) = namesOf L := by
  unfold pairsOf namesOf
  rw [List.map_map]; rfl
theorem areArgs_arg (v : Value) (L : List (ByteArray × ByteArray)) (w : World) (hA : ArgAt w v L) : Calls Tryz.prog 43 #[v] w fun e w' => e = .returned (.bool (argsFine L)) ∧ Below w.heap.size w w' := by
  obtain ⟨ao, cap, rfl, h1, h2, h3⟩ := hA
  unfold argsFine
  by_cases h6 : L.length ≤ 6
  · rw [decide_eq_true h6, Bool.true_and]
    by_cases hn : L = []
    · subst hn
      refine (areArgs_none ao cap w).mono ?_
      rintro e w' ⟨rfl, rfl⟩
      exact ⟨rfl, Below.refl _ _⟩
    · obtain ⟨b, rfl, hp⟩ := h3 hn
      refine (areArgs_some b cap L w hp h6).mono ?_
      rintro e w' ⟨rfl, m, rfl⟩
      exact ⟨rfl, below_drewN (Below.refl _ _) m⟩
  · rw [decide_eq_false h6, Bool.false_and]
    refine (areArgs_many ao L.length cap w (by omega)).mono ?_
    rintro e w' ⟨rfl, rfl⟩
    exact ⟨rfl, Below.refl _ _⟩
theorem ArgAt.kept {w w' : World} {v : Value} {L : List (ByteArray × ByteArray)} (h : ArgAt w v L) (hb : Below w.heap.size w w') : ArgAt w' v L := by
  obtain ⟨ao, cap, h0, h1, h2, h3⟩ := h
  refine ⟨ao, cap, h0, h1, h2, fun hn => ?_⟩
  obtain ⟨b, e, hp⟩ := h3 hn
  exact ⟨b, e, fun k x hx => (hb.cell (p := ⟨b, k * 2, none⟩) (World.block_lt_of_cell? _ _ (hp.name k x hx))).trans (hp.name k x hx), fun k x hx => (hb.cell (p := ⟨b, k * 2 + 1, none⟩) (World.block_lt_of_cell? _ _ (hp.text k x hx))).trans (hp.text k x hx)⟩

/-- the two results' blocks -/
structure Mki (w wr : World) (P R : Nat) : Prop where
  pl : wr.heap[P]? = some (.cells #[.slice none 0 0] 77 (0, 0))
  ft : wr.heap[R]? = some (.cells #[.int .i64 0, .int .i64 0, .string ⟨#[]⟩, .int .i64 0] 31 (0, 0))
  below : Below w.heap.size w wr
  le : w.heap.size ≤ P ∧ w.heap.size ≤ R
  ne : P ≠ R
theorem Mki.next {w wr w' : World} {P R : Nat} (h : Mki w wr P R) (hb : Below wr.heap.size wr w') : Mki w w' P R :=
  ⟨(hb.block _ (Array.getElem?_eq_some_iff.1 h.pl).1).trans h.pl, (hb.block _ (Array.getElem?_eq_some_iff.1 h.ft).1).trans h.ft, h.below.trans (hb.mono h.below.size), h.le, h.ne⟩
theorem Mki.keeps {w wr w' : World} {P R B : Nat} (h : Mki w wr P R) (hk : Keeps wr w') (hb : Below B wr w') (hB : w.heap.size ≤ B) : Mki w w' P R :=
  ⟨(hk _ _ _ _ h.pl (by decide) (by decide)).trans h.pl, (hk _ _ _ _ h.ft (by decide) (by decide)).trans h.ft, h.below.trans (hb.mono hB), h.le, h.ne⟩
theorem Mki.start (w : World) : Mki w ((w.alloc (.cells #[.slice none 0 0] 77)).alloc (.cells #[.int .i64 0, .int .i64 0, .string ⟨#[]⟩, .int .i64 0] 31)) w.heap.size (w.heap.size + 1) :=
  ⟨(heap_alloc_old _ _ (by simp)).trans (heap_alloc_new _ _), heap_new_at _ _ _ (by simp), ((Below.refl _ _).alloc (Nat.le_refl _) _).alloc (by simp) _, ⟨Nat.le_refl _, by omega⟩, by omega⟩
/-- the world behind the two results' stores -/
theorem Mki.set {w wr : World} {P R : Nat} (h : Mki w wr P R) (u v0 v1 v2 v3 : Value) :
    (((((wr.setCell ⟨P, 0, none⟩ u).setCell ⟨R, 0, none⟩ v0).setCell ⟨R, 1, none⟩ v1).setCell ⟨R, 2, none⟩ v2).setCell ⟨R, 3, none⟩ v3).heap[P]? = some (.cells #[u] 77 (0, 0)) ∧
    (((((wr.setCell ⟨P, 0, none⟩ u).setCell ⟨R, 0, none⟩ v0).setCell ⟨R, 1, none⟩ v1).setCell ⟨R, 2, none⟩ v2).setCell ⟨R, 3, none⟩ v3).heap[R]? = some (.cells #[v0, v1, v2, v3] 31 (0, 0)) ∧
    Below w.heap.size w (((((wr.setCell ⟨P, 0, none⟩ u).setCell ⟨R, 0, none⟩ v0).setCell ⟨R, 1, none⟩ v1).setCell ⟨R, 2, none⟩ v2).setCell ⟨R, 3, none⟩ v3) := by
  have h1 : (wr.setCell ⟨P, 0, none⟩ u).heap[P]? = some (.cells #[u] 77 (0, 0)) := heap_setCell_same _ _ _ _ _ _ h.pl
  have h2 : (wr.setCell ⟨P, 0, none⟩ u).heap[R]? = _ := (Below.heap_setCell _ _ _ _ h.ne.symm).trans h.ft
  refine ⟨?_, fault_set h2 _ _ _ _, ?_⟩
  · exact (Below.heap_setCell _ _ _ _ h.ne).trans ((Below.heap_setCell _ _ _ _ h.ne).trans ((Below.heap_setCell _ _ _ _ h.ne).trans ((Below.heap_setCell _ _ _ _ h.ne).trans h1)))
  · exact ((((h.below.setCell (p := ⟨P, 0, none⟩) h.le.1 u).setCell (p := ⟨R, 0, none⟩) h.le.2 v0).setCell (p := ⟨R, 1, none⟩) h.le.2 v1).setCell (p := ⟨R, 2, none⟩) h.le.2 v2).setCell (p := ⟨R, 3, none⟩) h.le.2 v3
theorem Mki.sv {w wr : World} {P R : Nat} (h : Mki w wr P R) {B : Nat} {F : Fix} {S : List Pl.Src} {vv : Value} {M : List Nat} {s : Pl.Sr} (hs : SvAt wr B F S vv M s) (u v0 v1 v2 v3 : Value) :
    SvAt (((((wr.setCell ⟨P, 0, none⟩ u).setCell ⟨R, 0, none⟩ v0).setCell ⟨R, 1, none⟩ v1).setCell ⟨R, 2, none⟩ v2).setCell ⟨R, 3, none⟩ v3) B F S vv M s :=
  (hs.other h.pl (by decide) (by decide) (by decide) (by decide) (by decide) 0 u).fault4 ((Below.heap_setCell _ _ _ _ h.ne.symm).trans h.ft) v0 v1 v2 v3
/-- a fault is stored beside them -/
theorem Mki.beside {w wr : World} {P R : Nat} (h : Mki w wr P R) {E : Nat} (hE : w.heap.size ≤ E) (h1 : P ≠ E) (h2 : R ≠ E) (v0 v1 v2 v3 : Value) : Mki w ((((wr.setCell ⟨E, 0, none⟩ v0).setCell ⟨E, 1, none⟩ v1).setCell ⟨E, 2, none⟩ v2).setCell ⟨E, 3, none⟩ v3) P R :=
  have e : ∀ q, q ≠ E → ((((wr.setCell ⟨E, 0, none⟩ v0).setCell ⟨E, 1, none⟩ v1).setCell ⟨E, 2, none⟩ v2).setCell ⟨E, 3, none⟩ v3).heap[q]? = wr.heap[q]? := fun _ hk => (Below.heap_setCell _ _ _ _ hk).trans ((Below.heap_setCell _ _ _ _ hk).trans ((Below.heap_setCell _ _ _ _ hk).trans (Below.heap_setCell _ _ _ _ hk)))
  ⟨(e _ h1).trans h.pl, (e _ h2).trans h.ft, (((h.below.setCell (p := ⟨E, 0, none⟩) hE v0).setCell (p := ⟨E, 1, none⟩) hE v1).setCell (p := ⟨E, 2, none⟩) hE v2).setCell (p := ⟨E, 3, none⟩) hE v3, h.le, h.ne⟩
/-- the cells of the results' blocks -/
theorem Mki.cells {w wr : World} {P R : Nat} (h : Mki w wr P R) : wr.cell? ⟨P, 0, none⟩ = some (.slice none 0 0) ∧ wr.frozen? ⟨P, 0, none⟩ = false ∧ wr.cell? ⟨R, 0, none⟩ = some (.int .i64 0) ∧ wr.cell? ⟨R, 1, none⟩ = some (.int .i64 0) ∧ wr.cell? ⟨R, 2, none⟩ = some (.string ⟨#[]⟩) ∧ wr.cell? ⟨R, 3, none⟩ = some (.int .i64 0) ∧ wr.frozen? ⟨R, 0, none⟩ = false ∧ wr.frozen? ⟨R, 1, none⟩ = false ∧ wr.frozen? ⟨R, 2, none⟩ = false ∧ wr.frozen? ⟨R, 3, none⟩ = false :=
  ⟨cells_at_block h.pl 0 _ rfl, by simp [World.frozen?, h.pl], cells_at_block h.ft 0 _ rfl, cells_at_block h.ft 1 _ rfl, cells_at_block h.ft 2 _ rfl, cells_at_block h.ft 3 _ rfl, by simp [World.frozen?, h.ft], by simp [World.frozen?, h.ft], by simp [World.frozen?, h.ft], by simp [World.frozen?, h.ft]⟩

set_option maxRecDepth 100000 in
set_option maxHeartbeats 6400000 in
theorem make_badArgs (T : ByteArray) (v : Value) (L : List (ByteArray × ByteArray)) (w : World) (hA : ArgAt w v L) (hf : argsFine L = false) :
    Calls Tryz.prog 29 #[.string T, v] w fun ed w' => ed = .returned (.tuple #[.agg #[.slice none 0 0], .agg #[.int .i64 1, .int .i64 0, .string ⟨#[]⟩, .int .i64 0]]) ∧ Below w.heap.size w w' := by
  have h1 := fun w1 (hb : Below w.heap.size w w1) => areArgs_arg v L w1 (hA.kept hb)
  rw [hf] at h1
  have H1 := (show Hid _ from h1)
  clear h1 hf hA
  go_enter Tryz.func29, Tryz.ntmps29
  go_wp2_with fail
  refine (H1.out _ (Mki.start w).below).mono ?_; rintro ed w1 ⟨rfl, hb⟩
  have HK := (show Hid _ from (Mki.start w).next hb)
  obtain ⟨p0, q0, x0, x1, x2, x3, y0, y1, y2, y3⟩ := HK.out.cells
  clear hb
  go_wp2_with fail
  have hs := HK.out.set (.slice none 0 0) (.int .i64 1) (.int .i64 0) (.string ⟨#[]⟩) (.int .i64 0)
  refine po_two_cells Tryz.results29 rfl w.heap.size (w.heap.size + 1) _ _ rfl rfl hs.1 hs.2.1 _ _ Tryz.underlying77 Tryz.underlying31 rfl rfl (by kernel_rfl) (by kernel_rfl) ?_
  exact ⟨rfl, hs.2.2⟩

end Go.Proofs.YtfkhljmiehdgmaaGreatDoor

/-
  A plan is made, walked to the end; Compile.
-/
namespace Go.Proofs.YtfkhljmiehdgmaaGreatDoor
open Go.RowKit Go.Maps

theorem ftVal_cells (f : Pl.Ft) : ftVal f = .agg #[.int .i64 f.code, .int .i64 f.kind, .string ⟨f.place.toArray⟩, .int .i64 f.pos] := rfl
theorem ftVal_zero : ftVal Pl.Ft.none = .agg #[.int .i64 0, .int .i64 0, .string ⟨#[]⟩, .int .i64 0] := rfl
theorem argsFine_names {L : List (ByteArray × ByteArray)} (h : argsFine L = true) : L.length ≤ 6 ∧ Pl.argsOk (namesOf L) = true ∧ ∀ p ∈ L, p.1.size ≤ 100000 := by
  unfold argsFine at h
  simp only [Bool.and_eq_true, decide_eq_true_eq] at h
  refine ⟨h.1, h.2, fun p hp => ?_⟩
  obtain ⟨i, hi⟩ := List.getElem?_of_mem hp
  have hx : (namesOf L)[i]? = some p.1.data.toList := by unfold namesOf; rw [List.getElem?_map, hi]; rfl
  have := Pl.isIdent_len ((Pl.argsOk_iff _).1 h.2 i _ hx).1
  simp at this
  omega

set_option maxRecDepth 100000 in
set_option maxHeartbeats 6400000 in
theorem make_slip (T : ByteArray) (v : Value) (L : List (ByteArray × ByteArray)) (w : World) (hA : ArgAt w v L) (hf : argsFine L = true) (hm : MaxLenAt w) (hR : Readable T.data.toList) (hRL : ∀ p ∈ L, Readable p.2.data.toList) (r : Pl.Ft × List Pl.Src) (hr : Pl.cutEach (([], T.data.toList) :: pairsOf L) = r) (hc : r.1.code ≠ 0) :
    Calls Tryz.prog 29 #[.string T, v] w fun ed w' => ed = .returned (.tuple #[.agg #[.slice none 0 0], ftVal r.1]) ∧ Below w.heap.size w w' := by
  have h1 := fun w1 (hb : Below w.heap.size w w1) => areArgs_arg v L w1 (hA.kept hb)
  rw [hf] at h1
  obtain ⟨f1, f2, f3⟩ := argsFine_names hf
  have h2 := fun w1 (hb : Below w.heap.size w w1) => cutAll_any T v L w1 (hA.kept hb) f1 (hm.below hb) hR hRL f3 r hr
  have H1 := (show Hid _ from h1)
  have H2 := (show Hid _ from h2)
  have hc1 : ((r.1.code : Int) != 0) = true := by rw [bne_iff_ne]; omega
  have HC := (show Hid _ from hc)
  clear h1 hf hA h2 f1 f2 f3 hm hR hRL hr hc
  rw [ftVal_cells]
  go_enter Tryz.func29, Tryz.ntmps29
  go_wp2_with fail
  refine (H1.out _ (Mki.start w).below).mono ?_; rintro ed w1 ⟨rfl, hb⟩
  have HK := (show Hid _ from (Mki.start w).next hb)
  clear hb
  generalize w.heap.size + 1 = R0 at HK ⊢
  generalize w.heap.size = P0 at HK ⊢
  go_wp2_with fail
  refine (H2.out _ HK.out.below).mono ?_; rintro ed w2 ⟨⟨h3, _⟩, hb⟩
  obtain rfl := h3 HC.out
  rw [ftVal_cells]
  have HK2 := (show Hid _ from HK.out.next hb)
  have HK3 := (show Hid _ from HK2.out.next ((Below.refl _ _).alloc (Nat.le_refl _) (.cells #[.int .i64 (r.1.code : Nat), .int .i64 r.1.kind, .string ⟨r.1.place.toArray⟩, .int .i64 (r.1.pos : Nat)] 31)))
  obtain ⟨p0, q0, x0, x1, x2, x3, y0, y1, y2, y3⟩ := HK3.out.cells
  have e1 : w2.heap.size ≠ P0 := (Nat.ne_of_lt (Array.getElem?_eq_some_iff.1 HK2.out.pl).1).symm
  have e2 : w2.heap.size ≠ R0 := (Nat.ne_of_lt (Array.getElem?_eq_some_iff.1 HK2.out.ft).1).symm
  have e3 : P0 ≠ R0 := HK2.out.ne
  have hE := heap_alloc_new w2 (.cells #[.int .i64 (r.1.code : Nat), .int .i64 r.1.kind, .string ⟨r.1.place.toArray⟩, .int .i64 (r.1.pos : Nat)] 31)
  have l0 := cells_at_block hE 0 _ rfl
  have l1 := cells_at_block hE 1 _ rfl
  have l2 := cells_at_block hE 2 _ rfl
  have l3 := cells_at_block hE 3 _ rfl
  clear hb h3 hE HK2 HK
  go_wp2_with fail
  generalize w2.heap.size = E at l0 l1 l2 l3 e1 e2 ⊢
  generalize World.alloc w2 _ = w3 at l0 l1 l2 l3 p0 q0 x0 x1 x2 x3 y0 y1 y2 y3 HK3 ⊢
  go_region
  all_goals
    go_wp2_with fail
    have hs := HK3.out.set (.slice none 0 0) (.int .i64 (r.1.code : Nat)) (.int .i64 r.1.kind) (.string ⟨r.1.place.toArray⟩) (.int .i64 (r.1.pos : Nat))
    refine po_two_cells Tryz.results29 rfl P0 R0 _ _ rfl rfl hs.1 hs.2.1 _ _ Tryz.underlying77 Tryz.underlying31 rfl rfl (by kernel_rfl) (by kernel_rfl) ?_
    exact ⟨rfl, hs.2.2.drew⟩

theorem look_none (S : List Pl.Src) (len : Nat) (h : (Pl.lookV S len).2.code = 0) : (Pl.lookV S len).2 = Pl.Ft.none := by
  rw [Pl.lookV_check] at h ⊢
  split at h
  · rename_i q; exact absurd h q
  · rename_i q1
    rw [if_neg q1]
    split at h
    · rename_i q2; exact absurd h q2
    · rename_i q2; rw [if_neg q2]

set_option maxRecDepth 100000 in
set_option maxHeartbeats 12800000 in
theorem make_rest (HB : BehindC) (T : ByteArray) (v : Value) (L : List (ByteArray × ByteArray)) (w : World) (hA : ArgAt w v L) (hf : argsFine L = true) (ht : PTabs w) (hm : MaxLenAt w) (hR : Readable T.data.toList) (hRL : ∀ p ∈ L, Readable p.2.data.toList) (S : List Pl.Src) (hr : Pl.cutEach (([], T.data.toList) :: pairsOf L) = (Pl.Ft.none, S)) (hS : SrcsOk S) :
    Calls Tryz.prog 29 #[.string T, v] w fun ed w' => (∃ ao n cap, ed = .returned (.tuple #[.agg #[.slice ao n cap], ftVal (Pl.lookV S T.size).2]) ∧ ((Pl.lookV S T.size).2.code = 0 → ∃ B F M s, w.heap.size ≤ B ∧ SvAt w' B F S (.slice ao n cap) M s ∧ s.vis = (Pl.lookV S T.size).1)) ∧ Below w.heap.size w w' := by
  have h1 := fun w1 (hb : Below w.heap.size w w1) => areArgs_arg v L w1 (hA.kept hb)
  rw [hf] at h1
  obtain ⟨f1, f2, f3⟩ := argsFine_names hf
  have h2 := fun w1 (hb : Below w.heap.size w w1) => cutAll_any T v L w1 (hA.kept hb) f1 (hm.below hb) hR hRL f3 _ hr
  have h3 := fun (w1 w2 : World) (g : Nat) (pv : Nat → Value) (hb : Below w.heap.size w w1) (hb2 : Below w1.heap.size w1 w2) (hs : SrcAt w2 w1.heap.size ⟨0, g, 0, 0, 0, pv⟩ S) => look_any HB S hS (thr_all HB S hS 258) w2 w1.heap.size g pv T.size hs hb2.size ⟨(ht.kept hb).kept hb2, w1, ht.kept hb, Nat.le_refl _⟩
  have H1 := (show Hid _ from h1)
  have H2 := (show Hid _ from h2)
  have hfn := look_none S T.size
  generalize Pl.lookV S T.size = q at h3 hfn ⊢
  obtain ⟨vis, f⟩ := q
  simp only at h3 hfn ⊢
  have HFn := (show Hid _ from hfn)
  clear hfn
  have H3 := (show Hid _ from h3)
  clear h1 hf hA h2 f1 f2 f3 hm hR hRL hr h3 ht hS
  go_enter Tryz.func29, Tryz.ntmps29
  go_wp2_with fail
  refine (H1.out _ (Mki.start w).below).mono ?_; rintro ed w1 ⟨rfl, hb⟩
  have HK := (show Hid _ from (Mki.start w).next hb)
  clear hb H1
  generalize w.heap.size + 1 = R0 at HK ⊢
  generalize w.heap.size = P0 at HK ⊢
  go_wp2_with fail
  refine (H2.out _ HK.out.below).mono ?_; rintro ed w2 ⟨⟨_, h3⟩, hb⟩
  obtain ⟨g, pv, rfl, hsrc⟩ := h3 rfl
  rw [ftVal_zero]
  have HK2 := (show Hid _ from HK.out.next hb)
  have HK3 := (show Hid _ from HK2.out.next ((Below.refl _ _).alloc (Nat.le_refl _) (.cells #[.int .i64 0, .int .i64 0, .string ⟨#[]⟩, .int .i64 0] 31)))
  have HB3 := (show Hid _ from hb.alloc hb.size (.cells #[.int .i64 0, .int .i64 0, .string ⟨#[]⟩, .int .i64 0] 31))
  have HS3 : Hid (SrcAt (w2.alloc (.cells #[.int .i64 0, .int .i64 0, .string ⟨#[]⟩, .int .i64 0] 31)) w1.heap.size ⟨0, g, 0, 0, 0, pv⟩ S) := SrcAt.kept hsrc (by obtain ⟨cs, fz, hc⟩ := hsrc.blk; exact heap_alloc_old _ _ (Array.getElem?_eq_some_iff.1 hc).1) (fun i s k hs hv => heap_alloc_old _ _ ((hsrc.row i s hs).lt k hv).2)
  have e1 : w2.heap.size ≠ P0 := (Nat.ne_of_lt (Array.getElem?_eq_some_iff.1 HK2.out.pl).1).symm
  have e2 : w2.heap.size ≠ R0 := (Nat.ne_of_lt (Array.getElem?_eq_some_iff.1 HK2.out.ft).1).symm
  have e3 : P0 ≠ R0 := HK2.out.ne
  have hle : w.heap.size ≤ w2.heap.size := HK2.out.below.size
  have HLe := (show Hid _ from hle)
  have hE := (show Hid _ from heap_alloc_new w2 (.cells #[.int .i64 0, .int .i64 0, .string ⟨#[]⟩, .int .i64 0] 31))
  clear hb h3 HK2 hsrc hle H2
  go_wp2_with fail
  generalize w2.heap.size = E at hE HLe e1 e2 ⊢
  generalize World.alloc w2 _ = w3 at HK3 hE HB3 HS3 ⊢
  refine (H3.out w1 w3 g pv HK.out.below HB3.out HS3.out).mono ?_; rintro ed w4 ⟨⟨v4, rfl, hx⟩, hb4, hkp⟩
  rw [ftVal_cells]
  have HX := (show Hid _ from hx)
  have HK4 := (show Hid _ from HK3.out.keeps hkp hb4 HK.out.below.size)
  have HE4 := (show Hid _ from (hkp _ _ _ _ hE.out (by decide) (by decide)).trans hE.out)
  have HB1 := (show Hid _ from HK.out.below.size)
  have a0 : w4.cell? ⟨E, 0, none⟩ = some (.int .i64 0) := cells_at_block HE4.out 0 _ rfl
  have a1 : w4.cell? ⟨E, 1, none⟩ = some (.int .i64 0) := cells_at_block HE4.out 1 _ rfl
  have a2 : w4.cell? ⟨E, 2, none⟩ = some (.string ⟨#[]⟩) := cells_at_block HE4.out 2 _ rfl
  have a3 : w4.cell? ⟨E, 3, none⟩ = some (.int .i64 0) := cells_at_block HE4.out 3 _ rfl
  have b0 : w4.frozen? ⟨E, 0, none⟩ = false := by simp [World.frozen?, HE4.out]
  have b1 : w4.frozen? ⟨E, 1, none⟩ = false := by simp [World.frozen?, HE4.out]
  have b2 : w4.frozen? ⟨E, 2, none⟩ = false := by simp [World.frozen?, HE4.out]
  have b3 : w4.frozen? ⟨E, 3, none⟩ = false := by simp [World.frozen?, HE4.out]
  have HK5 := (show Hid _ from HK4.out.beside HLe.out e1.symm e2.symm (.int .i64 (f.code : Nat)) (.int .i64 f.kind) (.string ⟨f.place.toArray⟩) (.int .i64 (f.pos : Nat)))
  have hE5 := fault_set HE4.out (.int .i64 (f.code : Nat)) (.int .i64 f.kind) (.string ⟨f.place.toArray⟩) (.int .i64 (f.pos : Nat))
  have HV5 : Hid (f.code = 0 → ∃ F M s, SvAt ((((w4.setCell ⟨E, 0, none⟩ (.int .i64 (f.code : Nat))).setCell ⟨E, 1, none⟩ (.int .i64 f.kind)).setCell ⟨E, 2, none⟩ (.string ⟨f.place.toArray⟩)).setCell ⟨E, 3, none⟩ (.int .i64 (f.pos : Nat))) w1.heap.size F S v4 M s ∧ s.vis = vis) := fun q => by
    obtain ⟨F, M, s, h1, h2⟩ := HX.out q
    exact ⟨F, M, s, h1.fault4 HE4.out _ _ _ _, h2⟩
  clear hx hb4 hkp HX HK3 HB3 HS3 hE HK H3
  obtain ⟨w5, hW⟩ : ∃ w5, ((((w4.setCell ⟨E, 0, none⟩ (.int .i64 (f.code : Nat))).setCell ⟨E, 1, none⟩ (.int .i64 f.kind)).setCell ⟨E, 2, none⟩ (.string ⟨f.place.toArray⟩)).setCell ⟨E, 3, none⟩ (.int .i64 (f.pos : Nat))) = w5 := ⟨_, rfl⟩
  rw [hW] at HK5 hE5 HV5
  obtain ⟨p0, q0, x0, x1, x2, x3, y0, y1, y2, y3⟩ := HK5.out.cells
  have l0 := cells_at_block hE5 0 _ rfl
  have l1 := cells_at_block hE5 1 _ rfl
  have l2 := cells_at_block hE5 2 _ rfl
  have l3 := cells_at_block hE5 3 _ rfl
  clear hE5 HK4 HE4
  by_cases hc : f.code = 0
  rotate_left
  · have hc1 : ((f.code : Int) != 0) = true := by rw [bne_iff_ne]; omega
    have HC := (show Hid _ from hc)
    clear hc
    go_wp2_with fail
    clear a0 a1 a2 a3 b0 b1 b2 b3 hW
    go_region
    all_goals
      go_wp2_with fail
      have hs := HK5.out.set (.slice none 0 0) (.int .i64 (f.code : Nat)) (.int .i64 f.kind) (.string ⟨f.place.toArray⟩) (.int .i64 (f.pos : Nat))
      refine po_two_cells Tryz.results29 rfl P0 R0 _ _ rfl rfl hs.1 hs.2.1 _ _ Tryz.underlying77 Tryz.underlying31 rfl rfl (by kernel_rfl) (by kernel_rfl) ?_
      exact ⟨⟨_, _, _, rfl, fun q => absurd q HC.out⟩, hs.2.2.drew⟩
  · have hc1 : ((f.code : Int) != 0) = false := by rw [hc]; rfl
    obtain ⟨F, M, sr, hsv, hvi⟩ := HV5.out hc
    obtain ⟨av, cv, rfl⟩ := ownsRow_slice hsv.row
    have HSV := (show Hid _ from hsv)
    have HVI := (show Hid _ from hvi)
    have HC : Hid (f = Pl.Ft.none) := HFn.out hc
    clear hc hsv hvi HV5
    generalize sr.vis.length = nv at *
    go_wp2_with fail
    have hs := HK5.out.set (.slice av nv cv) (.int .i64 0) (.int .i64 0) (.string ⟨#[]⟩) (.int .i64 0)
    refine po_two_cells Tryz.results29 rfl P0 R0 _ _ rfl rfl hs.1 hs.2.1 _ _ Tryz.underlying77 Tryz.underlying31 rfl rfl (by kernel_rfl) (by kernel_rfl) ?_
    refine ⟨⟨av, nv, cv, by rw [HC.out]; rfl, fun _ => ⟨w1.heap.size, F, M, sr, HB1.out, HK5.out.sv HSV.out _ _ _ _ _, HVI.out⟩⟩, hs.2.2⟩

namespace Pl
theorem cutEach_none : ∀ (Z : List (List UInt8 × List UInt8)), (cutEach Z).1.code = 0 → (cutEach Z).1 = Ft.none
  | [], _ => rfl
  | (n, t) :: l, h => by
    unfold cutEach at h ⊢
    by_cases h0 : (cutAll t).1.1 = 0
    · rw [if_neg (fun q => q h0)] at h ⊢
      by_cases h1 : (cutEach l).1.code = 0
      · rw [if_neg (fun q => q h1)]
      · rw [if_pos h1] at h; exact absurd h h1
    · rw [if_pos h0] at h; cases h
end Pl
theorem make_none (T : ByteArray) (L : List (ByteArray × ByteArray)) (h : (Pl.makeV T.data.toList (pairsOf L)).2.code = 0) : (Pl.makeV T.data.toList (pairsOf L)).2 = Pl.Ft.none := by
  unfold Pl.makeV at h ⊢
  split at h
  · cases h
  · rename_i h1
    rw [if_neg h1]
    split at h
    · rename_i h2; exact absurd h h2
    · rename_i h2
      rw [if_neg h2]
      split at h
      · rename_i h3; exact absurd h h3
      · rename_i h3; rw [if_neg h3]

theorem make_any (HB : BehindC) (T : ByteArray) (v : Value) (L : List (ByteArray × ByteArray)) (w : World) (hA : ArgAt w v L) (ht : PTabs w) (hm : MaxLenAt w) (hR : Readable T.data.toList) (hRL : ∀ p ∈ L, Readable p.2.data.toList) :
    Calls Tryz.prog 29 #[.string T, v] w fun ed w' => (∃ ao n cap, ed = .returned (.tuple #[.agg #[.slice ao n cap], ftVal (Pl.makeV T.data.toList (pairsOf L)).2]) ∧ ((Pl.makeV T.data.toList (pairsOf L)).2.code = 0 → ∃ B F M s, w.heap.size ≤ B ∧ SvAt w' B F (Pl.makeV T.data.toList (pairsOf L)).1.2 (.slice ao n cap) M s ∧ s.vis = (Pl.makeV T.data.toList (pairsOf L)).1.1)) ∧ Below w.heap.size w w' := by
  have hpl : (pairsOf L).length = L.length := by unfold pairsOf; rw [List.length_map]
  by_cases hf : argsFine L = true
  rotate_left
  · have hf := Bool.eq_false_iff.2 hf
    have hv : Pl.makeV T.data.toList (pairsOf L) = (([], []), ⟨1, 0, [], 0⟩) := by
      unfold Pl.makeV
      rw [if_pos]
      rw [hpl, names_pairs]
      unfold argsFine at hf
      by_cases h6 : L.length ≤ 6
      · rw [decide_eq_true h6, Bool.true_and] at hf; exact .inr hf
      · exact .inl (by omega)
    rw [hv]
    refine (make_badArgs T v L w hA hf).mono ?_
    rintro ed w' ⟨rfl, hb⟩
    exact ⟨⟨_, _, _, rfl, fun q => by cases q⟩, hb⟩
  obtain ⟨f1, f2, f3⟩ := argsFine_names hf
  rw [Pl.makeV_args (by omega) (by rw [names_pairs]; exact f2)]
  by_cases hc : (Pl.cutEach (([], T.data.toList) :: pairsOf L)).1.code = 0
  rotate_left
  · rw [if_pos hc]
    refine (make_slip T v L w hA hf hm hR hRL _ rfl hc).mono ?_
    rintro ed w' ⟨rfl, hb⟩
    exact ⟨⟨_, _, _, rfl, fun q => absurd q hc⟩, hb⟩
  rw [if_neg (fun q => q hc)]
  have hS := srcs_ok T.data.toList (pairsOf L) (by omega) (by rw [names_pairs]; exact f2) hc
  have hn : (Pl.cutEach (([], T.data.toList) :: pairsOf L)).1 = Pl.Ft.none := Pl.cutEach_none _ hc
  have hr : Pl.cutEach (([], T.data.toList) :: pairsOf L) = (Pl.Ft.none, (Pl.cutEach (([], T.data.toList) :: pairsOf L)).2) := by rw [← hn]
  have hsz : T.data.toList.length = T.size := by simp
  rw [hsz]
  generalize (Pl.cutEach (([], T.data.toList) :: pairsOf L)).2 = S at hS hr
  refine (make_rest HB T v L w hA hf ht hm hR hRL S hr hS).mono ?_
  rintro ed w' ⟨⟨ao, n, cap, rfl, h1⟩, hb⟩
  by_cases hk : (Pl.lookV S T.size).2.code = 0
  · rw [if_neg (fun q => q hk)]
    rw [look_none S T.size hk] at h1 ⊢
    exact ⟨⟨ao, n, cap, rfl, fun _ => h1 rfl⟩, hb⟩
  · rw [if_pos hk]
    exact ⟨⟨ao, n, cap, rfl, fun q => absurd q hk⟩, hb⟩

end Go.Proofs.YtfkhljmiehdgmaaGreatDoor

/-
  Compile, walked.
-/
namespace Go.Proofs.YtfkhljmiehdgmaaGreatDoor
open Go.RowKit Go.Maps

set_option maxRecDepth 100000 in
set_option maxHeartbeats 6400000 in
theorem compile_any (HB : BehindC) : CompileC := by
  intro T v L w hA ht hm hR hRL
  have h1 := fun w1 (hb : Below w.heap.size w w1) => make_any HB T v L w1 (hA.kept hb) (ht.kept hb) (hm.below hb) hR hRL
  have hn := make_none T L
  generalize Pl.makeV T.data.toList (pairsOf L) = q at h1 hn ⊢
  obtain ⟨q1, f⟩ := q
  simp only at h1 hn ⊢
  have H1 := (show Hid _ from h1)
  have HN := (show Hid _ from hn)
  clear h1 hn hA ht hm hR hRL
  have HR : Hid ((w.alloc (.cells #[.int .i64 0, .int .i64 0, .string ⟨#[]⟩, .int .i64 0] 31)).heap[w.heap.size]? = some (.cells #[.int .i64 0, .int .i64 0, .string ⟨#[]⟩, .int .i64 0] 31 (0, 0))) := heap_alloc_new _ _
  have HB1 : Hid (Below w.heap.size w (w.alloc (.cells #[.int .i64 0, .int .i64 0, .string ⟨#[]⟩, .int .i64 0] 31))) := (Below.refl _ _).alloc (Nat.le_refl _) _
  go_enter Tryz.func12, Tryz.ntmps12
  go_wp2_with fail
  refine (H1.out _ HB1.out).mono ?_; rintro ed w2 ⟨⟨ao, n, cap, rfl, hx⟩, hb⟩
  rw [ftVal_cells]
  have HX := (show Hid _ from hx)
  have HR2 := (show Hid _ from (hb.block w.heap.size (by simp)).trans HR.out)
  have HB2 := (show Hid _ from HB1.out.trans (hb.mono HB1.out.size))
  clear hx hb HR HB1 H1
  have hlt : w.heap.size < w2.heap.size := (Array.getElem?_eq_some_iff.1 HR2.out).1
  by_cases hc : f.code = 0
  rotate_left
  · have hc1 : ((f.code : Int) != 0) = true := by rw [bne_iff_ne]; omega
    have HC := (show Hid _ from hc)
    clear hc
    go_wp2_with fail
    have hR4 : ((w2.alloc (.cells #[.slice ao n cap] 77)).alloc (.cells #[.int .i64 (f.code : Nat), .int .i64 f.kind, .string ⟨f.place.toArray⟩, .int .i64 (f.pos : Nat)] 31)).heap[w.heap.size]? = some (.cells #[.int .i64 0, .int .i64 0, .string ⟨#[]⟩, .int .i64 0] 31 (0, 0)) := (heap_alloc_old _ _ (by simp; omega)).trans ((heap_alloc_old _ _ hlt).trans HR2.out)
    have hE4 : ((w2.alloc (.cells #[.slice ao n cap] 77)).alloc (.cells #[.int .i64 (f.code : Nat), .int .i64 f.kind, .string ⟨f.place.toArray⟩, .int .i64 (f.pos : Nat)] 31)).heap[w2.heap.size + 1]? = some (.cells #[.int .i64 (f.code : Nat), .int .i64 f.kind, .string ⟨f.place.toArray⟩, .int .i64 (f.pos : Nat)] 31 (0, 0)) := heap_new_at _ _ _ (by simp)
    have HB4 := (show Hid _ from (HB2.out.alloc HB2.out.size (.cells #[.slice ao n cap] 77)).alloc (by simp; omega) (.cells #[.int .i64 (f.code : Nat), .int .i64 f.kind, .string ⟨f.place.toArray⟩, .int .i64 (f.pos : Nat)] 31))
    have e1 : w2.heap.size + 1 ≠ w.heap.size := by omega
    generalize w2.heap.size + 1 = E at hE4 e1 ⊢
    generalize World.alloc (World.alloc w2 _) _ = w4 at hE4 hR4 HB4 ⊢
    have x0 := cells_at_block hR4 0 _ rfl
    have x1 := cells_at_block hR4 1 _ rfl
    have x2 := cells_at_block hR4 2 _ rfl
    have x3 := cells_at_block hR4 3 _ rfl
    have y0 : w4.frozen? ⟨w.heap.size, 0, none⟩ = false := by simp [World.frozen?, hR4]
    have y1 : w4.frozen? ⟨w.heap.size, 1, none⟩ = false := by simp [World.frozen?, hR4]
    have y2 : w4.frozen? ⟨w.heap.size, 2, none⟩ = false := by simp [World.frozen?, hR4]
    have y3 : w4.frozen? ⟨w.heap.size, 3, none⟩ = false := by simp [World.frozen?, hR4]
    have l0 := cells_at_block hE4 0 _ rfl
    have l1 := cells_at_block hE4 1 _ rfl
    have l2 := cells_at_block hE4 2 _ rfl
    have l3 := cells_at_block hE4 3 _ rfl
    have HR4 := (show Hid _ from hR4)
    clear hE4 hR4 hlt
    go_region
    all_goals
      go_wp2_with fail
      have hf := fault_set HR4.out (.int .i64 (f.code : Nat)) (.int .i64 f.kind) (.string ⟨f.place.toArray⟩) (.int .i64 (f.pos : Nat))
      have hb := (((HB4.out.setCell (p := ⟨w.heap.size, 0, none⟩) (Nat.le_refl _) (.int .i64 (f.code : Nat))).setCell (p := ⟨w.heap.size, 1, none⟩) (Nat.le_refl _) (.int .i64 f.kind)).setCell (p := ⟨w.heap.size, 2, none⟩) (Nat.le_refl _) (.string ⟨f.place.toArray⟩)).setCell (p := ⟨w.heap.size, 3, none⟩) (Nat.le_refl _) (.int .i64 (f.pos : Nat))
      refine po_tmp_cell Tryz.results12 rfl w.heap.size (.pointer none) _ rfl rfl hf _ Tryz.underlying31 rfl (by kernel_rfl) ?_
      exact ⟨⟨_, rfl, fun _ => rfl, fun q => absurd q HC.out⟩, hb.drew⟩
  · have hc1 : ((f.code : Int) != 0) = false := by rw [hc]; rfl
    have HC : Hid (f = Pl.Ft.none) := HN.out hc
    obtain ⟨B, F, M, s, h1, h2, h3⟩ := HX.out hc
    have HSV := (show Hid _ from h2)
    have HVI := (show Hid _ from h3)
    have HLE : Hid (w.heap.size ≤ B) := Nat.le_trans (by simp) h1
    have hR5 : ∀ o o' o'', (((w2.alloc o).alloc o').alloc o'').heap[w.heap.size]? = some (.cells #[.int .i64 0, .int .i64 0, .string ⟨#[]⟩, .int .i64 0] 31 (0, 0)) := fun o o' o'' => (heap_alloc_old _ _ (by simp; omega)).trans ((heap_alloc_old _ _ (by simp; omega)).trans ((heap_alloc_old _ _ hlt).trans HR2.out))
    have x0 := fun o o' o'' => cells_at_block (hR5 o o' o'') 0 _ rfl
    have x1 := fun o o' o'' => cells_at_block (hR5 o o' o'') 1 _ rfl
    have x2 := fun o o' o'' => cells_at_block (hR5 o o' o'') 2 _ rfl
    have x3 := fun o o' o'' => cells_at_block (hR5 o o' o'') 3 _ rfl
    have y0 : ∀ o o' o'', (((w2.alloc o).alloc o').alloc o'').frozen? ⟨w.heap.size, 0, none⟩ = false := fun o o' o'' => by simp [World.frozen?, hR5 o o' o'']
    have y1 : ∀ o o' o'', (((w2.alloc o).alloc o').alloc o'').frozen? ⟨w.heap.size, 1, none⟩ = false := fun o o' o'' => by simp [World.frozen?, hR5 o o' o'']
    have y2 : ∀ o o' o'', (((w2.alloc o).alloc o').alloc o'').frozen? ⟨w.heap.size, 2, none⟩ = false := fun o o' o'' => by simp [World.frozen?, hR5 o o' o'']
    have y3 : ∀ o o' o'', (((w2.alloc o).alloc o').alloc o'').frozen? ⟨w.heap.size, 3, none⟩ = false := fun o o' o'' => by simp [World.frozen?, hR5 o o' o'']
    have HR5 := (show Hid _ from hR5)
    have HLt := (show Hid _ from hlt)
    clear hc h1 h2 h3 HX hR5 hlt
    go_wp2_with fail
    have hb5 := ((((Below.refl w2.heap.size w2).alloc (Nat.le_refl _) (.cells #[.slice ao n cap] 77)).alloc (by simp) (.cells #[.int .i64 (f.code : Nat), .int .i64 f.kind, .string ⟨f.place.toArray⟩, .int .i64 (f.pos : Nat)] 31)).alloc (by simp; omega) (.cells #[.slice ao n cap] 81))
    have hT5 := heap_new_at ((w2.alloc (.cells #[.slice ao n cap] 77)).alloc (.cells #[.int .i64 (f.code : Nat), .int .i64 f.kind, .string ⟨f.place.toArray⟩, .int .i64 (f.pos : Nat)] 31)) (.cells #[.slice ao n cap] 81) (w2.heap.size + 1 + 1) (by simp)
    have hR5 := HR5.out (.cells #[.slice ao n cap] 77) (.cells #[.int .i64 (f.code : Nat), .int .i64 f.kind, .string ⟨f.place.toArray⟩, .int .i64 (f.pos : Nat)] 31) (.cells #[.slice ao n cap] 81)
    have hS5 := HSV.out.below hb5
    have hB5 := HB2.out.trans (hb5.mono HB2.out.size)
    have hne : w2.heap.size + 1 + 1 ≠ w.heap.size := by have := HLt.out; omega
    clear hb5 x0 x1 x2 x3 y0 y1 y2 y3
    generalize w2.heap.size + 1 + 1 = G at hT5 hne ⊢
    generalize World.alloc (World.alloc (World.alloc w2 _) _) _ = w5 at hT5 hR5 hS5 hB5 ⊢
    have hf := fault_set hR5 (.int .i64 0) (.int .i64 0) (.string ⟨#[]⟩) (.int .i64 0)
    have hv := hS5.fault4 hR5 (.int .i64 0) (.int .i64 0) (.string ⟨#[]⟩) (.int .i64 0)
    have hb := (((hB5.setCell (p := ⟨w.heap.size, 0, none⟩) (Nat.le_refl _) (.int .i64 0)).setCell (p := ⟨w.heap.size, 1, none⟩) (Nat.le_refl _) (.int .i64 0)).setCell (p := ⟨w.heap.size, 2, none⟩) (Nat.le_refl _) (.string ⟨#[]⟩)).setCell (p := ⟨w.heap.size, 3, none⟩) (Nat.le_refl _) (.int .i64 0)
    have ht : ((((w5.setCell ⟨w.heap.size, 0, none⟩ (.int .i64 0)).setCell ⟨w.heap.size, 1, none⟩ (.int .i64 0)).setCell ⟨w.heap.size, 2, none⟩ (.string ⟨#[]⟩)).setCell ⟨w.heap.size, 3, none⟩ (.int .i64 0)).heap[G]? = _ := (Below.heap_setCell _ _ _ _ hne).trans ((Below.heap_setCell _ _ _ _ hne).trans ((Below.heap_setCell _ _ _ _ hne).trans ((Below.heap_setCell _ _ _ _ hne).trans hT5)))
    refine po_tmp_cell Tryz.results12 rfl w.heap.size (.pointer (some ⟨G, 0, none⟩)) _ rfl rfl hf _ Tryz.underlying31 rfl (by kernel_rfl) ?_
    refine ⟨⟨_, by rw [HC.out]; rfl, fun q => absurd (by rw [HC.out]; rfl) q, fun _ => ⟨G, F, .slice ao n cap, M, s, B, rfl, ?_, HLE.out, hv, HVI.out⟩⟩, hb⟩
    exact ht

end Go.Proofs.YtfkhljmiehdgmaaGreatDoor

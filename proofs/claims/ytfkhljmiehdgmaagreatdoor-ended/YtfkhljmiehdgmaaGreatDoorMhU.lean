/-
  Several texts laid together: each opens with its own remark.
-/
import Derived.Test.YtfkhljmiehdgmaaGreatDoorMhR
import Derived.Test.YtfkhljmiehdgmaaGreatDoorMhK
import Derived.Deep.RegionWith
import Derived.Test.YtfkhljmiehdgmaaGreatDoorMhS
import Derived.Test.YtfkhljmiehdgmaaGreatDoorMhQ
import Derived.Deep.OwnRows
import Derived.Deep.Onto

/-
  The end of a template's own text, walked.
-/
namespace Go.Proofs.YtfkhljmiehdgmaaGreatDoor
open Go.RowKit

namespace Pl
/-- what is known when the end of a template's own text has been looked at -/
def checkV (S : List Src) (s : Sr) (e : En) (len : Nat) : Sr :=
  if (walkV (behV S 257) (partsAt S e.1) ((partsAt S e.1).length + 1) 0 s e.2).2.isNone = false ∧ (walkV (behV S 257) (partsAt S e.1) ((partsAt S e.1).length + 1) 0 s e.2).2 ≠ e.2 then (walkV (behV S 257) (partsAt S e.1) ((partsAt S e.1).length + 1) 0 s e.2).1.wrong S e.1 15 len else (walkV (behV S 257) (partsAt S e.1) ((partsAt S e.1).length + 1) 0 s e.2).1
end Pl

set_option maxRecDepth 100000 in
set_option maxHeartbeats 6400000 in
theorem checkEnd_any (HB : BehindC) (S : List Pl.Src) (hS : SrcsOk S) (w : World) (B : Nat) (F : Fix) (vv : Value) (s : Pl.Sr) (e : Pl.En) (len : Nat) (h : SeAt w B F S vv s) (ho : Pl.EndsOk S.length s.ends) (he : Pl.SxFit e.2) (hi : e.1 < S.length) (hB : B ≤ w.heap.size) (ht : TabB B w) :
    Calls Tryz.prog 76 #[.pointer (some ⟨F.g, 0, none⟩), enVal e, .int .i64 len] w fun ed w' => (∃ r, ed = .returned r) ∧ SeAt w' B F S vv (Pl.checkV S s e len) ∧ Cue B F w w' := by
  have hwk := Pl.walkV_ok (Pl.behV_ok S 257 s.ends.length (by omega)) (Pl.partsAt S e.1) ((Pl.partsAt S e.1).length + 1) 0 s e.2 ho (Nat.le_refl _) (.inr he)
  have hW := fun (w5 : World) (h5 : SeAt w5 B F S vv s) (hb5 : B ≤ w5.heap.size) (t5 : TabB B w5) => walk_any HB S hS 257 (behC HB S hS 257) w5 B F vv s e h5 ho (by omega) he hi hb5 t5
  unfold Pl.checkV
  generalize Pl.walkV (Pl.behV S 257) (Pl.partsAt S e.1) ((Pl.partsAt S e.1).length + 1) 0 s e.2 = r at hwk hW ⊢
  obtain ⟨s2, y⟩ := r
  simp only at hwk hW ⊢
  obtain ⟨R, hR⟩ : ∃ R, R = (if y.isNone = false ∧ y ≠ e.2 then s2.wrong S e.1 15 len else s2) := ⟨_, rfl⟩
  rw [← hR]
  have HR := (show Hid _ from hR)
  clear hR
  have hNone := fun w => none_any y w
  have HWr := (show Hid _ from fun (w5 : World) (h5 : SeAt w5 B F S vv s2) (hb5 : B ≤ w5.heap.size) => wrong_any S w5 B F vv s2 e 15 len h5 hi hb5)
  have HA := (show Hid _ from h)
  have HT := (show Hid _ from ht)
  rw [enVal_cells]
  rw [enVal_cells] at hW HWr
  unfold enCells bs
  unfold sxVal enCells sxCells bs at hW
  unfold sxVal sxCells bs at hNone
  unfold enCells bs at HWr
  have HW := (show Hid _ from hW)
  have HE : Hid ((w.alloc (.cells (enCells e) 180)).heap[w.heap.size]? = some (.cells (enCells e) 180 (0, 0))) := heap_alloc_new w _
  have HEnd : Hid (∀ w5, Cue B F (w.alloc (.cells (enCells e) 180)) w5 → w5.heap[w.heap.size]? = some (.cells (enCells e) 180 (0, 0))) := fun w5 hc => (hc.keep w.heap.size (by simp) (ty_apart HE.out (h.alloc _).blk ty_entry_search) (map_not_cells HE.out (h.alloc _).ends)).trans HE.out
  have HC0 : Hid (∀ w5, Cue B F (w.alloc (.cells (enCells e) 180)) w5 → Cue B F w w5) := fun w5 hc => (Cue.of_below ((Below.refl w.heap.size w).alloc (Nat.le_refl _) _) hB).trans hc
  unfold enCells bs at HEnd HC0
  have HHB := (show Hid _ from hB)
  clear h ht hW HE
  go_enter Tryz.func76, Tryz.ntmps76
  go_wp2_with fail
  refine (HW.out _ (HA.out.alloc _) (Nat.le_trans HHB.out (by simp)) (TabB.kept HT.out (((Below.refl w.heap.size w).alloc (Nat.le_refl _) _).mono HHB.out))).mono ?_; rintro ed w2 ⟨rfl, hse, hcu⟩
  have HS2 := (show Hid _ from hse)
  have HE2 := (show Hid _ from HEnd.out w2 hcu)
  have HC2 := (show Hid _ from HC0.out w2 hcu)
  clear hse hcu
  have hB2 : B ≤ w2.heap.size := Nat.le_trans HHB.out HC2.out.below.size
  have HB2 := (show Hid (B ≤ w2.heap.size) from hB2)
  clear hB2 HW HEnd HC0 HA HT
  by_cases hn : y.isNone = true
  · have hb : (y.st.mode == 0) = true := hn
    rw [hb] at hNone
    have HN := (show Hid _ from hn)
    have HQ : Hid (R = s2) := by show _ = _; rw [HR.out, if_neg (by rintro ⟨h1, _⟩; rw [hn] at h1; cases h1)]
    clear hb hn
    go_wp2_with fail
    refine (hNone _).mono ?_; rintro ed w3 ⟨rfl, hw3⟩
    have H3 : Hid (SeAt w3 B F S vv s2 ∧ Cue B F w2 w3) := by rw [← hw3]; exact ⟨(HS2.out.alloc _).alloc _, Cue.of_below (((Below.refl _ _).alloc (Nat.le_refl _) _).alloc (by simp) _) HB2.out⟩
    clear hw3
    go_wp2_with fail
    go_end0
    exact ⟨⟨_, rfl⟩, by rw [HQ.out]; exact H3.out.1, HC2.out.trans H3.out.2⟩
  · have hfy := Pl.end_fit hwk.2 hn
    have hn2 : y.isNone = false := Bool.eq_false_iff.2 hn
    have hb : (y.st.mode == 0) = false := hn2
    rw [hb] at hNone
    have heq := fun w => st_neq w hfy he
    have hgd := fun w => st_guarded w y e.2
    have heq2 := fun w => st_equalIn w hfy he
    unfold sxVal sxCells bs at heq hgd heq2
    have HN := (show Hid _ from hn2)
    clear hb hn hn2 hfy hwk
    by_cases hx : y = e.2
    · rw [decide_eq_true hx] at heq heq2
      have HQ : Hid (R = s2) := by show _ = _; rw [HR.out, if_neg (fun q => q.2 hx)]
      clear hx
      go_wp2_with fail
      refine (hNone _).mono ?_; rintro ed w3 ⟨rfl, hw3⟩
      have H3 : Hid (SeAt w3 B F S vv s2 ∧ Cue B F w2 w3) := by rw [← hw3]; exact ⟨(HS2.out.alloc _).alloc _, Cue.of_below (((Below.refl _ _).alloc (Nat.le_refl _) _).alloc (by simp) _) HB2.out⟩
      have hy : StIn w3 w2.heap.size y := by rw [← hw3]; exact (heap_alloc_old _ _ (by simp)).trans (heap_alloc_new _ _)
      have hent : w3.heap[w.heap.size]? = some (.cells (enCells e) 180 (0, 0)) := (H3.out.2.keep w.heap.size (Array.getElem?_eq_some_iff.1 HE2.out).1 (ty_apart HE2.out HS2.out.blk ty_entry_search) (map_not_cells HE2.out HS2.out.ends)).trans HE2.out
      have he3 := ent_cell hent
      unfold enCells bs at he3
      have m0 := he3 0 _ rfl
      have m1 := he3 1 _ rfl
      have m2 := he3 2 _ rfl
      have m3 := he3 3 _ rfl
      have m4 := he3 4 _ rfl
      have m5 := he3 5 _ rfl
      have m6 := he3 6 _ rfl
      have m7 := he3 7 _ rfl
      have m8 := he3 8 _ rfl
      have m9 := he3 9 _ rfl
      have m10 := he3 10 _ rfl
      have q0 := hy.at'.mode
      have q1 := hy.at'.name
      have q2 := hy.at'.elem
      have q3 := hy.at'.kind
      have q4 := hy.at'.read
      have q5 := hy.at'.ref
      have q6 := hy.at'.esc
      have q7 := hy.at'.hex
      have q8 := hy.at'.pct
      have q9 := hy.at'.far
      clear he3 hent hy hw3
      go_wp2_with fail
      go_end0
      exact ⟨⟨_, rfl⟩, by rw [HQ.out]; exact H3.out.1, HC2.out.trans H3.out.2⟩
    · rw [decide_eq_false hx] at heq heq2
      have HQ : Hid (R = s2.wrong S e.1 15 len) := by show _ = _; rw [HR.out, if_pos ⟨HN.out, hx⟩]
      clear hx
      go_wp2_with fail
      refine (hNone _).mono ?_; rintro ed w3 ⟨rfl, hw3⟩
      have H3 : Hid (SeAt w3 B F S vv s2 ∧ Cue B F w2 w3) := by rw [← hw3]; exact ⟨(HS2.out.alloc _).alloc _, Cue.of_below (((Below.refl _ _).alloc (Nat.le_refl _) _).alloc (by simp) _) HB2.out⟩
      have hy : StIn w3 w2.heap.size y := by rw [← hw3]; exact (heap_alloc_old _ _ (by simp)).trans (heap_alloc_new _ _)
      have hent : w3.heap[w.heap.size]? = some (.cells (enCells e) 180 (0, 0)) := (H3.out.2.keep w.heap.size (Array.getElem?_eq_some_iff.1 HE2.out).1 (ty_apart HE2.out HS2.out.blk ty_entry_search) (map_not_cells HE2.out HS2.out.ends)).trans HE2.out
      have he3 := ent_cell hent
      unfold enCells bs at he3
      have m0 := he3 0 _ rfl
      have m1 := he3 1 _ rfl
      have m2 := he3 2 _ rfl
      have m3 := he3 3 _ rfl
      have m4 := he3 4 _ rfl
      have m5 := he3 5 _ rfl
      have m6 := he3 6 _ rfl
      have m7 := he3 7 _ rfl
      have m8 := he3 8 _ rfl
      have m9 := he3 9 _ rfl
      have m10 := he3 10 _ rfl
      have q0 := hy.at'.mode
      have q1 := hy.at'.name
      have q2 := hy.at'.elem
      have q3 := hy.at'.kind
      have q4 := hy.at'.read
      have q5 := hy.at'.ref
      have q6 := hy.at'.esc
      have q7 := hy.at'.hex
      have q8 := hy.at'.pct
      have q9 := hy.at'.far
      clear he3 hent hy hw3
      go_wp2_with fail
      refine (HWr.out _ H3.out.1 (Nat.le_trans HB2.out H3.out.2.below.size)).mono ?_; rintro ed w4 ⟨⟨r, rfl⟩, hse, hcu⟩
      go_wp2_with fail
      go_end0
      exact ⟨⟨_, rfl⟩, by rw [HQ.out]; exact hse, HC2.out.trans (H3.out.2.trans hcu)⟩

end Go.Proofs.YtfkhljmiehdgmaaGreatDoor

/-
  A template is looked through: what holds while the partials' places are laid down.
-/
namespace Go.Proofs.YtfkhljmiehdgmaaGreatDoor
open Go.RowKit Go.Maps

/-- two values handed back, the second of them out of a block of four cells -/
theorem po_tmp_cell {P : Program} {fn : Func} {R : Ending → World → Prop} {a : Act} {w : World} {t p : Tmp} {ty : TypeId} (h : fn.results = #[.tmp t, .cell p ty]) (hdf : a.defers = []) (g : Nat) (x : Value) (cs : Array Value) (hx : a.tmps.getD t undef = x) (hp : a.tmps.getD p undef = .pointer (some ⟨g, 0, none⟩))
    (hb : w.heap[g]? = some (.cells cs ty (0, 0))) (d : TypeDesc) (hu : P.underlying ty = some d) (hd : aggD d = true) (hi : (P.info? ty).map (·.size) = some cs.size) (hR : R (.returned (.tuple #[x, .agg cs])) w) : bodyPost P fn R .ret a w := by
  subst hx
  refine bodyPost_ret ?_ hdf hR
  have hl := run_loadVar_cells (P := P) w g ty cs d (cells_at_block hb) hu (by cases d <;> first | rfl | cases hd) hi
  rw [Array.getD_eq_getD_getElem?] at hp
  simp only [results, h]
  simp [hp, asAddr, hl]

theorem placesL_snoc (s : Pl.Src) : ∀ (l : List Pl.Src) (i : Nat), placesL i (l ++ [s]) = placesL i l ++ [(bs s.name, .int .i64 (i + l.length : Nat))]
  | [], i => by simp [placesL]
  | a :: l, i => by
    show (bs a.name, Value.int .i64 i) :: placesL (i + 1) (l ++ [s]) = _
    rw [placesL_snoc s l (i + 1)]
    show _ :: (placesL (i + 1) l ++ [(bs s.name, Value.int .i64 ((i + 1 + l.length : Nat) : Int))]) = (bs a.name, Value.int .i64 i) :: (placesL (i + 1) l ++ [(bs s.name, Value.int .i64 ((i + (l.length + 1) : Nat) : Int))])
    rw [show i + 1 + l.length = i + (l.length + 1) by omega]
theorem placesL_append (m : List Pl.Src) : ∀ (l : List Pl.Src) (i : Nat), placesL i (l ++ m) = placesL i l ++ placesL (i + l.length) m
  | [], i => by simp [placesL]
  | a :: l, i => by
    show (bs a.name, Value.int .i64 i) :: placesL (i + 1) (l ++ m) = (bs a.name, Value.int .i64 i) :: (placesL (i + 1) l ++ placesL (i + (l.length + 1)) m)
    rw [placesL_append m l (i + 1), show i + 1 + l.length = i + (l.length + 1) by omega]
theorem KeysOk.front {P : Program} {K : TypeId} {L M : List (Value × Value)} (h : KeysOk P K (L ++ M)) : KeysOk P K L :=
  ⟨fun p hp => h.key p (List.mem_append_left _ hp), fun i j p q hi hj e => h.one i j p q (by rw [List.getElem?_append_left (List.getElem?_eq_some_iff.1 hi).1]; exact hi) (by rw [List.getElem?_append_left (List.getElem?_eq_some_iff.1 hj).1]; exact hj) e⟩
theorem KeysOk.apart {P : Program} {K : TypeId} {L M : List (Value × Value)} {x : Value × Value} (h : KeysOk P K (L ++ x :: M)) : ∀ p ∈ L, p.1 ≠ x.1 := fun p hp e => by
  obtain ⟨i, hi⟩ := List.getElem?_of_mem hp
  have hl := (List.getElem?_eq_some_iff.1 hi).1
  have := h.one i L.length p x (by rw [List.getElem?_append_left hl]; exact hi) (by simp) e
  omega
/-- the places laid down so far, and one more -/
theorem places_more {S : List Pl.Src} (hS : SrcsOk S) {k : Nat} {s : Pl.Src} (hk : 1 ≤ k) (hs : S[k]? = some s) :
    KeysOk Tryz.prog 9 (placesL 1 ((S.drop 1).take (k - 1))) ∧ (∀ p ∈ placesL 1 ((S.drop 1).take (k - 1)), p.1 ≠ bs s.name) ∧ placesL 1 ((S.drop 1).take (k - 1)) ++ [(bs s.name, .int .i64 (k : Nat))] = placesL 1 ((S.drop 1).take k) := by
  have hlt := (List.getElem?_eq_some_iff.1 hs).1
  have hd : (S.drop 1)[k - 1]? = some s := by rw [List.getElem?_drop, show 1 + (k - 1) = k by omega]; exact hs
  have hdl := (List.getElem?_eq_some_iff.1 hd).1
  have htl : ((S.drop 1).take (k - 1)).length = k - 1 := by rw [List.length_take]; omega
  have e1 : (S.drop 1).take k = (S.drop 1).take (k - 1) ++ [s] := by
    have h1 := List.take_succ_eq_append_getElem hdl
    rw [show k - 1 + 1 = k by omega] at h1
    rw [h1]
    congr 2
    rw [List.getElem?_eq_getElem hdl] at hd
    exact Option.some.inj hd
  have e2 : placesL 1 ((S.drop 1).take (k - 1)) ++ [(bs s.name, .int .i64 (k : Nat))] = placesL 1 ((S.drop 1).take k) := by
    rw [e1, placesL_snoc, htl, show 1 + (k - 1) = k by omega]
  have hall := places_ok hS
  rw [← List.take_append_drop k (S.drop 1), placesL_append, ← e2, List.append_assoc] at hall
  exact ⟨hall.front, KeysOk.apart (x := (bs s.name, .int .i64 (k : Nat))) hall, e2⟩

/-- while the places are laid down: R: the result's block -/
structure Lki (w wr : World) (B : Nat) (F : Fix) (S : List Pl.Src) (R n : Nat) : Prop where
  blk : wr.heap[F.g]? = some (.cells (srCells F S.length (.slice none 0 0) Pl.Ft.none) 178 (0, 0))
  src : SrcAt wr B F S
  places : MapAt wr F.bp (placesL 1 ((S.drop 1).take (n - 1)))
  ends : MapAt wr F.be []
  nums : MapAt wr F.bn []
  res : wr.heap[R]? = some (.cells #[.int .i64 0, .int .i64 0, .string ⟨#[]⟩, .int .i64 0] 31 (0, 0))
  le : B ≤ F.g ∧ B ≤ F.be ∧ B ≤ F.bn ∧ B ≤ F.bp ∧ B ≤ R
  apart : F.g ≠ F.be ∧ F.bp ≠ F.be ∧ F.bn ≠ F.be ∧ F.bn ≠ F.bp
  below : Below B w wr
  old : w.heap.size ≤ F.g ∧ w.heap.size ≤ F.bp ∧ w.heap.size ≤ R ∧ w.heap.size ≤ wr.heap.size
  kp : ∀ k, k < w.heap.size → wr.heap[k]? = w.heap[k]?
theorem Lki.next {w wr w' : World} {B : Nat} {F : Fix} {S : List Pl.Src} {R n : Nat} (h : Lki w wr B F S R n) (hb : Below wr.heap.size wr w') (hB : B ≤ wr.heap.size) : Lki w w' B F S R n :=
  ⟨(hb.block _ (Array.getElem?_eq_some_iff.1 h.blk).1).trans h.blk, h.src.kept (by obtain ⟨cs, fz, hc⟩ := h.src.blk; exact hb.block _ (Array.getElem?_eq_some_iff.1 hc).1) (fun i s k hs hv => by obtain ⟨cur, hc⟩ := ownsRow_ty (h.src.row i s hs) k hv; exact hb.block _ (Array.getElem?_eq_some_iff.1 hc).1), h.places.heap (hb.block _ h.places.lt), h.ends.heap (hb.block _ h.ends.lt), h.nums.heap (hb.block _ h.nums.lt), (hb.block _ (Array.getElem?_eq_some_iff.1 h.res).1).trans h.res, h.le, h.apart, h.below.trans (hb.mono hB), ⟨h.old.1, h.old.2.1, h.old.2.2.1, Nat.le_trans h.old.2.2.2 hb.size⟩, fun k hk => (hb.block k (Nat.lt_of_lt_of_le hk h.old.2.2.2)).trans (h.kp k hk)⟩
/-- a place is laid down -/
theorem Lki.put {w wr : World} {B : Nat} {F : Fix} {S : List Pl.Src} {R n : Nat} (h : Lki w wr B F S R n) (hS : SrcsOk S) (hn : 1 ≤ n) {s : Pl.Src} (hs : S[n]? = some s) :
    ∃ w', (Instr.mapUpdate 174 (.map (some F.bp)) (.string ⟨s.name.toArray⟩) (.int .i64 n)).run Tryz.prog wr = .ok () w' ∧ Lki w w' B F S R (n + 1) ∧ w'.heap.size = wr.heap.size := by
  obtain ⟨k1, k2, k3⟩ := places_more hS hn hs
  obtain ⟨kl, hkl⟩ := str_key ⟨s.name.toArray⟩ (by rw [bs_size]; have := hS.short n s hs; unfold maxLen; omega)
  obtain ⟨w', h1, h2, h3, h4⟩ := run_update_no (val := .int .i64 n) name_keyed Tryz.underlying174 h.places k1 hkl k2
  have hk : ∀ k, k < wr.heap.size → k ≠ F.bp → w'.heap[k]? = wr.heap[k]? := fun k hk hne => h3.block k hk (fun e => hne (Option.some.inj e))
  refine ⟨w', h1, ?_, h4⟩
  have hbn : ∀ (k : Nat) (cs : Array Value) (t : TypeId) (fz : Nat × Nat), wr.heap[k]? = some (Obj.cells cs t fz) → w'.heap[k]? = wr.heap[k]? := fun k cs t fz hc => hk k (Array.getElem?_eq_some_iff.1 hc).1 (map_not_cells hc h.places)
  refine ⟨(hbn _ _ _ _ h.blk).trans h.blk, h.src.kept (by obtain ⟨cs, fz, hc⟩ := h.src.blk; exact hbn _ _ _ _ hc) (fun i s k hs hv => by obtain ⟨cur, hc⟩ := ownsRow_ty (h.src.row i s hs) k hv; exact hbn _ _ _ _ hc), ?_, h.ends.heap (hk _ h.ends.lt h.apart.2.1.symm), h.nums.heap (hk _ h.nums.lt h.apart.2.2.2), (hbn _ _ _ _ h.res).trans h.res, h.le, h.apart, h.below.trans ⟨h3.os, h3.tape, h3.output, h3.size, fun k hkB => h3.block k ?_ (fun e => ?_)⟩, ⟨h.old.1, h.old.2.1, h.old.2.2.1, by rw [h4]; exact h.old.2.2.2⟩, fun q hq => (hk q (Nat.lt_of_lt_of_le hq h.old.2.2.2) (by have := h.old.2.1; omega)).trans (h.kp q hq)⟩
  · unfold bs at k3
    rw [k3] at h2
    exact h2
  · have := h.below.size; have := h.places.lt; have := h.le.2.2.2.1; omega
  · have := h.le.2.2.2.1; have := Option.some.inj e; omega
theorem Lki.drew {w wr : World} {B : Nat} {F : Fix} {S : List Pl.Src} {R n : Nat} (h : Lki w wr B F S R n) (hB : B ≤ wr.heap.size) : Lki w wr.drew B F S R n := h.next (Below.refl _ _).drew hB
def Pl.Sr.zero : Pl.Sr := ⟨[], [], [], Pl.Ft.none⟩
/-- the search before its first step -/
theorem Lki.start {w wr : World} {B : Nat} {F : Fix} {S : List Pl.Src} {R n : Nat} (h : Lki w wr B F S R n) (hn : S.length ≤ n) : SvAt wr B F S (.slice none 0 0) [] Pl.Sr.zero := by
  have e : (S.drop 1).take (n - 1) = S.drop 1 := List.take_of_length_le (by rw [List.length_drop]; omega)
  have hp := h.places
  rw [e] at hp
  exact ⟨⟨h.blk, h.src, hp, h.ends, ⟨h.le.1, h.le.2.1⟩, h.apart.1, h.apart.2.1⟩, h.nums, World.ownsRow_nil _ _ _ _, rfl, fun i g v hi => by simp at hi, List.nodup_nil, h.apart.2.2.1, h.apart.2.2.2, h.le.2.2.1⟩
theorem pre_zero {S : List Pl.Src} (hS : SrcsOk S) : Pl.Pre S Pl.Sr.zero (0, Pl.Sx.start) := by
  exact ⟨⟨Pl.endsOk_nil _, fun p hp => (by cases hp), fun i j p q hi => (by simp [Pl.Sr.zero] at hi), fun p hp => (by cases hp), fun p hp => (by cases hp), rfl⟩, rfl, .inl ⟨rfl, rfl⟩, Pl.start_fit, hS.few.1⟩

namespace Pl
theorem check_keeps (S : List Src) (s : Sr) (e : En) (len : Nat) (ho : EndsOk S.length s.ends) (he : SxFit e.2) : (checkV S s e len).nums = s.nums ∧ (checkV S s e len).vis = s.vis := by
  have hwk := walkV_ok (behV_ok S 257 s.ends.length (by omega)) (partsAt S e.1) ((partsAt S e.1).length + 1) 0 s e.2 ho (Nat.le_refl _) (.inr he)
  unfold checkV
  split
  · exact ⟨hwk.1.nums, hwk.1.vis⟩
  · exact ⟨hwk.1.nums, hwk.1.vis⟩
theorem lookV_check (S : List Src) (len : Nat) : lookV S len =
    if (thruV S 258 Sr.zero (0, Sx.start)).fault.code ≠ 0 then ([], (thruV S 258 Sr.zero (0, Sx.start)).fault) else
    if (checkV S (thruV S 258 Sr.zero (0, Sx.start)) (0, Sx.start) len).fault.code ≠ 0 then ([], (checkV S (thruV S 258 Sr.zero (0, Sx.start)) (0, Sx.start) len).fault)
    else ((checkV S (thruV S 258 Sr.zero (0, Sx.start)) (0, Sx.start) len).vis, Ft.none) := by
  unfold lookV checkV Sr.zero
  simp only
  split
  · rfl
  · split
    · rename_i h
      rw [if_pos (by simp [Sr.wrong])]
      rfl
    · rfl
end Pl

end Go.Proofs.YtfkhljmiehdgmaaGreatDoor

/-
  A template is looked through, walked.
-/
namespace Go.Proofs.YtfkhljmiehdgmaaGreatDoor
open Go.RowKit Go.Maps

theorem lki_begin {w : World} {B bS : Nat} {pv : Nat → Value} {S : List Pl.Src} (hsrc : SrcAt w B ⟨0, bS, 0, 0, 0, pv⟩ S) (hB : B ≤ w.heap.size) :
    Lki w (((((w.alloc (.cells #[.int .i64 0, .int .i64 0, .string ⟨#[]⟩, .int .i64 0] 31)).alloc (.map #[] 0)).alloc (.map #[] 0)).alloc (.map #[] 0)).alloc (.cells #[.slice (some ⟨bS, 0, none⟩) S.length S.length, .map (some (w.heap.size + 1)), .map (some (w.heap.size + 1 + 1)), .map (some (w.heap.size + 1 + 1 + 1)), .slice none 0 0, .int .i64 0, .int .i64 0, .string ⟨#[]⟩, .int .i64 0] 178)) B ⟨w.heap.size + 1 + 1 + 1 + 1, bS, w.heap.size + 1, w.heap.size + 1 + 1, w.heap.size + 1 + 1 + 1, pv⟩ S w.heap.size 1 := by
  have hb : Below w.heap.size w (((((w.alloc (.cells #[.int .i64 0, .int .i64 0, .string ⟨#[]⟩, .int .i64 0] 31)).alloc (.map #[] 0)).alloc (.map #[] 0)).alloc (.map #[] 0)).alloc (.cells #[.slice (some ⟨bS, 0, none⟩) S.length S.length, .map (some (w.heap.size + 1)), .map (some (w.heap.size + 1 + 1)), .map (some (w.heap.size + 1 + 1 + 1)), .slice none 0 0, .int .i64 0, .int .i64 0, .string ⟨#[]⟩, .int .i64 0] 178)) :=
    (((((Below.refl _ _).alloc (Nat.le_refl _) _).alloc (by simp <;> omega) _).alloc (by simp <;> omega) _).alloc (by simp <;> omega) _).alloc (by simp <;> omega) _
  have h0 := heap_alloc_new w (.cells #[.int .i64 0, .int .i64 0, .string ⟨#[]⟩, .int .i64 0] 31)
  refine ⟨heap_new_at _ _ _ (by simp <;> omega), ?_, ⟨#[], 0, ?_, rfl⟩, ⟨#[], 0, ?_, rfl⟩, ⟨#[], 0, ?_, rfl⟩, ?_, ?_, ?_, hb.mono hB, ?_, fun k hk => hb.block k hk⟩
  · refine SrcAt.kept (F := ⟨w.heap.size + 1 + 1 + 1 + 1, bS, w.heap.size + 1, w.heap.size + 1 + 1, w.heap.size + 1 + 1 + 1, pv⟩) ⟨hsrc.blk, hsrc.name, hsrc.slice, hsrc.row⟩ (by obtain ⟨cs, fz, hc⟩ := hsrc.blk; exact hb.block _ (Array.getElem?_eq_some_iff.1 hc).1) (fun i s k hs hv => by obtain ⟨cur, hc⟩ := ownsRow_ty (hsrc.row i s hs) k hv; exact hb.block _ (Array.getElem?_eq_some_iff.1 hc).1)
  · exact (heap_alloc_old _ _ (by simp <;> omega)).trans ((heap_alloc_old _ _ (by simp <;> omega)).trans ((heap_alloc_old _ _ (by simp <;> omega)).trans (heap_new_at (w.alloc _) _ _ (by simp <;> omega))))
  · exact (heap_alloc_old _ _ (by simp <;> omega)).trans ((heap_alloc_old _ _ (by simp <;> omega)).trans (heap_new_at ((w.alloc _).alloc _) _ _ (by simp <;> omega)))
  · exact (heap_alloc_old _ _ (by simp <;> omega)).trans (heap_new_at (((w.alloc _).alloc _).alloc _) _ _ (by simp <;> omega))
  · exact (heap_alloc_old _ _ (by simp <;> omega)).trans ((heap_alloc_old _ _ (by simp <;> omega)).trans ((heap_alloc_old _ _ (by simp <;> omega)).trans ((heap_alloc_old _ _ (by simp <;> omega)).trans h0)))
  · exact ⟨by simp only; omega, by simp only; omega, by simp only; omega, by simp only; omega, hB⟩
  · exact ⟨by simp only; omega, by simp only; omega, by simp only; omega, by simp only; omega⟩
  · exact ⟨by simp only; omega, by simp only; omega, Nat.le_refl _, hb.size⟩

theorem fault_set {w : World} {g : Nat} {t : TypeId} {u0 u1 u2 u3 : Value} (h : w.heap[g]? = some (.cells #[u0, u1, u2, u3] t (0, 0))) (v0 v1 v2 v3 : Value) :
    ((((w.setCell ⟨g, 0, none⟩ v0).setCell ⟨g, 1, none⟩ v1).setCell ⟨g, 2, none⟩ v2).setCell ⟨g, 3, none⟩ v3).heap[g]? = some (.cells #[v0, v1, v2, v3] t (0, 0)) :=
  setFrom_heap (t := t) [v0, v1, v2, v3] w 0 [] [u0, u1, u2, u3] h rfl rfl
theorem ty_fault_search : (31 : TypeId) ≠ 178 := by decide
theorem ty_fault_source : (31 : TypeId) ≠ 173 := by decide
theorem ty_fault_part : (31 : TypeId) ≠ 229 := by decide
theorem ty_fault_visit : (31 : TypeId) ≠ 205 := by decide
theorem ty_fault_int : (31 : TypeId) ≠ 3 := by decide
theorem ty_fault_entry : (31 : TypeId) ≠ 180 := by decide
theorem SvAt.other {w : World} {B : Nat} {F : Fix} {S : List Pl.Src} {vv : Value} {M : List Nat} {s : Pl.Sr} (h : SvAt w B F S vv M s) {k : Nat} {cs : Array Value} {t : TypeId} {fz : Nat × Nat} (hk : w.heap[k]? = some (.cells cs t fz)) (h1 : t ≠ 178) (h2 : t ≠ 173) (h3 : t ≠ 229) (h4 : t ≠ 205) (h5 : t ≠ 3) (j : Nat) (v : Value) : SvAt (w.setCell ⟨k, j, none⟩ v) B F S vv M s :=
  h.kept (h.se.other hk h1 h2 h3 j v) fun i hi hty hne => Below.heap_setCell _ _ _ _ fun e => by
    subst e
    rcases hty _ _ _ hk with q | q
    · exact h4 q
    · exact h5 q
theorem SvAt.fault4 {w : World} {B : Nat} {F : Fix} {S : List Pl.Src} {vv : Value} {M : List Nat} {s : Pl.Sr} (h : SvAt w B F S vv M s) {g : Nat} {u0 u1 u2 u3 : Value} (hk : w.heap[g]? = some (.cells #[u0, u1, u2, u3] 31 (0, 0))) (v0 v1 v2 v3 : Value) :
    SvAt ((((w.setCell ⟨g, 0, none⟩ v0).setCell ⟨g, 1, none⟩ v1).setCell ⟨g, 2, none⟩ v2).setCell ⟨g, 3, none⟩ v3) B F S vv M s := by
  have h1 : (w.setCell ⟨g, 0, none⟩ v0).heap[g]? = _ := heap_setCell_same _ _ _ _ _ _ hk
  have h2 : ((w.setCell ⟨g, 0, none⟩ v0).setCell ⟨g, 1, none⟩ v1).heap[g]? = _ := heap_setCell_same _ _ _ _ _ _ h1
  have h3 : (((w.setCell ⟨g, 0, none⟩ v0).setCell ⟨g, 1, none⟩ v1).setCell ⟨g, 2, none⟩ v2).heap[g]? = _ := heap_setCell_same _ _ _ _ _ _ h2
  exact (((h.other hk ty_fault_search ty_fault_source ty_fault_part ty_fault_visit ty_fault_int 0 v0).other h1 ty_fault_search ty_fault_source ty_fault_part ty_fault_visit ty_fault_int 1 v1).other h2 ty_fault_search ty_fault_source ty_fault_part ty_fault_visit ty_fault_int 2 v2).other h3 ty_fault_search ty_fault_source ty_fault_part ty_fault_visit ty_fault_int 3 v3
/-- what lies as it lay -/
def Keeps (w w' : World) : Prop := ∀ (k : Nat) (cs : Array Value) (t : TypeId) (fz : Nat × Nat), w.heap[k]? = some (.cells cs t fz) → t ≠ 205 → t ≠ 3 → w'.heap[k]? = w.heap[k]?
/-- behind the loop: the search, the result's block and the entry's -/
structure Lkj (w wr : World) (B : Nat) (F : Fix) (S : List Pl.Src) (vv : Value) (M : List Nat) (s : Pl.Sr) (R E : Nat) : Prop where
  sv : SvAt wr B F S vv M s
  res : wr.heap[R]? = some (.cells #[.int .i64 0, .int .i64 0, .string ⟨#[]⟩, .int .i64 0] 31 (0, 0))
  ent : wr.heap[E]? = some (.cells (enCells (0, Pl.Sx.start)) 180 (0, 0))
  below : Below B w wr
  le : B ≤ R
  old : w.heap.size ≤ F.g ∧ w.heap.size ≤ R
  kp : Keeps w wr
theorem Lkj.turn {w wr w' : World} {B : Nat} {F : Fix} {S : List Pl.Src} {vv vv' : Value} {M M' : List Nat} {s s' : Pl.Sr} {R E : Nat} (h : Lkj w wr B F S vv M s R E) (hs : SvAt w' B F S vv' M' s') (hc : Cuv B F wr w') : Lkj w w' B F S vv' M' s' R E :=
  ⟨hs, (hc.keep R _ _ _ h.res (ty_apart h.res h.sv.se.blk ty_fault_search) ty_fault_visit ty_fault_int).trans h.res, (hc.keep E _ _ _ h.ent (ty_apart h.ent h.sv.se.blk ty_entry_search) (by decide) (by decide)).trans h.ent, h.below.trans hc.below, h.le, h.old, fun k cs t fz hk h1 h2 => (hc.keep k cs t fz ((h.kp k cs t fz hk h1 h2).trans hk) (by have := (Array.getElem?_eq_some_iff.1 hk).1; have := h.old.1; omega) h1 h2).trans (h.kp k cs t fz hk h1 h2)⟩
theorem Lkj.set {w wr : World} {B : Nat} {F : Fix} {S : List Pl.Src} {vv : Value} {M : List Nat} {s : Pl.Sr} {R E : Nat} (h : Lkj w wr B F S vv M s R E) (v0 v1 v2 v3 : Value) :
    ((((wr.setCell ⟨R, 0, none⟩ v0).setCell ⟨R, 1, none⟩ v1).setCell ⟨R, 2, none⟩ v2).setCell ⟨R, 3, none⟩ v3).heap[R]? = some (.cells #[v0, v1, v2, v3] 31 (0, 0)) ∧ Below B w ((((wr.setCell ⟨R, 0, none⟩ v0).setCell ⟨R, 1, none⟩ v1).setCell ⟨R, 2, none⟩ v2).setCell ⟨R, 3, none⟩ v3) ∧ SvAt ((((wr.setCell ⟨R, 0, none⟩ v0).setCell ⟨R, 1, none⟩ v1).setCell ⟨R, 2, none⟩ v2).setCell ⟨R, 3, none⟩ v3) B F S vv M s ∧ Keeps w ((((wr.setCell ⟨R, 0, none⟩ v0).setCell ⟨R, 1, none⟩ v1).setCell ⟨R, 2, none⟩ v2).setCell ⟨R, 3, none⟩ v3) :=
  ⟨fault_set h.res _ _ _ _, (((h.below.setCell (p := ⟨R, 0, none⟩) h.le v0).setCell (p := ⟨R, 1, none⟩) h.le v1).setCell (p := ⟨R, 2, none⟩) h.le v2).setCell (p := ⟨R, 3, none⟩) h.le v3, h.sv.fault4 h.res _ _ _ _, fun k cs t fz hk h1 h2 => by
    have hne : k ≠ R := by have := (Array.getElem?_eq_some_iff.1 hk).1; have := h.old.2; omega
    exact (Below.heap_setCell _ _ _ _ hne).trans ((Below.heap_setCell _ _ _ _ hne).trans ((Below.heap_setCell _ _ _ _ hne).trans ((Below.heap_setCell _ _ _ _ hne).trans (h.kp k cs t fz hk h1 h2))))⟩

set_option maxRecDepth 100000 in
set_option maxHeartbeats 12800000 in
theorem look_any (HB : BehindC) (S : List Pl.Src) (hS : SrcsOk S) (HTh : ThrC S 258) (w : World) (B bS : Nat) (pv : Nat → Value) (len : Nat) (hsrc : SrcAt w B ⟨0, bS, 0, 0, 0, pv⟩ S) (hB : B ≤ w.heap.size) (ht : TabB B w) :
    Calls Tryz.prog 45 #[.slice (some ⟨bS, 0, none⟩) S.length S.length, .int .i64 len] w fun ed w' => (∃ v, ed = .returned (.tuple #[v, ftVal (Pl.lookV S len).2]) ∧ ((Pl.lookV S len).2.code = 0 → ∃ F M s, SvAt w' B F S v M s ∧ s.vis = (Pl.lookV S len).1)) ∧ Below B w w' ∧ Keeps w w' := by
  have hL := lki_begin hsrc hB
  have HT := (show Hid (TabB B w) from ht)
  have HHB := (show Hid (B ≤ w.heap.size) from hB)
  have hS1 : 1 ≤ S.length := hS.few.1
  have hS2 : (S.length : Int) ≤ 7 := by have := hS.few.2; omega
  obtain ⟨r, hr⟩ : ∃ r, r = Pl.lookV S len := ⟨_, rfl⟩
  rw [← hr]
  have HR := (show Hid _ from hr)
  have hmk := fun (t : TypeId) (w : World) => run_makeMap (P := Tryz.prog) t w
  clear hsrc hB ht hr
  go_enter Tryz.func45, Tryz.ntmps45
  go_wp2_with fail
  obtain ⟨F, hF⟩ : ∃ F : Fix, F = ⟨w.heap.size + 1 + 1 + 1 + 1, bS, w.heap.size + 1, w.heap.size + 1 + 1, w.heap.size + 1 + 1 + 1, pv⟩ := ⟨_, rfl⟩
  rw [← hF] at hL
  have eg : w.heap.size + 1 + 1 + 1 + 1 = F.g := by rw [hF]
  have eS : F.bS = bS := by rw [hF]
  have HL := (show Hid _ from hL)
  clear hL hF
  generalize World.alloc _ (Obj.cells _ 178) = w1 at HL ⊢
  rw [eg]
  clear eg
  generalize w.heap.size = R at HL ⊢
  have hbg := fun w => begin_any w
  have est : sxVal Pl.Sx.start = .agg #[.int .u8 1, .string ⟨#[]⟩, .string ⟨#[]⟩, .int .i64 0, .int .i64 0, .bool false, .bool false, .int .i64 0, .int .i64 0, .int .i64 0] := rfl
  rw [est] at hbg
  have HBg := (show Hid _ from hbg)
  have HTr : Hid (∀ w5, SvAt w5 B F S (.slice none 0 0) [] Pl.Sr.zero → TabB B w5 → Calls Tryz.prog 75 #[.pointer (some ⟨F.g, 0, none⟩), .agg #[.int .i64 0, .int .u8 1, .string ⟨#[]⟩, .string ⟨#[]⟩, .int .i64 0, .int .i64 0, .bool false, .bool false, .int .i64 0, .int .i64 0, .int .i64 0]] w5 fun ed w' => (∃ r, ed = .returned r) ∧ (∃ vv' ext, SvAt w' B F S vv' ([] ++ ext) (Pl.thruV S 258 Pl.Sr.zero (0, Pl.Sx.start))) ∧ Cuv B F w5 w') := fun w5 h5 t5 => HTh w5 B F _ [] Pl.Sr.zero (0, Pl.Sx.start) h5 (pre_zero hS) (by show 258 ≤ 0 + 258; omega) t5
  obtain ⟨s1, hs1⟩ : ∃ s1, s1 = Pl.thruV S 258 Pl.Sr.zero (0, Pl.Sx.start) := ⟨_, rfl⟩
  have HI := (show Hid _ from Pl.thruV_ok S 258 Pl.Sr.zero (0, Pl.Sx.start) (pre_zero hS) (by show 258 ≤ 0 + 258; omega))
  have hlc := Pl.lookV_check S len
  rw [← HR.out, ← hs1] at hlc
  rw [← hs1] at HTr HI
  have HLc := (show Hid _ from hlc)
  clear hbg est hs1 HR hlc hmk
  go_loopw [7] (fun i wr => ∃ n : Nat, 1 ≤ n ∧ n ≤ S.length ∧ i = .int .i64 n ∧ Hid (Lki w wr B F S R n)) (fun i _ => S.length - (intOf i).toNat)
  case atStart => exact ⟨1, Nat.le_refl _, hS1, rfl, HL.out⟩
  case round =>
    obtain ⟨n, hn1, hn2, rfl, HK⟩ := hrel
    clear HL
    have hBr : B ≤ wr.heap.size := Nat.le_trans HHB.out HK.out.below.size
    by_cases hlt : n < S.length
    · have hlt2 : (n : Int) < (S.length : Int) := by omega
      obtain ⟨src, hsrc⟩ : ∃ src, S[n]? = some src := ⟨S[n], List.getElem?_eq_getElem hlt⟩
      have b1 : wr.cell? ⟨F.g, 1, none⟩ = some (.map (some F.bp)) := cells_at_block HK.out.blk 1 _ rfl
      have b2 : wr.cell? ⟨bS, n * 2, none⟩ = some (.string ⟨src.name.toArray⟩) := by
        have := HK.out.src.name n src hsrc
        rw [eS] at this
        exact this
      obtain ⟨w3, hrun, hK3, hsz⟩ := (HK.out.drew hBr).put hS hn1 hsrc
      have HK3 := (show Hid _ from hK3)
      clear hK3 hsz hsrc hBr
      go_wp2_with fail
      go_region
      all_goals
        go_wp2_with fail
        go_roundw
        case rel => exact ⟨n + 1, by omega, by omega, by go_num, HK3.out⟩
        case measure => simp [intOf]; omega
    · have hlt2 : ¬ (n : Int) < (S.length : Int) := by omega
      have hne : S.length ≤ n := by omega
      have HN := (show Hid _ from hne)
      clear hlt hne hn1 hn2
      go_wp2_with fail
      refine (HBg.out _).mono ?_; rintro ed w2 ⟨rfl, hw2⟩
      have HK2 : Hid (Lki w w2 B F S R n) := by rw [← hw2]; exact HK.out.next ((Below.refl _ _).alloc (Nat.le_refl _) _) hBr
      have hB2 : B ≤ w2.heap.size := Nat.le_trans HHB.out HK2.out.below.size
      have HB2 := (show Hid (B ≤ w2.heap.size) from hB2)
      clear hw2 HK hBr hB2
      go_wp2_with fail
      have HK4 := (show Hid _ from HK2.out.next ((Below.refl _ _).alloc (Nat.le_refl _) (.cells (enCells (0, Pl.Sx.start)) 180)) HB2.out)
      have HJ4 : Hid (Lkj w (w2.alloc (.cells (enCells (0, Pl.Sx.start)) 180)) B F S (.slice none 0 0) [] Pl.Sr.zero R w2.heap.size) := ⟨HK4.out.start HN.out, HK4.out.res, heap_alloc_new _ _, HK4.out.below, HK4.out.le.2.2.2.2, ⟨HK4.out.old.1, HK4.out.old.2.2.1⟩, fun k _ _ _ hk _ _ => HK4.out.kp k (Array.getElem?_eq_some_iff.1 hk).1⟩
      refine (HTr.out _ HJ4.out.sv (TabB.kept HT.out HJ4.out.below)).mono ?_; rintro ed w6 ⟨⟨r6, rfl⟩, ⟨vv', ext, hsv⟩, hcu⟩
      have HJ6 := (show Hid _ from HJ4.out.turn hsv hcu)
      clear hsv hcu HK4 HJ4 HK2
      generalize w2.heap.size = E at HJ6 ⊢
      by_cases h0 : s1.fault.code = 0
      rotate_left
      · have hc0 : ((s1.fault.code : Int) == 0) = false := by rw [beq_eq_false_iff_ne]; omega
        have hc1 : ((s1.fault.code : Int) != 0) = true := by rw [bne_iff_ne]; omega
        have HX : Hid (r = ([], s1.fault)) := by show _ = _; rw [HLc.out, if_pos h0]
        have H0 := (show Hid _ from h0)
        have b5 : w6.cell? ⟨F.g, 5, none⟩ = some (.int .i64 (s1.fault.code : Nat)) := HJ6.out.sv.se.cell 5 _ rfl
        have b6 : w6.cell? ⟨F.g, 6, none⟩ = some (.int .i64 s1.fault.kind) := HJ6.out.sv.se.cell 6 _ rfl
        have b7 : w6.cell? ⟨F.g, 7, none⟩ = some (.string ⟨s1.fault.place.toArray⟩) := HJ6.out.sv.se.cell 7 _ rfl
        have b8 : w6.cell? ⟨F.g, 8, none⟩ = some (.int .i64 (s1.fault.pos : Nat)) := HJ6.out.sv.se.cell 8 _ rfl
        have x0 : w6.cell? ⟨R, 0, none⟩ = some (.int .i64 0) := cells_at_block HJ6.out.res 0 _ rfl
        have x1 : w6.cell? ⟨R, 1, none⟩ = some (.int .i64 0) := cells_at_block HJ6.out.res 1 _ rfl
        have x2 : w6.cell? ⟨R, 2, none⟩ = some (.string ⟨#[]⟩) := cells_at_block HJ6.out.res 2 _ rfl
        have x3 : w6.cell? ⟨R, 3, none⟩ = some (.int .i64 0) := cells_at_block HJ6.out.res 3 _ rfl
        have z0 : w6.frozen? ⟨R, 0, none⟩ = false := by simp [World.frozen?, HJ6.out.res]
        have z1 : w6.frozen? ⟨R, 1, none⟩ = false := by simp [World.frozen?, HJ6.out.res]
        have z2 : w6.frozen? ⟨R, 2, none⟩ = false := by simp [World.frozen?, HJ6.out.res]
        have z3 : w6.frozen? ⟨R, 3, none⟩ = false := by simp [World.frozen?, HJ6.out.res]
        clear h0
        go_wp2_with fail
        go_region
        all_goals
          go_wp2_with fail
          have hf := HJ6.out.set (.int .i64 (s1.fault.code : Nat)) (.int .i64 s1.fault.kind) (.string ⟨s1.fault.place.toArray⟩) (.int .i64 (s1.fault.pos : Nat))
          refine po_tmp_cell Tryz.results45 rfl R (.slice none 0 0) _ rfl rfl hf.1 _ Tryz.underlying31 rfl (by kernel_rfl) ?_
          exact ⟨⟨_, by rw [HX.out]; rfl, fun q => absurd q (by rw [HX.out]; exact H0.out)⟩, hf.2.1.drew, hf.2.2.2⟩
      · have hc0 : ((s1.fault.code : Int) == 0) = true := by rw [h0]; rfl
        have b5 : w6.cell? ⟨F.g, 5, none⟩ = some (.int .i64 (s1.fault.code : Nat)) := HJ6.out.sv.se.cell 5 _ rfl
        have he := ent_cell HJ6.out.ent
        have een : enCells (0, Pl.Sx.start) = #[.int .i64 0, .int .u8 1, .string ⟨#[]⟩, .string ⟨#[]⟩, .int .i64 0, .int .i64 0, .bool false, .bool false, .int .i64 0, .int .i64 0, .int .i64 0] := rfl
        rw [een] at he
        have m0 := he 0 _ rfl
        have m1 := he 1 _ rfl
        have m2 := he 2 _ rfl
        have m3 := he 3 _ rfl
        have m4 := he 4 _ rfl
        have m5 := he 5 _ rfl
        have m6 := he 6 _ rfl
        have m7 := he 7 _ rfl
        have m8 := he 8 _ rfl
        have m9 := he 9 _ rfl
        have m10 := he 10 _ rfl
        have hB6 : B ≤ w6.heap.size := Nat.le_trans HHB.out HJ6.out.below.size
        have hce := checkEnd_any HB S hS w6 B F vv' s1 (0, Pl.Sx.start) len HJ6.out.sv.se HI.out.1.ends Pl.start_fit hS1 hB6 (TabB.kept HT.out HJ6.out.below)
        have HCe : Hid (Calls Tryz.prog 76 #[.pointer (some ⟨F.g, 0, none⟩), .agg #[.int .i64 0, .int .u8 1, .string ⟨#[]⟩, .string ⟨#[]⟩, .int .i64 0, .int .i64 0, .bool false, .bool false, .int .i64 0, .int .i64 0, .int .i64 0], .int .i64 len] w6 fun ed w' => (∃ r, ed = .returned r) ∧ SeAt w' B F S vv' (Pl.checkV S s1 (0, Pl.Sx.start) len) ∧ Cue B F w6 w') := hce
        have hcn := Pl.check_keeps S s1 (0, Pl.Sx.start) len HI.out.1.ends Pl.start_fit
        have hlc : r = if (Pl.checkV S s1 (0, Pl.Sx.start) len).fault.code ≠ 0 then ([], (Pl.checkV S s1 (0, Pl.Sx.start) len).fault) else ((Pl.checkV S s1 (0, Pl.Sx.start) len).vis, Pl.Ft.none) := by rw [HLc.out, if_neg (fun q => q h0)]
        clear hce he een h0 hB6
        generalize Pl.checkV S s1 (0, Pl.Sx.start) len = s2 at HCe hcn hlc
        have HL2 := (show Hid _ from hlc)
        have HN2 := (show Hid _ from hcn)
        clear hlc hcn
        go_wp2_with fail
        refine HCe.out.mono ?_; rintro ed w7 ⟨⟨r7, rfl⟩, hse, hcu⟩
        have HJ7 := (show Hid _ from HJ6.out.turn (HJ6.out.sv.turn hse hcu HN2.out.1 HN2.out.2) (Cuv.of_cue HJ6.out.sv.se hcu))
        clear hse hcu HJ6 HCe b5 m0 m1 m2 m3 m4 m5 m6 m7 m8 m9 m10 hc0
        by_cases h0 : s2.fault.code = 0
        rotate_left
        · have hc1 : ((s2.fault.code : Int) != 0) = true := by rw [bne_iff_ne]; omega
          have HX : Hid (r = ([], s2.fault)) := by show _ = _; rw [HL2.out, if_pos h0]
          have H0 := (show Hid _ from h0)
          have b5 : w7.cell? ⟨F.g, 5, none⟩ = some (.int .i64 (s2.fault.code : Nat)) := HJ7.out.sv.se.cell 5 _ rfl
          have b6 : w7.cell? ⟨F.g, 6, none⟩ = some (.int .i64 s2.fault.kind) := HJ7.out.sv.se.cell 6 _ rfl
          have b7 : w7.cell? ⟨F.g, 7, none⟩ = some (.string ⟨s2.fault.place.toArray⟩) := HJ7.out.sv.se.cell 7 _ rfl
          have b8 : w7.cell? ⟨F.g, 8, none⟩ = some (.int .i64 (s2.fault.pos : Nat)) := HJ7.out.sv.se.cell 8 _ rfl
          have x0 : w7.cell? ⟨R, 0, none⟩ = some (.int .i64 0) := cells_at_block HJ7.out.res 0 _ rfl
          have x1 : w7.cell? ⟨R, 1, none⟩ = some (.int .i64 0) := cells_at_block HJ7.out.res 1 _ rfl
          have x2 : w7.cell? ⟨R, 2, none⟩ = some (.string ⟨#[]⟩) := cells_at_block HJ7.out.res 2 _ rfl
          have x3 : w7.cell? ⟨R, 3, none⟩ = some (.int .i64 0) := cells_at_block HJ7.out.res 3 _ rfl
          have z0 : w7.frozen? ⟨R, 0, none⟩ = false := by simp [World.frozen?, HJ7.out.res]
          have z1 : w7.frozen? ⟨R, 1, none⟩ = false := by simp [World.frozen?, HJ7.out.res]
          have z2 : w7.frozen? ⟨R, 2, none⟩ = false := by simp [World.frozen?, HJ7.out.res]
          have z3 : w7.frozen? ⟨R, 3, none⟩ = false := by simp [World.frozen?, HJ7.out.res]
          clear h0
          go_wp2_with fail
          go_region
          all_goals
            go_wp2_with fail
            have hf := HJ7.out.set (.int .i64 (s2.fault.code : Nat)) (.int .i64 s2.fault.kind) (.string ⟨s2.fault.place.toArray⟩) (.int .i64 (s2.fault.pos : Nat))
            refine po_tmp_cell Tryz.results45 rfl R (.slice none 0 0) _ rfl rfl hf.1 _ Tryz.underlying31 rfl (by kernel_rfl) ?_
            exact ⟨⟨_, by rw [HX.out]; rfl, fun q => absurd q (by rw [HX.out]; exact H0.out)⟩, hf.2.1.drew, hf.2.2.2⟩
        · have hc1 : ((s2.fault.code : Int) != 0) = false := by rw [h0]; rfl
          have HX : Hid (r = (s2.vis, Pl.Ft.none)) := by show _ = _; rw [HL2.out, if_neg (fun q => q h0)]
          have b4 : w7.cell? ⟨F.g, 4, none⟩ = some vv' := HJ7.out.sv.se.cell 4 _ rfl
          have b5 : w7.cell? ⟨F.g, 5, none⟩ = some (.int .i64 (s2.fault.code : Nat)) := HJ7.out.sv.se.cell 5 _ rfl
          have b6 : w7.cell? ⟨F.g, 6, none⟩ = some (.int .i64 s2.fault.kind) := HJ7.out.sv.se.cell 6 _ rfl
          have b7 : w7.cell? ⟨F.g, 7, none⟩ = some (.string ⟨s2.fault.place.toArray⟩) := HJ7.out.sv.se.cell 7 _ rfl
          have b8 : w7.cell? ⟨F.g, 8, none⟩ = some (.int .i64 (s2.fault.pos : Nat)) := HJ7.out.sv.se.cell 8 _ rfl
          have x0 : w7.cell? ⟨R, 0, none⟩ = some (.int .i64 0) := cells_at_block HJ7.out.res 0 _ rfl
          have x1 : w7.cell? ⟨R, 1, none⟩ = some (.int .i64 0) := cells_at_block HJ7.out.res 1 _ rfl
          have x2 : w7.cell? ⟨R, 2, none⟩ = some (.string ⟨#[]⟩) := cells_at_block HJ7.out.res 2 _ rfl
          have x3 : w7.cell? ⟨R, 3, none⟩ = some (.int .i64 0) := cells_at_block HJ7.out.res 3 _ rfl
          have z0 : w7.frozen? ⟨R, 0, none⟩ = false := by simp [World.frozen?, HJ7.out.res]
          have z1 : w7.frozen? ⟨R, 1, none⟩ = false := by simp [World.frozen?, HJ7.out.res]
          have z2 : w7.frozen? ⟨R, 2, none⟩ = false := by simp [World.frozen?, HJ7.out.res]
          have z3 : w7.frozen? ⟨R, 3, none⟩ = false := by simp [World.frozen?, HJ7.out.res]
          clear h0
          go_wp2_with fail
          have hf := HJ7.out.set (.int .i64 0) (.int .i64 0) (.string ⟨#[]⟩) (.int .i64 0)
          refine po_tmp_cell Tryz.results45 rfl R vv' _ rfl rfl hf.1 _ Tryz.underlying31 rfl (by kernel_rfl) ?_
          exact ⟨⟨_, by rw [HX.out]; rfl, fun _ => ⟨F, _, s2, hf.2.2.1, by rw [HX.out]⟩⟩, hf.2.1, hf.2.2.2⟩

end Go.Proofs.YtfkhljmiehdgmaaGreatDoor

/-
  All texts are cut: what holds on the way.
-/
namespace Go.Proofs.YtfkhljmiehdgmaaGreatDoor
open Go.RowKit Go.Maps

/-- append at the operation -/
theorem wpList_append_run {P : Program} (w : World) {ops : Array Oper} {rest : List Oper} {o : Oper} {a : Act} {Q : Exit → Act → World → Prop}
    (hg : o.guard = none) (s x : Operand) (t : TypeId) (ho : o.op = .call { callee := .builtin .append, args := #[s, x], argTypes := #[t, t] }) (sv xv v' : Value) (w' : World) (hs : a.eval s = sv) (hx : a.eval x = xv)
    (hrun : (Builtin.append_ #[t, t] o.type #[sv, xv]).run P w = .ok v' w') (hK : wpList P ops Q rest (a.put o.dst v') w') : wpList P ops Q (o :: rest) a w := by
  refine wpList_plain hg fun K hK' => ?_
  unfold Oper.wp execOp
  simp only [ho, resolve, invoke, builtin, Sem.run_bind, Sem.run_pure, Result.andThen_ok, List.map_toArray, List.map_cons, List.map_nil, hs, hx, hrun]
  exact hK' _ _ hK

theorem info_partial : (Tryz.prog.info? 38).map (fun i => (i.zero, i.size, i.bytes)) = some (some (.agg #[.string ⟨#[]⟩, .string ⟨#[]⟩]), 2, 32) := by kernel_rfl
theorem info_source : (Tryz.prog.info? 173).map (fun i => (i.zero, i.size, i.bytes)) = some (some (.agg #[.string ⟨#[]⟩, .slice none 0 0]), 2, 40) := by kernel_rfl

def paCells (L : List (ByteArray × ByteArray)) : List Value := L.flatMap fun x => [.string x.1, .string x.2]
theorem paCells_len (L : List (ByteArray × ByteArray)) : (paCells L).length = L.length * 2 := by
  induction L with
  | nil => rfl
  | cons x L ih => show (paCells L).length + 2 = _; rw [ih, List.length_cons]; omega
theorem paCells_at : ∀ (L : List (ByteArray × ByteArray)) (k : Nat) (x : ByteArray × ByteArray), L[k]? = some x → (paCells L)[k * 2]? = some (.string x.1) ∧ (paCells L)[k * 2 + 1]? = some (.string x.2)
  | [], k, x, h => by simp at h
  | y :: L, 0, x, h => by simp at h; subst h; exact ⟨rfl, rfl⟩
  | y :: L, k + 1, x, h => by
    have := paCells_at L k x (by simpa using h)
    rw [show (k + 1) * 2 = k * 2 + 1 + 1 by omega, show k * 2 + 1 + 1 + 1 = (k * 2 + 1) + 1 + 1 by omega]
    exact this
theorem psAt_cells {w : World} {b : Nat} {L : List (ByteArray × ByteArray)} (h : PsAt w b L) : ∀ j v, (paCells L)[j]? = some v → w.cell? ⟨b, j, none⟩ = some v := by
  intro j v hj
  have hl := (List.getElem?_eq_some_iff.1 hj).1
  rw [paCells_len] at hl
  obtain ⟨x, hx⟩ : ∃ x, L[j / 2]? = some x := ⟨L[j / 2]'(by omega), List.getElem?_eq_getElem (by omega)⟩
  obtain ⟨h1, h2⟩ := paCells_at L (j / 2) x hx
  rcases (show j = j / 2 * 2 ∨ j = j / 2 * 2 + 1 by omega) with e | e
  · rw [e] at hj ⊢
    rw [h1] at hj
    obtain rfl := Option.some.inj hj
    exact h.name _ x hx
  · rw [e] at hj ⊢
    rw [h2] at hj
    obtain rfl := Option.some.inj hj
    exact h.text _ x hx
/-- the template's own text and the partials behind it -/
theorem all_append (T : ByteArray) (v : Value) (L : List (ByteArray × ByteArray)) (w w1 : World) (b1 : Nat) (hA : ArgAt w v L) (hL : L.length ≤ 6) (hb : Below w.heap.size w w1) (h0 : w1.cell? ⟨b1, 0, none⟩ = some (.string ⟨#[]⟩)) (h1 : w1.cell? ⟨b1, 1, none⟩ = some (.string T)) :
    ∃ b cap w', (∀ ty, (Builtin.append_ #[22, 22] ty #[.slice (some ⟨b1, 0, none⟩) 1 1, v]).run Tryz.prog w1 = .ok (.slice (some ⟨b, 0, none⟩) (L.length + 1) cap) w') ∧ PsAt w' b ((⟨#[]⟩, T) :: L) ∧ Below w1.heap.size w1 w' := by
  obtain ⟨i0, hi0, hz0, hz1, hz2⟩ := info_parts info_partial
  obtain ⟨ao, cap, rfl, hc1, hc2, hne⟩ := hA
  by_cases hn : L = []
  · subst hn
    refine ⟨b1, 1, w1, fun ty => ?_, ⟨fun k x hx => ?_, fun k x hx => ?_⟩, Below.refl _ _⟩
    · cases ao with
      | none => simp [Builtin.append_, run_underlying Tryz.underlying22, sizeOf, typeInfo, hi0, Builtin.lenOf, Builtin.firstCells, storeCells]
      | some a => simp [Builtin.append_, run_underlying Tryz.underlying22, sizeOf, typeInfo, hi0, Builtin.lenOf, Builtin.firstCells, storeCells, loadCells, loadCellsFrom]
    · cases k with
      | zero => simp at hx; subst hx; exact h0
      | succ k => simp at hx
    · cases k with
      | zero => simp at hx; subst hx; exact h1
      | succ k => simp at hx
  · obtain ⟨b, rfl, hps⟩ := hne hn
    have hpos : 0 < L.length := List.length_pos_iff.2 hn
    have hps1 : PsAt w1 b L := ⟨fun k x hx => (hb.cell (p := ⟨b, k * 2, none⟩) (World.block_lt_of_cell? _ _ (hps.name k x hx))).trans (hps.name k x hx), fun k x hx => (hb.cell (p := ⟨b, k * 2 + 1, none⟩) (World.block_lt_of_cell? _ _ (hps.text k x hx))).trans (hps.text k x hx)⟩
    have hg := fun ty => run_append_grow (P := Tryz.prog) w1 22 ty 38 i0 _ Tryz.underlying22 hi0 hz0 ⟨b1, 0, none⟩ 1 1 [.string ⟨#[]⟩, .string T] (by rw [hz1]; rfl) (fun j v hj => by
        match j, hj with
        | 0, hj => simp at hj; subst hj; simpa [Addr.add] using h0
        | 1, hj => simp at hj; subst hj; simpa [Addr.add] using h1) ⟨b, 0, none⟩ L.length cap (paCells L) (by rw [hz1]; exact paCells_len L) (fun j v hj => by have := psAt_cells hps1 j v hj; have hadd : (⟨b, 0, none⟩ : Addr).add j = ⟨b, j, none⟩ := (by unfold Addr.add; split <;> simp_all); rw [hadd]; exact this) (by omega) (by omega) (by
          rw [hz2]
          have : Builtin.nextslicecap (1 + L.length) 1 ≤ 7 := by
            rcases (show L.length = 1 ∨ L.length = 2 ∨ L.length = 3 ∨ L.length = 4 ∨ L.length = 5 ∨ L.length = 6 by omega) with e | e | e | e | e | e <;> rw [e] <;> decide
          omega)
    refine ⟨w1.heap.size, _, _, fun ty => by rw [Nat.add_comm L.length 1]; exact hg ty, ?_, ?_⟩
    · have hcell : ∀ j v, (paCells ((⟨#[]⟩, T) :: L))[j]? = some v → (w1.drew.alloc (.cells ([Value.string ⟨#[]⟩, .string T].toArray ++ (paCells L).toArray ++ Builtin.zeroCells (Value.agg #[.string ⟨#[]⟩, .string ⟨#[]⟩]).cells (grownCap w1 (1 + L.length) 1 38 - (1 + L.length))) 38)).cell? ⟨w1.heap.size, j, none⟩ = some v := fun j v hj => by
        refine cells_at_block (heap_alloc_new w1.drew _) j v ?_
        rw [Array.toList_append, Array.toList_append]
        rw [List.getElem?_append_left (by have := (List.getElem?_eq_some_iff.1 hj).1; simpa [paCells] using this)]
        exact hj
      refine ⟨fun k x hx => hcell _ _ (paCells_at _ k x hx).1, fun k x hx => hcell _ _ (paCells_at _ k x hx).2⟩
    · exact (Below.refl _ _).drew.alloc (Nat.le_refl _) _

theorem run_sources (n : Nat) (hn : n ≤ 7) (w : World) : (Instr.makeSlice 115 (.int .i64 (n : Int)) (.int .i64 (n : Int))).run Tryz.prog w = .ok (.slice (some ⟨w.heap.size, 0, none⟩) n n) (w.alloc (.cells (madeCells #[.string ⟨#[]⟩, .slice none 0 0] (n * 2)) 173)) := by
  obtain ⟨i0, hi0, hz0, hz1, hz2⟩ := info_parts info_source
  have hr := run_make (P := Tryz.prog) w 115 173 i0 _ Tryz.underlying115 hi0 hz0 .i64 .i64 n n (by omega) (Int.le_refl _) (by rw [hz2]; omega) (by omega)
  have e : (Value.agg #[.string ⟨#[]⟩, .slice none 0 0]).cells = #[.string ⟨#[]⟩, .slice none 0 0] := rfl
  rw [hz1, e] at hr
  simpa using hr

end Go.Proofs.YtfkhljmiehdgmaaGreatDoor

/-
  All texts are cut, walked.
-/
namespace Go.Proofs.YtfkhljmiehdgmaaGreatDoor
open Go.RowKit Go.Maps

namespace Pl
theorem cutEach_all : ∀ (Z : List (List UInt8 × List UInt8)), (∀ (i : Nat) z, Z[i]? = some z → (cutAll z.2).1.1 = 0) → cutEach Z = (Ft.none, Z.map fun z => ⟨z.1, (cutAll z.2).2⟩)
  | [], _ => rfl
  | (n, t) :: l, h => by
    have h0 : (cutAll t).1.1 = 0 := h 0 (n, t) rfl
    have ih := cutEach_all l (fun i z hz => h (i + 1) z (by simpa using hz))
    unfold cutEach
    rw [if_neg (fun q => q h0), ih, if_neg (by simp [Ft.none])]
    rfl
theorem cutEach_at : ∀ (Z : List (List UInt8 × List UInt8)) (k : Nat) (z : List UInt8 × List UInt8), (∀ (i : Nat) y, i < k → Z[i]? = some y → (cutAll y.2).1.1 = 0) → Z[k]? = some z → (cutAll z.2).1.1 ≠ 0 → cutEach Z = (⟨2, (cutAll z.2).1.1, z.1, (cutAll z.2).1.2⟩, [])
  | [], k, z, _, h, _ => by simp at h
  | (n, t) :: l, 0, z, _, h, hz => by
    simp at h
    subst h
    exact cutEach_slip hz
  | (n, t) :: l, k + 1, z, hk, h, hz => by
    have h0 : (cutAll t).1.1 = 0 := hk 0 (n, t) (by omega) rfl
    have ih := cutEach_at l k z (fun i y hi hy => hk (i + 1) y (by omega) (by simpa using hy)) (by simpa using h) hz
    unfold cutEach
    rw [if_neg (fun q => q h0), ih, if_pos (by simp)]
end Pl

theorem pairs_at {L : List (ByteArray × ByteArray)} {k : Nat} {x : ByteArray × ByteArray} (h : L[k]? = some x) : (pairsOf L)[k]? = some (x.1.data.toList, x.2.data.toList) := by
  unfold pairsOf; rw [List.getElem?_map, h]; rfl
theorem pairs_of {L : List (ByteArray × ByteArray)} {k : Nat} {z : List UInt8 × List UInt8} (h : (pairsOf L)[k]? = some z) : ∃ x, L[k]? = some x ∧ z = (x.1.data.toList, x.2.data.toList) := by
  unfold pairsOf at h
  rw [List.getElem?_map] at h
  obtain ⟨x, h1, h2⟩ := Option.map_eq_some_iff.1 h
  exact ⟨x, h1, h2.symm⟩

/-- on the way: k texts are cut -/
structure CAi (w wr : World) (b g R : Nat) (LL : List (ByteArray × ByteArray)) (f : Nat → Value) (k : Nat) : Prop where
  ps : PsAt wr b LL
  blk : wr.rowIs g 173 (LL.length * 2) f
  name : ∀ (i : Nat) x, i < k → LL[i]? = some x → f (i * 2) = .string x.1
  row : ∀ (i : Nat) x, i < k → LL[i]? = some x → wr.ownsRow w.heap.size 229 4 (f (i * 2 + 1)) (Pl.cutAll x.2.data.toList).2.length (ptCells (Pl.cutAll x.2.data.toList).2)
  res : wr.heap[R]? = some (.cells #[.int .i64 0, .int .i64 0, .string ⟨#[]⟩, .int .i64 0] 31 (0, 0))
  below : Below w.heap.size w wr
  le : w.heap.size ≤ R ∧ w.heap.size ≤ g
  ne : b ≠ g
theorem CAi.next {w wr w' : World} {b g R : Nat} {LL : List (ByteArray × ByteArray)} {f : Nat → Value} {k : Nat} (h : CAi w wr b g R LL f k) (hb : Below wr.heap.size wr w') : CAi w w' b g R LL f k :=
  ⟨⟨fun k x hx => (hb.cell (p := ⟨b, k * 2, none⟩) (World.block_lt_of_cell? _ _ (h.ps.name k x hx))).trans (h.ps.name k x hx), fun k x hx => (hb.cell (p := ⟨b, k * 2 + 1, none⟩) (World.block_lt_of_cell? _ _ (h.ps.text k x hx))).trans (h.ps.text k x hx)⟩,
   h.blk.of_block (hb.block _ h.blk.lt), h.name, fun i x hi hx => ownsRow_same (h.row i x hi hx) (fun q hq => hb.block q ((h.row i x hi hx).lt q hq).2), (hb.block _ (Array.getElem?_eq_some_iff.1 h.res).1).trans h.res, h.below.trans (hb.mono h.below.size), h.le, h.ne⟩
theorem ty_source_part : (173 : TypeId) ≠ 229 := by decide
theorem CAi.put {w wr : World} {b g R : Nat} {LL : List (ByteArray × ByteArray)} {f : Nat → Value} {k : Nat} (h : CAi w wr b g R LL f k) {x : ByteArray × ByteArray} (hx : LL[k]? = some x) {v : Value} (hv : wr.ownsRow w.heap.size 229 4 v (Pl.cutAll x.2.data.toList).2.length (ptCells (Pl.cutAll x.2.data.toList).2)) :
    ∃ f', CAi w ((wr.setCell ⟨g, k * 2, none⟩ (.string x.1)).setCell ⟨g, k * 2 + 1, none⟩ v) b g R LL f' (k + 1) := by
  have hfar : ∀ q, q ≠ g → ((wr.setCell ⟨g, k * 2, none⟩ (.string x.1)).setCell ⟨g, k * 2 + 1, none⟩ v).heap[q]? = wr.heap[q]? := fun q hq => (Below.heap_setCell _ _ _ _ hq).trans (Below.heap_setCell _ _ _ _ hq)
  have hrow : ∀ {u : Value} {n : Nat} {xs : List Value}, wr.ownsRow w.heap.size 229 4 u n xs → ((wr.setCell ⟨g, k * 2, none⟩ (.string x.1)).setCell ⟨g, k * 2 + 1, none⟩ v).ownsRow w.heap.size 229 4 u n xs := fun hu => ownsRow_same hu fun q hq => by
    obtain ⟨cur, hc⟩ := ownsRow_ty hu q hq
    obtain ⟨c, hb, _, _⟩ := h.blk
    exact hfar q (ty_apart hc hb ty_source_part.symm)
  have hRg : R ≠ g := by
    obtain ⟨c, hb, _, _⟩ := h.blk
    exact ty_apart h.res hb ty_fault_source
  have hb2 := (h.blk.set (k * 2) (.string x.1)).set (k * 2 + 1) v
  refine ⟨_, ⟨fun i y hy => (World.cell?_of_block (w := wr) (hfar b h.ne)).trans (h.ps.name i y hy), fun i y hy => (World.cell?_of_block (w := wr) (hfar b h.ne)).trans (h.ps.text i y hy)⟩, hb2, fun i y hi hy => ?_, fun i y hi hy => ?_, (hfar R hRg).trans h.res, (h.below.setCell (p := ⟨g, k * 2, none⟩) h.le.2 _).setCell (p := ⟨g, k * 2 + 1, none⟩) h.le.2 _, h.le, h.ne⟩
  · show (if i * 2 = k * 2 + 1 then v else if i * 2 = k * 2 then .string x.1 else f (i * 2)) = _
    rw [if_neg (by omega)]
    by_cases e : i = k
    · subst e
      rw [if_pos rfl]
      rw [hx] at hy
      obtain rfl := Option.some.inj hy
      rfl
    · rw [if_neg (by omega)]
      exact h.name i y (by omega) hy
  · show World.ownsRow _ _ _ _ (if i * 2 + 1 = k * 2 + 1 then v else if i * 2 + 1 = k * 2 then .string x.1 else f (i * 2 + 1)) _ _
    by_cases e : i = k
    · subst e
      rw [if_pos rfl]
      rw [hx] at hy
      obtain rfl := Option.some.inj hy
      exact hrow hv
    · rw [if_neg (by omega), if_neg (by omega)]
      exact hrow (h.row i y (by omega) hy)
/-- what is cut, as sources in memory -/
theorem CAi.sources {w wr : World} {b g R : Nat} {LL : List (ByteArray × ByteArray)} {f : Nat → Value} (h : CAi w wr b g R LL f LL.length) : SrcAt wr w.heap.size ⟨0, g, 0, 0, 0, fun i => f (i * 2 + 1)⟩ ((pairsOf LL).map fun z => ⟨z.1, (Pl.cutAll z.2).2⟩) := by
  have hx : ∀ (i : Nat) (s : Pl.Src), ((pairsOf LL).map fun z => (⟨z.1, (Pl.cutAll z.2).2⟩ : Pl.Src))[i]? = some s → ∃ x, LL[i]? = some x ∧ s = ⟨x.1.data.toList, (Pl.cutAll x.2.data.toList).2⟩ ∧ i < LL.length := fun i s hs => by
    rw [List.getElem?_map] at hs
    obtain ⟨z, h1, h2⟩ := Option.map_eq_some_iff.1 hs
    obtain ⟨x, h3, h4⟩ := pairs_of h1
    exact ⟨x, h3, by rw [← h2, h4], (List.getElem?_eq_some_iff.1 h3).1⟩
  obtain ⟨c, hb, hc, _⟩ := h.blk
  refine ⟨⟨c, _, hb⟩, fun i s hs => ?_, fun i s hs => ?_, fun i s hs => ?_⟩
  · obtain ⟨x, h1, rfl, h3⟩ := hx i s hs
    show wr.cell? ⟨g, i * 2, none⟩ = _
    rw [h.blk.cell (by omega), h.name i x h3 h1]
    rfl
  · obtain ⟨x, h1, rfl, h3⟩ := hx i s hs
    exact h.blk.cell (by omega)
  · obtain ⟨x, h1, rfl, h3⟩ := hx i s hs
    exact h.row i x h3 h1

end Go.Proofs.YtfkhljmiehdgmaaGreatDoor

/-
  All texts are cut, walked to the end.
-/
namespace Go.Proofs.YtfkhljmiehdgmaaGreatDoor
open Go.RowKit Go.Maps

set_option maxRecDepth 100000 in
set_option maxHeartbeats 12800000 in
theorem cutAll_any (T : ByteArray) (v : Value) (L : List (ByteArray × ByteArray)) (w : World) (hA : ArgAt w v L) (hL : L.length ≤ 6) (hm : MaxLenAt w) (hR : Readable T.data.toList) (hRL : ∀ p ∈ L, Readable p.2.data.toList) (hN : ∀ p ∈ L, p.1.size ≤ 100000) (r : Pl.Ft × List Pl.Src) (hr : Pl.cutEach (([], T.data.toList) :: pairsOf L) = r) :
    Calls Tryz.prog 44 #[.string T, v] w fun ed w' => ((r.1.code ≠ 0 → ed = .returned (.tuple #[.slice none 0 0, ftVal r.1])) ∧ (r.1.code = 0 → ∃ g pv, ed = .returned (.tuple #[.slice (some ⟨g, 0, none⟩) r.2.length r.2.length, ftVal Pl.Ft.none]) ∧ SrcAt w' w.heap.size ⟨0, g, 0, 0, 0, pv⟩ r.2)) ∧ Below w.heap.size w w' := by
  obtain ⟨n, hn⟩ : ∃ n, n = L.length + 1 := ⟨_, rfl⟩
  have hb1 : Below w.heap.size w ((w.alloc (.cells #[.int .i64 0, .int .i64 0, .string ⟨#[]⟩, .int .i64 0] 31)).alloc (.cells #[.string ⟨#[]⟩, .string T] 38)) := ((Below.refl _ _).alloc (Nat.le_refl _) _).alloc (by simp) _
  have hbk := heap_new_at (w.alloc (.cells #[.int .i64 0, .int .i64 0, .string ⟨#[]⟩, .int .i64 0] 31)) (.cells #[.string ⟨#[]⟩, .string T] 38) (w.heap.size + 1) (by simp)
  obtain ⟨b, cap, w2, hrun, hps, hb2⟩ := all_append T v L w _ (w.heap.size + 1) hA hL hb1 (cells_at_block hbk 0 _ rfl) (cells_at_block hbk 1 _ rfl)
  rw [← hn] at hrun
  have hLL : ((⟨#[]⟩, T) :: L : List (ByteArray × ByteArray)).length = n := by rw [hn]; rfl
  have hRA : ∀ p ∈ ((⟨#[]⟩, T) :: L : List (ByteArray × ByteArray)), Readable p.2.data.toList ∧ p.1.size ≤ 100000 := fun p hp => by
    rcases List.mem_cons.1 hp with rfl | hp
    · exact ⟨hR, by show (0 : Nat) ≤ 100000; omega⟩
    · exact ⟨hRL p hp, hN p hp⟩
  have hZ : pairsOf ((⟨#[]⟩, T) :: L) = ([], T.data.toList) :: pairsOf L := rfl
  rw [← hZ] at hr
  have hmk := run_sources n (by omega)
  have hres : w2.heap[w.heap.size]? = some (.cells #[.int .i64 0, .int .i64 0, .string ⟨#[]⟩, .int .i64 0] 31 (0, 0)) := (hb2.block _ (by simp <;> omega)).trans ((heap_alloc_old _ _ (by simp)).trans (heap_alloc_new _ _))
  have hC0 : CAi w (w2.alloc (.cells (madeCells #[.string ⟨#[]⟩, .slice none 0 0] (n * 2)) 173)) b w2.heap.size w.heap.size ((⟨#[]⟩, T) :: L) (fun i => if i % 2 = 0 then .string ⟨#[]⟩ else .slice none 0 0) 0 := by
    have hb3 := (hb1.trans (hb2.mono hb1.size)).alloc (hb1.trans (hb2.mono hb1.size)).size (.cells (madeCells #[.string ⟨#[]⟩, .slice none 0 0] (n * 2)) 173)
    have hlt : b < w2.heap.size := World.block_lt_of_cell? _ _ (hps.name 0 _ rfl)
    have hb4 : Below w2.heap.size w2 (w2.alloc (.cells (madeCells #[.string ⟨#[]⟩, .slice none 0 0] (n * 2)) 173)) := (Below.refl _ _).alloc (Nat.le_refl _) _
    refine ⟨⟨fun k x hx => (hb4.cell (p := ⟨b, k * 2, none⟩) hlt).trans (hps.name k x hx), fun k x hx => (hb4.cell (p := ⟨b, k * 2 + 1, none⟩) hlt).trans (hps.text k x hx)⟩, ?_, fun i x hi => absurd hi (Nat.not_lt_zero _), fun i x hi => absurd hi (Nat.not_lt_zero _), (heap_alloc_old _ _ (Array.getElem?_eq_some_iff.1 hres).1).trans hres, hb3, ⟨Nat.le_refl _, (hb1.trans (hb2.mono hb1.size)).size⟩, Nat.ne_of_lt hlt⟩
    refine ⟨_, heap_alloc_new _ _, by rw [size_madeCells, hLL], fun i hi => ?_⟩
    rw [hLL] at hi
    unfold madeCells
    rw [Array.getElem?_map, Array.getElem?_range, if_pos hi]
    simp only [Option.map_some, Option.some.injEq]
    rcases Nat.mod_two_eq_zero_or_one i with e | e
    · rw [if_pos e]; show (#[Value.string ⟨#[]⟩, Value.slice none 0 0][i % 2]!) = _; rw [e]; rfl
    · rw [if_neg (by omega)]; show (#[Value.string ⟨#[]⟩, Value.slice none 0 0][i % 2]!) = _; rw [e]; rfl
  generalize ((⟨#[]⟩, T) :: L : List (ByteArray × ByteArray)) = LL at hLL hRA hr hC0 hps
  have HR := (show Hid (Pl.cutEach (pairsOf LL) = r) from hr)
  have HRA := (show Hid _ from hRA)
  have HC0 := (show Hid _ from hC0)
  have HM := (show Hid (MaxLenAt w) from hm)
  have hn7 : (n : Int) ≤ 7 := by omega
  have HLL := (show Hid _ from hLL)
  clear hA hL hm hR hRL hN hr hb1 hbk hps hb2 hn hLL hRA hZ hres hC0
  go_enter Tryz.func44, Tryz.ntmps44
  go_wp2_with (at_builtin; refine wpList_append_run _ rfl _ _ 22 rfl _ _ _ w2 rfl rfl (hrun _) ?_)
  clear hrun hmk
  generalize w2.heap.size = g at HC0 ⊢
  generalize World.alloc w2 _ = w3 at HC0 ⊢
  go_loopw [23] (fun i wr => ∃ (k : Nat) (f : Nat → Value), k ≤ n ∧ i = .int .i64 k ∧ Hid (CAi w wr b g w.heap.size LL f k ∧ ∀ (i : Nat) y, i < k → (pairsOf LL)[i]? = some y → (Pl.cutAll y.2).1.1 = 0)) (fun i _ => n - (intOf i).toNat)
  case atStart => exact ⟨0, _, Nat.zero_le _, rfl, HC0.out, fun i y hi => absurd hi (Nat.not_lt_zero _)⟩
  case round =>
    obtain ⟨k, f, hk, rfl, HC⟩ := hrel
    clear HC0
    by_cases hlt : k < n
    · have hlt2 : (k : Int) < (n : Int) := by omega
      have hll := HLL.out
      obtain ⟨x, hx⟩ : ∃ x, LL[k]? = some x := ⟨LL[k]'(by omega), List.getElem?_eq_getElem (by omega)⟩
      have p0 : wr.cell? ⟨b, k * 2, none⟩ = some (.string x.1) := HC.out.1.ps.name k x hx
      have p1 : wr.cell? ⟨b, k * 2 + 1, none⟩ = some (.string x.2) := HC.out.1.ps.text k x hx
      obtain ⟨hxr, hxs⟩ := HRA.out x (List.mem_of_getElem? hx)
      have HCl := (show Hid _ from fun w => clone_any x.1 w hxs)
      have HCut := (show Hid _ from fun w hm => tagsCut_any x.2 w hm hxr)
      have HX := (show Hid _ from hx)
      have hpx := pairs_at hx
      have HPX := (show Hid _ from hpx)
      clear hll hx hxr hxs hpx
      obtain ⟨N, X⟩ := x
      simp only at p0 p1 HCl HCut HX HPX
      obtain ⟨sl, hsl⟩ : ∃ sl, sl = Pl.cutAll X.data.toList := ⟨_, rfl⟩
      rw [← hsl] at HCut
      unfold slipVal at HCut
      have HSL := (show Hid _ from hsl)
      clear hsl
      go_wp2_with fail
      refine Calls.mono (HCl.out _) ?_; rintro ed w4 ⟨rfl, hb4⟩
      have HC4 := (show Hid _ from (HC.out.1.next ((Below.refl _ _).alloc (Nat.le_refl _) (.cells #[.string N, .string X] 38))).next hb4)
      have t1 : w4.cell? ⟨wr.heap.size, 1, none⟩ = some (.string X) := cells_at_block ((hb4.block wr.heap.size (by simp)).trans (heap_alloc_new wr _)) 1 _ rfl
      clear hb4 p0 p1
      go_wp2_with fail
      have hml : MaxLenAt w4 := HM.out.below HC4.out.below
      refine Calls.mono (HCut.out _ hml) ?_; rintro ed w5 ⟨⟨v5, rfl, hrow⟩, hb5⟩
      have HC5 := (show Hid _ from HC4.out.next hb5)
      have HB5 := (show Hid _ from HC4.out.below.size)
      clear hb5 t1 HC4 hml
      by_cases hz : sl.1.1 = 0
      · have hz1 : ((sl.1.1 : Int) != 0) = false := by rw [hz]; rfl
        have hz2 : (sl.1.1 : Int) = 0 := by omega
        obtain ⟨ao5, cap5, rfl⟩ := ownsRow_slice (hrow hz)
        have HRow := (show Hid _ from (hrow hz).mono HB5.out)
        have g0 : ∀ o, ∃ u, (w5.alloc o).cell? ⟨g, k * 2, none⟩ = some u := fun o => ⟨_, (HC5.out.next ((Below.refl _ _).alloc (Nat.le_refl _) o)).blk.cell (by have := HLL.out; omega)⟩
        have g1 : ∀ o, ∃ u, (w5.alloc o).cell? ⟨g, k * 2 + 1, none⟩ = some u := fun o => ⟨_, (HC5.out.next ((Below.refl _ _).alloc (Nat.le_refl _) o)).blk.cell (by have := HLL.out; omega)⟩
        obtain ⟨u0, g0⟩ : ∃ u0, ∀ o, (w5.alloc o).cell? ⟨g, k * 2, none⟩ = some u0 := ⟨_, fun o => (HC5.out.next ((Below.refl _ _).alloc (Nat.le_refl _) o)).blk.cell (by have := HLL.out; omega)⟩
        obtain ⟨u1, g1⟩ : ∃ u1, ∀ o, (w5.alloc o).cell? ⟨g, k * 2 + 1, none⟩ = some u1 := ⟨_, fun o => (HC5.out.next ((Below.refl _ _).alloc (Nat.le_refl _) o)).blk.cell (by have := HLL.out; omega)⟩
        have z0 : ∀ o, (w5.alloc o).frozen? ⟨g, k * 2, none⟩ = false := fun o => (HC5.out.next ((Below.refl _ _).alloc (Nat.le_refl _) o)).blk.frozen _
        have z1 : ∀ o, (w5.alloc o).frozen? ⟨g, k * 2 + 1, none⟩ = false := fun o => (HC5.out.next ((Below.refl _ _).alloc (Nat.le_refl _) o)).blk.frozen _
        have HZ := (show Hid _ from hz)
        clear hrow hz
        go_wp2_with fail
        go_roundw
        case rel =>
          have hx2 := HX.out
          have hrw := ownsRow_same HRow.out (w' := w5.alloc (.cells #[.int .i64 0, .int .i64 sl.1.2] 169)) (fun q hq => heap_alloc_old _ _ (World.ownsRow.lt HRow.out q hq).2)
          obtain ⟨f', hf⟩ := (HC5.out.next ((Below.refl _ _).alloc (Nat.le_refl _) (.cells #[.int .i64 0, .int .i64 sl.1.2] 169))).put hx2 (v := .slice ao5 sl.2.length cap5) (by show World.ownsRow _ _ _ _ _ (Pl.cutAll X.data.toList).2.length (ptCells (Pl.cutAll X.data.toList).2); rw [← HSL.out]; exact hrw)
          refine ⟨k + 1, f', by omega, by go_num, ?_, fun i y hi hy => ?_⟩
          · exact hf
          · by_cases e : i = k
            · subst e
              rw [HPX.out] at hy
              obtain rfl := Option.some.inj hy
              show (Pl.cutAll X.data.toList).1.1 = 0
              rw [← HSL.out]; exact HZ.out
            · exact HC.out.2 i y (by omega) hy
        case measure => simp [intOf]; omega
      · have hz1 : ((sl.1.1 : Int) != 0) = true := by rw [bne_iff_ne]; omega
        have hNN : (⟨N.data.toList.toArray⟩ : ByteArray) = N := by cases N; simp
        have HXX : Hid (ftVal r.1 = .agg #[.int .i64 2, .int .i64 (sl.1.1 : Nat), .string N, .int .i64 (sl.1.2 : Nat)] ∧ r.1.code = 2) := by
          have h1 := Pl.cutEach_at (pairsOf LL) k (N.data.toList, X.data.toList) HC.out.2 HPX.out (by show (Pl.cutAll X.data.toList).1.1 ≠ 0; rw [← HSL.out]; exact hz)
          rw [HR.out] at h1
          simp only [← HSL.out] at h1
          show _ ∧ _
          rw [h1]
          refine ⟨?_, rfl⟩
          show Value.agg #[_, _, .string (⟨N.data.toList.toArray⟩ : ByteArray), _] = _
          rw [hNN]
          rfl
        have x0 : ∀ o, (w5.alloc o).cell? ⟨w.heap.size, 0, none⟩ = some (.int .i64 0) := fun o => cells_at_block (HC5.out.next ((Below.refl _ _).alloc (Nat.le_refl _) o)).res 0 _ rfl
        have x1 : ∀ o, (w5.alloc o).cell? ⟨w.heap.size, 1, none⟩ = some (.int .i64 0) := fun o => cells_at_block (HC5.out.next ((Below.refl _ _).alloc (Nat.le_refl _) o)).res 1 _ rfl
        have x2 : ∀ o, (w5.alloc o).cell? ⟨w.heap.size, 2, none⟩ = some (.string ⟨#[]⟩) := fun o => cells_at_block (HC5.out.next ((Below.refl _ _).alloc (Nat.le_refl _) o)).res 2 _ rfl
        have x3 : ∀ o, (w5.alloc o).cell? ⟨w.heap.size, 3, none⟩ = some (.int .i64 0) := fun o => cells_at_block (HC5.out.next ((Below.refl _ _).alloc (Nat.le_refl _) o)).res 3 _ rfl
        have y0 : ∀ o, (w5.alloc o).frozen? ⟨w.heap.size, 0, none⟩ = false := fun o => by simp [World.frozen?, (HC5.out.next ((Below.refl _ _).alloc (Nat.le_refl _) o)).res]
        have y1 : ∀ o, (w5.alloc o).frozen? ⟨w.heap.size, 1, none⟩ = false := fun o => by simp [World.frozen?, (HC5.out.next ((Below.refl _ _).alloc (Nat.le_refl _) o)).res]
        have y2 : ∀ o, (w5.alloc o).frozen? ⟨w.heap.size, 2, none⟩ = false := fun o => by simp [World.frozen?, (HC5.out.next ((Below.refl _ _).alloc (Nat.le_refl _) o)).res]
        have y3 : ∀ o, (w5.alloc o).frozen? ⟨w.heap.size, 3, none⟩ = false := fun o => by simp [World.frozen?, (HC5.out.next ((Below.refl _ _).alloc (Nat.le_refl _) o)).res]
        have HC6 := (show Hid _ from HC5.out.next ((Below.refl _ _).alloc (Nat.le_refl _) (.cells #[.int .i64 (sl.1.1 : Nat), .int .i64 (sl.1.2 : Nat)] 169)))
        clear hrow hz hNN
        go_wp2_with fail
        go_region
        all_goals
          go_wp2_with fail
          have hf := fault_set HC6.out.res (.int .i64 2) (.int .i64 (sl.1.1 : Nat)) (.string N) (.int .i64 (sl.1.2 : Nat))
          have hb := (((HC6.out.below.setCell (p := ⟨w.heap.size, 0, none⟩) (Nat.le_refl _) (.int .i64 2)).setCell (p := ⟨w.heap.size, 1, none⟩) (Nat.le_refl _) (.int .i64 (sl.1.1 : Nat))).setCell (p := ⟨w.heap.size, 2, none⟩) (Nat.le_refl _) (.string N)).setCell (p := ⟨w.heap.size, 3, none⟩) (Nat.le_refl _) (.int .i64 (sl.1.2 : Nat))
          refine po_tmp_cell Tryz.results44 rfl w.heap.size (.slice none 0 0) _ rfl rfl hf _ Tryz.underlying31 rfl (by kernel_rfl) ?_
          exact ⟨⟨fun _ => by rw [HXX.out.1], fun q => absurd q (by rw [HXX.out.2]; omega)⟩, hb.drew⟩
    · have hlt2 : ¬ (k : Int) < (n : Int) := by omega
      obtain rfl : k = n := by omega
      have HXX : Hid (r = (Pl.Ft.none, (pairsOf LL).map fun z => ⟨z.1, (Pl.cutAll z.2).2⟩)) := by
        show _ = _
        rw [← HR.out]
        exact Pl.cutEach_all _ fun i z hz => HC.out.2 i z (by have := (List.getElem?_eq_some_iff.1 hz).1; unfold pairsOf at this; rw [List.length_map, HLL.out] at this; exact this) hz
      have HS : Hid (SrcAt wr w.heap.size ⟨0, g, 0, 0, 0, fun i => f (i * 2 + 1)⟩ r.2 ∧ r.2.length = k) := by
        have h1 := HC.out.1
        rw [← HLL.out] at h1
        show _ ∧ _
        rw [HXX.out]
        refine ⟨h1.sources, ?_⟩
        unfold pairsOf
        rw [List.length_map, List.length_map, HLL.out]
      have x0 : wr.cell? ⟨w.heap.size, 0, none⟩ = some (.int .i64 0) := cells_at_block HC.out.1.res 0 _ rfl
      have x1 : wr.cell? ⟨w.heap.size, 1, none⟩ = some (.int .i64 0) := cells_at_block HC.out.1.res 1 _ rfl
      have x2 : wr.cell? ⟨w.heap.size, 2, none⟩ = some (.string ⟨#[]⟩) := cells_at_block HC.out.1.res 2 _ rfl
      have x3 : wr.cell? ⟨w.heap.size, 3, none⟩ = some (.int .i64 0) := cells_at_block HC.out.1.res 3 _ rfl
      have y0 : wr.frozen? ⟨w.heap.size, 0, none⟩ = false := by simp [World.frozen?, HC.out.1.res]
      have y1 : wr.frozen? ⟨w.heap.size, 1, none⟩ = false := by simp [World.frozen?, HC.out.1.res]
      have y2 : wr.frozen? ⟨w.heap.size, 2, none⟩ = false := by simp [World.frozen?, HC.out.1.res]
      have y3 : wr.frozen? ⟨w.heap.size, 3, none⟩ = false := by simp [World.frozen?, HC.out.1.res]
      go_wp2_with fail
      have hf := fault_set HC.out.1.res (.int .i64 0) (.int .i64 0) (.string ⟨#[]⟩) (.int .i64 0)
      have hb := (((HC.out.1.below.setCell (p := ⟨w.heap.size, 0, none⟩) (Nat.le_refl _) (.int .i64 0)).setCell (p := ⟨w.heap.size, 1, none⟩) (Nat.le_refl _) (.int .i64 0)).setCell (p := ⟨w.heap.size, 2, none⟩) (Nat.le_refl _) (.string ⟨#[]⟩)).setCell (p := ⟨w.heap.size, 3, none⟩) (Nat.le_refl _) (.int .i64 0)
      have hfar : ∀ q, q ≠ w.heap.size → ((((wr.setCell ⟨w.heap.size, 0, none⟩ (.int .i64 0)).setCell ⟨w.heap.size, 1, none⟩ (.int .i64 0)).setCell ⟨w.heap.size, 2, none⟩ (.string ⟨#[]⟩)).setCell ⟨w.heap.size, 3, none⟩ (.int .i64 0)).heap[q]? = wr.heap[q]? := fun q hq => (Below.heap_setCell _ _ _ _ hq).trans ((Below.heap_setCell _ _ _ _ hq).trans ((Below.heap_setCell _ _ _ _ hq).trans (Below.heap_setCell _ _ _ _ hq)))
      refine po_tmp_cell Tryz.results44 rfl w.heap.size (.slice (some ⟨g, 0, none⟩) k k) _ rfl rfl hf _ Tryz.underlying31 rfl (by kernel_rfl) ?_
      refine ⟨⟨fun q => absurd (by rw [HXX.out]; rfl) q, fun _ => ⟨g, (by rw [HS.out.2]; rfl), fun i => f (i * 2 + 1), SrcAt.kept HS.out.1 ?_ ?_⟩⟩, hb⟩
      · obtain ⟨cs, fz, hc⟩ := HS.out.1.blk
        exact hfar _ (ty_apart hc HC.out.1.res ty_fault_source.symm)
      · intro i s q hs hv
        obtain ⟨cur, hc⟩ := ownsRow_ty (HS.out.1.row i s hs) q hv
        exact hfar _ (ty_apart hc HC.out.1.res ty_fault_part.symm)

end Go.Proofs.YtfkhljmiehdgmaaGreatDoor

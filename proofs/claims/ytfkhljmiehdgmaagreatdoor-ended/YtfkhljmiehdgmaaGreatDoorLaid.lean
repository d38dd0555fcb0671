/-
  What a variable of plain data (integers, bools, texts; arrays and structs of these) holds, cell by cell, where it reads as a known datum.
-/
import Derived.Test.YtfkhljmiehdgmaaGreatDoorRows
import Derived.WalkKit
import Derived.ProofKit
import Derived.OpenShut
import Derived.Lib.LaidTab
namespace Go.Proofs.YtfkhljmiehdgmaaGreatDoor
open Go.ChangeShapes Go.WideShapes Go.ChangeAt Go.RowKit

def cellsD {H : Type} : Nat → DataW H → List Value
  | 0, _ => []
  | _ + 1, .lit (.int k n) => [.int k n]
  | _ + 1, .lit (.bool b) => [.bool b]
  | _ + 1, .lit (.string l) => [.string ⟨l.toArray⟩]
  | n + 1, .agg ps => ps.flatMap (cellsD n)
  | _ + 1, _ => []
/-- the fields lie one behind the other, from an offset on: where they end -/
def tiles (P : Program) : Nat → List Field → Option Nat
  | o, [] => some o
  | o, f :: fs => if f.offset = o then tiles P (o + P.cellsOf f.type) fs else none
def plainT (P : Program) : Nat → TypeId → Bool
  | 0, _ => false
  | n + 1, t => match P.underlying t with
    | some (.int _) => true
    | some .bool => true
    | some .string => true
    | some (.array k e) => P.cellsOf t == k * P.cellsOf e && plainT P n e
    | some (.struct fs) => tiles P 0 fs.toList == some (P.cellsOf t) && fs.toList.all fun f => plainT P n f.type
    | _ => false

theorem pieces_eq {α β : Type} (g : α → List β) (sz : Nat) : ∀ (xs : List α) (cs : List β), cs.length = xs.length * sz → (∀ i x, xs[i]? = some x → (cs.drop (i * sz)).take sz = g x) → cs = xs.flatMap g
  | [], cs, h, _ => by simpa using h
  | x :: xs, cs, h, hx => by
    have h0 : cs.take sz = g x := by simpa using hx 0 x rfl
    have ih := pieces_eq g sz xs (cs.drop sz) (by rw [List.length_drop, h, List.length_cons, Nat.succ_mul]; omega) (fun i y hy => by
      have := hx (i + 1) y (by simpa using hy)
      rw [List.drop_drop, show sz + i * sz = (i + 1) * sz by rw [Nat.succ_mul]; omega]
      exact this)
    rw [List.flatMap_cons, ← h0, ← ih, List.take_append_drop]
theorem tile_eq {α β : Type} {P : Program} (g : α → List β) (cs : List β) : ∀ (fs : List Field) (xs : List α) (o e : Nat), fs.length = xs.length → tiles P o fs = some e → e = cs.length →
    (∀ (i : Nat) (f : Field) (x : α), fs[i]? = some f → xs[i]? = some x → (cs.drop f.offset).take (P.cellsOf f.type) = g x) → cs.drop o = xs.flatMap g
  | [], [], o, e, _, ht, he, _ => by
    simp only [tiles, Option.some.injEq] at ht
    subst ht; subst he
    simp
  | [], _ :: _, _, _, hl, _, _, _ => by simp at hl
  | _ :: _, [], _, _, hl, _, _, _ => by simp at hl
  | f :: fs, x :: xs, o, e, hl, ht, he, hx => by
    simp only [tiles] at ht
    split at ht
    · rename_i ho
      have h0 := hx 0 f x rfl rfl
      rw [ho] at h0
      have ih := tile_eq g cs fs xs (o + P.cellsOf f.type) e (by simpa using hl) ht he (fun i f' x' hf hx' => hx (i + 1) f' x' (by simpa using hf) (by simpa using hx'))
      rw [List.flatMap_cons, ← h0, ← ih, ← List.drop_drop, List.take_append_drop]
    · cases ht

theorem cells_plain {H : Type} {enc : TypeId × Value → H} {P : Program} {w : World} {base : Nat} {sp : Nat → Bool} {held : Bool} : ∀ (F fuel : Nat) (t : TypeId) (cs : List Value) (d : DataW H) (p : List MemPlace),
    plainT P F t = true → DataW.trod enc P w base sp held fuel t cs = some (d, p) → cs = cellsD F d
  | 0, _, _, _, _, _, h, _ => by simp [plainT] at h
  | F + 1, fuel, t, cs, d, p, h, hd => by
    unfold plainT at h
    split at h
    · rename_i k hu
      obtain ⟨n, rfl, e, _⟩ := DataW.trod_int hu hd
      cases e; rfl
    · rename_i hu
      obtain ⟨b, rfl, e⟩ := DataW.trod_bool hu hd
      cases e; rfl
    · rename_i hu
      obtain ⟨s, rfl, e, _⟩ := DataW.trod_string hu hd
      cases e; rfl
    · rename_i k e hu
      simp only [Bool.and_eq_true, beq_iff_eq] at h
      obtain ⟨xs, m, rfl, hx, hl, hn, hi⟩ := DataW.trod_array hu hd
      cases hx
      show cs = (xs.map (·.1)).flatMap (cellsD F)
      rw [List.flatMap_map]
      refine pieces_eq _ (P.cellsOf e) xs cs (by rw [hl, h.1, hn]) ?_
      intro i x hx
      have hin : i < k := by
        have := (List.getElem?_eq_some_iff.1 hx).1
        omega
      have := hi i hin
      rw [hx] at this
      exact cells_plain F m e _ x.1 x.2 h.2 this
    · rename_i fs hu
      simp only [Bool.and_eq_true, beq_iff_eq] at h
      obtain ⟨xs, m, rfl, hx, hl, hn, hi⟩ := DataW.trod_struct hu hd
      cases hx
      show cs = (xs.map (·.1)).flatMap (cellsD F)
      rw [List.flatMap_map]
      have := tile_eq (P := P) (fun x : DataW H × List MemPlace => cellsD F x.1) cs fs.toList xs 0 _ (by simpa using hn.symm) h.1 hl.symm (fun i f x hf hx => by
        have h1 := hi i f (by simpa using hf)
        rw [hx] at h1
        exact cells_plain F m f.type _ x.1 x.2 (List.all_eq_true.1 h.2 f (List.mem_of_getElem? hf)) h1)
      simpa using this
    · cases h

/-- a listed variable of plain data holds just the cells of its datum -/
theorem cells_of_laid {P : Program} {W : World} : ∀ {laid : List (String × DataW Unit)} {ps : List MemPlace}, DataW.LaidVars P W laid ps → ∀ (i : Nat) (name : String) (d : DataW Unit), laid[i]? = some (name, d) →
    ∀ (g : Nat) (t : TypeId) (F : Nat), P.globalNamed name = some g → (P.globals[g]?).map (·.type) = some t → plainT P F t = true → ∀ (j : Nat) (v : Value), (cellsD F d)[j]? = some v → W.cell? ⟨g, j, none⟩ = some v
  | [], _, _, i, _, _, hi => by simp at hi
  | (n, d) :: r, ps, h, i, name, d', hi => by
    obtain ⟨g', t', cs, fuel, p, q, hg', ht', hvar, hd, hr, _⟩ := h
    intro g t F hg ht hp j v hv
    match i with
    | 0 =>
      simp only [List.getElem?_cons_zero, Option.some.injEq, Prod.mk.injEq] at hi
      obtain ⟨rfl, rfl⟩ := hi
      obtain rfl := Option.some.inj (hg.symm.trans hg')
      obtain rfl := Option.some.inj (ht.symm.trans ht')
      have e := cells_plain F fuel t _ _ _ hp hd
      rw [← e] at hv
      have := World.var?_cell hg hvar j
      rw [this]
      simpa using hv
    | i + 1 => exact cells_of_laid hr i name d' (by simpa using hi) g t F hg ht hp j v hv

end Go.Proofs.YtfkhljmiehdgmaaGreatDoor

/-
  The walks of the program: a byte by its number.
-/
import Derived.Test.YtfkhljmiehdgmaaDoorWalkN
import Derived.Test.YtfkhljmiehdgmaaDoorWalkH
import Derived.Test.YtfkhljmiehdgmaaDoorPlainL
namespace Go.Proofs.YtfkhljmiehdgmaaDoor
open Go.RowKit

theorem cells_join (acc x y : List UInt8) : Lib.byteCells acc ++ Lib.byteCells x ++ Lib.byteCells y = Lib.byteCells (acc ++ (x ++ y)) := by
  rw [Lib.byteCells_append, Lib.byteCells_append, List.append_assoc]

set_option maxRecDepth 100000 in
set_option maxHeartbeats 3200000 in
theorem writeCode_three (B bl : Nat) (acc : List UInt8) (b : UInt8) (w : World) (ht : Tabs w) (hB : 5 < B) (hI : Lib.IsBuilderF 54 5 B bl (Lib.byteCells acc) w) (hl : acc.length ≤ 1000000000) (hBw : B ≤ w.heap.size) :
    Calls Tryd.prog 57 #[.pointer (some ⟨bl, 0, none⟩), .int .i64 3, .int .u8 b.toNat] w fun e w' => e = .returned (.tuple #[]) ∧ Lib.IsBuilderF 54 5 B bl (Lib.byteCells (acc ++ Pl.codeOf 3 b)) w' ∧ Below B w w' := by
  have hb : b.toNat < 256 := UInt8.toNat_lt b
  have c3 : w.cell? ⟨5, 24, none⟩ = some (.string ⟨#[37]⟩) := ht.2.2 24 _ rfl
  have c4 : w.cell? ⟨5, 25, none⟩ = some (.string ⟨#[48, 49, 50, 51, 52, 53, 54, 55, 56, 57, 65, 66, 67, 68, 69, 70]⟩) := ht.2.2 25 _ rfl
  have HT : Hid (Pl.two b _ = _) := Pl.two_up b (by omega) (by omega)
  go_enter Tryd.func57, Tryd.ntmps57
  go_wp2_with fail
  refine (Tryd.Builder_WriteString_k B bl _ ⟨#[37]⟩ _ hI (by rw [Lib.byteCells_length]; show _ + 1 ≤ _; omega) hBw).mono ?_
  rintro e w1 ⟨rfl, h1, b1, _⟩
  have ht1 := ht.kept b1 hB
  have z1 := b1.size
  have c5 : w1.cell? ⟨5, 26, none⟩ = some (.bool false) := ht1.2.2 26 _ rfl
  have HL1 : Hid ((Lib.byteCells acc ++ Lib.strCells ⟨#[37]⟩).length = acc.length + 1) := by show _ = _; simp [Lib.byteCells_length, Lib.strCells]
  by_cases hq : 16 ≤ b.toNat
  · go_wp2_with fail
    refine (Tryd.Builder_WriteByte_k B bl _ _ _ (Or.inr h1) (by rw [HL1.out]; omega) (by omega)).mono ?_
    rintro e w2 ⟨rfl, h2, b2, _⟩
    have z2 := b2.size
    go_wp2_with fail
    refine (Tryd.Builder_WriteByte_k B bl _ _ _ (Or.inr h2) (by rw [List.length_append, HL1.out]; simp; omega) (by omega)).mono ?_
    rintro e w3 ⟨rfl, h3, b3, _⟩
    have z3 := b3.size
    have ht3 := (ht1.kept b2 hB).kept b3 hB
    have c6 : w3.cell? ⟨5, 27, none⟩ = some (.string ⟨#[]⟩) := ht3.2.2 27 _ rfl
    go_wp2_with fail
    refine (Tryd.Builder_WriteString_k B bl _ ⟨#[]⟩ _ (Or.inr h3) (by simp only [List.length_append, HL1.out]; show _ + 0 ≤ _; simp; omega) (by omega)).mono ?_
    rintro e w4 ⟨rfl, h4, b4, _⟩
    go_wp2_with fail
    go_end0
    refine ⟨rfl, ?_, ((b1.trans b2).trans b3).trans b4⟩
    rw [Pl.code3, HT.out, ← List.append_nil [_, _], ← cells_join]
    exact Or.inr (by simpa [Lib.byteCells, Lib.strCells] using h4)
  · go_wp2_with fail
    refine (Tryd.Builder_WriteByte_k B bl _ _ _ (Or.inr h1) (by rw [HL1.out]; omega) (by omega)).mono ?_
    rintro e w2 ⟨rfl, h2, b2, _⟩
    have z2 := b2.size
    go_wp2_with fail
    refine (Tryd.Builder_WriteByte_k B bl _ _ _ (Or.inr h2) (by rw [List.length_append, HL1.out]; simp; omega) (by omega)).mono ?_
    rintro e w3 ⟨rfl, h3, b3, _⟩
    have z3 := b3.size
    have ht3 := (ht1.kept b2 hB).kept b3 hB
    have c6 : w3.cell? ⟨5, 27, none⟩ = some (.string ⟨#[]⟩) := ht3.2.2 27 _ rfl
    go_wp2_with fail
    refine (Tryd.Builder_WriteString_k B bl _ ⟨#[]⟩ _ (Or.inr h3) (by simp only [List.length_append, HL1.out]; show _ + 0 ≤ _; simp; omega) (by omega)).mono ?_
    rintro e w4 ⟨rfl, h4, b4, _⟩
    go_wp2_with fail
    go_end0
    refine ⟨rfl, ?_, ((b1.trans b2).trans b3).trans b4⟩
    rw [Pl.code3, HT.out, ← List.append_nil [_, _], ← cells_join]
    exact Or.inr (by simpa [Lib.byteCells, Lib.strCells] using h4)

set_option maxRecDepth 100000 in
set_option maxHeartbeats 3200000 in
theorem writeCode_four (B bl : Nat) (acc : List UInt8) (b : UInt8) (w : World) (ht : Tabs w) (hB : 5 < B) (hI : Lib.IsBuilderF 54 5 B bl (Lib.byteCells acc) w) (hl : acc.length ≤ 1000000000) (hBw : B ≤ w.heap.size) :
    Calls Tryd.prog 57 #[.pointer (some ⟨bl, 0, none⟩), .int .i64 4, .int .u8 b.toNat] w fun e w' => e = .returned (.tuple #[]) ∧ Lib.IsBuilderF 54 5 B bl (Lib.byteCells (acc ++ Pl.codeOf 4 b)) w' ∧ Below B w w' := by
  have hb : b.toNat < 256 := UInt8.toNat_lt b
  have c3 : w.cell? ⟨5, 31, none⟩ = some (.string ⟨#[92, 120]⟩) := ht.2.2 31 _ rfl
  have c4 : w.cell? ⟨5, 32, none⟩ = some (.string ⟨#[48, 49, 50, 51, 52, 53, 54, 55, 56, 57, 97, 98, 99, 100, 101, 102]⟩) := ht.2.2 32 _ rfl
  have HT : Hid (Pl.two b _ = _) := Pl.two_lo b (by omega) (by omega)
  go_enter Tryd.func57, Tryd.ntmps57
  go_wp2_with fail
  refine (Tryd.Builder_WriteString_k B bl _ ⟨#[92, 120]⟩ _ hI (by rw [Lib.byteCells_length]; show _ + 2 ≤ _; omega) hBw).mono ?_
  rintro e w1 ⟨rfl, h1, b1, _⟩
  have ht1 := ht.kept b1 hB
  have z1 := b1.size
  have c5 : w1.cell? ⟨5, 33, none⟩ = some (.bool false) := ht1.2.2 33 _ rfl
  have HL1 : Hid ((Lib.byteCells acc ++ Lib.strCells ⟨#[92, 120]⟩).length = acc.length + 2) := by show _ = _; simp [Lib.byteCells_length, Lib.strCells]
  by_cases hq : 16 ≤ b.toNat
  · go_wp2_with fail
    refine (Tryd.Builder_WriteByte_k B bl _ _ _ (Or.inr h1) (by rw [HL1.out]; omega) (by omega)).mono ?_
    rintro e w2 ⟨rfl, h2, b2, _⟩
    have z2 := b2.size
    go_wp2_with fail
    refine (Tryd.Builder_WriteByte_k B bl _ _ _ (Or.inr h2) (by rw [List.length_append, HL1.out]; simp; omega) (by omega)).mono ?_
    rintro e w3 ⟨rfl, h3, b3, _⟩
    have z3 := b3.size
    have ht3 := (ht1.kept b2 hB).kept b3 hB
    have c6 : w3.cell? ⟨5, 34, none⟩ = some (.string ⟨#[]⟩) := ht3.2.2 34 _ rfl
    go_wp2_with fail
    refine (Tryd.Builder_WriteString_k B bl _ ⟨#[]⟩ _ (Or.inr h3) (by simp only [List.length_append, HL1.out]; show _ + 0 ≤ _; simp; omega) (by omega)).mono ?_
    rintro e w4 ⟨rfl, h4, b4, _⟩
    go_wp2_with fail
    go_end0
    refine ⟨rfl, ?_, ((b1.trans b2).trans b3).trans b4⟩
    rw [Pl.code4, HT.out, ← List.append_nil [_, _], ← cells_join]
    exact Or.inr (by simpa [Lib.byteCells, Lib.strCells] using h4)
  · go_wp2_with fail
    refine (Tryd.Builder_WriteByte_k B bl _ _ _ (Or.inr h1) (by rw [HL1.out]; omega) (by omega)).mono ?_
    rintro e w2 ⟨rfl, h2, b2, _⟩
    have z2 := b2.size
    go_wp2_with fail
    refine (Tryd.Builder_WriteByte_k B bl _ _ _ (Or.inr h2) (by rw [List.length_append, HL1.out]; simp; omega) (by omega)).mono ?_
    rintro e w3 ⟨rfl, h3, b3, _⟩
    have z3 := b3.size
    have ht3 := (ht1.kept b2 hB).kept b3 hB
    have c6 : w3.cell? ⟨5, 34, none⟩ = some (.string ⟨#[]⟩) := ht3.2.2 34 _ rfl
    go_wp2_with fail
    refine (Tryd.Builder_WriteString_k B bl _ ⟨#[]⟩ _ (Or.inr h3) (by simp only [List.length_append, HL1.out]; show _ + 0 ≤ _; simp; omega) (by omega)).mono ?_
    rintro e w4 ⟨rfl, h4, b4, _⟩
    go_wp2_with fail
    go_end0
    refine ⟨rfl, ?_, ((b1.trans b2).trans b3).trans b4⟩
    rw [Pl.code4, HT.out, ← List.append_nil [_, _], ← cells_join]
    exact Or.inr (by simpa [Lib.byteCells, Lib.strCells] using h4)

set_option maxRecDepth 100000 in
set_option maxHeartbeats 3200000 in
theorem writeCode_five (B bl : Nat) (acc : List UInt8) (b : UInt8) (w : World) (ht : Tabs w) (hB : 5 < B) (hI : Lib.IsBuilderF 54 5 B bl (Lib.byteCells acc) w) (hl : acc.length ≤ 1000000000) (hBw : B ≤ w.heap.size) :
    Calls Tryd.prog 57 #[.pointer (some ⟨bl, 0, none⟩), .int .i64 5, .int .u8 b.toNat] w fun e w' => e = .returned (.tuple #[]) ∧ Lib.IsBuilderF 54 5 B bl (Lib.byteCells (acc ++ Pl.codeOf 5 b)) w' ∧ Below B w w' := by
  have hb : b.toNat < 256 := UInt8.toNat_lt b
  have c3 : w.cell? ⟨5, 38, none⟩ = some (.string ⟨#[92]⟩) := ht.2.2 38 _ rfl
  have c4 : w.cell? ⟨5, 39, none⟩ = some (.string ⟨#[48, 49, 50, 51, 52, 53, 54, 55, 56, 57, 97, 98, 99, 100, 101, 102]⟩) := ht.2.2 39 _ rfl
  have HT : Hid (Pl.two b _ = _) := Pl.two_lo b (by omega) (by omega)
  go_enter Tryd.func57, Tryd.ntmps57
  go_wp2_with fail
  refine (Tryd.Builder_WriteString_k B bl _ ⟨#[92]⟩ _ hI (by rw [Lib.byteCells_length]; show _ + 1 ≤ _; omega) hBw).mono ?_
  rintro e w1 ⟨rfl, h1, b1, _⟩
  have ht1 := ht.kept b1 hB
  have z1 := b1.size
  have c5 : w1.cell? ⟨5, 40, none⟩ = some (.bool true) := ht1.2.2 40 _ rfl
  have HL1 : Hid ((Lib.byteCells acc ++ Lib.strCells ⟨#[92]⟩).length = acc.length + 1) := by show _ = _; simp [Lib.byteCells_length, Lib.strCells]
  by_cases hq : 16 ≤ b.toNat
  · have HC : Hid (Pl.codeOf 5 b = 92 :: (Pl.two b Pl.loHex ++ [32])) := by show _ = _; rw [Pl.code5, Pl.trim_ge b hq]
    go_wp2_with fail
    refine (Tryd.Builder_WriteByte_k B bl _ _ _ (Or.inr h1) (by rw [HL1.out]; omega) (by omega)).mono ?_
    rintro e w2 ⟨rfl, h2, b2, _⟩
    have z2 := b2.size
    go_wp2_with fail
    refine (Tryd.Builder_WriteByte_k B bl _ _ _ (Or.inr h2) (by rw [List.length_append, HL1.out]; simp; omega) (by omega)).mono ?_
    rintro e w3 ⟨rfl, h3, b3, _⟩
    have z3 := b3.size
    have ht3 := (ht1.kept b2 hB).kept b3 hB
    have c6 : w3.cell? ⟨5, 41, none⟩ = some (.string ⟨#[32]⟩) := ht3.2.2 41 _ rfl
    go_wp2_with fail
    refine (Tryd.Builder_WriteString_k B bl _ ⟨#[32]⟩ _ (Or.inr h3) (by simp only [List.length_append, HL1.out]; show _ + 1 ≤ _; simp; omega) (by omega)).mono ?_
    rintro e w4 ⟨rfl, h4, b4, _⟩
    go_wp2_with fail
    go_end0
    refine ⟨rfl, ?_, ((b1.trans b2).trans b3).trans b4⟩
    rw [HC.out, HT.out]
    exact Or.inr (by simpa [Lib.byteCells, Lib.strCells] using h4)
  · have HC : Hid (Pl.codeOf 5 b = 92 :: ([(Pl.two b Pl.loHex).getD 1 0] ++ [32])) := by show _ = _; rw [Pl.code5, Pl.trim_lt b (by omega)]
    go_wp2_with fail
    refine (Tryd.Builder_WriteByte_k B bl _ _ _ (Or.inr h1) (by rw [HL1.out]; omega) (by omega)).mono ?_
    rintro e w3 ⟨rfl, h3, b3, _⟩
    have z3 := b3.size
    have ht3 := ht1.kept b3 hB
    have c6 : w3.cell? ⟨5, 41, none⟩ = some (.string ⟨#[32]⟩) := ht3.2.2 41 _ rfl
    go_wp2_with fail
    refine (Tryd.Builder_WriteString_k B bl _ ⟨#[32]⟩ _ (Or.inr h3) (by simp only [List.length_append, HL1.out]; show _ + 1 ≤ _; simp; omega) (by omega)).mono ?_
    rintro e w4 ⟨rfl, h4, b4, _⟩
    go_wp2_with fail
    go_end0
    refine ⟨rfl, ?_, (b1.trans b3).trans b4⟩
    rw [HC.out, HT.out]
    exact Or.inr (by simpa [Lib.byteCells, Lib.strCells] using h4)

end Go.Proofs.YtfkhljmiehdgmaaDoor

/-
  What the program's three tables hold, cell by cell.
-/
import Derived.Test.YtfkhljmiehdgmaaDoorAid
namespace Go.Proofs.YtfkhljmiehdgmaaDoor
open Go.RowKit

def S (l : List UInt8) : Value := .string ⟨l.toArray⟩
def openCells : Array Value := #[.string ⟨#[104, 116, 116, 112]⟩, .string ⟨#[104, 116, 116, 112, 115]⟩, .string ⟨#[109, 97, 105, 108, 116, 111]⟩]
def swapCells : Array Value := #[
  .int .i64 1, .string ⟨#[38]⟩, .string ⟨#[38, 97, 109, 112, 59]⟩,
  .int .i64 1, .string ⟨#[60]⟩, .string ⟨#[38, 108, 116, 59]⟩,
  .int .i64 1, .string ⟨#[62]⟩, .string ⟨#[38, 103, 116, 59]⟩,
  .int .i64 1, .string ⟨#[34]⟩, .string ⟨#[38, 113, 117, 111, 116, 59]⟩,
  .int .i64 1, .string ⟨#[39]⟩, .string ⟨#[38, 35, 51, 57, 59]⟩,
  .int .i64 4, .string ⟨#[226, 128, 168]⟩, .string ⟨#[92, 117, 50, 48, 50, 56]⟩,
  .int .i64 4, .string ⟨#[226, 128, 169]⟩, .string ⟨#[92, 117, 50, 48, 50, 57]⟩]
def hexUp : ByteArray := ⟨#[48, 49, 50, 51, 52, 53, 54, 55, 56, 57, 65, 66, 67, 68, 69, 70]⟩
def hexLo : ByteArray := ⟨#[48, 49, 50, 51, 52, 53, 54, 55, 56, 57, 97, 98, 99, 100, 101, 102]⟩
def keptLink : ByteArray := ⟨#[45, 46, 95, 126, 47, 63, 35, 91, 93, 64, 33, 36, 40, 41, 42, 43, 44, 59, 61]⟩
/-- controls, coded, kept, ahead, digits, short, behind; six times -/
def escCells : Array Value := #[
  .bool false, .string ⟨#[]⟩, .string ⟨#[]⟩, .string ⟨#[]⟩, .string ⟨#[]⟩, .bool false, .string ⟨#[]⟩,
  .bool false, .string ⟨#[]⟩, .string ⟨#[]⟩, .string ⟨#[]⟩, .string ⟨#[]⟩, .bool false, .string ⟨#[]⟩,
  .bool false, .string ⟨#[]⟩, .string ⟨#[]⟩, .string ⟨#[]⟩, .string ⟨#[]⟩, .bool false, .string ⟨#[]⟩,
  .bool false, .string ⟨#[]⟩, .string keptLink, .string ⟨#[37]⟩, .string hexUp, .bool false, .string ⟨#[]⟩,
  .bool true, .string ⟨#[34, 39, 38, 47, 60, 62, 92, 96]⟩, .string ⟨#[]⟩, .string ⟨#[92, 120]⟩, .string hexLo, .bool false, .string ⟨#[]⟩,
  .bool true, .string ⟨#[34, 39, 38, 47, 60, 62, 92]⟩, .string ⟨#[]⟩, .string ⟨#[92]⟩, .string hexLo, .bool true, .string ⟨#[32]⟩]

/-- the three tables hold what their texts say -/
def Tabs (w : World) : Prop :=
  (∀ j v, openCells.toList[j]? = some v → w.cell? ⟨3, j, none⟩ = some v) ∧ (∀ j v, swapCells.toList[j]? = some v → w.cell? ⟨4, j, none⟩ = some v) ∧ (∀ j v, escCells.toList[j]? = some v → w.cell? ⟨5, j, none⟩ = some v)

theorem cell_lt {w : World} {g j : Nat} {v : Value} (h : w.cell? ⟨g, j, none⟩ = some v) : g < w.heap.size := by
  rcases Nat.lt_or_ge g w.heap.size with h' | h'
  · exact h'
  · simp [World.cell?, Array.getElem?_eq_none h'] at h
theorem Tabs.lt {w : World} (h : Tabs w) : 5 < w.heap.size := cell_lt (h.2.2 0 _ rfl)
theorem Tabs.kept {w w' : World} {B : Nat} (h : Tabs w) (hb : Below B w w') (hB : 5 < B) : Tabs w' :=
  ⟨fun j v hv => (hb.cell (p := ⟨3, j, none⟩) (by simp; omega)).trans (h.1 j v hv), fun j v hv => (hb.cell (p := ⟨4, j, none⟩) (by simp; omega)).trans (h.2.1 j v hv), fun j v hv => (hb.cell (p := ⟨5, j, none⟩) hB).trans (h.2.2 j v hv)⟩

end Go.Proofs.YtfkhljmiehdgmaaDoor

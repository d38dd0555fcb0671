/-
  The walks of the functions of the document's answer that write a value.
-/
import Derived.Test.YtfkhljmiehdgmaaDoorWalkA
import Derived.Test.YtfkhljmiehdgmaaDoorPlainB
import Derived.RegionTactic
import Derived.ChangeAlike
namespace Go.Proofs.YtfkhljmiehdgmaaDoor
open Go.RowKit

set_option maxHeartbeats 1600000 in
theorem texted_any (s : ByteArray) (w : World) (hs : s.size ≤ 100000000) :
    Calls Tryd.prog 31 #[.string s] w fun e w' => e = .returned (.string ⟨(Pl.texted s.data.toList).toArray⟩) ∧ w = w' := by
  go_enter Tryd.func31, Tryd.ntmps31
  go_wp2
  go_loop [3, 4] (fun o i => ∃ k : Nat, k ≤ s.size ∧ i = .int .i64 k ∧ o = .string ⟨(Pl.texted (s.data.toList.take k)).toArray⟩) (fun _ i => s.size - (intOf i).toNat)
  case atStart => exact ⟨0, Nat.zero_le _, rfl, rfl⟩
  case round =>
    obtain ⟨k, hk, rfl, rfl⟩ := hrel
    by_cases hlt : k < s.size
    · have hb : (Pl.texted (s.data.toList.take k)).length ≤ 600000000 := by
        have := Pl.flatMap_len 6 Pl.textOf_len (s.data.toList.take k)
        rw [Pl.take_len s k hk] at this
        unfold Pl.texted; omega
      go_wp2
      all_goals
        go_round
        case rel => exact ⟨k + 1, by omega, by go_num, congrArg Value.string (by first | exact Pl.step_ext s k hlt (by simp only [Pl.textOf, *, cond_false]) | exact Pl.step_cat s k hlt _ (by simp only [Pl.textOf, *, cond_true, cond_false]))⟩
        case measure => simp [intOf]; omega
    · go_wp2
      go_ret
      exact ⟨ret_str (by rw [Pl.take_all s k (by omega)]), rfl⟩

set_option maxHeartbeats 1600000 in
theorem two_any (b : UInt8) (all : ByteArray) (w : World) (ha : all.size = 16) :
    Calls Tryd.prog 49 #[.int .u8 b.toNat, .string all] w fun e w' => e = .returned (.string ⟨(Pl.two b all.data.toList).toArray⟩) ∧ Below w.heap.size w w' := by
  have hb : b.toNat < 256 := UInt8.toNat_lt b
  have e1 : IntKind.u8.wrap ((b.toNat : Int) / 16) = (b.toNat : Int) / 16 := by rw [IntKind.wrap_u8]; omega
  have e2 : IntKind.u8.wrap ((b.toNat : Int) % 16) = (b.toNat : Int) % 16 := by rw [IntKind.wrap_u8]; omega
  have h1 : (b.toNat : Int) / 16 < (all.size : Int) := by omega
  have h2 : (b.toNat : Int) % 16 < (all.size : Int) := by omega
  have h3 : 0 ≤ (b.toNat : Int) / 16 := by omega
  have h4 : 0 ≤ (b.toNat : Int) % 16 := by omega
  have hcv : ∀ x y : UInt8, (convert 41 9 (.slice (some ⟨w.heap.size, 0, none⟩) 2 2)).run Tryd.prog ((w.alloc (.cells #[.int .u8 x.toNat, .int .u8 y.toNat] 5)).drew) = .ok (.string ⟨[x, y].toArray⟩) ((w.alloc (.cells #[.int .u8 x.toNat, .int .u8 y.toNat] 5)).drew) := by
    intro x y
    refine run_convert_bytes_back _ 41 9 5 ⟨w.heap.size, 0, none⟩ 2 [x, y] Tryd.underlying41 Tryd.underlying5 Tryd.underlying9 ?_
    intro j hj
    match j, hj with
    | 0, _ => simp [Addr.add]
    | 1, _ => simp [Addr.add]
  clear hb ha
  go_enter Tryd.func49, Tryd.ntmps49
  go_wp2
  have HT : Hid (Pl.two b all.data.toList = _) := Pl.two_eq b all (by omega) (by omega)
  go_region
  go_wp2
  go_ret
  exact ⟨ret_str (by rw [HT.out]), ((Below.refl _ _).alloc (Nat.le_refl _) _).drew⟩
/-- 'among' at the bytes that a link keeps -/
theorem among_kept (b : UInt8) (all : ByteArray) (w : World) (ha : all.data.toList = Pl.linkKept) :
    Calls Tryd.prog 48 #[.int .u8 b.toNat, .string all] w fun e w' => e = .returned (.bool (Pl.among b Pl.linkKept)) ∧ w = w' := by
  rw [← ha]
  refine among_any b all w ?_
  have : all.data.toList.length = all.size := rfl
  rw [← this, ha]; decide
theorem two_at (b : UInt8) (all : ByteArray) (l : List UInt8) (w : World) (ha : all.data.toList = l) (hl : l.length = 16) :
    Calls Tryd.prog 49 #[.int .u8 b.toNat, .string all] w fun e w' => e = .returned (.string ⟨(Pl.two b l).toArray⟩) ∧ Below w.heap.size w w' := by
  rw [← ha]
  refine two_any b all w ?_
  have : all.data.toList.length = all.size := rfl
  rw [← this, ha, hl]

set_option maxHeartbeats 1600000 in
theorem linked_any (s : ByteArray) (w : World) (hs : s.size ≤ 100000000) :
    Calls Tryd.prog 32 #[.string s] w fun e w' => e = .returned (.string ⟨(Pl.linked s.data.toList).toArray⟩) ∧ Below w.heap.size w w' := by
  go_enter Tryd.func32, Tryd.ntmps32
  go_wp2
  go_loopw [3, 4] (fun o i wr => ∃ k : Nat, k ≤ s.size ∧ i = .int .i64 k ∧ o = .string ⟨(Pl.linked (s.data.toList.take k)).toArray⟩ ∧ Below w.heap.size w wr) (fun _ i _ => s.size - (intOf i).toNat)
  case atStart => exact ⟨0, Nat.zero_le _, rfl, rfl, Below.refl _ _⟩
  case round =>
    obtain ⟨k, hk, rfl, rfl, hbw⟩ := hrel
    by_cases hlt : k < s.size
    · have hb : (Pl.linked (s.data.toList.take k)).length ≤ 600000000 := by
        have := Pl.flatMap_len 6 Pl.linkOf_len (s.data.toList.take k)
        rw [Pl.take_len s k hk] at this
        unfold Pl.linked; omega
      have h2l : ∀ b l, (Pl.two b l).length = 2 := fun _ _ => rfl
      have hz := hbw.size
      go_wp2_with (first | (go_at_call 48; refine (among_kept s[k] _ _ rfl).mono ?_; rintro e w' ⟨rfl, rfl⟩) | (go_at_call 49; refine (two_at s[k] _ Pl.upHex _ rfl rfl).mono ?_; rintro e w' ⟨rfl, hbe⟩))
      · go_roundw
        case rel => exact ⟨k + 1, by omega, by go_num, congrArg Value.string (Pl.step_ext s k hlt (Pl.linkOf_yes ‹_›)), hbw⟩
        case measure => simp [intOf]; omega
      · go_roundw
        case rel => exact ⟨k + 1, by omega, by go_num, congrArg Value.string (Pl.step_cat2 s k hlt _ _ (Pl.linkOf_no ‹_›)), hbw.trans (hbe.mono hz)⟩
        case measure => simp [intOf]; omega
    · go_wp2
      go_ret
      exact ⟨ret_str (by rw [Pl.take_all s k (by omega)]), hbw⟩

theorem two_lo (b : UInt8) (all : ByteArray) (w : World) (ha : all.data.toList = Pl.loHex) :
    Calls Tryd.prog 49 #[.int .u8 b.toNat, .string all] w fun e w' => ∃ x y : UInt8, Hid (Pl.two b Pl.loHex = [x, y]) ∧ e = .returned (.string ⟨#[x, y]⟩) ∧ Below w.heap.size w w' := by
  refine (two_at b all _ w ha rfl).mono ?_
  rintro e w' ⟨rfl, h⟩
  exact ⟨_, _, rfl, rfl, h⟩

set_option maxHeartbeats 1600000 in
theorem styled_any (s : ByteArray) (w : World) (hs : s.size ≤ 100000000) :
    Calls Tryd.prog 36 #[.string s] w fun e w' => e = .returned (.string ⟨(Pl.styled s.data.toList).toArray⟩) ∧ Below w.heap.size w w' := by
  go_enter Tryd.func36, Tryd.ntmps36
  go_wp2
  go_loopw [3, 4] (fun o i wr => ∃ k : Nat, k ≤ s.size ∧ i = .int .i64 k ∧ o = .string ⟨(Pl.styled (s.data.toList.take k)).toArray⟩ ∧ Below w.heap.size w wr) (fun _ i _ => s.size - (intOf i).toNat)
  case atStart => exact ⟨0, Nat.zero_le _, rfl, rfl, Below.refl _ _⟩
  case round =>
    obtain ⟨k, hk, rfl, rfl, hbw⟩ := hrel
    by_cases hlt : k < s.size
    · have hb : (Pl.styled (s.data.toList.take k)).length ≤ 600000000 := by
        have := Pl.flatMap_len 6 Pl.styleOf_len (s.data.toList.take k)
        rw [Pl.take_len s k hk] at this
        unfold Pl.styled; omega
      have hz := hbw.size
      go_wp2_with (first | (go_at_call 51; refine (odd_any s[k] _).mono ?_; rintro e w' ⟨rfl, rfl⟩) | (go_at_call 49; refine (two_lo s[k] _ _ rfl).mono ?_; rintro e w' ⟨x, y, hxy, rfl, hbe⟩))
      · have ho : Pl.odd s[k] = false := by simpa using ‹(!Pl.odd s[k]) = true›
        go_roundw
        case rel => exact ⟨k + 1, by omega, by go_num, congrArg Value.string (Pl.step_ext s k hlt (Pl.styleOf_no ho)), hbw⟩
        case measure => simp [intOf]; omega
      · have ho : Pl.odd s[k] = true := by simpa using ‹(!Pl.odd s[k]) = false›
        have hx : ((x.toNat : Int) == 48) = true := ‹_›
        have e1 : ({ data := #[x, y] } : ByteArray).extract 1 2 = ⟨[y].toArray⟩ := rfl
        go_roundw
        case rel => exact ⟨k + 1, by omega, by go_num, congrArg Value.string (Pl.step_cat3 s k hlt _ [y] _ (Pl.styleOf_yes0 ho x y hxy hx)), hbw.trans (hbe.mono hz)⟩
        case measure => simp [intOf]; omega
      · have ho : Pl.odd s[k] = true := by simpa using ‹(!Pl.odd s[k]) = false›
        have hx : ((x.toNat : Int) == 48) = false := ‹_›
        go_roundw
        case rel => exact ⟨k + 1, by omega, by go_num, congrArg Value.string (Pl.step_cat3 s k hlt _ [x, y] _ (Pl.styleOf_yes ho x y hxy hx)), hbw.trans (hbe.mono hz)⟩
        case measure => simp [intOf]; omega
    · go_wp2
      go_ret
      exact ⟨ret_str (by rw [Pl.take_all s k (by omega)]), hbw⟩

end Go.Proofs.YtfkhljmiehdgmaaDoor

/-
  The walks of the program: the scheme of a link.
-/
import Derived.Test.YtfkhljmiehdgmaaDoorShelf
import Derived.Test.YtfkhljmiehdgmaaDoorWalkA
import Derived.Test.YtfkhljmiehdgmaaDoorPgWA
import Derived.Test.YtfkhljmiehdgmaaDoorTabs
import Derived.Test.YtfkhljmiehdgmaaDoorPlainI
namespace Go.Proofs.YtfkhljmiehdgmaaDoor
open Go.RowKit

theorem indexByte_yes (b : UInt8) (all : ByteArray) (l : List UInt8) (w : World) (ha : all.data.toList = l) (h : Pl.among b l = true) :
    Calls Tryd.prog 73 #[.string all, .int .u8 b.toNat] w fun e w' => ∃ x : Int, 0 ≤ x ∧ e = .returned (.int .i64 x) ∧ w = w' := by
  refine (Tryd.strings_IndexByte all b.toNat w).mono ?_
  rintro e w' ⟨rfl, rfl⟩
  refine ⟨_, ?_, rfl, rfl⟩
  rw [Pl.toUInt8_back, ha]
  rcases Pl.indexByte_iff l b with ⟨a, _⟩ | ⟨_, a⟩
  · exact a
  · rw [h] at a; cases a
theorem indexByte_no (b : UInt8) (all : ByteArray) (l : List UInt8) (w : World) (ha : all.data.toList = l) (h : Pl.among b l = false) :
    Calls Tryd.prog 73 #[.string all, .int .u8 b.toNat] w fun e w' => e = .returned (.int .i64 (-1)) ∧ w = w' := by
  refine (Tryd.strings_IndexByte all b.toNat w).mono ?_
  rintro e w' ⟨rfl, rfl⟩
  refine ⟨ret_int ?_, rfl⟩
  rw [Pl.toUInt8_back, ha]
  rcases Pl.indexByte_iff l b with ⟨_, a⟩ | ⟨a, _⟩
  · rw [h] at a; cases a
  · exact a

theorem info_u8b : (Tryd.prog.info? 5).map (fun i => (i.zero, i.size, i.bytes)) = some (some (.int .u8 0), 1, 1) := by kernel_rfl

set_option maxRecDepth 100000 in
set_option maxHeartbeats 1600000 in
theorem schemeEnd_any (s : ByteArray) (w : World) (hs : s.size ≤ 100000000) :
    Calls Tryd.prog 52 #[.string s] w fun e w' => e = .returned (.int .i64 (Pl.schemeEnd s.data.toList)) ∧ w = w' := by
  go_enter Tryd.func52, Tryd.ntmps52
  go_wp2
  go_loop [7] (fun i => ∃ k : Nat, k ≤ s.size ∧ i = .int .i64 k ∧ Pl.run s.data.toList false = k + Pl.run (s.data.toList.drop k) (decide (0 < k))) (fun i => s.size - (intOf i).toNat)
  case atStart => exact ⟨0, Nat.zero_le _, rfl, by simp⟩
  case round =>
    obtain ⟨k, hk, rfl, hr⟩ := hrel
    have HR : Hid (Pl.run s.data.toList false = k + Pl.run (s.data.toList.drop k) (decide (0 < k))) := hr
    clear hr
    by_cases hlt : k < s.size
    · by_cases hl : Pl.isLetter s[k] = true
      · have hl' : Hid (Pl.among s[k] Pl.letters = true) := by show _ = _; rw [← Pl.letter_eq]; exact hl
        go_wp2_with (first | (go_at_call 71; refine (letter_any s[k] _).mono ?_; rintro e w' ⟨rfl, rfl⟩))
        go_round
        case rel => exact ⟨k + 1, by omega, by go_num, by rw [HR.out, Pl.run_letter s k hlt _ hl'.out]; simp; omega⟩
        case measure => simp [intOf]; omega
      · have hl : Pl.isLetter s[k] = false := by simpa using hl
        have hl' : Hid (Pl.among s[k] Pl.letters = false) := by show _ = _; rw [← Pl.letter_eq]; exact hl
        by_cases h0 : 0 < k
        · have hk0 : ((k : Int) == 0) = false := beq_eq_false_iff_ne.2 (by omega)
          by_cases hc : s[k].toNat = 58
          · have hd : Hid (Pl.among s[k] Pl.digitsPlus = false) := by
              have : s[k] = 58 := UInt8.toNat_inj.1 (by simpa using hc)
              show _ = _; rw [this]; decide
            have he : Hid (Pl.run s.data.toList false = k) := by show _ = _; rw [HR.out, Pl.run_stop s k hlt _ hl'.out hd.out]; rfl
            have hv : Hid (Pl.schemeEnd s.data.toList = k) := Pl.schemeEnd_some _ _ (Pl.schemed_yes s k he.out h0 hlt hc)
            have hc2 : ((s[k].toNat : Int) == 58) = true := beq_iff_eq.2 (by omega)
            clear hc
            go_wp2_with (first | (go_at_call 71; refine (letter_any s[k] _).mono ?_; rintro e w' ⟨rfl, rfl⟩))
            go_ret
            exact ⟨ret_int (by rw [hv.out]), rfl⟩
          · have hc2 : ((s[k].toNat : Int) == 58) = false := beq_eq_false_iff_ne.2 (by omega)
            by_cases hd : Pl.isDigit s[k] = true
            · have hd' : Hid (Pl.among s[k] Pl.digitsPlus = true) := by show _ = _; rw [← Pl.digit_eq, hd]; rfl
              have h0' : Hid (decide (0 < k) = true) := by show _ = _; simpa using h0
              clear hc
              go_wp2_with (first | (go_at_call 71; refine (letter_any s[k] _).mono ?_; rintro e w' ⟨rfl, rfl⟩) | (go_at_call 72; refine (digit_any s[k] _).mono ?_; rintro e w' ⟨rfl, rfl⟩))
              go_round
              case rel => exact ⟨k + 1, by omega, by go_num, by rw [HR.out, h0'.out, Pl.run_digit s k hlt hd'.out]; simp; omega⟩
              case measure => simp [intOf]; omega
            · have hd : Pl.isDigit s[k] = false := by simpa using hd
              by_cases hp : Pl.among s[k] [43, 45, 46] = true
              · have hd' : Hid (Pl.among s[k] Pl.digitsPlus = true) := by show _ = _; rw [← Pl.digit_eq, hd, hp]; rfl
                have h0' : Hid (decide (0 < k) = true) := by show _ = _; simpa using h0
                clear hc
                go_wp2_with (first | (go_at_call 71; refine (letter_any s[k] _).mono ?_; rintro e w' ⟨rfl, rfl⟩) | (go_at_call 72; refine (digit_any s[k] _).mono ?_; rintro e w' ⟨rfl, rfl⟩) | (go_at_call 73; refine (indexByte_yes s[k] _ [43, 45, 46] _ rfl hp).mono ?_; rintro e w' ⟨x, hx, rfl, rfl⟩))
                go_round
                case rel => exact ⟨k + 1, by omega, by go_num, by rw [HR.out, h0'.out, Pl.run_digit s k hlt hd'.out]; simp; omega⟩
                case measure => simp [intOf]; omega
              · have hp : Pl.among s[k] [43, 45, 46] = false := by simpa using hp
                have hd' : Hid (Pl.among s[k] Pl.digitsPlus = false) := by show _ = _; rw [← Pl.digit_eq, hd, hp]; rfl
                have he : Hid (Pl.run s.data.toList false = k) := by show _ = _; rw [HR.out, Pl.run_stop s k hlt _ hl'.out hd'.out]; rfl
                have hv : Hid (Pl.schemeEnd s.data.toList = -1) := Pl.schemeEnd_none _ (Pl.schemed_no s k he.out hlt hc)
                clear hc
                go_wp2_with (first | (go_at_call 71; refine (letter_any s[k] _).mono ?_; rintro e w' ⟨rfl, rfl⟩) | (go_at_call 72; refine (digit_any s[k] _).mono ?_; rintro e w' ⟨rfl, rfl⟩) | (go_at_call 73; refine (indexByte_no s[k] _ [43, 45, 46] _ rfl hp).mono ?_; rintro e w' ⟨rfl, rfl⟩))
                go_ret
                exact ⟨ret_int (by rw [hv.out]), rfl⟩
        · have hk0 : ((k : Int) == 0) = true := beq_iff_eq.2 (by omega)
          have he : Hid (Pl.run s.data.toList false = 0) := by
            obtain rfl : k = 0 := by omega
            show _ = _; rw [HR.out]; exact (Nat.zero_add _).trans (Pl.run_stop0 s 0 hlt hl'.out)
          have hv : Hid (Pl.schemeEnd s.data.toList = -1) := Pl.schemeEnd_none _ (Pl.schemed_zero _ he.out)
          go_wp2_with (first | (go_at_call 71; refine (letter_any s[k] _).mono ?_; rintro e w' ⟨rfl, rfl⟩))
          go_ret
          exact ⟨ret_int (by rw [hv.out]), rfl⟩
    · have he : Hid (Pl.run s.data.toList false = k) := by show _ = _; rw [HR.out, Pl.run_over s k hlt]; rfl
      have hv : Hid (Pl.schemeEnd s.data.toList = -1) := Pl.schemeEnd_none _ (Pl.schemed_over s k he.out hlt)
      go_wp2
      go_ret
      exact ⟨ret_int (by rw [hv.out]), rfl⟩

theorem made_list (n : Nat) : (madeCells (Value.int .u8 0).cells (n * 1)).toList = List.replicate n (.int .u8 0) := by
  rw [Nat.mul_one]; exact toList_madeCells_one (.int .u8 0) n
theorem set_mid (x : List Value) (n k : Nat) (z u : Value) (hx : x.length = k) (h : k < n) : (x ++ List.replicate (n - k) z).set k u = (x ++ [u]) ++ List.replicate (n - (k + 1)) z := by
  subst hx
  rw [List.set_append_right _ _ (Nat.le_refl _), Nat.sub_self, show n - x.length = (n - (x.length + 1)) + 1 by omega, List.replicate_succ, List.set_cons_zero, List.append_assoc]; rfl
theorem low_up {b : UInt8} (h : Pl.isUpper b = true) : ((Pl.small b).toNat : Int) = (b.toNat : Int) + 32 := by
  have h2 : b.toNat ≤ 90 := by
    have := h
    simp only [Pl.isUpper, Bool.and_eq_true, decide_eq_true_eq] at this
    exact this.2
  unfold Pl.small; rw [if_pos h]; exact add8 b h2
theorem low_other {b : UInt8} (h : Pl.isUpper b = false) : (Pl.small b) = b := by
  unfold Pl.small; rw [if_neg (by simp [h])]
set_option maxRecDepth 100000 in
set_option maxHeartbeats 1600000 in
theorem Small_any (s : ByteArray) (w : World) (hs : s.size ≤ 100000000) :
    Calls Tryd.prog 74 #[.string s] w fun e w' => e = .returned (.string ⟨(Pl.lower s.data.toList).toArray⟩) ∧ Below w.heap.size w w' := by
  obtain ⟨i0, hi, hz0, hz1, hz2⟩ := info_parts info_u8b
  go_enter Tryd.func74, Tryd.ntmps74
  go_wp2_with (at_make; refine wpList_make_full _ rfl _ _ 41 rfl w.heap.size 5 i0 (.int .u8 0) 1 Tryd.underlying41 hi hz0 hz1 .i64 .i64 _ _ s.size rfl rfl rfl rfl (by rw [hz2]; omega) (by unfold maxLen; omega) (Nat.le_refl _) ?_; intro w1 hown0 hg0)
  rw [made_list] at hown0
  have hb0 : Below w.heap.size w w1 := (Below.refl _ _).grown hg0 (Nat.le_refl _) (fun k h => by cases h)
  clear hg0
  go_loopw [4, 10] (fun _ i wr => ∃ k : Nat, k ≤ s.size ∧ i = .int .i64 k ∧ wr.ownsRow w.heap.size 5 1 (.slice (some ⟨w.heap.size, 0, none⟩) s.size s.size) s.size (Lib.byteCells (Pl.lower (s.data.toList.take k)) ++ List.replicate (s.size - k) (.int .u8 0)) ∧ Below w.heap.size w wr) (fun _ i _ => s.size - (intOf i).toNat)
  case atStart => exact ⟨0, Nat.zero_le _, rfl, by simpa [Pl.lower, Lib.byteCells] using hown0, hb0⟩
  case round =>
    obtain ⟨k, hk, rfl, hown, hbw⟩ := hrel
    clear hown0 hb0
    by_cases hlt : k < s.size
    · have hz := hbw.size
      have hlen : (Lib.byteCells (Pl.lower (s.data.toList.take k))).length = k := by rw [byteCells_len]; unfold Pl.lower; rw [List.length_map, Pl.take_len s k hk]
      have hc0 : wr.cell? ⟨w.heap.size, k, none⟩ = some (.int .u8 0) := by
        rw [hown.cellAt k (by omega), List.getElem?_append_right (by omega), hlen]
        rw [Nat.sub_self, List.getElem?_replicate, if_pos (by omega)]
      have hf0 := hown.frozenAt k
      have HT : Hid (Lib.byteCells (Pl.lower (s.data.toList.take (k + 1))) = Lib.byteCells (Pl.lower (s.data.toList.take k)) ++ [.int .u8 (Pl.small s[k]).toNat]) := by
        show _ = _
        rw [Pl.take_snoc s k hlt, show Pl.lower (s.data.toList.take k ++ [s[k]]) = Pl.lower (s.data.toList.take k) ++ [Pl.small s[k]] by simp [Pl.lower], byteCells_snoc1]
      go_wp2_with (go_at_call 89; refine (SmallByte_any s[k] _).mono ?_; rintro e w' ⟨rfl, rfl⟩)
      have hs1 := hown.stored k (.int .u8 (Pl.small s[k]).toNat)
      rw [set_mid _ _ _ _ _ hlen hlt] at hs1
      go_roundw
      case rel =>
        refine ⟨k + 1, by omega, by go_num, ?_, hbw.setCell (p := ⟨w.heap.size, k, none⟩) (Nat.le_refl _) _⟩
        rw [HT.out]
        exact hs1.1
      case measure => simp [intOf]; omega
    · have e : (Pl.lower s.data.toList).length = s.size := by unfold Pl.lower; rw [List.length_map]; rfl
      rw [Pl.take_all s k (by omega), show s.size - k = 0 by omega, List.replicate_zero, List.append_nil] at hown
      have hcv := conv_own (P := Tryd.prog) wr 41 9 5 Tryd.underlying41 Tryd.underlying5 Tryd.underlying9 w.heap.size _ (Pl.lower s.data.toList) (by rw [e]; exact hown)
      clear e
      go_wp2
      go_ret
      exact ⟨rfl, hbw⟩

end Go.Proofs.YtfkhljmiehdgmaaDoor

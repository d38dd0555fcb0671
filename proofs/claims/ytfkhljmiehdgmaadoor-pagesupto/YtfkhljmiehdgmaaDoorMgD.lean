/-
  Several texts laid together: each opens with its own remark.
-/
import Derived.Test.YtfkhljmiehdgmaaDoorWalkA
import Derived.Test.YtfkhljmiehdgmaaDoorMgB
import Derived.Test.YtfkhljmiehdgmaaDoorMgA
import Derived.Test.YtfkhljmiehdgmaaDoorMgC
import Derived.RegionTactic
import Derived.Deep.RegionWith
import Derived.Deep.LoopGhost

/-
  The walks of the document's answer on pages: the small functions.
-/
namespace Go.Proofs.YtfkhljmiehdgmaaDoor
open Go.RowKit

set_option maxHeartbeats 800000 in
theorem isString_any (m : Int) (w : World) :
    Calls Tryd.prog 81 #[.int .i64 m] w fun e w' => e = .returned (.bool (Pl.isStr m)) ∧ w = w' := by
  have H : Hid (Pl.isStr m = _) := show Pl.isStr m = (m == 21 || (m == 22 || (m == 23 || (m == 29 || m == 30)))) from rfl
  go_enter Tryd.func81, Tryd.ntmps81
  go_wp2
  all_goals
    go_ret
    exact ⟨ret_bool (by rw [H.out]; first | (simp only [Bool.or_assoc]) | (subst_vars; rfl)), rfl⟩

theorem amongL (b : UInt8) (all : ByteArray) (l : List UInt8) (w : World) (ha : all.data.toList = l) (hl : l.length ≤ 1000) :
    Calls Tryd.prog 48 #[.int .u8 b.toNat, .string all] w fun e w' => e = .returned (.bool (Pl.among b l)) ∧ w = w' := by
  rw [← ha]
  refine among_any b all w ?_
  have : all.data.toList.length = all.size := rfl
  rw [← this, ha]; omega

theorem is_byte (b c : UInt8) (h : ((b.toNat : Int) == (c.toNat : Int)) = true) : b = c := by rw [Pl.beq8, beq_iff_eq] at h; exact h
theorem not_byte (b c : UInt8) (h : ((b.toNat : Int) == (c.toNat : Int)) = false) : ¬ b = c := by rw [Pl.beq8, beq_eq_false_iff_ne] at h; exact h
theorem Pl.extract_drop (s : ByteArray) (i : Nat) : s.extract i s.size = ⟨(s.data.toList.drop i).toArray⟩ := by
  apply ByteArray.ext
  apply Array.ext'
  rw [ByteArray.data_extract, Array.toList_extract, List.extract_eq_take_drop, List.take_of_length_le (by rw [List.length_drop]; exact Nat.le_refl _)]
theorem Pl.extract_take (s : ByteArray) (i : Nat) : s.extract 0 i = ⟨(s.data.toList.take i).toArray⟩ := by
  apply ByteArray.ext
  apply Array.ext'
  rw [ByteArray.data_extract, Array.toList_extract, List.extract_eq_take_drop]
  simp
theorem refR_at (s : ByteArray) (k : Nat) (h : k < s.size) : Pl.refR (s.data.toList.take (k + 1)).reverse = (if s[k] = 38 then true else if Pl.among s[k] Pl.refBytes = true then Pl.refR (s.data.toList.take k).reverse else false) := by
  rw [Pl.take_snoc s k h, List.reverse_append]; rfl

set_option maxRecDepth 100000 in
set_option maxHeartbeats 1600000 in
theorem reference_any (s : ByteArray) (w : World) (hs : s.size ≤ 100000000) :
    Calls Tryd.prog 97 #[.string s] w fun e w' => e = .returned (.bool (Pl.refer s.data.toList)) ∧ w = w' := by
  go_enter Tryd.func97, Tryd.ntmps97
  go_wp2
  go_loop [3] (fun i => ∃ k : Nat, k ≤ s.size ∧ i = .int .i64 ((k : Int) - 1) ∧ Pl.refer s.data.toList = Pl.refR (s.data.toList.take k).reverse) (fun i => (intOf i + 1).toNat)
  case atStart => exact ⟨s.size, Nat.le_refl _, by first | rfl | go_num, by rw [Pl.take_all s _ (Nat.le_refl _)]; rfl⟩
  case round =>
    obtain ⟨k, hk, rfl, hr⟩ := hrel
    have HR : Hid (Pl.refer s.data.toList = Pl.refR (s.data.toList.take k).reverse) := hr
    clear hr
    match k, hk with
    | 0, _ =>
      go_wp2
      go_ret
      exact ⟨ret_bool (by rw [HR.out]; rfl), rfl⟩
    | k + 1, hk =>
      have hlt : k < s.size := by omega
      have HS := (show Hid _ from refR_at s k hlt)
      have e1 : (((k + 1 : Nat) : Int) - 1) = (k : Int) := by omega
      rw [e1]
      have hk' : (k : Int) < (s.size : Int) := by omega
      go_wp2_with (go_at_call 48; refine (amongL s[k] _ Pl.refBytes _ rfl (by decide)).mono ?_; rintro e w' ⟨rfl, rfl⟩)
      · go_ret
        exact ⟨ret_bool (by rw [HR.out, HS.out, if_pos (is_byte s[k] 38 ‹_›)]), rfl⟩
      · have h1 := not_byte s[k] 38 ‹_›
        have h2 : Pl.among s[k] Pl.refBytes = false := by simpa using ‹(!Pl.among s[k] Pl.refBytes) = true›
        go_ret
        exact ⟨ret_bool (by rw [HR.out, HS.out, if_neg h1, h2]; rfl), rfl⟩
      · have h1 := not_byte s[k] 38 ‹_›
        have h2 : Pl.among s[k] Pl.refBytes = true := by simpa using ‹(!Pl.among s[k] Pl.refBytes) = false›
        go_round
        case rel => exact ⟨k, by omega, rfl, by rw [HR.out, HS.out, if_neg h1, if_pos h2]⟩
        case measure => simp [intOf]

set_option maxRecDepth 100000 in
set_option maxHeartbeats 1600000 in
theorem tail_any (s : ByteArray) (w : World) (hs : s.size ≤ 100000000) :
    Calls Tryd.prog 80 #[.string s] w fun e w' => e = .returned (.string ⟨(Pl.tail12 s.data.toList).toArray⟩) ∧ w = w' := by
  by_cases h : 12 < s.size
  · have HV : Hid (Pl.tail12 s.data.toList = s.data.toList.drop (s.size - 12)) := by show _ = _; unfold Pl.tail12; rw [if_pos (by show 12 < s.data.toList.length; exact h)]; rfl
    have hi : (12 : Int) < (s.size : Int) := by omega
    have h0 : (0 : Int) ≤ (s.size : Int) - 12 := by omega
    go_enter Tryd.func80, Tryd.ntmps80
    go_wp2
    go_ret
    exact ⟨ret_str (by rw [HV.out]; exact Pl.extract_drop s _), rfl⟩
  · have HV : Hid (Pl.tail12 s.data.toList = s.data.toList) := by show _ = _; unfold Pl.tail12; rw [if_neg (by show ¬ 12 < s.data.toList.length; exact h)]
    go_enter Tryd.func80, Tryd.ntmps80
    go_wp2
    go_ret
    exact ⟨ret_str (by rw [HV.out]), rfl⟩

set_option maxRecDepth 100000 in
set_option maxHeartbeats 1600000 in
theorem first_any (s : ByteArray) (w : World) (hs : s.size ≤ 100000000) :
    Calls Tryd.prog 101 #[.string s] w fun e w' => e = .returned (.string ⟨(Pl.first9 s.data.toList).toArray⟩) ∧ w = w' := by
  by_cases h : 9 < s.size
  · have HV : Hid (Pl.first9 s.data.toList = s.data.toList.take 9) := by show _ = _; unfold Pl.first9; rw [if_pos (by show 9 < s.data.toList.length; exact h)]
    have hi : (9 : Int) < (s.size : Int) := by omega
    go_enter Tryd.func101, Tryd.ntmps101
    go_wp2
    go_ret
    exact ⟨ret_str (by rw [HV.out]; exact Pl.extract_take s _), rfl⟩
  · have HV : Hid (Pl.first9 s.data.toList = s.data.toList) := by show _ = _; unfold Pl.first9; rw [if_neg (by show ¬ 9 < s.data.toList.length; exact h)]
    go_enter Tryd.func101, Tryd.ntmps101
    go_wp2
    go_ret
    exact ⟨ret_str (by rw [HV.out]), rfl⟩

theorem escOf_at (css : Bool) (s : ByteArray) (k : Nat) (h : k < s.size) : Pl.escOf css (s.data.toList.take (k + 1)) = Pl.escStep css (Pl.escOf css (s.data.toList.take k)) s[k] := by
  rw [Pl.take_snoc s k h]; simp [Pl.escOf]
theorem escStep_range (css : Bool) (l : Int) (b : UInt8) (h0 : 0 ≤ l) (h6 : l ≤ 6) : 0 ≤ Pl.escStep css l b ∧ Pl.escStep css l b ≤ 6 := by
  unfold Pl.escStep
  repeat' split
  all_goals omega
theorem escOf_range (css : Bool) (l : List UInt8) : 0 ≤ Pl.escOf css l ∧ Pl.escOf css l ≤ 6 := by
  unfold Pl.escOf
  have : ∀ (l : List UInt8) (x : Int), 0 ≤ x → x ≤ 6 → 0 ≤ l.foldl (Pl.escStep css) x ∧ l.foldl (Pl.escStep css) x ≤ 6 := by
    intro l
    induction l with
    | nil => intro x h0 h6; exact ⟨h0, h6⟩
    | cons b l ih =>
      intro x h0 h6
      have := escStep_range css x b h0 h6
      exact ih _ this.1 this.2
  exact this l 0 (by omega) (by omega)

set_option maxRecDepth 100000 in
set_option maxHeartbeats 12800000 in
theorem escape_any (s : ByteArray) (css : Bool) (w : World) (hs : s.size ≤ 100000000) :
    Calls Tryd.prog 82 #[.string s, .bool css] w fun e w' => e = .returned (.int .i64 (Pl.escOf css s.data.toList)) ∧ w = w' := by
  go_enter Tryd.func82, Tryd.ntmps82
  go_wp2
  go_loop [5, 6] (fun l i => ∃ k : Nat, k ≤ s.size ∧ i = .int .i64 k ∧ l = .int .i64 (Pl.escOf css (s.data.toList.take k))) (fun _ i => s.size - (intOf i).toNat)
  case atStart => exact ⟨0, Nat.zero_le _, rfl, rfl⟩
  case round =>
    obtain ⟨k, hk, rfl, rfl⟩ := hrel
    by_cases hlt : k < s.size
    · have HS := (show Hid _ from escOf_at css s k hlt)
      have hr := escOf_range css (s.data.toList.take k)
      generalize Pl.escOf css (s.data.toList.take k) = l at HS hr ⊢
      obtain ⟨hr0, hr6⟩ := hr
      by_cases hh : Pl.among s[k] Pl.hexDigits = true
      · by_cases h1 : l = 1
        · subst h1
          cases css
          · go_wp2_with (go_at_call 48; refine (amongL s[k] _ Pl.hexDigits _ rfl (by decide)).mono ?_; rintro e w' ⟨rfl, rfl⟩)
            all_goals
              go_round
              case rel => exact ⟨k + 1, by omega, by go_num, by rw [HS.out]; unfold Pl.escStep; first | (have e := is_byte s[k] 120 ‹_›; rw [e]; rfl) | (have e := is_byte s[k] 117 ‹_›; rw [e]; rfl) | (have n1 := not_byte s[k] 120 ‹_›; have n2 := not_byte s[k] 117 ‹_›; simp [n1, n2])⟩
              case measure => simp [intOf]; omega
          · go_wp2_with (go_at_call 48; refine (amongL s[k] _ Pl.hexDigits _ rfl (by decide)).mono ?_; rintro e w' ⟨rfl, rfl⟩)
            all_goals
              go_round
              case rel => exact ⟨k + 1, by omega, by go_num, by rw [HS.out]; unfold Pl.escStep; simp [hh]⟩
              case measure => simp [intOf]; omega
        · have h1' : (l == 1) = false := beq_eq_false_iff_ne.2 h1
          by_cases h2 : 1 < l
          · go_wp2_with (go_at_call 48; refine (amongL s[k] _ Pl.hexDigits _ rfl (by decide)).mono ?_; rintro e w' ⟨rfl, rfl⟩)
            all_goals
              go_round
              case rel => exact ⟨k + 1, by omega, by go_num, by rw [HS.out]; unfold Pl.escStep; rw [if_neg h1, if_pos ⟨h2, hh⟩]; first | (rw [if_pos (beq_iff_eq.1 ‹(l - 1 == 1) = true›)]) | (rw [if_neg (beq_eq_false_iff_ne.1 ‹(l - 1 == 1) = false›)])⟩
              case measure => simp [intOf]; omega
          · have h2' : decide (1 < l) = false := decide_eq_false h2
            go_wp2_with (go_at_call 48; refine (amongL s[k] _ Pl.hexDigits _ rfl (by decide)).mono ?_; rintro e w' ⟨rfl, rfl⟩)
            all_goals
              go_round
              case rel => exact ⟨k + 1, by omega, by go_num, by rw [HS.out]; unfold Pl.escStep; rw [if_neg h1, if_neg (fun q => absurd q.1 (by omega))]; first | (rw [if_pos (is_byte s[k] 92 ‹_›)]) | (rw [if_neg (not_byte s[k] 92 ‹_›)])⟩
              case measure => simp [intOf]; omega
      · have hh := Bool.eq_false_iff.2 hh
        by_cases h1 : l = 1
        · subst h1
          cases css
          · go_wp2_with (go_at_call 48; refine (amongL s[k] _ Pl.hexDigits _ rfl (by decide)).mono ?_; rintro e w' ⟨rfl, rfl⟩)
            all_goals
              go_round
              case rel => exact ⟨k + 1, by omega, by go_num, by rw [HS.out]; unfold Pl.escStep; first | (have e := is_byte s[k] 120 ‹_›; rw [e]; rfl) | (have e := is_byte s[k] 117 ‹_›; rw [e]; rfl) | (have n1 := not_byte s[k] 120 ‹_›; have n2 := not_byte s[k] 117 ‹_›; simp [n1, n2])⟩
              case measure => simp [intOf]; omega
          · go_wp2_with (go_at_call 48; refine (amongL s[k] _ Pl.hexDigits _ rfl (by decide)).mono ?_; rintro e w' ⟨rfl, rfl⟩)
            all_goals
              go_round
              case rel => exact ⟨k + 1, by omega, by go_num, by rw [HS.out]; unfold Pl.escStep; simp [hh]⟩
              case measure => simp [intOf]; omega
        · have h1' : (l == 1) = false := beq_eq_false_iff_ne.2 h1
          go_wp2_with (go_at_call 48; refine (amongL s[k] _ Pl.hexDigits _ rfl (by decide)).mono ?_; rintro e w' ⟨rfl, rfl⟩)
          all_goals
            go_round
            case rel => exact ⟨k + 1, by omega, by go_num, by rw [HS.out]; unfold Pl.escStep; rw [if_neg h1, if_neg (fun q => by rw [hh] at q; cases q.2)]; first | (rw [if_pos (is_byte s[k] 92 ‹_›)]) | (rw [if_neg (not_byte s[k] 92 ‹_›)])⟩
            case measure => simp [intOf]; omega
    · go_wp2
      go_ret
      exact ⟨ret_int (by rw [Pl.take_all s k (by omega)]), rfl⟩
end Go.Proofs.YtfkhljmiehdgmaaDoor

/-
  The walks of the document's answer on pages: what is kept of a run; the end of an element; elements; how far a link is.
-/
namespace Go.Proofs.YtfkhljmiehdgmaaDoor
open Go.RowKit

set_option maxRecDepth 100000 in
set_option maxHeartbeats 3200000 in
theorem kept_any (m : Int) (s : ByteArray) (w : World) (hs : s.size ≤ 100000000) :
    Calls Tryd.prog 83 #[.int .i64 m, .string s] w fun e w' => e = .returned (.string ⟨(Pl.kept m s.data.toList).toArray⟩) ∧ w = w' := by
  have HI := (show Hid _ from fun w => isString_any m w)
  have HE := (show Hid _ from fun w => escape_any s (Pl.sheetly m) w hs)
  have HR := (show Hid _ from fun w => reference_any s w hs)
  have HK : Hid (Pl.kept m s.data.toList = _) := show Pl.kept m s.data.toList = (if Pl.isStr m = true then (if Pl.escOf (Pl.sheetly m) s.data.toList = 0 then [] else s.data.toList)
    else if Pl.refer s.data.toList = true then [38] else if m = 1 ∨ m = 19 then [] else if 2 < s.data.toList.length then s.data.toList.drop (s.data.toList.length - 2) else s.data.toList) from rfl
  have hsh : Pl.sheetly m = decide (28 ≤ m) := rfl
  generalize Pl.escOf (Pl.sheetly m) s.data.toList = l at HE HK
  generalize Pl.isStr m = I at HI HK
  generalize Pl.refer s.data.toList = R at HR HK
  rw [hsh] at HE
  clear hsh
  cases I
  · cases R
    · by_cases hm : m = 1 ∨ m = 19
      · have HV : Hid (Pl.kept m s.data.toList = []) := by show _ = _; rw [HK.out, if_neg (by simp), if_neg (by simp), if_pos hm]
        clear HK
        rcases hm with rfl | rfl
        all_goals
          go_enter Tryd.func83, Tryd.ntmps83
          go_wp2_with (first | (go_at_call 81; refine (HI.out _).mono ?_; rintro e w' ⟨rfl, rfl⟩) | (go_at_call 97; refine (HR.out _).mono ?_; rintro e w' ⟨rfl, rfl⟩))
          go_ret
          exact ⟨ret_str (by rw [HV.out]), rfl⟩
      · have m1 : (m == 1) = false := beq_eq_false_iff_ne.2 (fun q => hm (.inl q))
        have m2 : (m == 19) = false := beq_eq_false_iff_ne.2 (fun q => hm (.inr q))
        by_cases h2 : 2 < s.size
        · have HV : Hid (Pl.kept m s.data.toList = s.data.toList.drop (s.size - 2)) := by show _ = _; rw [HK.out, if_neg (by simp), if_neg (by simp), if_neg hm, if_pos (by show 2 < s.data.toList.length; exact h2)]; rfl
          have hi : (2 : Int) < (s.size : Int) := by omega
          clear HK hm
          go_enter Tryd.func83, Tryd.ntmps83
          go_wp2_with (first | (go_at_call 81; refine (HI.out _).mono ?_; rintro e w' ⟨rfl, rfl⟩) | (go_at_call 97; refine (HR.out _).mono ?_; rintro e w' ⟨rfl, rfl⟩))
          go_ret
          exact ⟨ret_str (by rw [HV.out]; exact Pl.extract_drop s _), rfl⟩
        · have HV : Hid (Pl.kept m s.data.toList = s.data.toList) := by show _ = _; rw [HK.out, if_neg (by simp), if_neg (by simp), if_neg hm, if_neg (by show ¬ 2 < s.data.toList.length; exact h2)]
          clear HK hm
          go_enter Tryd.func83, Tryd.ntmps83
          go_wp2_with (first | (go_at_call 81; refine (HI.out _).mono ?_; rintro e w' ⟨rfl, rfl⟩) | (go_at_call 97; refine (HR.out _).mono ?_; rintro e w' ⟨rfl, rfl⟩))
          go_ret
          exact ⟨ret_str (by rw [HV.out]), rfl⟩
    · have HV : Hid (Pl.kept m s.data.toList = [38]) := by show _ = _; rw [HK.out, if_neg (by simp), if_pos rfl]
      clear HK
      go_enter Tryd.func83, Tryd.ntmps83
      go_wp2_with (first | (go_at_call 81; refine (HI.out _).mono ?_; rintro e w' ⟨rfl, rfl⟩) | (go_at_call 97; refine (HR.out _).mono ?_; rintro e w' ⟨rfl, rfl⟩))
      go_ret
      exact ⟨ret_str (by rw [HV.out]), rfl⟩
  · by_cases hl : l = 0
    · have HV : Hid (Pl.kept m s.data.toList = []) := by show _ = _; rw [HK.out, if_pos rfl, if_pos hl]
      subst hl
      clear HK
      go_enter Tryd.func83, Tryd.ntmps83
      go_wp2_with (first | (go_at_call 81; refine (HI.out _).mono ?_; rintro e w' ⟨rfl, rfl⟩) | (go_at_call 82; refine (HE.out _).mono ?_; rintro e w' ⟨rfl, rfl⟩))
      go_ret
      exact ⟨ret_str (by rw [HV.out]), rfl⟩
    · have HV : Hid (Pl.kept m s.data.toList = s.data.toList) := by show _ = _; rw [HK.out, if_pos rfl, if_neg hl]
      have hl' : (l == 0) = false := beq_eq_false_iff_ne.2 hl
      clear HK hl
      go_enter Tryd.func83, Tryd.ntmps83
      go_wp2_with (first | (go_at_call 81; refine (HI.out _).mono ?_; rintro e w' ⟨rfl, rfl⟩) | (go_at_call 82; refine (HE.out _).mono ?_; rintro e w' ⟨rfl, rfl⟩))
      go_ret
      exact ⟨ret_str (by rw [HV.out]), rfl⟩

set_option maxRecDepth 100000 in
set_option maxHeartbeats 1600000 in
theorem spFarther_any (f : Int) (b : UInt8) (w : World) :
    Calls Tryd.prog 87 #[.int .i64 f, .int .u8 b.toNat] w fun e w' => e = .returned (.int .i64 (Pl.farther f b)) ∧ w = w' := by
  by_cases h47 : b = 47
  · subst h47
    have HV : Hid (Pl.farther f 47 = 1) := by show _ = _; unfold Pl.farther; simp
    go_enter Tryd.func87, Tryd.ntmps87
    go_wp2
    go_ret
    exact ⟨ret_int (by rw [HV.out]), rfl⟩
  have e47 : ((b.toNat : Int) == 47) = false := (Pl.beq8n b 47 (by omega)).trans (by rw [beq_eq_false_iff_ne]; exact h47)
  by_cases h63 : b = 63
  · subst h63
    have HV : Hid (Pl.farther f 63 = 1) := by show _ = _; unfold Pl.farther; simp
    go_enter Tryd.func87, Tryd.ntmps87
    go_wp2
    go_ret
    exact ⟨ret_int (by rw [HV.out]), rfl⟩
  have e63 : ((b.toNat : Int) == 63) = false := (Pl.beq8n b 63 (by omega)).trans (by rw [beq_eq_false_iff_ne]; exact h63)
  by_cases h35 : b = 35
  · subst h35
    have HV : Hid (Pl.farther f 35 = 1) := by show _ = _; unfold Pl.farther; simp
    go_enter Tryd.func87, Tryd.ntmps87
    go_wp2
    go_ret
    exact ⟨ret_int (by rw [HV.out]), rfl⟩
  have e35 : ((b.toNat : Int) == 35) = false := (Pl.beq8n b 35 (by omega)).trans (by rw [beq_eq_false_iff_ne]; exact h35)
  by_cases h58 : b = 58 ∧ ¬ f = 4
  · obtain ⟨rfl, h4⟩ := h58
    have h4' : (f != 4) = true := by rw [bne_iff_ne]; exact h4
    have HV : Hid (Pl.farther f 58 = 1) := by show _ = _; unfold Pl.farther; simp [h4']
    clear h4
    go_enter Tryd.func87, Tryd.ntmps87
    go_wp2
    go_ret
    exact ⟨ret_int (by rw [HV.out]), rfl⟩
  have hF : Pl.farther f b = if f = 2 then 3 else f := by
    unfold Pl.farther
    rw [if_neg]
    simp only [Bool.or_eq_true, beq_iff_eq, Bool.and_eq_true, bne_iff_ne, ne_eq, not_or]
    exact ⟨h47, h63, h35, h58⟩
  have e58 : (((b.toNat : Int) == 58) = false) ∨ (((b.toNat : Int) == 58) = true ∧ f = 4) := by
    by_cases q : b = 58
    · right
      refine ⟨(Pl.beq8n b 58 (by omega)).trans (by rw [beq_iff_eq]; exact q), ?_⟩
      exact Decidable.byContradiction fun r => h58 ⟨q, r⟩
    · left; exact (Pl.beq8n b 58 (by omega)).trans (by rw [beq_eq_false_iff_ne]; exact q)
  clear h47 h63 h35 h58
  rcases e58 with e58 | ⟨e58, rfl⟩
  · by_cases h2 : f = 2
    · have HV : Hid (Pl.farther f b = 3) := by show _ = _; rw [hF, if_pos h2]
      clear hF
      subst h2
      go_enter Tryd.func87, Tryd.ntmps87
      go_wp2
      go_ret
      exact ⟨ret_int (by rw [HV.out]), rfl⟩
    · have HV : Hid (Pl.farther f b = f) := by show _ = _; rw [hF, if_neg h2]
      have h2' : (f == 2) = false := beq_eq_false_iff_ne.2 h2
      clear hF h2
      go_enter Tryd.func87, Tryd.ntmps87
      go_wp2
      go_ret
      exact ⟨ret_int (by rw [HV.out]), rfl⟩
  · have HV : Hid (Pl.farther 4 b = 4) := by show _ = _; rw [hF]; rfl
    clear hF
    go_enter Tryd.func87, Tryd.ntmps87
    go_wp2
    go_ret
    exact ⟨ret_int (by rw [HV.out]), rfl⟩

theorem elemNo_at (n : List UInt8) : Pl.elemNo n = if (Pl.titleN == n) = true then 1 else if (Pl.areaN == n) = true then 2 else if (Pl.scriptN == n) = true then 3 else if (Pl.styleN == n) = true then 4 else 0 := by
  have e : ∀ l : List UInt8, (n = l) = ((l == n) = true) := fun l => propext (by rw [beq_iff_eq]; exact eq_comm)
  unfold Pl.elemNo
  simp only [e]
def elemCells4 : Obj := .cells #[.string ⟨#[116, 105, 116, 108, 101]⟩, .string ⟨#[116, 101, 120, 116, 97, 114, 101, 97]⟩, .string ⟨#[115, 99, 114, 105, 112, 116]⟩, .string ⟨#[115, 116, 121, 108, 101]⟩] 9

set_option maxRecDepth 100000 in
set_option maxHeartbeats 1600000 in
theorem elem_any (n : List UInt8) (w : World) :
    Calls Tryd.prog 100 #[.string ⟨n.toArray⟩] w fun e w' => e = .returned (.int .i64 (Pl.elemNo n : Nat)) ∧ w.alloc elemCells4 = w' := by
  have HE := (show Hid _ from elemNo_at n)
  unfold elemCells4
  go_enter Tryd.func100, Tryd.ntmps100
  go_wp2
  go_loop [4] (fun i => ∃ k : Nat, k ≤ 4 ∧ i = .int .i64 k ∧ (1 ≤ k → (Pl.titleN == n) = false) ∧ (2 ≤ k → (Pl.areaN == n) = false) ∧ (3 ≤ k → (Pl.scriptN == n) = false) ∧ (4 ≤ k → (Pl.styleN == n) = false)) (fun i => 4 - (intOf i).toNat)
  case atStart => exact ⟨0, by omega, rfl, by omega, by omega, by omega, by omega⟩
  case round =>
    obtain ⟨k, hk, rfl, h1, h2, h3, h4⟩ := hrel
    have H1 : Hid (1 ≤ k → (Pl.titleN == n) = false) := h1
    have H2 : Hid (2 ≤ k → (Pl.areaN == n) = false) := h2
    have H3 : Hid (3 ≤ k → (Pl.scriptN == n) = false) := h3
    have H4 : Hid (4 ≤ k → (Pl.styleN == n) = false) := h4
    clear h1 h2 h3 h4
    rcases (show k = 0 ∨ k = 1 ∨ k = 2 ∨ k = 3 ∨ k = 4 by omega) with rfl | rfl | rfl | rfl | rfl
    · by_cases hq : ([116, 105, 116, 108, 101] == n) = true
      · have HV : Hid (Pl.elemNo n = 1) := by show _ = _; rw [HE.out, if_pos (show (Pl.titleN == n) = true from hq)]
        go_wp2
        go_ret
        exact ⟨ret_int (by rw [HV.out]; rfl), rfl⟩
      · have hq := Bool.eq_false_iff.2 hq
        have HQ : Hid ((Pl.titleN == n) = false) := hq
        go_wp2
        go_round
        case rel => exact ⟨1, by omega, rfl, fun _ => HQ.out, by omega, by omega, by omega⟩
        case measure => simp [intOf]
    · by_cases hq : ([116, 101, 120, 116, 97, 114, 101, 97] == n) = true
      · have HV : Hid (Pl.elemNo n = 2) := by show _ = _; rw [HE.out, H1.out (by omega), if_neg (by simp), if_pos (show (Pl.areaN == n) = true from hq)]
        go_wp2
        go_ret
        exact ⟨ret_int (by rw [HV.out]; rfl), rfl⟩
      · have hq := Bool.eq_false_iff.2 hq
        have HQ : Hid ((Pl.areaN == n) = false) := hq
        go_wp2
        go_round
        case rel => exact ⟨2, by omega, rfl, fun _ => H1.out (by omega), fun _ => HQ.out, by omega, by omega⟩
        case measure => simp [intOf]
    · by_cases hq : ([115, 99, 114, 105, 112, 116] == n) = true
      · have HV : Hid (Pl.elemNo n = 3) := by show _ = _; rw [HE.out, H1.out (by omega), if_neg (by simp), H2.out (by omega), if_neg (by simp), if_pos (show (Pl.scriptN == n) = true from hq)]
        go_wp2
        go_ret
        exact ⟨ret_int (by rw [HV.out]; rfl), rfl⟩
      · have hq := Bool.eq_false_iff.2 hq
        have HQ : Hid ((Pl.scriptN == n) = false) := hq
        go_wp2
        go_round
        case rel => exact ⟨3, by omega, rfl, fun _ => H1.out (by omega), fun _ => H2.out (by omega), fun _ => HQ.out, by omega⟩
        case measure => simp [intOf]
    · by_cases hq : ([115, 116, 121, 108, 101] == n) = true
      · have HV : Hid (Pl.elemNo n = 4) := by show _ = _; rw [HE.out, H1.out (by omega), if_neg (by simp), H2.out (by omega), if_neg (by simp), H3.out (by omega), if_neg (by simp), if_pos (show (Pl.styleN == n) = true from hq)]
        go_wp2
        go_ret
        exact ⟨ret_int (by rw [HV.out]; rfl), rfl⟩
      · have hq := Bool.eq_false_iff.2 hq
        have HQ : Hid ((Pl.styleN == n) = false) := hq
        go_wp2
        go_round
        case rel => exact ⟨4, by omega, rfl, fun _ => H1.out (by omega), fun _ => H2.out (by omega), fun _ => H3.out (by omega), fun _ => HQ.out⟩
        case measure => simp [intOf]
    · have HV : Hid (Pl.elemNo n = 0) := by show _ = _; rw [HE.out, H1.out (by omega), if_neg (by simp), H2.out (by omega), if_neg (by simp), H3.out (by omega), if_neg (by simp), H4.out (by omega), if_neg (by simp)]
      go_wp2
      go_ret
      exact ⟨ret_int (by rw [HV.out]; rfl), rfl⟩

theorem content_elem (n : List UInt8) : (Pl.elemNo n = 0 ∧ Pl.contentOf n = 1) ∨ (Pl.elemNo n = 1 ∧ Pl.contentOf n = 19) ∨ (Pl.elemNo n = 2 ∧ Pl.contentOf n = 19) ∨ (Pl.elemNo n = 3 ∧ Pl.contentOf n = 20) ∨ (Pl.elemNo n = 4 ∧ Pl.contentOf n = 28) := by
  unfold Pl.elemNo Pl.contentOf
  by_cases h1 : n = Pl.titleN
  · rw [if_pos h1, if_pos h1]; simp
  rw [if_neg h1, if_neg h1]
  by_cases h2 : n = Pl.areaN
  · rw [if_pos h2, if_pos h2]; simp
  rw [if_neg h2, if_neg h2]
  by_cases h3 : n = Pl.scriptN
  · rw [if_pos h3, if_pos h3]; simp
  rw [if_neg h3, if_neg h3]
  by_cases h4 : n = Pl.styleN
  · rw [if_pos h4, if_pos h4]; simp
  rw [if_neg h4, if_neg h4]
  simp

set_option maxRecDepth 100000 in
set_option maxHeartbeats 3200000 in
theorem inner_any (n : List UInt8) (w : World) :
    Calls Tryd.prog 85 #[.string ⟨n.toArray⟩] w fun e w' => e = .returned (.int .i64 (Pl.contentOf n : Nat)) ∧ Below w.heap.size w w' := by
  have hE := fun w => elem_any n w
  have hC := content_elem n
  generalize Pl.contentOf n = c at hC ⊢
  generalize Pl.elemNo n = k at hC hE
  unfold elemCells4 at hE
  rcases hC with ⟨rfl, rfl⟩ | ⟨rfl, rfl⟩ | ⟨rfl, rfl⟩ | ⟨rfl, rfl⟩ | ⟨rfl, rfl⟩
  all_goals
    have HE := (show Hid _ from hE)
    clear hE
    go_enter Tryd.func85, Tryd.ntmps85
    go_wp2_with (go_at_call 100; refine (HE.out _).mono ?_; rintro e w' ⟨rfl, rfl⟩)
    go_ret
    exact ⟨rfl, by repeat (first | exact Below.refl _ _ | refine Below.alloc ?_ (by simp <;> omega) _ | apply Below.drew)⟩

end Go.Proofs.YtfkhljmiehdgmaaDoor

/-
  The walk of the document's answer on pages: how much of an element's end stands at the end of what was read.
-/
namespace Go.Proofs.YtfkhljmiehdgmaaDoor
open Go.RowKit

/-- a spot, as a value -/
def spCells (p : Pl.Sp) : Array Value := #[.int .i64 p.mode, .string ⟨p.tag.toArray⟩, .string ⟨p.attr.toArray⟩, .string ⟨p.inside.toArray⟩, .string ⟨p.run.toArray⟩, .int .i64 p.far]
def spVal (p : Pl.Sp) : Value := .agg (spCells p)
/-- a spot in a block: its cells -/
structure SpAt (w : World) (g : Nat) (p : Pl.Sp) : Prop where
  mode : w.cell? ⟨g, 0, none⟩ = some (.int .i64 p.mode)
  tag : w.cell? ⟨g, 1, none⟩ = some (.string ⟨p.tag.toArray⟩)
  attr : w.cell? ⟨g, 2, none⟩ = some (.string ⟨p.attr.toArray⟩)
  inside : w.cell? ⟨g, 3, none⟩ = some (.string ⟨p.inside.toArray⟩)
  run : w.cell? ⟨g, 4, none⟩ = some (.string ⟨p.run.toArray⟩)
  far : w.cell? ⟨g, 5, none⟩ = some (.int .i64 p.far)
theorem spAt_of {w : World} {g : Nat} {p : Pl.Sp} {t : TypeId} {fz : Nat × Nat} (h : w.heap[g]? = some (.cells (spCells p) t fz)) : SpAt w g p :=
  ⟨cells_at_block h 0 _ rfl, cells_at_block h 1 _ rfl, cells_at_block h 2 _ rfl, cells_at_block h 3 _ rfl, cells_at_block h 4 _ rfl, cells_at_block h 5 _ rfl⟩
theorem spAt_alloc (w : World) (p : Pl.Sp) (t : TypeId) : SpAt (w.alloc (.cells (spCells p) t)) w.heap.size p := spAt_of (heap_alloc_new w _)
theorem SpAt.kept {w w' : World} {B g : Nat} {p : Pl.Sp} (h : SpAt w g p) (hb : Below B w w') (hB : g < B) : SpAt w' g p :=
  ⟨(hb.cell (p := ⟨g, 0, none⟩) hB).trans h.mode, (hb.cell (p := ⟨g, 1, none⟩) hB).trans h.tag, (hb.cell (p := ⟨g, 2, none⟩) hB).trans h.attr, (hb.cell (p := ⟨g, 3, none⟩) hB).trans h.inside, (hb.cell (p := ⟨g, 4, none⟩) hB).trans h.run, (hb.cell (p := ⟨g, 5, none⟩) hB).trans h.far⟩

/-- so far the bytes are the same -/
def sameTo (l e : List UInt8) (k i : Nat) : Bool := ((l.drop k).take i).map Pl.small == e.take i
theorem sameTo_next (l e : List UInt8) (k i : Nat) (hl : k + i < l.length) (he : i < e.length) : sameTo l e k (i + 1) = (sameTo l e k i && Pl.small l[k + i] == e[i]) := by
  unfold sameTo
  rw [List.take_succ_eq_append_getElem (by rw [List.length_drop]; omega), List.take_succ_eq_append_getElem he, List.map_append, List.getElem_drop]
  rw [Bool.eq_iff_iff, beq_iff_eq, Bool.and_eq_true, beq_iff_eq, beq_iff_eq]
  constructor
  · intro h
    have := List.append_inj h (by rw [List.length_map, List.length_take, List.length_take, List.length_drop]; omega)
    exact ⟨this.1, by simpa using this.2⟩
  · rintro ⟨h1, h2⟩
    rw [h1, ← h2]; rfl
theorem rd_over {l e : List UInt8} {n : Nat} (h : l.length < n + 1) : Pl.rdFrom l e (n + 1) = Pl.rdFrom l e n := by
  show (if Pl.rdHit l e (n + 1) = true then _ else _) = _
  rw [if_neg]; unfold Pl.rdHit; simp; omega
theorem rd_hit {l e : List UInt8} {n : Nat} (h : n + 1 ≤ l.length) (hs : sameTo l e (l.length - (n + 1)) (n + 1) = true) : Pl.rdFrom l e (n + 1) = n + 1 := by
  show (if Pl.rdHit l e (n + 1) = true then _ else _) = _
  rw [if_pos]
  unfold Pl.rdHit
  unfold sameTo at hs
  rw [List.take_of_length_le (by rw [List.length_drop]; omega)] at hs
  rw [hs, decide_eq_true h]; rfl
theorem rd_miss {l e : List UInt8} {n : Nat} (h : n + 1 ≤ l.length) (hs : sameTo l e (l.length - (n + 1)) (n + 1) = false) : Pl.rdFrom l e (n + 1) = Pl.rdFrom l e n := by
  show (if Pl.rdHit l e (n + 1) = true then _ else _) = _
  rw [if_neg]
  unfold Pl.rdHit
  unfold sameTo at hs
  rw [List.take_of_length_le (by rw [List.length_drop]; omega)] at hs
  rw [hs, Bool.and_false]; simp

set_option maxRecDepth 100000 in
set_option maxHeartbeats 6400000 in
theorem read_any (p : Pl.Sp) (w : World) (ht : p.tag.length ≤ 1000) (hi : p.inside.length ≤ 1000) :
    Calls Tryd.prog 79 #[spVal p] w fun e w' => e = .returned (.int .i64 (p.read : Nat)) ∧ Below w.heap.size w w' := by
  have hzt : (ByteArray.mk p.tag.toArray).size = p.tag.length := by simp [ByteArray.size]
  have hzi : (ByteArray.mk p.inside.toArray).size = p.inside.length := by simp [ByteArray.size]
  have hE : (ByteArray.mk #[60, 47] ++ ByteArray.mk p.tag.toArray) = ⟨(Pl.spEnd p.tag).toArray⟩ := by apply ByteArray.ext; simp [Pl.spEnd]
  have hEb : (Pl.spEnd p.tag).length ≤ 1002 := by simp [Pl.spEnd]; omega
  have hzE : (ByteArray.mk (Pl.spEnd p.tag).toArray).size = (Pl.spEnd p.tag).length := by simp [ByteArray.size]
  have HV : Hid (p.read = Pl.rdFrom p.inside (Pl.spEnd p.tag) (Pl.spEnd p.tag).length) := rfl
  generalize p.read = R at HV ⊢
  unfold spVal spCells
  have hst := spAt_alloc w p 64
  unfold spCells at hst
  go_enter Tryd.func79, Tryd.ntmps79
  go_wp2_with fail
  clear hE
  generalize Pl.spEnd p.tag = E at HV hEb hzE ⊢
  have hq := hst.inside
  generalize p.inside = L at hzi hi HV hq ⊢
  have hb : Below w.heap.size w (w.alloc (.cells #[.int .i64 p.mode, .string ⟨p.tag.toArray⟩, .string ⟨p.attr.toArray⟩, .string ⟨L.toArray⟩, .string ⟨p.run.toArray⟩, .int .i64 p.far] 64)) := (Below.refl _ _).alloc (Nat.le_refl _) _
  generalize (w.alloc _) = W at hq hb ⊢
  generalize hG : w.heap.size = G at hq ⊢
  clear hzt ht hst
  go_loopw [4] (fun i wr => ∃ n : Nat, n ≤ E.length ∧ i = .int .i64 n ∧ Hid (R = Pl.rdFrom L E n) ∧ ∃ m, wr = W.drewN m) (fun i _ => (intOf i).toNat)
  case atStart => exact ⟨E.length, Nat.le_refl _, rfl, HV, 0, rfl⟩
  case round =>
    obtain ⟨n, hn, rfl, HN, m, rfl⟩ := hrel
    clear HV
    match n, hn with
    | 0, _ =>
      go_wp2
      go_ret
      exact ⟨ret_int (by rw [HN.out]; rfl), below_drewN hb _⟩
    | n + 1, hn =>
      have c1 : (0 : Int) < (n : Int) + 1 := by omega
      have cc : ((n + 1 : Nat) : Int) = (n : Int) + 1 := by omega
      rw [cc]
      by_cases hlt : L.length < n + 1
      · have d1 : (L.length : Int) - ((n : Int) + 1) < 0 := by omega
        have d0 : (n : Int) + 1 - 1 = (n : Int) := by omega
        go_wp2_with fail
        go_roundw
        case rel =>
          refine ⟨n, by omega, rfl, ?_, m, rfl⟩
          show _ = _
          rw [HN.out, rd_over hlt]
        case measure => simp [intOf]
      · have d1 : decide ((L.length : Int) - ((n : Int) + 1) < 0) = false := by rw [decide_eq_false_iff_not]; omega
        have d0 : (n : Int) + 1 - 1 = (n : Int) := by omega
        go_wp2_with fail
        obtain ⟨K, hK⟩ : ∃ K, L.length = K + (n + 1) := ⟨L.length - (n + 1), by omega⟩
        have eK : (L.length : Int) - ((n : Int) + 1) = (K : Int) := by omega
        have hKi : L.length - (n + 1) = K := by omega
        rw [eK]
        clear d1 eK
        have HK := (show Hid _ from hK)
        clear hK
        go_hide hQ
        have HQ := (show Hid _ from hQ)
        clear hQ
        go_loopw [6, 7] (fun sm i wr => ∃ i' : Nat, i' ≤ n + 1 ∧ i = .int .i64 i' ∧ sm = .bool (sameTo L E K i') ∧ Hid (∃ m', wr = W.drewN m')) (fun _ i _ => n + 1 - (intOf i).toNat)
        case atStart => exact ⟨0, Nat.zero_le _, rfl, by simp [sameTo], ⟨m, rfl⟩⟩
        case round =>
          obtain ⟨i', hi', rfl, rfl, HW⟩ := hrel
          have hq2 : wr.cell? ⟨G, 3, none⟩ = some (.string ⟨L.toArray⟩) := by obtain ⟨m', e⟩ := HW.out; rw [e]; exact hq
          have hbw : Below w.heap.size w wr := by obtain ⟨m', e⟩ := HW.out; rw [e]; exact below_drewN hb _
          by_cases hin : i' < n + 1
          · have hin' : (i' : Int) < (n : Int) + 1 := by omega
            have l1 : K + i' < L.length := by have := HK.out; omega
            have l2 : i' < E.length := by omega
            have HS := (show Hid _ from sameTo_next L E K i' l1 l2)
            by_cases hs : sameTo L E K i' = true
            · have b1 : (K : Int) + (i' : Int) < (L.length : Int) := by omega
              have b2 : (0 : Int) ≤ (K : Int) + (i' : Int) := by omega
              have b3 : ((K : Int) + (i' : Int)).toNat = K + i' := by omega
              have b4 : (i' : Int) < (E.length : Int) := by omega
              have b5 : K + i' ≤ 1000 := by omega
              have b6 : i' ≤ 1002 := by omega
              have bw : IntKind.i64.wrap ((K : Int) + (i' : Int)) = (K : Int) + (i' : Int) := by rw [IntKind.wrap_i64]; omega
              rw [hs]
              have HB := (show Hid _ from hs)
              clear hs
              go_wp2_with fail
              go_quiet ((go_at_call 50; refine quiet_same (small_any ((ByteArray.mk L.toArray)[K + i']'(by rw [hzi]; exact l1)) _)))
              go_wp2
              go_roundw
              case rel => exact ⟨i' + 1, by omega, by go_num, by rw [HS.out, HB.out, Bool.true_and]; exact congrArg Value.bool (Pl.beq8 _ _), by obtain ⟨m', e⟩ := HW.out; exact ⟨m' + nq, by rw [e]; simp [World.drewN, Nat.add_assoc]⟩⟩
              case measure => simp [intOf]; omega
            · have hs := Bool.eq_false_iff.2 hs
              rw [hs]
              have HB := (show Hid _ from hs)
              clear hs
              go_wp2_with fail
              go_quiet (fail)
              go_wp2
              go_roundw
              case rel => exact ⟨i' + 1, by omega, by go_num, by rw [HS.out, HB.out]; rfl, by obtain ⟨m', e⟩ := HW.out; exact ⟨m' + nq, by rw [e]; simp [World.drewN, Nat.add_assoc]⟩⟩
              case measure => simp [intOf]; omega
          · have hin' : decide ((i' : Int) < (n : Int) + 1) = false := by rw [decide_eq_false_iff_not]; omega
            obtain rfl : i' = n + 1 := by omega
            by_cases hs : sameTo L E K (n + 1) = true
            · have HF : Hid (R = n + 1) := by show _ = _; rw [HN.out]; exact rd_hit (by have := HK.out; omega) (by rw [hKi]; exact hs)
              rw [hs]
              clear hs
              go_wp2_with fail
              rw [← HQ.out]
              go_wp2_with fail
              go_ret
              exact ⟨ret_int (by rw [HF.out]; rfl), hbw⟩
            · have hs := Bool.eq_false_iff.2 hs
              have HF : Hid (R = Pl.rdFrom L E n) := by show _ = _; rw [HN.out]; exact rd_miss (by have := HK.out; omega) (by rw [hKi]; exact hs)
              rw [hs]
              clear hs
              go_wp2_with fail
              rw [← HQ.out]
              go_wp2_with fail
              go_roundw
              case rel => exact ⟨n, by omega, rfl, HF, HW.out⟩
              case measure => simp [intOf]

end Go.Proofs.YtfkhljmiehdgmaaDoor

/-
  The walk of the document's answer on pages: what is known of names.
-/
namespace Go.Proofs.YtfkhljmiehdgmaaDoor
open Go.RowKit

theorem one_here (x : UInt8) (w : World) (g : Nat) (hg : w.heap.size = g) : (convert 41 9 (.slice (some ⟨g, 0, none⟩) 1 1)).run Tryd.prog (w.alloc (.cells #[.int .u8 x.toNat] 5)) = .ok (.string ⟨#[x]⟩) (w.alloc (.cells #[.int .u8 x.toNat] 5)) := by
  subst hg
  refine run_convert_bytes_back _ 41 9 5 ⟨w.heap.size, 0, none⟩ 1 [x] Tryd.underlying41 Tryd.underlying5 Tryd.underlying9 ?_
  intro j hj
  match j, hj with
  | 0, _ => simp [Addr.add]

theorem hp2_0 (w : World) (a b : Obj) : ((w.alloc a).alloc b).heap[w.heap.size + 1]? = some b := by
  have := heap_alloc_new (w.alloc a) b
  simpa using this
theorem hp2_1 (w : World) (a b c : Obj) : (((w.alloc a).alloc b).alloc c).heap[w.heap.size + 1]? = some b := (heap_alloc_old _ _ (by simp)).trans (hp2_0 w a b)
theorem hp2_2 (w : World) (a b c d : Obj) : ((((w.alloc a).alloc b).alloc c).alloc d).heap[w.heap.size + 1]? = some b := (heap_alloc_old _ _ (by simp)).trans (hp2_1 w a b c)
theorem hp2_3 (w : World) (a b c d e : Obj) : (((((w.alloc a).alloc b).alloc c).alloc d).alloc e).heap[w.heap.size + 1]? = some b := (heap_alloc_old _ _ (by simp)).trans (hp2_2 w a b c d)
theorem hp2_4 (w : World) (a b c d e f : Obj) : ((((((w.alloc a).alloc b).alloc c).alloc d).alloc e).alloc f).heap[w.heap.size + 1]? = some b := (heap_alloc_old _ _ (by simp)).trans (hp2_3 w a b c d e)
theorem hp2_5 (w : World) (a b c d e f g : Obj) : (((((((w.alloc a).alloc b).alloc c).alloc d).alloc e).alloc f).alloc g).heap[w.heap.size + 1]? = some b := (heap_alloc_old _ _ (by simp)).trans (hp2_4 w a b c d e f)
theorem heap_drew (w : World) : w.drew.heap = w.heap := rfl
theorem one_drew (x : UInt8) (w : World) (g : Nat) (hg : w.heap.size = g) : (convert 41 9 (.slice (some ⟨g, 0, none⟩) 1 1)).run Tryd.prog (w.alloc (.cells #[.int .u8 x.toNat] 5)).drew = .ok (.string ⟨#[x]⟩) (w.alloc (.cells #[.int .u8 x.toNat] 5)).drew := by
  subst hg
  refine run_convert_bytes_back _ 41 9 5 ⟨w.heap.size, 0, none⟩ 1 [x] Tryd.underlying41 Tryd.underlying5 Tryd.underlying9 ?_
  intro j hj
  match j, hj with
  | 0, _ => simp [Addr.add]
theorem first_app (l : List UInt8) (x : UInt8) (w : World) (hl : l.length ≤ 1000) :
    Calls Tryd.prog 101 #[.string (ByteArray.mk l.toArray ++ ByteArray.mk #[x])] w fun e w' => e = .returned (.string ⟨(Pl.first9 (l ++ [x])).toArray⟩) ∧ w = w' := by
  have h := first_any (ByteArray.mk l.toArray ++ ByteArray.mk #[x]) w (by rw [ByteArray.size_append]; simp [ByteArray.size]; omega)
  rw [show (ByteArray.mk l.toArray ++ ByteArray.mk #[x]).data.toList = l ++ [x] by simp] at h
  exact h

set_option maxRecDepth 100000 in
set_option maxHeartbeats 3200000 in
theorem spNamed_high (p : Pl.Sp) (m : Nat) (b : UInt8) (to : Int) (w : World) (hpm : p.mode = m) (hto : 19 ≤ to) :
    Calls Tryd.prog 86 #[spVal p, .int .u8 b.toNat, .int .i64 to] w fun e w' => e = .returned (spVal (p.named m b to)) ∧ Below w.heap.size w w' := by
  have HV : Hid (p.named m b to = ⟨0, p.tag, [], p.inside, [], 0⟩) := by show _ = _; unfold Pl.Sp.named; rw [if_pos hto]
  rw [HV.out]
  unfold spVal spCells
  go_enter Tryd.func86, Tryd.ntmps86
  go_wp2_with fail
  refine bodyPost_cell Tryd.results86 (w.heap.size + 1) _ _ Tryd.underlying64 rfl rfl (by exact hp2_1 w _ _ _) (by kernel_rfl) rfl ?_
  exact ⟨rfl, (by repeat (first | refine Below.alloc ?_ (by simp <;> omega) _ | exact Below.refl _ _))⟩

set_option maxRecDepth 100000 in
set_option maxHeartbeats 3200000 in
theorem spNamed_3a (p : Pl.Sp) (m : Nat) (b : UInt8) (w : World) (hpm : p.mode = m) (hm : m = 2) (ht : p.tag.length ≤ 1000) :
    Calls Tryd.prog 86 #[spVal p, .int .u8 b.toNat, .int .i64 3] w fun e w' => e = .returned (spVal (p.named m b 3)) ∧ Below w.heap.size w w' := by
  have HV : Hid (p.named m b 3 = ⟨0, [Pl.small b], [], p.inside, [], 0⟩) := by show _ = _; unfold Pl.Sp.named; rw [if_neg (by omega), if_pos rfl, if_pos hm]
  rw [HV.out]
  unfold spVal spCells
  rw [hpm, hm]
  clear hpm
  have hz : (ByteArray.mk p.tag.toArray).size = p.tag.length := by simp [ByteArray.size]
  have hz2 : (ByteArray.mk p.attr.toArray).size = p.attr.length := by simp [ByteArray.size]
  have cd3 := fun a b' c => one_drew (Pl.small b) (((w.alloc a).alloc b').alloc c) (w.heap.size + 1 + 1 + 1) (by simp)
  have cd4 := fun a b' c d => one_drew (Pl.small b) ((((w.alloc a).alloc b').alloc c).alloc d) (w.heap.size + 1 + 1 + 1 + 1) (by simp)
  have cv3 := fun a b' c => one_here (Pl.small b) (((w.alloc a).alloc b').alloc c) (w.heap.size + 1 + 1 + 1) (by simp)
  have cv4 := fun a b' c d => one_here (Pl.small b) ((((w.alloc a).alloc b').alloc c).alloc d) (w.heap.size + 1 + 1 + 1 + 1) (by simp)
  go_enter Tryd.func86, Tryd.ntmps86
  go_wp2_with fail
  first | go_region_with (first | (go_at_call 50; refine (small_any b _).mono ?_; rintro e w' ⟨rfl, rfl⟩) | (go_at_call 101; refine (first_app p.tag (Pl.small b) _ ht).mono ?_; rintro e w' ⟨rfl, rfl⟩)) | fail
  all_goals
    go_wp2_with fail
    refine (small_any b _).mono ?_
    rintro e w' ⟨rfl, rfl⟩
    go_wp2_with fail
    refine bodyPost_cell Tryd.results86 (w.heap.size + 1) _ _ Tryd.underlying64 rfl rfl (by rw [heap_drew]; exact hp2_3 w _ _ _ _ _) (by kernel_rfl) rfl ?_
    exact ⟨rfl, Below.drew (by repeat (first | refine Below.alloc ?_ (by simp <;> omega) _ | exact Below.refl _ _))⟩

set_option maxRecDepth 100000 in
set_option maxHeartbeats 3200000 in
theorem spNamed_3b (p : Pl.Sp) (m : Nat) (b : UInt8) (w : World) (hpm : p.mode = m) (hm : ¬ m = 2) (ht : p.tag.length ≤ 1000) :
    Calls Tryd.prog 86 #[spVal p, .int .u8 b.toNat, .int .i64 3] w fun e w' => e = .returned (spVal (p.named m b 3)) ∧ Below w.heap.size w w' := by
  have HV : Hid (p.named m b 3 = ⟨0, Pl.first9 (p.tag ++ [Pl.small b]), [], p.inside, [], 0⟩) := by show _ = _; unfold Pl.Sp.named; rw [if_neg (by omega), if_pos rfl, if_neg hm]
  rw [HV.out]
  unfold spVal spCells
  rw [hpm]
  have hm' : ((m : Int) == 2) = false := by rw [beq_eq_false_iff_ne]; omega
  clear hpm hm
  have hz : (ByteArray.mk p.tag.toArray).size = p.tag.length := by simp [ByteArray.size]
  have hz2 : (ByteArray.mk p.attr.toArray).size = p.attr.length := by simp [ByteArray.size]
  have cd3 := fun a b' c => one_drew (Pl.small b) (((w.alloc a).alloc b').alloc c) (w.heap.size + 1 + 1 + 1) (by simp)
  have cd4 := fun a b' c d => one_drew (Pl.small b) ((((w.alloc a).alloc b').alloc c).alloc d) (w.heap.size + 1 + 1 + 1 + 1) (by simp)
  have cv3 := fun a b' c => one_here (Pl.small b) (((w.alloc a).alloc b').alloc c) (w.heap.size + 1 + 1 + 1) (by simp)
  have cv4 := fun a b' c d => one_here (Pl.small b) ((((w.alloc a).alloc b').alloc c).alloc d) (w.heap.size + 1 + 1 + 1 + 1) (by simp)
  go_enter Tryd.func86, Tryd.ntmps86
  go_wp2_with fail
  first | go_region_with (first | (go_at_call 50; refine (small_any b _).mono ?_; rintro e w' ⟨rfl, rfl⟩) | (go_at_call 101; refine (first_app p.tag (Pl.small b) _ ht).mono ?_; rintro e w' ⟨rfl, rfl⟩)) | fail
  all_goals
    go_wp2_with fail
    refine bodyPost_cell Tryd.results86 (w.heap.size + 1) _ _ Tryd.underlying64 rfl rfl (by rw [heap_drew]; exact hp2_2 w _ _ _ _) (by kernel_rfl) rfl ?_
    exact ⟨rfl, Below.drew (by repeat (first | refine Below.alloc ?_ (by simp <;> omega) _ | exact Below.refl _ _))⟩

set_option maxRecDepth 100000 in
set_option maxHeartbeats 3200000 in
theorem spNamed_5a (p : Pl.Sp) (m : Nat) (b : UInt8) (w : World) (hpm : p.mode = m) (hm : m = 5) (ht : p.attr.length ≤ 1000) :
    Calls Tryd.prog 86 #[spVal p, .int .u8 b.toNat, .int .i64 5] w fun e w' => e = .returned (spVal (p.named m b 5)) ∧ Below w.heap.size w w' := by
  have HV : Hid (p.named m b 5 = ⟨0, p.tag, Pl.first9 (p.attr ++ [Pl.small b]), p.inside, [], 0⟩) := by show _ = _; unfold Pl.Sp.named; rw [if_neg (by omega), if_neg (by omega), if_pos rfl, if_pos hm]
  rw [HV.out]
  unfold spVal spCells
  rw [hpm, hm]
  clear hpm
  have hz : (ByteArray.mk p.tag.toArray).size = p.tag.length := by simp [ByteArray.size]
  have hz2 : (ByteArray.mk p.attr.toArray).size = p.attr.length := by simp [ByteArray.size]
  have cd3 := fun a b' c => one_drew (Pl.small b) (((w.alloc a).alloc b').alloc c) (w.heap.size + 1 + 1 + 1) (by simp)
  have cd4 := fun a b' c d => one_drew (Pl.small b) ((((w.alloc a).alloc b').alloc c).alloc d) (w.heap.size + 1 + 1 + 1 + 1) (by simp)
  have cv3 := fun a b' c => one_here (Pl.small b) (((w.alloc a).alloc b').alloc c) (w.heap.size + 1 + 1 + 1) (by simp)
  have cv4 := fun a b' c d => one_here (Pl.small b) ((((w.alloc a).alloc b').alloc c).alloc d) (w.heap.size + 1 + 1 + 1 + 1) (by simp)
  go_enter Tryd.func86, Tryd.ntmps86
  go_wp2_with fail
  first | go_region_with (first | (go_at_call 50; refine (small_any b _).mono ?_; rintro e w' ⟨rfl, rfl⟩) | (go_at_call 101; refine (first_app p.attr (Pl.small b) _ ht).mono ?_; rintro e w' ⟨rfl, rfl⟩)) | fail
  all_goals
    go_wp2_with fail
    refine bodyPost_cell Tryd.results86 (w.heap.size + 1) _ _ Tryd.underlying64 rfl rfl (by rw [heap_drew]; exact hp2_2 w _ _ _ _) (by kernel_rfl) rfl ?_
    exact ⟨rfl, Below.drew (by repeat (first | refine Below.alloc ?_ (by simp <;> omega) _ | exact Below.refl _ _))⟩

set_option maxRecDepth 100000 in
set_option maxHeartbeats 3200000 in
theorem spNamed_5b (p : Pl.Sp) (m : Nat) (b : UInt8) (w : World) (hpm : p.mode = m) (hm : ¬ m = 5) (ht : p.attr.length ≤ 1000) :
    Calls Tryd.prog 86 #[spVal p, .int .u8 b.toNat, .int .i64 5] w fun e w' => e = .returned (spVal (p.named m b 5)) ∧ Below w.heap.size w w' := by
  have HV : Hid (p.named m b 5 = ⟨0, p.tag, [Pl.small b], p.inside, [], 0⟩) := by show _ = _; unfold Pl.Sp.named; rw [if_neg (by omega), if_neg (by omega), if_pos rfl, if_neg hm]
  rw [HV.out]
  unfold spVal spCells
  rw [hpm]
  have hm' : ((m : Int) != 5) = true := by rw [bne_iff_ne]; omega
  clear hpm hm
  have hz : (ByteArray.mk p.tag.toArray).size = p.tag.length := by simp [ByteArray.size]
  have hz2 : (ByteArray.mk p.attr.toArray).size = p.attr.length := by simp [ByteArray.size]
  have cd3 := fun a b' c => one_drew (Pl.small b) (((w.alloc a).alloc b').alloc c) (w.heap.size + 1 + 1 + 1) (by simp)
  have cd4 := fun a b' c d => one_drew (Pl.small b) ((((w.alloc a).alloc b').alloc c).alloc d) (w.heap.size + 1 + 1 + 1 + 1) (by simp)
  have cv3 := fun a b' c => one_here (Pl.small b) (((w.alloc a).alloc b').alloc c) (w.heap.size + 1 + 1 + 1) (by simp)
  have cv4 := fun a b' c d => one_here (Pl.small b) ((((w.alloc a).alloc b').alloc c).alloc d) (w.heap.size + 1 + 1 + 1 + 1) (by simp)
  go_enter Tryd.func86, Tryd.ntmps86
  go_wp2_with fail
  first | go_region_with (first | (go_at_call 50; refine (small_any b _).mono ?_; rintro e w' ⟨rfl, rfl⟩) | (go_at_call 101; refine (first_app p.attr (Pl.small b) _ ht).mono ?_; rintro e w' ⟨rfl, rfl⟩)) | fail
  all_goals
    go_wp2_with fail
    refine (small_any b _).mono ?_
    rintro e w' ⟨rfl, rfl⟩
    go_wp2_with fail
    refine bodyPost_cell Tryd.results86 (w.heap.size + 1) _ _ Tryd.underlying64 rfl rfl (by rw [heap_drew]; exact hp2_3 w _ _ _ _ _) (by kernel_rfl) rfl ?_
    exact ⟨rfl, Below.drew (by repeat (first | refine Below.alloc ?_ (by simp <;> omega) _ | exact Below.refl _ _))⟩

set_option maxRecDepth 100000 in
set_option maxHeartbeats 3200000 in
theorem spNamed_6 (p : Pl.Sp) (m : Nat) (b : UInt8) (w : World) (hpm : p.mode = m) :
    Calls Tryd.prog 86 #[spVal p, .int .u8 b.toNat, .int .i64 6] w fun e w' => e = .returned (spVal (p.named m b 6)) ∧ Below w.heap.size w w' := by
  have HV : Hid (p.named m b 6 = ⟨0, p.tag, p.attr, p.inside, [], 0⟩) := by show _ = _; unfold Pl.Sp.named; rw [if_neg (by omega), if_neg (by omega), if_neg (by omega), if_pos (by omega)]
  rw [HV.out]
  unfold spVal spCells
  go_enter Tryd.func86, Tryd.ntmps86
  go_wp2_with fail
  refine bodyPost_cell Tryd.results86 (w.heap.size + 1) _ _ Tryd.underlying64 rfl rfl (by exact hp2_1 w _ _ _) (by kernel_rfl) rfl ?_
  exact ⟨rfl, (by repeat (first | refine Below.alloc ?_ (by simp <;> omega) _ | exact Below.refl _ _))⟩

set_option maxRecDepth 100000 in
set_option maxHeartbeats 3200000 in
theorem spNamed_7 (p : Pl.Sp) (m : Nat) (b : UInt8) (w : World) (hpm : p.mode = m) :
    Calls Tryd.prog 86 #[spVal p, .int .u8 b.toNat, .int .i64 7] w fun e w' => e = .returned (spVal (p.named m b 7)) ∧ Below w.heap.size w w' := by
  have HV : Hid (p.named m b 7 = ⟨0, p.tag, p.attr, p.inside, [], 0⟩) := by show _ = _; unfold Pl.Sp.named; rw [if_neg (by omega), if_neg (by omega), if_neg (by omega), if_pos (by omega)]
  rw [HV.out]
  unfold spVal spCells
  go_enter Tryd.func86, Tryd.ntmps86
  go_wp2_with fail
  refine bodyPost_cell Tryd.results86 (w.heap.size + 1) _ _ Tryd.underlying64 rfl rfl (by exact hp2_1 w _ _ _) (by kernel_rfl) rfl ?_
  exact ⟨rfl, (by repeat (first | refine Below.alloc ?_ (by simp <;> omega) _ | exact Below.refl _ _))⟩

set_option maxRecDepth 100000 in
set_option maxHeartbeats 3200000 in
theorem spNamed_8 (p : Pl.Sp) (m : Nat) (b : UInt8) (w : World) (hpm : p.mode = m) :
    Calls Tryd.prog 86 #[spVal p, .int .u8 b.toNat, .int .i64 8] w fun e w' => e = .returned (spVal (p.named m b 8)) ∧ Below w.heap.size w w' := by
  have HV : Hid (p.named m b 8 = ⟨0, p.tag, p.attr, p.inside, [], 0⟩) := by show _ = _; unfold Pl.Sp.named; rw [if_neg (by omega), if_neg (by omega), if_neg (by omega), if_pos (by omega)]
  rw [HV.out]
  unfold spVal spCells
  go_enter Tryd.func86, Tryd.ntmps86
  go_wp2_with fail
  refine bodyPost_cell Tryd.results86 (w.heap.size + 1) _ _ Tryd.underlying64 rfl rfl (by exact hp2_1 w _ _ _) (by kernel_rfl) rfl ?_
  exact ⟨rfl, (by repeat (first | refine Below.alloc ?_ (by simp <;> omega) _ | exact Below.refl _ _))⟩

set_option maxRecDepth 100000 in
set_option maxHeartbeats 3200000 in
theorem spNamed_9 (p : Pl.Sp) (m : Nat) (b : UInt8) (w : World) (hpm : p.mode = m) :
    Calls Tryd.prog 86 #[spVal p, .int .u8 b.toNat, .int .i64 9] w fun e w' => e = .returned (spVal (p.named m b 9)) ∧ Below w.heap.size w w' := by
  have HV : Hid (p.named m b 9 = ⟨0, p.tag, p.attr, p.inside, [], 0⟩) := by show _ = _; unfold Pl.Sp.named; rw [if_neg (by omega), if_neg (by omega), if_neg (by omega), if_pos (by omega)]
  rw [HV.out]
  unfold spVal spCells
  go_enter Tryd.func86, Tryd.ntmps86
  go_wp2_with fail
  refine bodyPost_cell Tryd.results86 (w.heap.size + 1) _ _ Tryd.underlying64 rfl rfl (by exact hp2_1 w _ _ _) (by kernel_rfl) rfl ?_
  exact ⟨rfl, (by repeat (first | refine Below.alloc ?_ (by simp <;> omega) _ | exact Below.refl _ _))⟩

set_option maxRecDepth 100000 in
set_option maxHeartbeats 3200000 in
theorem spNamed_4 (p : Pl.Sp) (m : Nat) (b : UInt8) (w : World) (hpm : p.mode = m) :
    Calls Tryd.prog 86 #[spVal p, .int .u8 b.toNat, .int .i64 4] w fun e w' => e = .returned (spVal (p.named m b 4)) ∧ Below w.heap.size w w' := by
  have HV : Hid (p.named m b 4 = ⟨0, p.tag, [], p.inside, [], 0⟩) := by show _ = _; unfold Pl.Sp.named; rw [if_neg (by omega), if_neg (by omega), if_neg (by omega), if_neg (by omega), if_pos (by omega)]
  rw [HV.out]
  unfold spVal spCells
  go_enter Tryd.func86, Tryd.ntmps86
  go_wp2_with fail
  refine bodyPost_cell Tryd.results86 (w.heap.size + 1) _ _ Tryd.underlying64 rfl rfl (by exact hp2_1 w _ _ _) (by kernel_rfl) rfl ?_
  exact ⟨rfl, (by repeat (first | refine Below.alloc ?_ (by simp <;> omega) _ | exact Below.refl _ _))⟩

set_option maxRecDepth 100000 in
set_option maxHeartbeats 3200000 in
theorem spNamed_10 (p : Pl.Sp) (m : Nat) (b : UInt8) (w : World) (hpm : p.mode = m) :
    Calls Tryd.prog 86 #[spVal p, .int .u8 b.toNat, .int .i64 10] w fun e w' => e = .returned (spVal (p.named m b 10)) ∧ Below w.heap.size w w' := by
  have HV : Hid (p.named m b 10 = ⟨0, p.tag, [], p.inside, [], 0⟩) := by show _ = _; unfold Pl.Sp.named; rw [if_neg (by omega), if_neg (by omega), if_neg (by omega), if_neg (by omega), if_pos (by omega)]
  rw [HV.out]
  unfold spVal spCells
  go_enter Tryd.func86, Tryd.ntmps86
  go_wp2_with fail
  refine bodyPost_cell Tryd.results86 (w.heap.size + 1) _ _ Tryd.underlying64 rfl rfl (by exact hp2_1 w _ _ _) (by kernel_rfl) rfl ?_
  exact ⟨rfl, (by repeat (first | refine Below.alloc ?_ (by simp <;> omega) _ | exact Below.refl _ _))⟩

set_option maxRecDepth 100000 in
set_option maxHeartbeats 3200000 in
theorem spNamed_o (p : Pl.Sp) (m : Nat) (b : UInt8) (to : Int) (w : World) (hpm : p.mode = m) (h19 : ¬ 19 ≤ to) (h3 : ¬ (3 ≤ to ∧ to ≤ 10)) :
    Calls Tryd.prog 86 #[spVal p, .int .u8 b.toNat, .int .i64 to] w fun e w' => e = .returned (spVal (p.named m b to)) ∧ Below w.heap.size w w' := by
  have HV : Hid (p.named m b to = ⟨0, [], [], p.inside, [], 0⟩) := by show _ = _; unfold Pl.Sp.named; rw [if_neg h19, if_neg (by omega), if_neg (by omega), if_neg (by omega), if_neg (by omega)]
  rw [HV.out]
  unfold spVal spCells
  have t3 : (to == 3) = false := by rw [beq_eq_false_iff_ne]; omega
  have t5 : (to == 5) = false := by rw [beq_eq_false_iff_ne]; omega
  have t6 : (to == 6) = false := by rw [beq_eq_false_iff_ne]; omega
  have t7 : (to == 7) = false := by rw [beq_eq_false_iff_ne]; omega
  have t8 : (to == 8) = false := by rw [beq_eq_false_iff_ne]; omega
  have t9 : (to == 9) = false := by rw [beq_eq_false_iff_ne]; omega
  have t4 : (to == 4) = false := by rw [beq_eq_false_iff_ne]; omega
  have t10 : (to == 10) = false := by rw [beq_eq_false_iff_ne]; omega
  have t19 : decide ((19 : Int) ≤ to) = false := by rw [decide_eq_false_iff_not]; exact h19
  clear h19 h3
  go_enter Tryd.func86, Tryd.ntmps86
  go_wp2_with fail
  refine bodyPost_cell Tryd.results86 (w.heap.size + 1) _ _ Tryd.underlying64 rfl rfl (by exact hp2_1 w _ _ _) (by kernel_rfl) rfl ?_
  exact ⟨rfl, (by repeat (first | refine Below.alloc ?_ (by simp <;> omega) _ | exact Below.refl _ _))⟩

theorem spNamed_any (p : Pl.Sp) (m : Nat) (b : UInt8) (to : Int) (w : World) (hpm : p.mode = m) (ht : p.tag.length ≤ 1000) (ha : p.attr.length ≤ 1000) :
    Calls Tryd.prog 86 #[spVal p, .int .u8 b.toNat, .int .i64 to] w fun e w' => e = .returned (spVal (p.named m b to)) ∧ Below w.heap.size w w' := by
  by_cases h19 : 19 ≤ to
  · exact spNamed_high p m b to w hpm h19
  by_cases h3 : 3 ≤ to ∧ to ≤ 10
  · rcases (show to = 3 ∨ to = 4 ∨ to = 5 ∨ to = 6 ∨ to = 7 ∨ to = 8 ∨ to = 9 ∨ to = 10 by omega) with rfl | rfl | rfl | rfl | rfl | rfl | rfl | rfl
    · by_cases hm : m = 2
      · exact spNamed_3a p m b w hpm hm ht
      · exact spNamed_3b p m b w hpm hm ht
    · exact spNamed_4 p m b w hpm
    · by_cases hm : m = 5
      · exact spNamed_5a p m b w hpm hm ha
      · exact spNamed_5b p m b w hpm hm ha
    · exact spNamed_6 p m b w hpm
    · exact spNamed_7 p m b w hpm
    · exact spNamed_8 p m b w hpm
    · exact spNamed_9 p m b w hpm
    · exact spNamed_10 p m b w hpm
  · exact spNamed_o p m b to w hpm h19 h3

end Go.Proofs.YtfkhljmiehdgmaaDoor

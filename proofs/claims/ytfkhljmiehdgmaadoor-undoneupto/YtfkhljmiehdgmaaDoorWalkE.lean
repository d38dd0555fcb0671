/-
  The walk of the document's answer for a script's string.
-/
import Derived.Test.YtfkhljmiehdgmaaDoorWalkD
import Derived.Test.YtfkhljmiehdgmaaDoorPlainE
namespace Go.Proofs.YtfkhljmiehdgmaaDoor
open Go.RowKit

theorem ext_of_beq {a : ByteArray} {l : List UInt8} (h : (a.toList == l) = true) : a = ⟨l.toArray⟩ := by
  rw [beq_iff_eq, ByteArray.toList_eq] at h
  exact ByteArray.ext (by rw [← h])
theorem ext_of_bne {a : ByteArray} {l : List UInt8} (h : (a.toList == l) = false) : a ≠ ⟨l.toArray⟩ := by
  intro e
  rw [e, ByteArray.toList_eq] at h
  simp at h
set_option maxRecDepth 100000 in
set_option maxHeartbeats 3200000 in
theorem scripted_any (s : ByteArray) (w : World) (hs : s.size ≤ 100000000) :
    Calls Tryd.prog 35 #[.string s] w fun e w' => e = .returned (.string ⟨(Pl.scripted s.data.toList).toArray⟩) ∧ Below w.heap.size w w' := by
  go_enter Tryd.func35, Tryd.ntmps35
  go_wp2
  go_loopw [3, 4] (fun o i wr => ∃ (k : Nat) (x : List UInt8), k ≤ s.size ∧ i = .int .i64 k ∧ o = .string ⟨x.toArray⟩ ∧ x ++ Pl.scripted (s.data.toList.drop k) = Pl.scripted s.data.toList ∧ x.length ≤ 6 * k ∧ Below w.heap.size w wr) (fun _ i _ => s.size - (intOf i).toNat)
  case atStart => exact ⟨0, [], Nat.zero_le _, rfl, rfl, rfl, by simp, Below.refl _ _⟩
  case round =>
    obtain ⟨k, x, hk, rfl, rfl, hx, hxl, hbw⟩ := hrel
    have HX : Hid (x ++ Pl.scripted (s.data.toList.drop k) = Pl.scripted s.data.toList) := hx
    clear hx
    have hz := hbw.size
    by_cases hlt : k < s.size
    · have h2l : ∀ b l, (Pl.two b l).length = 2 := fun _ _ => rfl
      by_cases ho : (Pl.odd s[k] || ((s[k].toNat : Int) == 96)) = true
      · have hn := Pl.esc_at s k hlt x HX.out ho
        have HN : Hid ((x ++ [92, 120] ++ Pl.two s[k] Pl.loHex) ++ Pl.scripted (s.data.toList.drop (k + 1)) = Pl.scripted s.data.toList) := hn
        clear hn
        by_cases h1 : Pl.odd s[k] = true
        · clear ho
          go_wp2_with (first | (go_at_call 51; refine (odd_any s[k] _).mono ?_; rintro e w' ⟨rfl, rfl⟩) | (go_at_call 49; refine (two_at s[k] _ Pl.loHex _ rfl rfl).mono ?_; rintro e w' ⟨rfl, hbe⟩))
          go_roundw
          case rel => exact ⟨k + 1, _, by omega, by go_num, congrArg Value.string (by rw [Pl.cat_eq, Pl.cat_eq]), HN.out, by simp [Pl.two]; omega, hbw.trans (hbe.mono hz)⟩
          case measure => simp [intOf]; omega
        · have h1 : Pl.odd s[k] = false := by simpa using h1
          have h96 : ((s[k].toNat : Int) == 96) = true := by simpa [h1] using ho
          clear ho
          go_wp2_with (first | (go_at_call 51; refine (odd_any s[k] _).mono ?_; rintro e w' ⟨rfl, rfl⟩) | (go_at_call 49; refine (two_at s[k] _ Pl.loHex _ rfl rfl).mono ?_; rintro e w' ⟨rfl, hbe⟩))
          go_roundw
          case rel => exact ⟨k + 1, _, by omega, by go_num, congrArg Value.string (by rw [Pl.cat_eq, Pl.cat_eq]), HN.out, by simp [Pl.two]; omega, hbw.trans (hbe.mono hz)⟩
          case measure => simp [intOf]; omega
      · have ho : (Pl.odd s[k] || ((s[k].toNat : Int) == 96)) = false := by simpa using ho
        have HO : Hid ((Pl.odd s[k] || ((s[k].toNat : Int) == 96)) = false) := ho
        have h1 : Pl.odd s[k] = false := (Bool.or_eq_false_iff.1 ho).1
        have h96 : ((s[k].toNat : Int) == 96) = false := (Bool.or_eq_false_iff.1 ho).2
        clear ho
        by_cases hk2 : k + 2 < s.size
        · go_wp2_with (first | (go_at_call 51; refine (odd_any s[k] _).mono ?_; rintro e w' ⟨rfl, rfl⟩) | (go_at_call 49; refine (two_at s[k] _ Pl.loHex _ rfl rfl).mono ?_; rintro e w' ⟨rfl, hbe⟩))
          · have he : s.extract k (k + 3) = ⟨#[226, 128, 168]⟩ := ext_of_beq ‹((s.extract k (k + 3)).toList == [226, 128, 168]) = true›
            go_roundw
            case rel => exact ⟨k + 3, _, by omega, by go_num, congrArg Value.string (Pl.cat_eq x _), Pl.sep_at s k hlt x HX.out HO.out he, by simp; omega, hbw⟩
            case measure => simp [intOf]; omega
          · have he : s.extract k (k + 3) = ⟨#[226, 128, 169]⟩ := ext_of_beq ‹((s.extract k (k + 3)).toList == [226, 128, 169]) = true›
            go_roundw
            case rel => exact ⟨k + 3, _, by omega, by go_num, congrArg Value.string (Pl.cat_eq x _), Pl.par_at s k hlt x HX.out HO.out he, by simp; omega, hbw⟩
            case measure => simp [intOf]; omega
          · have h8 : s.extract k (k + 3) ≠ ⟨#[226, 128, 168]⟩ := ext_of_bne ‹((s.extract k (k + 3)).toList == [226, 128, 168]) = false›
            have h9 : s.extract k (k + 3) ≠ ⟨#[226, 128, 169]⟩ := ext_of_bne ‹((s.extract k (k + 3)).toList == [226, 128, 169]) = false›
            go_roundw
            case rel => exact ⟨k + 1, _, by omega, by go_num, congrArg Value.string (by rw [Pl.extract_one s k hlt, Pl.cat_eq]), Pl.plain_at s k hlt x HX.out HO.out (fun _ => h8) (fun _ => h9), by simp; omega, hbw⟩
            case measure => simp [intOf]; omega
        · go_wp2_with (first | (go_at_call 51; refine (odd_any s[k] _).mono ?_; rintro e w' ⟨rfl, rfl⟩) | (go_at_call 49; refine (two_at s[k] _ Pl.loHex _ rfl rfl).mono ?_; rintro e w' ⟨rfl, hbe⟩))
          go_roundw
          case rel => exact ⟨k + 1, _, by omega, by go_num, congrArg Value.string (by rw [Pl.extract_one s k hlt, Pl.cat_eq]), Pl.plain_at s k hlt x HX.out HO.out (fun h => absurd h hk2) (fun h => absurd h hk2), by simp; omega, hbw⟩
          case measure => simp [intOf]; omega
    · go_wp2
      go_ret
      have e := HX.out
      rw [Pl.drop_end s k hlt] at e
      rw [Pl.scripted_nil, List.append_nil] at e
      exact ⟨ret_str (by rw [← e]), hbw⟩
end Go.Proofs.YtfkhljmiehdgmaaDoor

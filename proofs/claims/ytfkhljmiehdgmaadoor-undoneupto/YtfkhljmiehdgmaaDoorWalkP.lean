/-
  The walks of the program: a clean text written in one way.
-/
import Derived.Test.YtfkhljmiehdgmaaDoorWalkO
import Derived.Test.YtfkhljmiehdgmaaDoorPlainM
namespace Go.Proofs.YtfkhljmiehdgmaaDoor
open Go.RowKit

theorem isCoded_any (kd : Int) (hk : kd = 1 ∨ kd = 3 ∨ kd = 4 ∨ kd = 5) (b : UInt8) (w : World) (ht : Tabs w) :
    Calls Tryd.prog 56 #[.int .i64 kd, .int .u8 b.toNat] w fun e w' => e = .returned (.bool (Pl.coded kd b)) ∧ w = w' := by
  rcases hk with rfl | rfl | rfl | rfl
  · exact isCoded_one b w ht
  · exact isCoded_three b w ht
  · exact isCoded_four b w ht
  · exact isCoded_five b w ht
theorem writeCode_any (kd : Int) (hk : kd = 3 ∨ kd = 4 ∨ kd = 5) (B bl : Nat) (acc : List UInt8) (b : UInt8) (w : World) (ht : Tabs w) (hB : 5 < B) (hI : Lib.IsBuilderF 54 5 B bl (Lib.byteCells acc) w) (hl : acc.length ≤ 1000000000) (hBw : B ≤ w.heap.size) :
    Calls Tryd.prog 57 #[.pointer (some ⟨bl, 0, none⟩), .int .i64 kd, .int .u8 b.toNat] w fun e w' => e = .returned (.tuple #[]) ∧ Lib.IsBuilderF 54 5 B bl (Lib.byteCells (acc ++ Pl.codeOf kd b)) w' ∧ Below B w w' := by
  rcases hk with rfl | rfl | rfl
  · exact writeCode_three B bl acc b w ht hB hI hl hBw
  · exact writeCode_four B bl acc b w ht hB hI hl hBw
  · exact writeCode_five B bl acc b w ht hB hI hl hBw
/-- a builder stays one where nothing turns below the heap's end -/
theorem builder_below {T e : TypeId} {B b : Nat} {bs : List Value} {w w' : World} (h : Lib.IsBuilderF T e B b bs w) (hb : Below w.heap.size w w') : Lib.IsBuilderF T e B b bs w' := by
  have lt : ∀ {k : Nat} {o : Obj}, w.heap[k]? = some o → w'.heap[k]? = some o := by
    intro k o hk
    rw [hb.block k (Array.getElem?_eq_some_iff.1 hk).1]; exact hk
  have one : ∀ p, Lib.BuilderAtF T e B b p bs w → Lib.BuilderAtF T e B b p bs w' := by
    rintro p ⟨hB, v, hbk, ⟨hlen, hown⟩, hne⟩
    refine ⟨hB, v, lt hbk, ⟨hlen, ?_⟩, hne⟩
    rcases hown with h0 | ⟨g, cap, cur, fz, h1, h2, h3, h4⟩
    · exact .inl h0
    · exact .inr ⟨g, cap, cur, fz, h1, h2, lt h3, h4⟩
  rcases h with h | h
  · exact .inl (one _ h)
  · exact .inr (one _ h)
theorem swapFor_at (kd : Int) (s : ByteArray) (k : Nat) (f t : List UInt8) (w : World) (ht : Tabs w) (h : Pl.swapOf kd (s.data.toList.drop k) = (f, t)) :
    Calls Tryd.prog 54 #[.int .i64 kd, .string (s.extract k s.size)] w fun e w' => e = .returned (.tuple #[.string ⟨f.toArray⟩, .string ⟨t.toArray⟩]) ∧ Below w.heap.size w w' := by
  have e : (s.extract k s.size).data.toList = s.data.toList.drop k := by
    rw [ByteArray.data_extract, Array.toList_extract, List.extract_eq_take_drop]
    apply List.take_of_length_le
    rw [List.length_drop, Pl.len_eq]; omega
  have := swapFor_any kd (s.extract k s.size) w ht
  rw [e, h] at this
  exact this

set_option maxRecDepth 1000000 in
set_option maxHeartbeats 4000000 in
theorem write_any (kd : Int) (hk : kd = 1 ∨ kd = 3 ∨ kd = 4 ∨ kd = 5) (s : ByteArray) (w : World) (ht : Tabs w) (hs : s.size ≤ 100000000) :
    Calls Tryd.prog 38 #[.int .i64 kd, .string s] w fun e w' => e = .returned (.string ⟨(Pl.encOf kd s.data.toList).toArray⟩) ∧ Below w.heap.size w w' := by
  have HK : Hid (kd = 1 ∨ kd = 3 ∨ kd = 4 ∨ kd = 5) := hk
  clear hk
  have hB := ht.lt
  go_enter Tryd.func38, Tryd.ntmps38
  go_wp2_with fail
  refine (Tryd.Builder_Grow_fresh w.heap.size w.heap.size s.size _ (Nat.le_refl _) (fresh_head w) (by simp) (by omega)).mono ?_
  rintro e W1 ⟨rfl, hB1, hbe⟩
  have hbw1 : Below w.heap.size w W1 := ((Below.refl _ w).alloc (Nat.le_refl _) _).trans hbe
  go_wp2
  go_loopw [6] (fun i wr => ∃ (k : Nat) (acc : List UInt8), k ≤ s.size ∧ i = .int .i64 k ∧ Lib.IsBuilderF 54 5 w.heap.size w.heap.size (Lib.byteCells acc) wr ∧ Below w.heap.size w wr ∧ acc ++ Pl.encOf kd (s.data.toList.drop k) = Pl.encOf kd s.data.toList ∧ acc.length ≤ 6 * k) (fun i _ => s.size - (intOf i).toNat)
  case atStart => exact ⟨0, [], Nat.zero_le _, rfl, Lib.IsBuilderF.of (Or.inr hB1), hbw1, rfl, by simp⟩
  case round =>
    obtain ⟨k, acc, hk, rfl, hI, hbw, hacc, hal⟩ := hrel
    have HA : Hid (acc ++ Pl.encOf kd (s.data.toList.drop k) = Pl.encOf kd s.data.toList) := hacc
    clear hacc
    have hz := hbw.size
    have htr := ht.kept hbw hB
    by_cases hlt : k < s.size
    · obtain ⟨f, t, hsw⟩ : ∃ f t, Pl.swapOf kd (s.data.toList.drop k) = (f, t) := ⟨_, _, rfl⟩
      have HS : Hid (Pl.swapOf kd (s.data.toList.drop k) = (f, t)) := hsw
      clear hsw
      go_wp2_with fail
      refine (swapFor_at kd s k f t _ htr HS.out).mono ?_
      rintro e w2 ⟨rfl, b2⟩
      have hI2 := builder_below hI b2
      have hbw2 := hbw.trans (b2.mono hz)
      have hz2 := hbw2.size
      have ht2 := ht.kept hbw2 hB
      clear hI htr hbw b2
      match f, HS with
      | c :: f, HS =>
        obtain ⟨e1, e2, e3⟩ := Pl.enc_swap kd HK.out _ _ _ HS.out (by simp)
        have E1 : Hid (acc ++ (t ++ Pl.encOf kd ((s.data.toList.drop k).drop (c :: f).length)) = Pl.encOf kd s.data.toList) := by show _ = _; rw [← e1]; exact HA.out
        rw [List.length_drop, Pl.len_eq] at e2
        clear e1
        simp only [List.length_cons] at e2 e3
        have hts : (ByteArray.mk t.toArray).size = t.length := rfl
        go_wp2_with fail
        refine (Tryd.Builder_WriteString_k w.heap.size w.heap.size _ ⟨t.toArray⟩ _ hI2 (by rw [Lib.byteCells_length, hts]; omega) hz2).mono ?_
        rintro e w3 ⟨rfl, h3, b3, _⟩
        clear hts
        go_wp2_with fail
        go_roundw
        case rel =>
          refine ⟨k + (f.length + 1), acc ++ t, by omega, by go_num, ?_, hbw2.trans b3, ?_, by rw [List.length_append]; omega⟩
          · rw [Lib.byteCells_append]; exact Or.inr h3
          · rw [List.append_assoc, ← E1.out, List.drop_drop]; rfl
        case measure => simp [intOf]; omega
      | [], HS =>
        have HS2 : Hid (Pl.swapOf kd (s[k] :: s.data.toList.drop (k + 1)) = ([], t)) := by show _ = _; rw [← Pl.drop_at s k hlt]; exact HS.out
        have E1 : Hid (acc ++ ((if Pl.coded kd s[k] = true then Pl.codeOf kd s[k] else [s[k]]) ++ Pl.encOf kd (s.data.toList.drop (k + 1))) = Pl.encOf kd s.data.toList) := by
          show _ = _; rw [← Pl.enc_byte kd HK.out _ _ _ HS2.out, ← Pl.drop_at s k hlt]; exact HA.out
        by_cases hco : Pl.coded kd s[k] = true
        · have E2 : Hid (acc ++ (Pl.codeOf kd s[k] ++ Pl.encOf kd (s.data.toList.drop (k + 1))) = Pl.encOf kd s.data.toList) := by
            show _ = _; rw [← E1.out, if_pos hco]
          have hk3 : kd = 3 ∨ kd = 4 ∨ kd = 5 := by
            rcases HK.out with rfl | h | h | h
            · rw [Pl.coded1] at hco; cases hco
            · exact .inl h
            · exact .inr (.inl h)
            · exact .inr (.inr h)
          have HK3 : Hid (kd = 3 ∨ kd = 4 ∨ kd = 5) := hk3
          have hcl := Pl.codeOf_len kd s[k]
          clear hk3
          go_wp2_with fail
          refine (isCoded_any kd HK.out s[k] _ ht2).mono ?_
          rintro e w' ⟨rfl, rfl⟩
          go_wp2_with fail
          refine (writeCode_any kd HK3.out w.heap.size w.heap.size acc s[k] _ ht2 hB hI2 (by omega) hz2).mono ?_
          rintro e w3 ⟨rfl, h3, b3⟩
          go_wp2_with fail
          go_roundw
          case rel =>
            refine ⟨k + 1, acc ++ Pl.codeOf kd s[k], by omega, by go_num, h3, hbw2.trans b3, ?_, by rw [List.length_append]; omega⟩
            rw [List.append_assoc]; exact E2.out
          case measure => simp [intOf]; omega
        · have hco : Pl.coded kd s[k] = false := Bool.eq_false_iff.2 hco
          have E2 : Hid (acc ++ ([s[k]] ++ Pl.encOf kd (s.data.toList.drop (k + 1))) = Pl.encOf kd s.data.toList) := by
            show _ = _; rw [← E1.out, if_neg (by simp [hco])]
          go_wp2_with fail
          refine (isCoded_any kd HK.out s[k] _ ht2).mono ?_
          rintro e w' ⟨rfl, rfl⟩
          go_wp2_with fail
          refine (Tryd.Builder_WriteByte_k w.heap.size w.heap.size _ s[k].toNat _ hI2 (by rw [Lib.byteCells_length]; omega) hz2).mono ?_
          rintro e w3 ⟨rfl, h3, b3, _⟩
          go_wp2_with fail
          go_roundw
          case rel =>
            refine ⟨k + 1, acc ++ [s[k]], by omega, by go_num, ?_, hbw2.trans b3, ?_, by simp; omega⟩
            · rw [byteCells_snoc1]; exact Or.inr h3
            · rw [List.append_assoc]; exact E2.out
          case measure => simp [intOf]; omega
    · have e0 : Hid (acc = Pl.encOf kd s.data.toList) := by
        have := HA.out
        rw [Pl.drop_end s k hlt, Pl.enc_nil, List.append_nil] at this
        exact this
      go_wp2_with fail
      refine (Tryd.Builder_String_any_k w.heap.size w.heap.size acc _ hI (by omega)).mono ?_
      rintro e W2 ⟨rfl, _, b2, _⟩
      go_wp2
      go_ret
      exact ⟨ret_str (by rw [e0.out]), hbw.trans b2⟩
end Go.Proofs.YtfkhljmiehdgmaaDoor

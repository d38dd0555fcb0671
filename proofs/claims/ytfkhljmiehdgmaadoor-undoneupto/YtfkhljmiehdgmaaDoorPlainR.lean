/-
  Plain laws: undoing a sheet's escapes; which bytes stand in what is written; how long it is. No program is named here.
-/
import Derived.Test.YtfkhljmiehdgmaaDoorPlainQ
namespace Go.Proofs.YtfkhljmiehdgmaaDoor.Pl

/- the escapes of a sheet: hex digits, and the blank behind -/
def hexRun : List UInt8 → Int → Int × List UInt8
  | [], n => (n, [])
  | b :: l, n => if hexDig b < 0 then (n, b :: l) else hexRun l (wrap64' (16 * n + hexDig b))
where wrap64' (n : Int) : Int := IntKind.i64.wrap n
def blankOff : List UInt8 → List UInt8
  | 32 :: l => l
  | l => l
theorem hexRun_len : ∀ (l : List UInt8) (n : Int), (hexRun l n).2.length ≤ l.length
  | [], _ => by simp [hexRun]
  | b :: l, n => by
    unfold hexRun
    split
    · simp
    · have := hexRun_len l (hexRun.wrap64' (16 * n + hexDig b)); simp; omega
theorem blankOff_len (l : List UInt8) : (blankOff l).length ≤ l.length := by
  unfold blankOff; split <;> simp
def sheF : Nat → List UInt8 → List UInt8
  | 0, _ => []
  | _ + 1, [] => []
  | n + 1, b :: l => if b ≠ 92 then b :: sheF n l else byteOf (hexRun l 0).1 :: sheF n (blankOff (hexRun l 0).2)
def shes (l : List UInt8) : List UInt8 := sheF l.length l
theorem sheF_more : ∀ (n : Nat) (l : List UInt8), l.length ≤ n → sheF n l = sheF l.length l
  | 0, l, h => by
    have : l = [] := by simpa using h
    subst this; rfl
  | n + 1, [], _ => rfl
  | n + 1, b :: l, h => by
    simp only [List.length_cons] at h
    have h1 := hexRun_len l 0
    have h2 := blankOff_len (hexRun l 0).2
    simp only [sheF, List.length_cons, sheF_more n l (by omega), sheF_more n (blankOff (hexRun l 0).2) (by omega), sheF_more l.length (blankOff (hexRun l 0).2) (by omega)]
theorem shes_cons (b : UInt8) (l : List UInt8) : shes (b :: l) = if b ≠ 92 then b :: shes l else byteOf (hexRun l 0).1 :: shes (blankOff (hexRun l 0).2) := by
  have h1 := hexRun_len l 0
  have h2 := blankOff_len (hexRun l 0).2
  show sheF (l.length + 1) (b :: l) = _
  rw [sheF, sheF_more l.length (blankOff (hexRun l 0).2) (by omega)]; rfl
theorem run_blank (t : List UInt8) (n : Int) : hexRun (32 :: t) n = (n, 32 :: t) := by
  rw [hexRun, if_pos (by decide)]
theorem run_more (b : UInt8) (l : List UInt8) (n : Int) (h : 0 ≤ hexDig b) : hexRun (b :: l) n = hexRun l (hexRun.wrap64' (16 * n + hexDig b)) := by
  rw [hexRun, if_neg (by omega)]
theorem trim_digits (b : UInt8) : (∃ x, trim0 (two b loHex) = [x] ∧ 0 ≤ hexDig x ∧ byteOf (hexDig x) = b ∧ hexDig x < 16) ∨ (∃ x y, trim0 (two b loHex) = [x, y] ∧ 0 ≤ hexDig x ∧ 0 ≤ hexDig y ∧ byteOf (16 * hexDig x + hexDig y) = b ∧ hexDig x < 16 ∧ hexDig y < 16) := by
  have h := all_u8 (fun b => match trim0 (two b loHex) with
    | [x] => decide (0 ≤ hexDig x) && (byteOf (hexDig x) == b) && decide (hexDig x < 16)
    | [x, y] => decide (0 ≤ hexDig x) && decide (0 ≤ hexDig y) && (byteOf (16 * hexDig x + hexDig y) == b) && decide (hexDig x < 16) && decide (hexDig y < 16)
    | _ => false) (by decide +kernel) b
  generalize trim0 (two b loHex) = d at h
  match d, h with
  | [x], h =>
    simp only [Bool.and_eq_true, decide_eq_true_eq, beq_iff_eq] at h
    exact .inl ⟨x, rfl, h.1.1, h.1.2, h.2⟩
  | [x, y], h =>
    simp only [Bool.and_eq_true, decide_eq_true_eq, beq_iff_eq] at h
    exact .inr ⟨x, y, rfl, h.1.1.1.1, h.1.1.1.2, h.1.1.2, h.1.2, h.2⟩
theorem shes_styled : ∀ c : List UInt8, shes (styled c) = c
  | [] => rfl
  | b :: c => by
    have ih := shes_styled c
    have e : styled (b :: c) = styleOf b ++ styled c := rfl
    rw [e]
    by_cases h : odd b = true
    · have e2 : styleOf b ++ styled c = 92 :: (trim0 (two b loHex) ++ (32 :: styled c)) := by
        unfold styleOf; rw [h]; simp
      rw [e2, shes_cons, if_neg (by simp)]
      rcases trim_digits b with ⟨x, hd, h1, h2, h3⟩ | ⟨x, y, hd, h1, h2, h3, h4, h5⟩
      · rw [hd]
        have hr : hexRun ([x] ++ 32 :: styled c) 0 = (hexDig x, 32 :: styled c) := by
          show hexRun (x :: 32 :: styled c) 0 = _
          rw [run_more x _ _ h1, run_blank]
          unfold hexRun.wrap64'; rw [IntKind.wrap_i64]
          congr 1; omega
        rw [hr]
        show byteOf (hexDig x) :: shes (styled c) = _
        rw [h2, ih]
      · rw [hd]
        have hr : hexRun ([x, y] ++ 32 :: styled c) 0 = (16 * hexDig x + hexDig y, 32 :: styled c) := by
          show hexRun (x :: y :: 32 :: styled c) 0 = _
          rw [run_more x _ _ h1, run_more y _ _ h2, run_blank]
          unfold hexRun.wrap64'; rw [IntKind.wrap_i64, IntKind.wrap_i64]
          congr 1; omega
        rw [hr]
        show byteOf (16 * hexDig x + hexDig y) :: shes (styled c) = _
        rw [h3, ih]
    · have h : odd b = false := by simpa using h
      have h92 : b ≠ 92 := by
        rintro rfl; revert h; decide
      have e2 : styleOf b ++ styled c = b :: styled c := by unfold styleOf; rw [h]; rfl
      rw [e2, shes_cons, if_pos h92, ih]

/- which bytes are written -/
def fine (kd : Int) (b : UInt8) : Bool := !(b == 60) && !(b == 62) && !(b == 34) && !(b == 39) && !(b == 0) && (decide (kd < 4) || (!(decide (b.toNat < 32)) && !(b == 47)))
theorem fine_text (b : UInt8) (h : b ≠ 0) : (textOf b).all (fine 1) = true := by
  have hh := all_u8 (fun b => b == 0 || (textOf b).all (fine 1)) (by decide +kernel) b
  have : (b == 0) = false := by simpa using h
  simpa [this] using hh
theorem fine_link (kd : Int) (hk : kd < 4) (b : UInt8) : (linkOf b).all (fine kd) = true := by
  have e : fine kd = fine 1 := by
    funext b; unfold fine; rw [show decide (kd < 4) = true by simpa using hk]; rfl
  rw [e]
  have hh := all_u8 (fun b => (linkOf b).all (fine 1)) (by decide +kernel) b
  simpa using hh
theorem fine_style (b : UInt8) : (styleOf b).all (fine 5) = true := by
  have hh := all_u8 (fun b => (styleOf b).all (fine 5)) (by decide +kernel) b
  simpa using hh
theorem fine_esc (b : UInt8) : ([92, 120] ++ two b loHex).all (fine 4) = true := by
  have hh := all_u8 (fun b => ([92, 120] ++ two b loHex).all (fine 4)) (by decide +kernel) b
  simpa using hh
theorem fine_script (b : UInt8) (h : (odd b || ((b.toNat : Int) == 96)) = false) : fine 4 b = true := by
  have hh := all_u8 (fun b => (odd b || ((b.toNat : Int) == 96)) || fine 4 b) (by decide +kernel) b
  simpa [h] using hh
theorem fine_letter (kd : Int) (hk : kd < 4) (b : UInt8) (h : among b letters = true ∨ among b digitsPlus = true ∨ b = 58) : fine kd b = true := by
  have e : fine kd = fine 1 := by
    funext b; unfold fine; rw [show decide (kd < 4) = true by simpa using hk]; rfl
  rw [e]
  have hh := all_u8 (fun b => !(among b letters || (among b digitsPlus || b == 58)) || fine 1 b) (by decide +kernel) b
  rcases h with h | h | h
  · simpa [h] using hh
  · simpa [h] using hh
  · simpa [h] using hh
theorem all_flatMap {f : UInt8 → List UInt8} {p : UInt8 → Bool} : ∀ (l : List UInt8), (∀ b ∈ l, (f b).all p = true) → (l.flatMap f).all p = true
  | [], _ => rfl
  | b :: l, h => by
    rw [List.flatMap_cons, List.all_append, h b (by simp), all_flatMap l (fun x hx => h x (by simp [hx]))]; rfl
theorem fine_scripted (c : List UInt8) : (scripted c).all (fine 4) = true := by
  induction h : c.length using Nat.strongRecOn generalizing c with
  | _ n ih =>
    match c, h with
    | [], _ => rfl
    | b :: l, h =>
      simp only [List.length_cons] at h
      have h1 := ih l.length (by omega) l rfl
      have h2 := ih (l.drop 2).length (by rw [List.length_drop]; omega) (l.drop 2) rfl
      rw [scripted_cons]
      split
      · rw [List.all_append, fine_esc, h1]; rfl
      rename_i h0
      split
      · rw [List.all_append, h2]; decide
      split
      · rw [List.all_append, h2]; decide
      · rw [List.all_append, h1]
        simp [fine_script b (by simpa using h0)]
/-- the bytes of a scheme -/
theorem run_bytes : ∀ (l : List UInt8) (p : Bool) (b : UInt8), b ∈ l.take (run l p) → among b letters = true ∨ among b digitsPlus = true
  | [], _, _, h => by simp [run] at h
  | c :: r, p, b, h => by
    simp only [run] at h
    split at h
    · rename_i hc
      rw [List.take_succ_cons, List.mem_cons] at h
      rcases h with rfl | h
      · simp only [Bool.or_eq_true, Bool.and_eq_true] at hc
        rcases hc with hc | hc
        · exact .inl hc
        · exact .inr hc.2
      · exact run_bytes r true b h
    · simp at h
theorem scheme_bytes (c : List UInt8) (b : UInt8) (h : b ∈ c.take (schemed c)) : among b letters = true ∨ among b digitsPlus = true ∨ b = 58 := by
  unfold schemed at h
  by_cases h0 : run c false = 0
  · rw [if_pos h0] at h; simp at h
  rw [if_neg h0] at h
  by_cases h1 : c[run c false]? = some 58
  · rw [if_pos h1] at h
    have hk := (List.getElem?_eq_some_iff.1 h1).1
    rw [List.take_succ_eq_append_getElem hk, List.mem_append] at h
    rcases h with h | h
    · rcases run_bytes c false b h with h | h
      · exact .inl h
      · exact .inr (.inl h)
    · have e : c[run c false] = 58 := by rw [List.getElem?_eq_getElem hk] at h1; exact Option.some.inj h1
      rw [e] at h
      exact .inr (.inr (by simpa using h))
  · rw [if_neg h1] at h; simp at h
theorem fine_first (c : List UInt8) : (firstOf c).all (fine 2) = true := by
  unfold firstOf
  split
  · decide
  · rw [List.all_append]
    have h1 : (c.take (schemed c)).all (fine 2) = true := by
      rw [List.all_eq_true]
      intro b hb
      exact fine_letter 2 (by omega) b (scheme_bytes c b hb)
    have h2 : (linked (c.drop (schemed c))).all (fine 2) = true := all_flatMap _ (fun b _ => fine_link 2 (by omega) b)
    rw [h1, h2]; rfl
theorem fine_escape (kd : Int) (h1 : 1 ≤ kd) (h5 : kd ≤ 5) (l : List UInt8) : (escape kd l).all (fine kd) = true := by
  unfold escape
  by_cases a : kd = 1
  · subst a; rw [if_pos rfl]
    exact all_flatMap _ (fun b hb => fine_text b (fun q => clean_no0 l (q ▸ hb)))
  rw [if_neg a]
  by_cases b : kd = 3
  · subst b; rw [if_pos rfl]; exact all_flatMap _ (fun b _ => fine_link 3 (by omega) b)
  rw [if_neg b]
  by_cases c : kd = 2
  · subst c; rw [if_pos rfl]; exact fine_first _
  rw [if_neg c]
  by_cases d : kd = 4
  · subst d; rw [if_pos rfl]; exact fine_scripted _
  rw [if_neg d]
  have e : kd = 5 := by omega
  subst e; rw [if_pos rfl]; exact all_flatMap _ (fun b _ => fine_style b)

/- how long -/
theorem escape_len (kd : Int) (l : List UInt8) : (escape kd l).length ≤ 24 * l.length + 8 := by
  have hc := clean_len l
  unfold escape
  by_cases a : kd = 1
  · rw [if_pos a]; have := flatMap_len 6 textOf_len (clean l); unfold texted; omega
  rw [if_neg a]
  by_cases b : kd = 3
  · rw [if_pos b]; have := flatMap_len 6 linkOf_len (clean l); unfold linked; omega
  rw [if_neg b]
  by_cases c : kd = 2
  · rw [if_pos c]
    unfold firstOf
    split
    · simp [blocked]
    · have := flatMap_len 6 linkOf_len ((clean l).drop (schemed (clean l)))
      rw [List.length_drop] at this
      have hs := schemed_le (clean l)
      rw [List.length_append, List.length_take]; unfold linked; omega
  rw [if_neg c]
  by_cases d : kd = 4
  · rw [if_pos d]; have := scripted_len (clean l); omega
  rw [if_neg d]
  by_cases e : kd = 5
  · rw [if_pos e]; have := flatMap_len 6 styleOf_len (clean l); unfold styled; omega
  rw [if_neg e]; simp
theorem escape_clean (kd : Int) (l : List UInt8) : escape kd (clean l) = escape kd l := by
  unfold escape; rw [clean_idem]

/- undone -/
def undo (kd : Int) (l : List UInt8) : List UInt8 := if kd = 1 then refs l else if kd = 4 then strs l else if kd = 5 then shes l else pers l
theorem undo_first (c : List UInt8) (h : ¬ (0 < schemed c ∧ lower (c.take (schemed c)) ≠ http ∧ lower (c.take (schemed c)) ≠ https ∧ lower (c.take (schemed c)) ≠ mailto)) : pers (firstOf c) = c := by
  unfold firstOf
  rw [if_neg h, pers_plain _ _ (by
    intro b hb
    rcases scheme_bytes c b hb with q | q | q
    · rintro rfl; revert q; decide
    · rintro rfl; revert q; decide
    · rw [q]; decide), pers_linked, List.take_append_drop]
/-- but of a link that is blocked -/
theorem undo_escape (kd : Int) (h1 : 1 ≤ kd) (h5 : kd ≤ 5) (l : List UInt8) : undo kd (escape kd l) = clean l ∨ (kd = 2 ∧ escape kd l = blocked ∧ 0 < schemed (clean l) ∧ lower ((clean l).take (schemed (clean l))) ≠ http ∧ lower ((clean l).take (schemed (clean l))) ≠ https ∧ lower ((clean l).take (schemed (clean l))) ≠ mailto) := by
  unfold undo escape
  by_cases a : kd = 1
  · rw [if_pos a, if_pos a, refs_texted]; exact .inl rfl
  rw [if_neg a, if_neg a]
  by_cases b : kd = 3
  · rw [if_pos b, if_neg (by omega), if_neg (by omega), pers_linked]; exact .inl rfl
  rw [if_neg b]
  by_cases c : kd = 2
  · rw [if_pos c, if_neg (by omega), if_neg (by omega)]
    by_cases q : 0 < schemed (clean l) ∧ lower ((clean l).take (schemed (clean l))) ≠ http ∧ lower ((clean l).take (schemed (clean l))) ≠ https ∧ lower ((clean l).take (schemed (clean l))) ≠ mailto
    · exact .inr ⟨c, by unfold firstOf; rw [if_pos q], q⟩
    · exact .inl (undo_first _ q)
  rw [if_neg c]
  by_cases d : kd = 4
  · rw [if_pos d, if_pos d, strs_scripted]; exact .inl rfl
  rw [if_neg d, if_neg d]
  have e : kd = 5 := by omega
  rw [if_pos e, if_pos e, shes_styled]; exact .inl rfl

theorem hexDig_le (b : UInt8) : -1 ≤ hexDig b ∧ hexDig b < 16 := by
  unfold hexDig
  split
  · omega
  split
  · omega
  split
  · omega
  · omega

theorem blankOff_other (b : UInt8) (l : List UInt8) (h : b ≠ 32) : blankOff (b :: l) = b :: l := by
  unfold blankOff
  split
  · rename_i e; cases e; exact absurd rfl h
  · rfl

end Go.Proofs.YtfkhljmiehdgmaaDoor.Pl

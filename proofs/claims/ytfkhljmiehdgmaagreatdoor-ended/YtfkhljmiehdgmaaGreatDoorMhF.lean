/-
  Several texts laid together: each opens with its own remark.
-/
import Derived.Test.YtfkhljmiehdgmaaGreatDoorMhE

/-
  Plain: going through parts none of whose partials is there, part by part.
-/
namespace Go.Proofs.YtfkhljmiehdgmaaGreatDoor.Pl

/-- one part: the state and the open sections' states behind it, if nothing is wrong -/
def tokStep (x : Sx) (B : List Sx) (p : Pt) : Option (Sx × List Sx) :=
  if p.kind = 1 then (match schemeAt x p.text with
    | some _ => Option.none
    | Option.none => some (sxFrom x p.text, B))
  else if p.kind = 2 then (if x.hole.2 = 0 then some (x.behindHole, B) else Option.none)
  else if p.kind = 3 ∨ p.kind = 4 then some (x, B ++ [x])
  else if p.kind = 5 then (match B.getLast? with
    | Option.none => Option.none
    | some b => if x = b then some (x, B.dropLast) else Option.none)
  else some (x, B)
def tokFold : List Pt → Sx → List Sx → Option (Sx × List Sx)
  | [], x, B => some (x, B)
  | p :: l, x, B => (tokStep x B p).bind fun y => tokFold l y.1 y.2
theorem tokFold_append (l m : List Pt) : ∀ (x : Sx) (B : List Sx), tokFold (l ++ m) x B = (tokFold l x B).bind fun y => tokFold m y.1 y.2 := by
  induction l with
  | nil => intro x B; rfl
  | cons p l ih =>
    intro x B
    show (tokStep x B p).bind _ = ((tokStep x B p).bind _).bind _
    cases tokStep x B p with
    | none => rfl
    | some y => exact ih y.1 y.2
/-- no end stands where nothing is open -/
def deep : List Pt → Nat → Bool
  | [], _ => true
  | p :: l, d => if p.kind = 3 ∨ p.kind = 4 then deep l (d + 1) else if p.kind = 5 then decide (d ≠ 0) && deep l (d - 1) else deep l d
theorem deep_wf {o : Nat} {l : List Pt} (h : Wf o l) : ∀ (m : List Pt) (d : Nat), deep m d = true → deep (l ++ m) d = true := by
  induction h with
  | nil o => intro m d h; exact h
  | leaf o p l hk _ ih =>
    intro m d h
    show deep (p :: (l ++ m)) d = true
    unfold deep
    rw [if_neg (by omega), if_neg (by omega)]
    exact ih m d h
  | sec o p q b l hp hq h1 h2 hb _ ihb ihl =>
    intro m d h
    have e : p :: b ++ q :: l ++ m = p :: (b ++ (q :: (l ++ m))) := by simp
    rw [e]
    unfold deep
    rw [if_pos hp]
    refine ihb _ _ ?_
    unfold deep
    rw [if_neg (by omega), if_pos hq]
    simp only [ne_eq, Nat.add_eq_zero_iff, Nat.succ_ne_self, and_false, not_false_eq_true, decide_true, Bool.true_and, Nat.add_sub_cancel]
    exact ihl m d h
theorem wf_kinds {o : Nat} {l : List Pt} (h : Wf o l) : ∀ p ∈ l, 1 ≤ p.kind ∧ p.kind ≤ 6 := by
  induction h with
  | nil o => intro p hp; cases hp
  | leaf o p l hk _ ih =>
    intro q hq
    rcases List.mem_cons.1 hq with rfl | hq
    · omega
    · exact ih q hq
  | sec o p q b l hp hq h1 h2 hb _ ihb ihl =>
    intro r hr
    simp only [List.cons_append, List.mem_cons, List.mem_append] at hr
    rcases hr with rfl | hr | rfl | hr
    · omega
    · exact ihb r hr
    · omega
    · exact ihl r hr

theorem schemeAt_lt {x : Sx} {l : List UInt8} {j : Nat} (h : schemeAt x l = some j) : j < l.length := by
  induction l generalizing x j with
  | nil => cases h
  | cons b l ih =>
    unfold schemeAt at h
    split at h
    · injection h with h; subst h; simp
    · obtain ⟨k, h1, rfl⟩ := Option.map_eq_some_iff.1 h
      have := ih h1
      simp; omega
/-- what turns while parts are gone through none of whose partials is there: marks alone -/
structure Marks (s s' : Sr) : Prop where
  ends : s'.ends = s.ends
  nums : s'.nums = s.nums
  vis : s'.vis.length = s.vis.length
theorem Marks.refl (s : Sr) : Marks s s := ⟨rfl, rfl, rfl⟩
theorem Marks.mark {s s' : Sr} (h : Marks s s') (v a : Nat) (m : Int) : Marks s (s'.mark v a m) := ⟨h.ends, h.nums, by unfold Sr.mark; simp [h.vis]⟩
theorem mark_fault (s : Sr) (v a : Nat) (m : Int) : (s.mark v a m).fault = s.fault := rfl

theorem none_not {x : Sx} (h : SxOk x) : x.isNone = false := by
  have := h.st.lo
  unfold Sx.isNone
  rw [beq_eq_false_iff_ne]; omega
theorem tokStep_ok {x : Sx} {B : List Sx} {p : Pt} {y : Sx × List Sx} (h : SxOk x) (hs : tokStep x B p = some y) : SxOk y.1 := by
  unfold tokStep at hs
  split at hs
  · split at hs
    · cases hs
    · injection hs with hs; subst hs; exact sxFrom_ok _ _ h
  · split at hs
    · split at hs
      · injection hs with hs; subst hs; exact behindHole_ok _ h
      · cases hs
    · split at hs
      · injection hs with hs; subst hs; exact h
      · split at hs
        · split at hs
          · cases hs
          · split at hs
            · injection hs with hs; subst hs; exact h
            · cases hs
        · injection hs with hs; subst hs; exact h
theorem drop_cons {α : Type} {P : List α} {a : Nat} {p : α} (h : P[a]? = some p) : P.drop a = p :: P.drop (a + 1) := by
  obtain ⟨h1, h2⟩ := List.getElem?_eq_some_iff.1 h
  rw [List.drop_eq_getElem_cons h1, h2]
theorem posAt_some (P : List Pt) (m : Nat) (hP : P ≠ []) : ∃ p ∈ P, posAt P m = p.pos ∨ posAt P m = 0 := by
  unfold posAt
  cases h : P[m]? with
  | none =>
    cases P with
    | nil => exact absurd rfl hP
    | cons p l => exact ⟨p, by simp, .inr rfl⟩
  | some p => exact ⟨p, List.mem_of_getElem? h, .inl rfl⟩

/-- a fault of parts, or none -/
def GoRes (S : List Src) (i : Nat) (P : List Pt) (s0 : Sr) (r : Option (Sx × List Sx)) (s : Sr) : Prop :=
  match r with
  | some _ => s.fault = s0.fault ∧ Marks s0 s
  | Option.none => s.fault.code = 3 ∧ s.fault.place = nameAt S i ∧ (s.fault.pos = 0 ∨ ∃ p ∈ P, s.fault.pos = p.pos ∨ (p.kind = 1 ∧ s.fault.pos < p.pos + p.text.length))
/-- going through parts, part by part -/
theorem goV_fold (nm : Sr → List UInt8 → Sx → Sr × Nat × Sx) (S : List Src) (i v : Nat) (P : List Pt) (hk : ∀ p ∈ P, 1 ≤ p.kind ∧ p.kind ≤ 6) (hnm : ∀ p ∈ P, p.kind = 6 → ∀ s x, nm s p.text x = (s, 0, x)) (s0 : Sr) (h0 : s0.fault.code = 0) :
    ∀ (n a : Nat) (s : Sr) (x : Sx) (B : List (Sx × Nat)), P.length - a < n → deep (P.drop a) B.length = true → s.fault = s0.fault → Marks s0 s → SxOk x →
    GoRes S i P s0 (tokFold (P.drop a) x (B.map (·.1))) (goV nm S i v P n a s x B) := by
  intro n
  induction n with
  | zero => intro a s x B h; omega
  | succ n ih =>
    intro a s x B hn hd hf hm hx
    unfold goV
    cases hp : P[a]? with
    | none =>
      have : P.length ≤ a := by simpa using hp
      rw [List.drop_eq_nil_of_le this]
      exact ⟨hf, hm⟩
    | some p =>
      have hlt : a < P.length := (List.getElem?_eq_some_iff.1 hp).1
      have hmem : p ∈ P := List.mem_of_getElem? hp
      have hkp := hk p hmem
      rw [drop_cons hp] at hd ⊢
      show GoRes S i P s0 ((tokStep x (B.map (·.1)) p).bind fun y => tokFold (P.drop (a + 1)) y.1 y.2) _
      unfold deep at hd
      unfold tokStep
      simp only
      by_cases k1 : p.kind = 1
      · rw [if_pos k1, if_pos k1]
        rw [if_neg (by omega), if_neg (by omega)] at hd
        cases hs : schemeAt x p.text with
        | some j =>
          exact ⟨rfl, rfl, .inr ⟨p, hmem, .inr ⟨k1, by have := schemeAt_lt hs; show p.pos + j < _; omega⟩⟩⟩
        | none => exact ih (a + 1) s _ B (by omega) hd hf hm (sxFrom_ok _ _ hx)
      rw [if_neg k1, if_neg k1]
      by_cases k2 : p.kind = 2
      · rw [if_pos k2, if_pos k2]
        rw [if_neg (by omega), if_neg (by omega)] at hd
        by_cases hh : x.hole.2 = 0
        · rw [if_pos hh, if_neg (fun q => q hh)]
          exact ih (a + 1) _ _ B (by omega) hd hf (hm.mark _ _ _) (behindHole_ok _ hx)
        · rw [if_neg hh, if_pos hh]
          exact ⟨rfl, rfl, .inr ⟨p, hmem, .inl rfl⟩⟩
      rw [if_neg k2, if_neg k2]
      by_cases k3 : p.kind = 3 ∨ p.kind = 4
      · rw [if_pos k3, if_pos k3]
        rw [if_pos k3] at hd
        have := ih (a + 1) s x (B ++ [(x, p.mate)]) (by omega) (by simpa using hd) hf hm hx
        rw [List.map_append] at this
        exact this
      rw [if_neg k3, if_neg k3]
      rw [if_neg k3] at hd
      by_cases k5 : p.kind = 5
      · rw [if_pos k5, if_pos k5]
        rw [if_pos k5] at hd
        simp only [ne_eq, Bool.and_eq_true, decide_eq_true_eq] at hd
        cases hB : B.getLast? with
        | none =>
          rw [List.getLast?_eq_none_iff] at hB
          subst hB
          exact absurd rfl hd.1
        | some b =>
          have hB2 : (B.map (·.1)).getLast? = some b.1 := by rw [List.getLast?_map, hB]; rfl
          simp only [hB2]
          by_cases hb : x = b.1
          · rw [if_pos hb, if_neg (fun q => q hb)]
            have := ih (a + 1) s x B.dropLast (by omega) (by simpa using hd.2) hf hm hx
            rw [List.map_dropLast] at this
            exact this
          · rw [if_neg hb, if_pos hb]
            refine ⟨rfl, rfl, ?_⟩
            obtain ⟨q, hq, h | h⟩ := posAt_some P p.mate (fun e => by rw [e] at hmem; cases hmem)
            · exact .inr ⟨q, hq, .inl h⟩
            · exact .inl h
      rw [if_neg k5, if_neg k5]
      have k6 : p.kind = 6 := by omega
      rw [if_pos k6, hnm p hmem k6]
      rw [if_neg k5] at hd
      simp only [none_not hx]
      rw [if_neg (by rw [mark_fault, hf, h0]; simp), if_pos trivial]
      exact ih (a + 1) _ x B (by omega) hd hf (hm.mark _ _ _) hx

end Go.Proofs.YtfkhljmiehdgmaaGreatDoor.Pl

/-
  Plain: in what parts end, none of whose partials is there.
-/
namespace Go.Proofs.YtfkhljmiehdgmaaGreatDoor.Pl

theorem fold_back {o : Nat} {l : List Pt} (h : Wf o l) : ∀ (x : Sx) (B : List Sx) (y : Sx × List Sx), tokFold l x B = some y → y.2 = B := by
  induction h with
  | nil o => intro x B y h; injection h with h; subst h; rfl
  | leaf o p l hk _ ih =>
    intro x B y h
    obtain ⟨z, h1, h2⟩ := Option.bind_eq_some_iff.1 h
    rw [ih _ _ _ h2]
    unfold tokStep at h1
    split at h1
    · split at h1
      · cases h1
      · injection h1 with h1; subst h1; rfl
    · split at h1
      · split at h1
        · injection h1 with h1; subst h1; rfl
        · cases h1
      · rw [if_neg (by omega), if_neg (by omega)] at h1
        injection h1 with h1; subst h1; rfl
  | sec o p q b l hp hq h1 h2 hb _ ihb ihl =>
    intro x B y h
    have e : p :: b ++ q :: l = p :: (b ++ (q :: l)) := by simp
    rw [e] at h
    obtain ⟨z, g1, g2⟩ := Option.bind_eq_some_iff.1 h
    unfold tokStep at g1
    rw [if_neg (by omega), if_neg (by omega), if_pos hp] at g1
    injection g1 with g1; subst g1
    rw [tokFold_append] at g2
    obtain ⟨u, g3, g4⟩ := Option.bind_eq_some_iff.1 g2
    have hu := ihb _ _ _ g3
    obtain ⟨u1, u2⟩ := u
    simp only at hu g4
    subst hu
    obtain ⟨v, g5, g6⟩ := Option.bind_eq_some_iff.1 g4
    unfold tokStep at g5
    rw [if_neg (by omega), if_neg (by omega), if_neg (by omega), if_pos hq, List.getLast?_concat, List.dropLast_concat] at g5
    simp only at g5
    split at g5
    · injection g5 with g5; subst g5
      exact ihl _ _ _ g6
    · cases g5
/-- behind a section the state is the one ahead of it -/
theorem fold_sec {o : Nat} {p q : Pt} {b l : List Pt} (hp : p.kind = 3 ∨ p.kind = 4) (hq : q.kind = 5) (hb : Wf o b) {x : Sx} {B : List Sx} {y : Sx × List Sx} (h : tokFold (p :: b ++ q :: l) x B = some y) : tokFold l x B = some y := by
  have e : p :: b ++ q :: l = p :: (b ++ (q :: l)) := by simp
  rw [e] at h
  obtain ⟨z, g1, g2⟩ := Option.bind_eq_some_iff.1 h
  unfold tokStep at g1
  rw [if_neg (by omega), if_neg (by omega), if_pos hp] at g1
  injection g1 with g1; subst g1
  rw [tokFold_append] at g2
  obtain ⟨u, g3, g4⟩ := Option.bind_eq_some_iff.1 g2
  have hu := fold_back hb _ _ _ g3
  obtain ⟨u1, u2⟩ := u
  simp only at hu g4
  subst hu
  obtain ⟨v, g5, g6⟩ := Option.bind_eq_some_iff.1 g4
  unfold tokStep at g5
  rw [if_neg (by omega), if_neg (by omega), if_neg (by omega), if_pos hq, List.getLast?_concat, List.dropLast_concat] at g5
  simp only at g5
  split at g5
  · rename_i hx
    injection g5 with g5; subst g5
    simp only at g6
    rw [hx] at g6
    exact g6
  · cases g5

theorem edDropAt {α : Type} {P l : List α} {o : Nat} {p : α} (h : P.drop o = p :: l) : P[o]? = some p ∧ P.drop (o + 1) = l := by
  have h1 : P[o]? = some p := by
    have := congrArg (·[0]?) h
    simpa using this
  refine ⟨h1, ?_⟩
  have := drop_cons h1
  rw [h] at this
  exact ((List.cons.injEq _ _ _ _).mp this).2.symm
theorem walkV_fold (beh : Sr → List UInt8 → Sx → Sr × Sx) {o : Nat} {l : List Pt} (h : Wf o l) : ∀ (P : List Pt), P.drop o = l → (∀ p ∈ P, p.kind = 6 → ∀ s x, beh s p.text x = (s, x)) →
    ∀ (n : Nat) (s : Sr) (x : Sx) (B : List Sx) (y : Sx × List Sx), l.length < n → SxOk x → tokFold l x B = some y → walkV beh P n o s x = (s, y.1) := by
  induction h with
  | nil o =>
    intro P hP hbeh n s x B y hn hx h
    injection h with h; subst h
    obtain ⟨n, rfl⟩ : ∃ k, n = k + 1 := ⟨n - 1, by simp at hn; omega⟩
    unfold walkV
    have : P[o]? = Option.none := by simpa using hP
    rw [this, none_not hx]; rfl
  | leaf o p l hk _ ih =>
    intro P hP hbeh n s x B y hn hx h
    obtain ⟨z, h1, h2⟩ := Option.bind_eq_some_iff.1 h
    obtain ⟨hp, hd⟩ := edDropAt hP
    have hz := tokStep_ok hx h1
    obtain ⟨n, rfl⟩ : ∃ k, n = k + 1 := ⟨n - 1, by simp at hn; omega⟩
    have hn' : l.length < n := by simp at hn; omega
    unfold walkV
    rw [hp, none_not hx]
    unfold tokStep at h1
    simp only [Bool.false_eq_true, if_false]
    by_cases k1 : p.kind = 1
    · rw [if_pos k1] at h1 ⊢
      split at h1
      · cases h1
      · injection h1 with h1; subst h1
        exact ih P hd hbeh n s _ _ y hn' hz h2
    rw [if_neg k1] at h1 ⊢
    by_cases k2 : p.kind = 2
    · rw [if_pos k2] at h1 ⊢
      split at h1
      · injection h1 with h1; subst h1
        exact ih P hd hbeh n s _ _ y hn' hz h2
      · cases h1
    rw [if_neg k2, if_neg (by omega), if_neg (by omega)] at h1
    rw [if_neg k2, if_neg (by omega), if_pos (by omega), hbeh p (List.mem_of_getElem? hp) (by omega)]
    injection h1 with h1; subst h1
    exact ih P hd hbeh n s _ _ y hn' hz h2
  | sec o p q b l hp hq h1 h2 hb _ ihb ihl =>
    intro P hP hbeh n s x B y hn hx h
    have e : p :: b ++ q :: l = p :: (b ++ (q :: l)) := by simp
    have hP2 := hP
    rw [e] at hP2
    obtain ⟨hp0, hd⟩ := edDropAt hP2
    obtain ⟨n, rfl⟩ : ∃ k, n = k + 1 := ⟨n - 1, by simp at hn; omega⟩
    have hd2 : P.drop (o + b.length + 2) = l := by
      have : P.drop (o + 1 + b.length + 1) = l := by
        rw [Nat.add_assoc (o + 1), ← List.drop_drop, hd, ← List.drop_drop, List.drop_left]
        rfl
      rw [show o + b.length + 2 = o + 1 + b.length + 1 by omega]
      exact this
    unfold walkV
    rw [hp0, none_not hx]
    simp only [Bool.false_eq_true, if_false]
    rw [if_neg (by omega), if_neg (by omega), if_pos hp, h1, show o + 1 + b.length + 1 = o + b.length + 2 by omega]
    exact ihl P hd2 hbeh n s x B y (by simp at hn; omega) hx (fold_sec hp hq hb h)

end Go.Proofs.YtfkhljmiehdgmaaGreatDoor.Pl

/-
  Plain: templates whose partials are not there, and one that is.
-/
namespace Go.Proofs.YtfkhljmiehdgmaaGreatDoor.Pl

theorem behV_absent (S : List Src) (k : Nat) (s : Sr) (n : List UInt8) (x : Sx) (h : placeOf S n = 0) : behV S k s n x = (s, x) := by
  cases k with
  | zero => rfl
  | succ k => unfold behV; rw [if_pos h]
/-- what the search does at a partial -/
def nmV (S : List Src) (k : Nat) (s : Sr) (n : List UInt8) (x : Sx) : Sr × Nat × Sx :=
  let r := behV S 257 s n x
  if placeOf S n = 0 ∨ r.1.fault.code ≠ 0 then (r.1, 0, r.2)
  else if numOf r.1 (placeOf S n, x) = 0 then
    (thruV S k r.1 (placeOf S n, x), numOf (thruV S k r.1 (placeOf S n, x)) (placeOf S n, x), r.2)
  else (r.1, numOf r.1 (placeOf S n, x), r.2)
theorem nmV_absent (S : List Src) (k : Nat) (s : Sr) (n : List UInt8) (x : Sx) (h : placeOf S n = 0) : nmV S k s n x = (s, 0, x) := by
  unfold nmV
  rw [behV_absent S _ s n x h]
  simp only
  rw [if_pos (.inl h)]
def begun (S : List Src) (s : Sr) (e : En) : Sr := { s with nums := putKey s.nums e s.vis.length, vis := s.vis ++ [(e.1, List.replicate (partsAt S e.1).length 0)] }
theorem thruV_eq (S : List Src) (k : Nat) (s : Sr) (e : En) : thruV S (k + 1) s e = goV (nmV S k) S e.1 s.vis.length (partsAt S e.1) ((partsAt S e.1).length + 1) 0 (begun S s e) e.2 [] := by
  conv => lhs; unfold thruV
  rfl
/-- parts none of whose partials is there -/
def Absent (S : List Src) (P : List Pt) : Prop := ∀ p ∈ P, p.kind = 6 → placeOf S p.text = 0
theorem thru_absent (S : List Src) (k : Nat) (s : Sr) (e : En) (hw : Wf 0 (partsAt S e.1)) (ha : Absent S (partsAt S e.1)) (h0 : s.fault.code = 0) (hx : SxOk e.2) :
    GoRes S e.1 (partsAt S e.1) (begun S s e) (tokFold (partsAt S e.1) e.2 []) (thruV S (k + 1) s e) := by
  rw [thruV_eq]
  have := goV_fold (nmV S k) S e.1 s.vis.length (partsAt S e.1) (wf_kinds hw) (fun p hp hk s x => nmV_absent S k s _ x (ha p hp hk)) (begun S s e) h0 ((partsAt S e.1).length + 1) 0 (begun S s e) e.2 [] (by omega)
    (by rw [List.drop_zero]; have := deep_wf hw [] 0 rfl; simpa using this) rfl (Marks.refl _) hx
  rw [List.drop_zero] at this
  exact this
theorem walk_absent (S : List Src) (k : Nat) (s : Sr) (P : List Pt) (hw : Wf 0 P) (ha : Absent S P) (x : Sx) (hx : SxOk x) (B : List Sx) (y : Sx × List Sx) (h : tokFold P x B = some y) : walkV (behV S k) P (P.length + 1) 0 s x = (s, y.1) :=
  walkV_fold (behV S k) hw P rfl (fun p hp hk s x => behV_absent S k s _ x (ha p hp hk)) _ s x B y (by omega) hx h

/-- a template none of whose partials is there -/
theorem look_absent (S : List Src) (len : Nat) (hw : Wf 0 (partsAt S 0)) (ha : Absent S (partsAt S 0)) :
    match tokFold (partsAt S 0) Sx.start [] with
    | some y => (y.1 = Sx.start → (lookV S len).2 = Ft.none ∧ (lookV S len).1.length = 1) ∧ (y.1 ≠ Sx.start → (lookV S len).2 = ⟨3, 15, nameAt S 0, len⟩)
    | Option.none => (lookV S len).2.code = 3 ∧ (lookV S len).2.place = nameAt S 0 ∧ ((lookV S len).2.pos = 0 ∨ ∃ p ∈ partsAt S 0, (lookV S len).2.pos = p.pos ∨ (p.kind = 1 ∧ (lookV S len).2.pos < p.pos + p.text.length)) := by
  have h := thru_absent S 257 ⟨[], [], [], Ft.none⟩ (0, Sx.start) hw ha rfl sxStart_ok
  unfold lookV
  simp only
  generalize thruV S 258 ⟨[], [], [], Ft.none⟩ (0, Sx.start) = s at h
  unfold GoRes at h
  cases hf : tokFold (partsAt S 0) Sx.start [] with
  | none =>
    simp only [hf] at h ⊢
    have : s.fault.code ≠ 0 := by rw [h.1]; decide
    rw [if_pos this]
    exact h
  | some y =>
    simp only [hf] at h ⊢
    have hz : s.fault.code = 0 := by rw [h.1]; rfl
    have hwalk := walk_absent S 257 s _ hw ha Sx.start sxStart_ok [] y hf
    rw [if_neg (by rw [hz]; simp), hwalk]
    have hy : SxOk y.1 := by
      clear hwalk h hz
      have hall : ∀ (l : List Pt) (x : Sx) (B : List Sx) (y : Sx × List Sx), SxOk x → tokFold l x B = some y → SxOk y.1 := by
        intro l
        induction l with
        | nil => intro x B y hx h; injection h with h; subst h; exact hx
        | cons p l ih =>
          intro x B y hx h
          obtain ⟨z, h1, h2⟩ := Option.bind_eq_some_iff.1 h
          exact ih _ _ _ (tokStep_ok hx h1) h2
      exact hall _ _ _ _ sxStart_ok hf
    refine ⟨fun e => ?_, fun e => ?_⟩
    · rw [if_neg (fun q => q.2 e), if_neg (by rw [hz]; simp)]
      refine ⟨rfl, ?_⟩
      rw [h.2.vis]; rfl
    · rw [if_pos ⟨none_not hy, e⟩]
/-- a template that names one that is taken by itself -/
theorem look_one (n : List UInt8) (P : List Pt) (m len : Nat) (hw : Wf 0 P) (ha : ∀ p ∈ P, p.kind = 6 → p.text ≠ n) (y : List Sx) (hf : tokFold P Sx.start [] = some (Sx.start, y)) :
    (lookV [⟨[], [⟨6, 0, n, m⟩]⟩, ⟨n, P⟩] len).2 = Ft.none ∧ (lookV [⟨[], [⟨6, 0, n, m⟩]⟩, ⟨n, P⟩] len).1.length = 2 := by
  obtain ⟨S, hS⟩ : ∃ S : List Src, S = [⟨[], [⟨6, 0, n, m⟩]⟩, ⟨n, P⟩] := ⟨_, rfl⟩
  rw [← hS]
  have hp0 : partsAt S 0 = [⟨6, 0, n, m⟩] := by rw [hS]; rfl
  have hp1 : partsAt S 1 = P := by rw [hS]; rfl
  have hpl : placeOf S n = 1 := by rw [hS]; simp [placeOf, placeGo]
  have habs : Absent S P := fun p hp hk => by
    rw [hS]
    show placeGo p.text 1 [⟨n, P⟩] = 0
    have e : placeGo p.text 1 [⟨n, P⟩] = if n = p.text then 1 else 0 := rfl
    rw [e, if_neg (fun q => ha p hp hk q.symm)]
  have hwalk := fun k s => walk_absent S k s P hw habs Sx.start sxStart_ok [] (Sx.start, y) hf
  obtain ⟨s1, hs1⟩ : ∃ s1, s1 = begun S ⟨[], [], [], Ft.none⟩ (0, Sx.start) := ⟨_, rfl⟩
  have e1 : s1.ends = [] := by rw [hs1]; rfl
  have f1 : s1.fault = Ft.none := by rw [hs1]; rfl
  have n1 : s1.nums = [((0, Sx.start), 0)] := by rw [hs1]; rfl
  have v1 : s1.vis.length = 1 := by rw [hs1]; rfl
  -- behind the partial
  have hbeh : behV S 257 s1 n Sx.start = ({ s1 with ends := [((1, Sx.start), Sx.start)] }, Sx.start) := by
    show behV S (256 + 1) s1 n Sx.start = _
    unfold behV
    rw [hpl, e1]
    simp only [Nat.one_ne_zero, if_false, getKey, List.length_nil]
    rw [if_neg (by omega), hp1, hwalk]
    simp [putKey]
  obtain ⟨s2, hs2⟩ : ∃ s2 : Sr, s2 = { s1 with ends := [((1, Sx.start), Sx.start)] } := ⟨_, rfl⟩
  rw [← hs2] at hbeh
  have f2 : s2.fault.code = 0 := by rw [hs2]; show s1.fault.code = 0; rw [f1]; rfl
  have h3 := thru_absent S 256 s2 (1, Sx.start) (by rw [hp1]; exact hw) (by rw [hp1]; exact habs) f2 sxStart_ok
  simp only [hp1, hf] at h3
  obtain ⟨s3, hs3⟩ : ∃ s3, s3 = thruV S 257 s2 (1, Sx.start) := ⟨_, rfl⟩
  rw [← hs3] at h3
  obtain ⟨g1, g2⟩ := h3
  have hnum0 : numOf s2 (1, Sx.start) = 0 := by rw [hs2]; unfold numOf; show (getKey s1.nums _).getD 0 = 0; rw [n1]; simp [getKey]
  have hnm : ∃ j, nmV S 257 s1 n Sx.start = (s3, j, Sx.start) := by
    unfold nmV
    rw [hbeh]
    simp only [hpl]
    rw [if_neg (by rw [f2]; simp), if_pos hnum0, ← hs3]
    exact ⟨_, rfl⟩
  obtain ⟨j, hnm⟩ := hnm
  have f3 : s3.fault.code = 0 := by rw [g1]; exact f2
  have e3 : s3.ends = [((1, Sx.start), Sx.start)] := by rw [g2.ends, hs2]; rfl
  have v3 : s3.vis.length = 2 := by
    rw [g2.vis]
    show (s2.vis ++ [_]).length = 2
    rw [hs2, List.length_append]
    show s1.vis.length + 1 = 2
    rw [v1]
  have hthru : thruV S 258 ⟨[], [], [], Ft.none⟩ (0, Sx.start) = s3.mark 0 0 j := by
    rw [thruV_eq, ← hs1, hp0]
    show goV (nmV S 257) S 0 0 [⟨6, 0, n, m⟩] (1 + 1) 0 s1 Sx.start [] = _
    unfold goV
    simp only [List.getElem?_cons_zero]
    rw [if_neg (by omega), if_neg (by omega), if_neg (by omega), if_neg (by omega), if_pos trivial, hnm]
    simp only [none_not sxStart_ok]
    rw [if_neg (by rw [mark_fault, f3]; simp), if_pos trivial]
    unfold goV
    rfl
  unfold lookV
  simp only
  rw [hthru, if_neg (by rw [mark_fault, f3]; simp), hp0]
  have hw2 : walkV (behV S 257) [⟨6, 0, n, m⟩] (1 + 1) 0 (s3.mark 0 0 j) Sx.start = (s3.mark 0 0 j, Sx.start) := by
    have hb2 : behV S 257 (s3.mark 0 0 j) n Sx.start = (s3.mark 0 0 j, Sx.start) := by
      show behV S (256 + 1) _ n Sx.start = _
      unfold behV
      have : (s3.mark 0 0 j).ends = [((1, Sx.start), Sx.start)] := e3
      rw [hpl, this]
      simp [getKey]
    unfold walkV
    simp only [none_not sxStart_ok, Bool.false_eq_true, if_false, List.getElem?_cons_zero]
    rw [if_neg (by omega), if_neg (by omega), if_neg (by omega), if_pos trivial, hb2]
    unfold walkV
    simp [none_not sxStart_ok]
  simp only [List.length_cons, List.length_nil, Nat.zero_add]
  rw [hw2]
  rw [if_neg (fun q => q.2 rfl), if_neg (by rw [mark_fault, f3]; simp)]
  refine ⟨rfl, ?_⟩
  show (s3.mark 0 0 j).vis.length = 2
  unfold Sr.mark
  simp [v3]

end Go.Proofs.YtfkhljmiehdgmaaGreatDoor.Pl

/-
  Plain: what stands behind a text that is cut.
-/
namespace Go.Proofs.YtfkhljmiehdgmaaGreatDoor.Pl

theorem prefix_short {x s u : List UInt8} (h : x.isPrefixOf (s ++ u) = true) (hl : x.length ≤ s.length) : x.isPrefixOf s = true := by
  rw [List.isPrefixOf_iff_prefix] at h ⊢
  obtain ⟨r, hr⟩ := h
  refine ⟨s.drop x.length, ?_⟩
  have h1 := congrArg (List.take x.length) hr
  rw [List.take_append_of_le_length (Nat.le_refl _), List.take_length, List.take_append_of_le_length hl] at h1
  conv => lhs; lhs; rw [h1]
  exact List.take_append_drop _ _
theorem occ_more {s x u : List UInt8} {j : Nat} (hj : j + x.length ≤ s.length) : Go.Lib.occAt (s ++ u) x j = Go.Lib.occAt s x j := by
  unfold Go.Lib.occAt
  rw [List.drop_append_of_le_length (by omega), Bool.eq_iff_iff]
  constructor
  · intro h; exact prefix_short h (by rw [List.length_drop]; omega)
  · intro h
    rw [List.isPrefixOf_iff_prefix] at h ⊢
    exact h.trans (List.prefix_append _ _)
/-- what is found stays found -/
theorem cut_more {s x : List UInt8} (u : List UInt8) (h : (Go.Lib.cut s x).2.2 = true) : Go.Lib.cut (s ++ u) x = ((Go.Lib.cut s x).1, (Go.Lib.cut s x).2.1 ++ u, true) := by
  unfold Go.Lib.cut at h
  by_cases h0 : 0 ≤ Go.Lib.index s x
  rotate_left
  · rw [if_neg h0] at h; cases h
  rcases Go.Lib.index_spec s x with ⟨h1, _⟩ | ⟨i, h1, h2, h3, h4⟩
  · omega
  have hr := Go.Lib.index_room s x h0
  rw [h1] at hr
  have hi : Go.Lib.index (s ++ u) x = i := by
    refine Go.Lib.index_first (by simp; omega) ?_ ?_
    · rw [occ_more (by omega)]; exact h3
    · intro j hj
      rw [occ_more (by omega)]; exact h4 j hj
  unfold Go.Lib.cut
  rw [hi, h1, if_pos (by omega), if_pos (by omega)]
  simp only [Int.toNat_natCast]
  rw [List.take_append_of_le_length (by omega), List.drop_append_of_le_length (by omega)]
theorem last_at {s : List UInt8} {j : Nat} (h : j + 1 = s.length) : s.getLast? = s[j]? := by
  rw [List.getLast?_eq_getElem?]
  congr 1; omega
/-- what is not found in a text is found where it stands behind it -/
theorem cut_at {s : List UInt8} (u : List UInt8) (h : (Go.Lib.cut s [123, 123]).2.2 = false) (hl : s.getLast? ≠ some 123) : Go.Lib.cut (s ++ 123 :: 123 :: u) [123, 123] = (s, u, true) := by
  unfold Go.Lib.cut at h
  by_cases h0 : 0 ≤ Go.Lib.index s [123, 123]
  · rw [if_pos h0] at h; cases h
  rcases Go.Lib.index_spec s [123, 123] with ⟨h1, h2⟩ | ⟨i, h1, _⟩
  rotate_left
  · omega
  have hi : Go.Lib.index (s ++ 123 :: 123 :: u) [123, 123] = s.length := by
    refine Go.Lib.index_first (by simp) ?_ ?_
    · unfold Go.Lib.occAt
      rw [List.drop_left]
      simp [List.isPrefixOf]
    · intro j hj
      by_cases hj2 : j + 2 ≤ s.length
      · rw [occ_more (by simpa using hj2)]
        exact h2 j (by omega)
      · unfold Go.Lib.occAt
        rw [List.drop_append_of_le_length (by omega), List.drop_eq_getElem_cons hj]
        rw [Bool.eq_false_iff]
        intro q
        simp only [List.cons_append, List.isPrefixOf, Bool.and_eq_true, beq_iff_eq] at q
        refine hl ?_
        rw [last_at (j := j) (by omega), List.getElem?_eq_getElem hj, ← q.1]
  unfold Go.Lib.cut
  rw [hi, if_pos (by omega)]
  simp only [Int.toNat_natCast, List.take_left, List.length_cons, List.length_nil, Nat.zero_add, Nat.reduceAdd]
  congr 2
  rw [← List.drop_drop, List.drop_left]
  rfl
theorem cut_nil (x : List UInt8) (hx : x ≠ []) : (Go.Lib.cut [] x).2.2 = false := by
  cases x with
  | nil => exact absurd rfl hx
  | cons b l => rfl

/-- blanks of a line -/
def Blank (l : List UInt8) : Prop := ∀ b ∈ l, lineBl.contains b = true
theorem blank_not {l : List UInt8} (h : Blank l) : (Go.Lib.cut l [123, 123]).2.2 = false := by
  unfold Go.Lib.cut
  rcases Go.Lib.index_spec l [123, 123] with ⟨h1, _⟩ | ⟨i, h1, h2, h3, _⟩
  · rw [h1]; rfl
  · exfalso
    unfold Go.Lib.occAt at h3
    rw [List.isPrefixOf_iff_prefix] at h3
    have : (123 : UInt8) ∈ l := List.mem_of_mem_drop (h3.subset (by simp))
    have := h _ this
    revert this; decide
theorem dropWhile_split (f : UInt8 → Bool) : ∀ l : List UInt8, ∃ a, l = a ++ l.dropWhile f ∧ ∀ b ∈ a, f b = true
  | [] => ⟨[], rfl, by simp⟩
  | b :: l => by
    by_cases h : f b = true
    · obtain ⟨a, h1, h2⟩ := dropWhile_split f l
      refine ⟨b :: a, ?_, ?_⟩
      · rw [List.dropWhile_cons_of_pos h, List.cons_append, ← h1]
      · intro c hc
        rcases List.mem_cons.1 hc with rfl | hc
        · exact h
        · exact h2 c hc
    · exact ⟨[], by rw [List.dropWhile_cons_of_neg h]; rfl, by simp⟩
theorem trimR_split (l : List UInt8) : ∃ a, l = Go.Lib.trimRightS l lineBl ++ a ∧ Blank a := by
  obtain ⟨a, h1, h2⟩ := dropWhile_split (lineBl.contains ·) l.reverse
  refine ⟨a.reverse, ?_, fun b hb => h2 b (List.mem_reverse.1 hb)⟩
  have := congrArg List.reverse h1
  rw [List.reverse_reverse, List.reverse_append] at this
  exact this
theorem trimL_split (l : List UInt8) : ∃ a, l = a ++ Go.Lib.trimLeftS l lineBl ∧ Blank a := dropWhile_split (lineBl.contains ·) l
theorem dropWhile_app (f : UInt8 → Bool) (u : List UInt8) : ∀ l : List UInt8, l.dropWhile f ≠ [] → (l ++ u).dropWhile f = l.dropWhile f ++ u
  | [], h => absurd rfl h
  | b :: l, h => by
    by_cases hb : f b = true
    · rw [List.cons_append, List.dropWhile_cons_of_pos hb, List.dropWhile_cons_of_pos hb]
      rw [List.dropWhile_cons_of_pos hb] at h
      exact dropWhile_app f u l h
    · rw [List.cons_append, List.dropWhile_cons_of_neg hb, List.dropWhile_cons_of_neg hb]; rfl
theorem dropWhile_all (f : UInt8 → Bool) (u : List UInt8) : ∀ l : List UInt8, l.dropWhile f = [] → (l ++ u).dropWhile f = u.dropWhile f
  | [], _ => rfl
  | b :: l, h => by
    by_cases hb : f b = true
    · rw [List.cons_append, List.dropWhile_cons_of_pos hb]
      rw [List.dropWhile_cons_of_pos hb] at h
      exact dropWhile_all f u l h
    · rw [List.dropWhile_cons_of_neg hb] at h; cases h
/-- a line's bounds in a text behind which something stands: the same, or the tag stands alone at the text's end -/
theorem lineOf_more (t u : List UInt8) (a z : Nat) (ha : a ≤ t.length) (hz : z ≤ t.length) (hu : ∃ b r, u = b :: r ∧ b ≠ 10 ∧ lineBl.contains b = false) :
    lineOf (t ++ u) a z = lineOf t a z ∨ (Blank (t.drop z) ∧ lineOf (t ++ u) a z = (a, z) ∧ lineOf t a z = ((Go.Lib.trimRightS (t.take a) lineBl).length, t.length)) ∨ (Blank (t.drop z) ∧ lineOf (t ++ u) a z = (a, z) ∧ lineOf t a z = (a, z)) := by
  unfold lineOf
  rw [List.take_append_of_le_length ha, List.drop_append_of_le_length hz]
  generalize Go.Lib.trimRightS (t.take a) lineBl = A
  unfold Go.Lib.trimLeftS
  by_cases h0 : (t.drop z).dropWhile (lineBl.contains ·) = []
  · obtain ⟨b, r, rfl, hb, hb2⟩ := hu
    have hbl : Blank (t.drop z) := by
      obtain ⟨x, h1, h2⟩ := dropWhile_split (lineBl.contains ·) (t.drop z)
      rw [h0, List.append_nil] at h1
      rw [h1]; exact h2
    rw [dropWhile_all _ _ _ h0, h0]
    rw [List.dropWhile_cons_of_neg (by rw [hb2]; simp)]
    have e1 : (List.head? (b :: r)).any (· != 10) = true := by simp [hb]
    rw [e1, Bool.or_true, if_pos rfl]
    simp only [List.head?_nil, Option.any_none, Bool.or_false]
    by_cases hA : A.getLast?.any (· != 10) = true
    · rw [if_pos hA]; exact .inr (.inr ⟨hbl, by simp, rfl⟩)
    · rw [if_neg hA]
      refine .inr (.inl ⟨hbl, by simp, ?_⟩)
      simp [Go.Lib.trimPrefix, Go.Lib.hasPrefix]
  · rw [dropWhile_app _ _ _ h0]
    generalize (t.drop z).dropWhile (lineBl.contains ·) = D at h0
    left
    cases D with
    | nil => exact absurd rfl h0
    | cons b r =>
      have e2 : (b :: r ++ u).head? = (b :: r).head? := rfl
      rw [e2]
      by_cases hc : (Option.any (fun x => x != 10) A.getLast? || Option.any (fun x => x != 10) (b :: r).head?) = true
      · rw [if_pos hc, if_pos hc]
      · rw [if_neg hc, if_neg hc]
        have hb : b = 10 := by
          simp only [List.head?_cons, Option.any_some, Bool.or_eq_true, not_or] at hc
          simpa using hc.2
        subst hb
        congr 1
        simp [Go.Lib.trimPrefix, Go.Lib.hasPrefix, List.isPrefixOf]
        omega

end Go.Proofs.YtfkhljmiehdgmaaGreatDoor.Pl

/-
  Plain: how far a text that is taken by itself is cut where something stands behind it.
-/
namespace Go.Proofs.YtfkhljmiehdgmaaGreatDoor.Pl

theorem mem_trimS' (l cs : List UInt8) : ∀ b ∈ Go.Lib.trimS l cs, b ∈ l := by
  intro b hb
  unfold Go.Lib.trimS Go.Lib.trimLeftS Go.Lib.trimRightS at hb
  have h1 := (List.dropWhile_sublist _).subset hb
  rw [List.mem_reverse] at h1
  have h2 := (List.dropWhile_sublist _).subset h1
  exact List.mem_reverse.1 h2
theorem kindOfTag_eq {l : List UInt8} (h : kindOfTag l = 8) : (61 : UInt8) ∈ l := by
  unfold kindOfTag at h
  split at h
  · cases h
  · rename_i b r
    by_cases h1 : b = 33
    · rw [if_pos h1] at h; cases h
    by_cases h2 : b = 61
    · rw [h2]; simp
    rw [if_neg h1, if_neg h2] at h
    repeat' split at h
    all_goals cases h
theorem readTg_kind (l : List UInt8) : (readTg l).kind = kindOfTag l := by
  have hn : ∀ k n, (namedTg k n).kind = k := by
    intro k n
    unfold namedTg
    split <;> split <;> rfl
  unfold readTg
  by_cases h7 : kindOfTag l = 7
  · rw [if_pos h7, h7]
  rw [if_neg h7]
  by_cases h8 : kindOfTag l = 8
  · rw [if_pos h8, h8]
    unfold readDl
    split
    · rfl
    · split
      · split <;> rfl
      · rfl
  rw [if_neg h8]
  split
  · rename_i h2; rw [hn, h2]
  · exact hn _ _
theorem take_op (c : Ct) (one : Tg) (p : Nat) (h : one.kind ≠ 8) : (c.take one p).2.op = c.op ∧ (c.take one p).2.cl = c.cl := by
  unfold Ct.take
  by_cases h1 : one.slip ≠ 0
  · rw [if_pos h1]; exact ⟨rfl, rfl⟩
  rw [if_neg h1]
  by_cases h2 : one.kind = 7
  · rw [if_pos h2]; exact ⟨rfl, rfl⟩
  rw [if_neg h2, if_neg h]
  split
  · split <;> exact ⟨rfl, rfl⟩
  · split
    · split
      · exact ⟨rfl, rfl⟩
      · split <;> exact ⟨rfl, rfl⟩
    · exact ⟨rfl, rfl⟩
theorem addText_op (c : Ct) (t : List UInt8) (a z : Nat) : (c.addText t a z).op = c.op ∧ (c.addText t a z).cl = c.cl ∧ (c.addText t a z).opened = c.opened := by
  unfold Ct.addText
  split <;> exact ⟨rfl, rfl, rfl⟩
theorem addText_more (c : Ct) (t u : List UInt8) (a z : Nat) (hz : z ≤ t.length) : c.addText (t ++ u) a z = c.addText t a z := by
  unfold Ct.addText
  split
  · rw [List.drop_append_of_le_length (by omega), List.take_append_of_le_length (by rw [List.length_drop]; omega)]
  · rfl
theorem ctOk_more {t : List UInt8} {c : Ct} {a : Nat} (u : List UInt8) (h : CtOk t c a) : CtOk (t ++ u) c a := ⟨h.op, h.cl, by have := h.le; simp; omega, h.few, h.six, h.wf⟩

/- a text in the fold -/
def tx (u : List UInt8) (y : Sx × List Sx) : Option (Sx × List Sx) := match schemeAt y.1 u with
  | some _ => Option.none
  | Option.none => some (sxFrom y.1 u, y.2)
theorem scheme_cons (x : Sx) (b : UInt8) (l : List UInt8) : schemeAt x (b :: l) = if makesScheme x.st.kind x.st.mode x.ma.far b = true then some 0 else (schemeAt (x.behind b) l).map (· + 1) := rfl
theorem schemeAt_app (u v : List UInt8) : ∀ x, schemeAt x (u ++ v) = match schemeAt x u with
    | some j => some j
    | Option.none => (schemeAt (sxFrom x u) v).map (· + u.length) := by
  induction u with
  | nil =>
    intro x
    show schemeAt x v = _
    have e : schemeAt x [] = Option.none := rfl
    rw [e]
    show _ = (schemeAt x v).map (· + 0)
    cases schemeAt x v <;> rfl
  | cons b u ih =>
    intro x
    rw [List.cons_append, scheme_cons, scheme_cons]
    have e : sxFrom x (b :: u) = sxFrom (x.behind b) u := rfl
    rw [e]
    by_cases h : makesScheme x.st.kind x.st.mode x.ma.far b = true
    · rw [if_pos h, if_pos h]
    · rw [if_neg h, if_neg h, ih]
      cases schemeAt (x.behind b) u with
      | some j => rfl
      | none =>
        generalize schemeAt (sxFrom (x.behind b) u) v = q
        cases q with
        | none => rfl
        | some j => simp; omega
theorem tx_app (u v : List UInt8) (y : Sx × List Sx) : tx (u ++ v) y = (tx u y).bind (tx v) := by
  unfold tx
  rw [schemeAt_app]
  cases h : schemeAt y.1 u with
  | some j => rfl
  | none =>
    simp only [Option.bind_some]
    cases h2 : schemeAt (sxFrom y.1 u) v with
    | some j => rfl
    | none => simp [sxFrom]
theorem tx_nil (y : Sx × List Sx) : tx [] y = some y := rfl
theorem start_blank : ∀ b ∈ lineBl, Sx.start.behind b = Sx.start ∧ makesScheme Sx.start.st.kind Sx.start.st.mode Sx.start.ma.far b = false := by decide
theorem tx_blank (v : List UInt8) (h : Blank v) (B : List Sx) : tx v (Sx.start, B) = some (Sx.start, B) := by
  induction v with
  | nil => rfl
  | cons b v ih =>
    have hb := start_blank b (by have := h b (by simp); exact List.contains_iff_mem.1 this)
    have ih := ih fun c hc => h c (List.mem_cons_of_mem _ hc)
    rw [show b :: v = [b] ++ v from rfl, tx_app]
    have : tx [b] (Sx.start, B) = some (Sx.start, B) := by
      unfold tx schemeAt
      rw [if_neg (by rw [hb.2]; simp)]
      show some (Sx.start.behind b, B) = _
      rw [hb.1]
    rw [this]
    exact ih
theorem fold_addText (c : Ct) (t : List UInt8) (a z : Nat) (x : Sx) (B : List Sx) : tokFold (c.addText t a z).parts x B = (tokFold c.parts x B).bind (tx ((t.drop a).take (z - a))) := by
  unfold Ct.addText
  by_cases h : a < z
  · rw [if_pos h]
    show tokFold (c.parts ++ _) x B = _
    rw [tokFold_append]
    congr 1
    funext y
    show (tokStep y.1 y.2 _).bind _ = _
    unfold tokStep tx
    rw [if_pos rfl]
    cases schemeAt y.1 ((t.drop a).take (z - a)) with
    | some j => rfl
    | none => rfl
  · rw [if_neg h, show z - a = 0 by omega, List.take_zero]
    cases tokFold c.parts x B <;> rfl
theorem tokStep_mate (x : Sx) (B : List Sx) (p : Pt) (n : Nat) : tokStep x B { p with mate := n } = tokStep x B p := rfl
theorem fold_mate (l : List Pt) (n : Nat) : ∀ (m : Nat) (x : Sx) (B : List Sx), tokFold (setMate l m n) x B = tokFold l x B := by
  induction l with
  | nil => intro m x B; unfold setMate; simp
  | cons p l ih =>
    intro m x B
    cases m with
    | zero => rfl
    | succ m =>
      have e : setMate (p :: l) (m + 1) n = p :: setMate l m n := by simp [setMate]
      rw [e]
      show (tokStep x B p).bind _ = (tokStep x B p).bind _
      congr 1
      funext y
      exact ih m y.1 y.2
theorem slice_blank (t : List UInt8) (a p : Nat) (hp : p ≤ t.length) : ∃ V, Blank V ∧ (t.drop a).take (p - a) = (t.drop a).take ((Go.Lib.trimRightS (t.take p) lineBl).length - a) ++ V := by
  obtain ⟨V0, h1, h2⟩ := trimR_split (t.take p)
  have hx := trimR_le (t.take p) lineBl
  rw [List.length_take] at hx
  generalize Go.Lib.trimRightS (t.take p) lineBl = X at h1 hx
  refine ⟨((t.drop a).take (p - a)).drop (X.length - a), ?_, ?_⟩
  · intro b hb
    rw [← List.drop_take, List.drop_drop] at hb
    have e : a + (X.length - a) = X.length + (a - X.length) := by omega
    rw [e, ← List.drop_drop, h1, List.drop_left] at hb
    exact h2 b (List.mem_of_mem_drop hb)
  · have e : (t.drop a).take (X.length - a) = ((t.drop a).take (p - a)).take (X.length - a) := by
      rw [List.take_take, Nat.min_eq_left (by omega)]
    rw [e, List.take_append_drop]

end Go.Proofs.YtfkhljmiehdgmaaGreatDoor.Pl

/-
  Plain: a text that is taken by itself, with something behind it: where its cutting comes to.
-/
namespace Go.Proofs.YtfkhljmiehdgmaaGreatDoor.Pl

theorem step_over_not {t : List UInt8} {c d : Ct} {a : Nat} (h : c.step t a = .over d) : (Go.Lib.cut (t.drop a) c.op).2.2 = false := by
  cases hf : (Go.Lib.cut (t.drop a) c.op).2.2 with
  | false => rfl
  | true =>
    exfalso
    cases h2 : (Go.Lib.cut (Go.Lib.cut (t.drop a) c.op).2.1 c.cl).2.2 with
    | false => rw [step_unclosed hf h2] at h; cases h
    | true =>
      generalize hO : (if (readTg (Go.Lib.trimS (Go.Lib.cut (Go.Lib.cut (t.drop a) c.op).2.1 c.cl).1 blanks5)).kind ≠ 2 then lineOf t (a + (Go.Lib.cut (t.drop a) c.op).1.length) (a + (Go.Lib.cut (t.drop a) c.op).1.length + c.op.length + (Go.Lib.cut (Go.Lib.cut (t.drop a) c.op).2.1 c.cl).1.length + c.cl.length) else (a + (Go.Lib.cut (t.drop a) c.op).1.length, a + (Go.Lib.cut (t.drop a) c.op).1.length + c.op.length + (Go.Lib.cut (Go.Lib.cut (t.drop a) c.op).2.1 c.cl).1.length + c.cl.length)) = o
      rw [step_tag hf h2 _ rfl _ _ rfl rfl o hO] at h
      by_cases q : ((c.addText t a o.1).take (readTg (Go.Lib.trimS (Go.Lib.cut (Go.Lib.cut (t.drop a) c.op).2.1 c.cl).1 blanks5)) (a + (Go.Lib.cut (t.drop a) c.op).1.length)).1 ≠ 0
      · rw [if_pos q] at h; cases h
      · rw [if_neg q] at h; cases h
/-- how far a text is cut where something stands behind it -/
structure Reach (t u : List UInt8) (P : List Pt) (c0 : Ct) (a0 : Nat) (c : Ct) (a : Nat) : Prop where
  rest : c0.rest (t ++ u) a0 = c.rest (t ++ u) a
  ok : CtOk (t ++ u) c a
  op : c.op = [123, 123]
  cl : c.cl = [125, 125]
  opened : c.opened = []
  le : a ≤ t.length
  no : (Go.Lib.cut (t.drop a) [123, 123]).2.2 = false
  fold : tokFold P Sx.start [] = some (Sx.start, []) → tokFold (c.addText (t ++ u) a t.length).parts Sx.start [] = some (Sx.start, [])

theorem addText_at (c : Ct) (t : List UInt8) (a z m : Nat) (h : m < c.parts.length) : textAt (c.addText t a z).parts m = textAt c.parts m := by
  unfold Ct.addText
  by_cases q : a < z
  · rw [if_pos q]
    unfold textAt
    simp only
    rw [List.getElem?_append_left h]
  · rw [if_neg q]
/-- the last tag stands alone at the text's end -/
theorem reach_alone {t u : List UInt8} {c : Ct} {a p to : Nat} {one : Tg} (hc : CtOk t c a) (hop : c.op = [123, 123]) (hcl : c.cl = [125, 125]) (ho : TgOk one) (hpt : p < to) (hto : to ≤ t.length) (h8 : one.kind ≠ 8) (h2 : one.kind ≠ 2)
    (hb : Blank (t.drop to)) (hs : ((c.addText t a (Go.Lib.trimRightS (t.take p) lineBl).length).take one p).1 = 0) (hl : ((c.addText t a (Go.Lib.trimRightS (t.take p) lineBl).length).take one p).2.opened = [])
    (hT : c.step (t ++ u) a = if ((c.addText (t ++ u) a p).take one p).1 ≠ 0 then .slip ((c.addText (t ++ u) a p).take one p).1 p else .next ((c.addText (t ++ u) a p).take one p).2 to) :
    Reach t u ((c.addText t a (Go.Lib.trimRightS (t.take p) lineBl).length).take one p).2.parts c a ((c.addText (t ++ u) a p).take one p).2 to := by
  obtain ⟨V, hV, hVs⟩ := slice_blank t a p (by omega)
  rw [addText_more c t u a p (by omega)] at hT ⊢
  have fA := fold_addText c t a (Go.Lib.trimRightS (t.take p) lineBl).length
  have fB := fold_addText c t a p
  have oA := addText_op c t a (Go.Lib.trimRightS (t.take p) lineBl).length
  have oB := addText_op c t a p
  have tA : ∀ m ∈ c.opened, textAt (c.addText t a (Go.Lib.trimRightS (t.take p) lineBl).length).parts m = textAt c.parts m := fun m hm => by
    have := hc.wf.lt m hm
    exact addText_at c t a _ m this
  have tB : ∀ m ∈ c.opened, textAt (c.addText t a p).parts m = textAt c.parts m := fun m hm => by
    have := hc.wf.lt m hm
    exact addText_at c t a _ m this
  rw [hVs] at fB
  generalize (t.drop a).take ((Go.Lib.trimRightS (t.take p) lineBl).length - a) = U at fA fB
  generalize c.addText t a (Go.Lib.trimRightS (t.take p) lineBl).length = A at fA oA tA hs hl ⊢
  generalize c.addText t a p = A' at fB oB tB hT ⊢
  have hdrop : ((t ++ u).drop to).take (t.length - to) = t.drop to := by
    rw [List.drop_append_of_le_length hto, List.take_append_of_le_length (by rw [List.length_drop]; omega), List.take_of_length_le (by rw [List.length_drop]; omega)]
  -- the two takes
  have key : (A'.take one p).1 = 0 ∧ (A'.take one p).2.opened = [] ∧ (tokFold (A.take one p).2.parts Sx.start [] = some (Sx.start, []) → tokFold (A'.take one p).2.parts Sx.start [] = some (Sx.start, [])) := by
    unfold Ct.take at hs hl ⊢
    by_cases h1 : one.slip ≠ 0
    · rw [if_pos h1] at hs; exact absurd hs h1
    rw [if_neg h1] at hs hl ⊢
    rw [if_neg h1]
    by_cases h7 : one.kind = 7
    · rw [if_pos h7] at hs hl ⊢
      rw [if_pos h7]
      refine ⟨rfl, by rw [oB.2.2, ← oA.2.2]; exact hl, fun hf => ?_⟩
      show tokFold A'.parts _ _ = _
      rw [fB]
      have hf : tokFold A.parts Sx.start [] = some (Sx.start, []) := hf
      rw [fA] at hf
      obtain ⟨y, y1, y2⟩ := Option.bind_eq_some_iff.1 hf
      rw [y1, Option.bind_some, tx_app, y2]
      exact tx_blank V hV []
    rw [if_neg h7, if_neg h8] at hs hl ⊢
    rw [if_neg h7, if_neg h8]
    by_cases h34 : one.kind = 3 ∨ one.kind = 4
    · rw [if_pos h34] at hs hl
      exfalso
      split at hs
      · cases hs
      · rename_i h6
        rw [if_neg h6] at hl
        simp at hl
    rw [if_neg h34] at hs hl ⊢
    rw [if_neg h34]
    by_cases h5 : one.kind = 5
    · rw [if_pos h5] at hs hl ⊢
      rw [if_pos h5]
      rw [oA.2.2] at hs hl ⊢
      rw [oB.2.2]
      cases hg : c.opened.getLast? with
      | none => rw [hg] at hs; cases hs
      | some m =>
        have hmm : m ∈ c.opened := List.mem_of_getLast? hg
        simp only [hg] at hs hl ⊢
        rw [tA m hmm] at hs hl ⊢
        rw [tB m hmm]
        by_cases ht : textAt c.parts m ≠ one.name
        · rw [if_pos ht] at hs; cases hs
        rw [if_neg ht] at hs hl ⊢
        rw [if_neg ht]
        refine ⟨rfl, hl, fun hf => ?_⟩
        have hf : tokFold (setMate A.parts m A.parts.length ++ [⟨5, p, one.name, m⟩]) Sx.start [] = some (Sx.start, []) := hf
        show tokFold (setMate A'.parts m A'.parts.length ++ [⟨5, p, one.name, m⟩]) Sx.start [] = some (Sx.start, [])
        rw [tokFold_append, fold_mate, fA] at hf
        rw [tokFold_append, fold_mate, fB]
        obtain ⟨z, z1, z2⟩ := Option.bind_eq_some_iff.1 hf
        obtain ⟨y, y1, y2⟩ := Option.bind_eq_some_iff.1 z1
        obtain ⟨zx, zB⟩ := z
        obtain ⟨v, v1, v2⟩ := Option.bind_eq_some_iff.1 z2
        injection v2 with v2
        have hzx : zx = Sx.start := by
          unfold tokStep at v1
          rw [if_neg (by simp), if_neg (by simp), if_neg (by simp), if_pos rfl] at v1
          split at v1
          · cases v1
          · split at v1
            · injection v1 with v1
              rw [← v1] at v2
              exact (Prod.mk.injEq _ _ _ _ ▸ v2).1
            · cases v1
        subst hzx
        rw [y1, Option.bind_some, tx_app, y2, Option.bind_some, tx_blank V hV zB, Option.bind_some]
        exact hf ▸ (by rw [z1, Option.bind_some])
    rw [if_neg h5] at hs hl ⊢
    rw [if_neg h5]
    have h6 : one.kind = 6 := by have := ho.kind; omega
    refine ⟨rfl, by show A'.opened = []; rw [oB.2.2, ← oA.2.2]; exact hl, fun hf => ?_⟩
    have hf : tokFold (A.parts ++ [⟨one.kind, p, one.name, 0⟩]) Sx.start [] = some (Sx.start, []) := hf
    show tokFold (A'.parts ++ [⟨one.kind, p, one.name, 0⟩]) Sx.start [] = some (Sx.start, [])
    have hid : ∀ y : Sx × List Sx, tokFold [⟨one.kind, p, one.name, 0⟩] y.1 y.2 = some y := fun y => by
      show (tokStep y.1 y.2 _).bind _ = _
      unfold tokStep
      rw [if_neg (by simp only; omega), if_neg (by simp only; omega), if_neg (by simp only; omega), if_neg (by simp only; omega)]
      rfl
    rw [tokFold_append] at hf ⊢
    obtain ⟨y, y1, y2⟩ := Option.bind_eq_some_iff.1 hf
    rw [hid] at y2
    injection y2 with y2
    subst y2
    rw [fA] at y1
    obtain ⟨z, z1, z2⟩ := Option.bind_eq_some_iff.1 y1
    rw [fB, z1, Option.bind_some, tx_app, z2, Option.bind_some, tx_blank V hV [], Option.bind_some, hid]
  rw [if_neg (by rw [key.1]; simp)] at hT
  have hok := ctStep_ok (ctOk_more u hc) hT
  have hop2 := take_op A' one p h8
  refine ⟨rest_next (ctOk_more u hc) hT, hok.1, by rw [hop2.1, oB.1, hop], by rw [hop2.2, oB.2.1, hcl], key.2.1, hto, blank_not hb, fun hf => ?_⟩
  rw [fold_addText, key.2.2 hf, hdrop]
  exact tx_blank _ hb []

theorem reach_go (t u : List UInt8) (hE : (61 : UInt8) ∉ t) (hu : ∃ b r, u = b :: r ∧ b ≠ 10 ∧ lineBl.contains b = false) : ∀ (n : Nat) (c : Ct) (a : Nat), CtOk t c a → c.op = [123, 123] → c.cl = [125, 125] → t.length - a < n → (Ct.go t n c a).1.1 = 0 →
    ∃ d b, Reach t u (Ct.go t n c a).2 c a d b := by
  intro n
  induction n with
  | zero => intro c a _ _ _ h; omega
  | succ n ih =>
    intro c a hc hop hcl hn hz
    unfold Ct.go at hz ⊢
    cases hst : c.step t a with
    | slip k p => rw [hst] at hz; exact absurd hz (ctStep_slip hst)
    | over d =>
      rw [hst] at hz
      simp only at hz ⊢
      have hd := ctStep_over hst
      have hno := step_over_not hst
      rw [hop] at hno
      have hopn : d.opened = [] := by
        unfold Ct.left at hz
        cases hl : d.opened.getLast? with
        | none => exact List.getLast?_eq_none_iff.1 hl
        | some m => rw [hl] at hz; cases hz
      refine ⟨c, a, rfl, ctOk_more u hc, hop, hcl, ?_, hc.le, hno, fun hf => ?_⟩
      · rw [hd, (addText_op c t a t.length).2.2] at hopn; exact hopn
      · rw [addText_more c t u a t.length (Nat.le_refl _), ← hd]; exact hf
    | next d b =>
      rw [hst] at hz
      simp only at hz ⊢
      have hcd := ctStep_ok hc hst
      have hf1 : (Go.Lib.cut (t.drop a) c.op).2.2 = true := by
        cases hf : (Go.Lib.cut (t.drop a) c.op).2.2 with
        | true => rfl
        | false => rw [step_miss hf] at hst; cases hst
      have hf2 : (Go.Lib.cut (Go.Lib.cut (t.drop a) c.op).2.1 c.cl).2.2 = true := by
        cases hf : (Go.Lib.cut (Go.Lib.cut (t.drop a) c.op).2.1 c.cl).2.2 with
        | true => rfl
        | false => rw [step_unclosed hf1 hf] at hst; cases hst
      obtain ⟨i1, hi1, hi2, hi3, hi4, hi5⟩ := cut_hit _ _ hf1
      obtain ⟨i2, hj1, hj2, hj3, hj4, hj5⟩ := cut_hit _ _ hf2
      have hle := hc.le
      rw [List.length_drop, hop] at hi2
      have hrl : (Go.Lib.cut (t.drop a) c.op).2.1.length = t.length - (a + (i1 + 2)) := by rw [hi4, hop]; simp
      rw [hrl, hcl] at hj2
      simp only [List.length_cons, List.length_nil] at hi2 hj2
      have hdT : (t ++ u).drop a = t.drop a ++ u := List.drop_append_of_le_length hle
      have hm1 := cut_more u hf1
      have hm2 := cut_more u hf2
      have e1 : (Go.Lib.cut ((t ++ u).drop a) c.op).1 = (Go.Lib.cut (t.drop a) c.op).1 := by rw [hdT, hm1]
      have e2 : (Go.Lib.cut ((t ++ u).drop a) c.op).2.1 = (Go.Lib.cut (t.drop a) c.op).2.1 ++ u := by rw [hdT, hm1]
      have e3 : (Go.Lib.cut (Go.Lib.cut ((t ++ u).drop a) c.op).2.1 c.cl).1 = (Go.Lib.cut (Go.Lib.cut (t.drop a) c.op).2.1 c.cl).1 := by rw [e2, hm2]
      have f1 : (Go.Lib.cut ((t ++ u).drop a) c.op).2.2 = true := by rw [hdT, hm1]
      have f2 : (Go.Lib.cut (Go.Lib.cut ((t ++ u).drop a) c.op).2.1 c.cl).2.2 = true := by rw [e2, hm2]
      obtain ⟨one, h1⟩ : ∃ one, readTg (Go.Lib.trimS (Go.Lib.cut (Go.Lib.cut (t.drop a) c.op).2.1 c.cl).1 blanks5) = one := ⟨_, rfl⟩
      have ho := readTg_ok (Go.Lib.trimS (Go.Lib.cut (Go.Lib.cut (t.drop a) c.op).2.1 c.cl).1 blanks5)
      have hkind := readTg_kind (Go.Lib.trimS (Go.Lib.cut (Go.Lib.cut (t.drop a) c.op).2.1 c.cl).1 blanks5)
      rw [h1] at ho hkind
      have h8 : one.kind ≠ 8 := by
        intro h8
        rw [h8] at hkind
        have hb := mem_trimS' _ _ _ (kindOfTag_eq hkind.symm)
        rw [hj3] at hb
        have hb := List.mem_of_mem_take hb
        rw [hi4] at hb
        exact hE (List.mem_of_mem_drop (List.mem_of_mem_drop hb))
      obtain ⟨p, hp⟩ : ∃ p, a + (Go.Lib.cut (t.drop a) c.op).1.length = p := ⟨_, rfl⟩
      obtain ⟨to, hto⟩ : ∃ to, p + c.op.length + (Go.Lib.cut (Go.Lib.cut (t.drop a) c.op).2.1 c.cl).1.length + c.cl.length = to := ⟨_, rfl⟩
      have hS := step_tag hf1 hf2 one h1 p to hp hto _ rfl
      have hS' := step_tag f1 f2 one (by rw [e3]; exact h1) p to (by rw [e1]; exact hp) (by rw [e3]; exact hto) _ rfl
      rw [hi5] at hp
      rw [hj5, hop, hcl] at hto
      simp only [List.length_cons, List.length_nil] at hto
      have hpt : p ≤ t.length := by omega
      have htt : to ≤ t.length := by omega
      -- the same way on
      have same : ∀ o : Nat × Nat, o.1 ≤ t.length → (if one.kind ≠ 2 then lineOf t p to else (p, to)) = o → (if one.kind ≠ 2 then lineOf (t ++ u) p to else (p, to)) = o → ∃ d' b', Reach t u (Ct.go t n d b).2 c a d' b' := by
        intro o ho1 g1 g2
        rw [g1] at hS
        rw [g2, addText_more c t u a o.1 ho1, ← hS, hst] at hS'
        rw [hst] at hS
        have hd2 : d = ((c.addText t a o.1).take one p).2 := by
          split at hS
          · cases hS
          · injection hS with q1 q2
        have q := take_op (c.addText t a o.1) one p h8
        have q2 := addText_op c t a o.1
        obtain ⟨d', b', hr⟩ := ih d b hcd.1 (by rw [hd2, q.1, q2.1, hop]) (by rw [hd2, q.2, q2.2.1, hcl]) (by have := hcd.1.le; have := hcd.2; omega) hz
        exact ⟨d', b', (rest_next (ctOk_more u hc) hS').trans hr.rest, hr.ok, hr.op, hr.cl, hr.opened, hr.le, hr.no, hr.fold⟩
      by_cases h2 : one.kind ≠ 2
      rotate_left
      · exact same (p, to) hpt (if_neg h2) (if_neg h2)
      rw [if_pos h2] at hS hS' same
      have hlo := lineOf_ok t p to hpt htt
      rcases lineOf_more t u p to hpt htt hu with g | ⟨hb, g1, g2⟩ | ⟨hb, g1, g2⟩
      · exact same _ (by omega) rfl (by rw [if_pos h2]; exact g)
      · rw [g2, hst] at hS
        rw [g1] at hS'
        simp only at hS hS'
        have hz1 : ((c.addText t a (Go.Lib.trimRightS (t.take p) lineBl).length).take one p).1 = 0 := by
          cases hq : ((c.addText t a (Go.Lib.trimRightS (t.take p) lineBl).length).take one p).1 with
          | zero => rfl
          | succ k => rw [hq, if_pos (by simp)] at hS; cases hS
        rw [hz1, if_neg (by simp)] at hS
        injection hS with hd hbb
        obtain ⟨n, rfl⟩ : ∃ k, n = k + 1 := ⟨n - 1, by omega⟩
        have hgo : Ct.go t (n + 1) d b = (d.left, d.parts) := by
          unfold Ct.go
          have hdr : t.drop b = [] := by rw [hbb]; exact List.drop_length
          have hdop := hcd.1.op.1
          have hmiss : (Go.Lib.cut (t.drop b) d.op).2.2 = false := by rw [hdr]; exact cut_nil _ (fun e => by rw [e] at hdop; simp at hdop)
          rw [step_miss hmiss]
          have : d.addText t b t.length = d := by unfold Ct.addText; rw [if_neg (by omega)]
          rw [this]
        rw [hgo] at hz ⊢
        have hopn : d.opened = [] := by
          unfold Ct.left at hz
          cases hl : d.opened.getLast? with
          | none => exact List.getLast?_eq_none_iff.1 hl
          | some m => simp only [hl] at hz; cases hz
        rw [hd] at hopn
        refine ⟨((c.addText (t ++ u) a p).take one p).2, to, ?_⟩
        show Reach t u d.parts c a _ to
        rw [hd]
        exact reach_alone hc hop hcl ho (by omega) htt h8 h2 hb hz1 hopn hS'
      · exact same (p, to) hpt g2 (by rw [if_pos h2]; exact g1)

end Go.Proofs.YtfkhljmiehdgmaaGreatDoor.Pl

/-
  Plain: what comes of a tag that stands behind a text that is taken by itself.
-/
namespace Go.Proofs.YtfkhljmiehdgmaaGreatDoor.Pl

deriving instance DecidableEq for Tg
theorem last_drop {t : List UInt8} (a : Nat) (h : t.getLast? ≠ some 123) : (t.drop a).getLast? ≠ some 123 := by
  rw [List.getLast?_drop]
  split
  · simp
  · exact h
/-- the first tag behind a text -/
theorem tail_step {t v : List UInt8} {P : List Pt} {c0 c : Ct} {a0 a : Nat} (h : Reach t (123 :: 123 :: v) P c0 a0 c a) (hL : t.getLast? ≠ some 123) (A R : List UInt8) (hv : Go.Lib.cut v [125, 125] = (A, R, true)) (one : Tg) (h1 : readTg (Go.Lib.trimS A blanks5) = one) (o : Nat × Nat)
    (ho : (if one.kind ≠ 2 then lineOf (t ++ 123 :: 123 :: v) t.length (t.length + 4 + A.length) else (t.length, t.length + 4 + A.length)) = o) :
    c.step (t ++ 123 :: 123 :: v) a = if ((c.addText (t ++ 123 :: 123 :: v) a o.1).take one t.length).1 ≠ 0 then .slip ((c.addText (t ++ 123 :: 123 :: v) a o.1).take one t.length).1 t.length else .next ((c.addText (t ++ 123 :: 123 :: v) a o.1).take one t.length).2 o.2 := by
  have hd : (t ++ 123 :: 123 :: v).drop a = t.drop a ++ 123 :: 123 :: v := List.drop_append_of_le_length h.le
  have hc := cut_at v h.no (last_drop a hL)
  have hle := h.le
  refine step_tag (by rw [hd, h.op, hc]) (by rw [hd, h.op, hc, h.cl, hv]) one (by rw [hd, h.op, hc, h.cl, hv]; exact h1) t.length (t.length + 4 + A.length) (by rw [hd, h.op, hc]; simp only [List.length_drop]; omega) (by rw [hd, h.op, hc, h.cl, hv]; simp only [List.length_cons, List.length_nil]; omega) o ho
theorem tail_open {t : List UInt8} {P : List Pt} {c0 c : Ct} {a0 a : Nat} (h : Reach t [123, 123] P c0 a0 c a) (hL : t.getLast? ≠ some 123) : c.rest (t ++ [123, 123]) a = ((2, t.length), []) := by
  have hd : (t ++ [123, 123]).drop a = t.drop a ++ [123, 123] := List.drop_append_of_le_length h.le
  have hc := cut_at [] h.no (last_drop a hL)
  have hle := h.le
  have hs : c.step (t ++ [123, 123]) a = .slip 2 (a + (Go.Lib.cut ((t ++ [123, 123]).drop a) c.op).1.length) := step_unclosed (by rw [hd, h.op, hc]) (by rw [hd, h.op, hc, h.cl]; rfl)
  rw [rest_slip hs, hd, h.op, hc]
  simp only [List.length_drop]
  congr 2; omega
/-- a tag that is a slip behind a text -/
theorem tail_slip {t v : List UInt8} {P : List Pt} {c0 c : Ct} {a0 a : Nat} (h : Reach t (123 :: 123 :: v) P c0 a0 c a) (hL : t.getLast? ≠ some 123) (A R : List UInt8) (hv : Go.Lib.cut v [125, 125] = (A, R, true)) (one : Tg) (h1 : readTg (Go.Lib.trimS A blanks5) = one)
    (k : Nat) (hk : k ≠ 0) (ht : ∀ d : Ct, d.opened = [] → (d.take one t.length).1 = k) : c.rest (t ++ 123 :: 123 :: v) a = ((k, t.length), []) := by
  have hs := tail_step h hL A R hv one h1 _ rfl
  rw [ht _ (by rw [(addText_op _ _ _ _).2.2]; exact h.opened), if_pos hk] at hs
  rw [rest_slip hs]
theorem end_rest {T : List UInt8} {c : Ct} (h : CtOk T c T.length) : c.rest T T.length = (c.left, c.parts) := by
  have hdop := h.op.1
  have hmiss : (Go.Lib.cut (T.drop T.length) c.op).2.2 = false := by rw [List.drop_length]; exact cut_nil _ (fun e => by rw [e] at hdop; simp at hdop)
  rw [rest_over (step_miss hmiss)]
  have : c.addText T T.length T.length = c := by unfold Ct.addText; rw [if_neg (by omega)]
  rw [this]
theorem lineOf_end (T : List UInt8) (p : Nat) : (lineOf T p T.length).2 = T.length := by
  unfold lineOf
  rw [List.drop_length]
  split
  · rfl
  · simp [Go.Lib.trimLeftS, Go.Lib.trimPrefix, Go.Lib.hasPrefix]
theorem tail_sec {t v : List UInt8} {P : List Pt} {c0 c : Ct} {a0 a : Nat} (h : Reach t (123 :: 123 :: v) P c0 a0 c a) (hL : t.getLast? ≠ some 123) (hv : v = [35, 97, 125, 125]) : c.rest (t ++ 123 :: 123 :: v) a = ((7, t.length), (c.rest (t ++ 123 :: 123 :: v) a).2) := by
  subst hv
  have hs := tail_step h hL [35, 97] [] (by decide) ⟨3, 0, [97], [], []⟩ (by decide +kernel) _ rfl
  obtain ⟨T, hT⟩ : ∃ T : List UInt8, T = t ++ [123, 123, 35, 97, 125, 125] := ⟨_, rfl⟩
  have hTl : T.length = t.length + 6 := by rw [hT]; simp
  rw [← hT] at hs ⊢
  have hle : (if (⟨3, 0, [97], [], []⟩ : Tg).kind ≠ 2 then lineOf T t.length (t.length + 4 + ([35, 97] : List UInt8).length) else (t.length, t.length + 4 + ([35, 97] : List UInt8).length)) = lineOf T t.length T.length := by
    rw [if_pos (by simp)]
    congr 1
    simp only [List.length_cons, List.length_nil]; omega
  rw [hle] at hs
  generalize hx : (lineOf T t.length T.length).1 = x at hs
  rw [lineOf_end] at hs
  have hopn : (c.addText T a x).opened = [] := by rw [(addText_op _ _ _ _).2.2]; exact h.opened
  generalize c.addText T a x = d at hs hopn
  have htk : d.take ⟨3, 0, [97], [], []⟩ t.length = (0, { d with parts := d.parts ++ [⟨3, t.length, [97], 0⟩], opened := d.opened ++ [d.parts.length] }) := by
    unfold Ct.take
    simp [hopn]
  rw [htk] at hs
  simp only [ne_eq, not_true_eq_false, if_false] at hs
  have hok : CtOk T c a := by rw [hT]; exact h.ok
  have hokd := ctStep_ok hok hs
  have hr := rest_next hok hs
  rw [hr, end_rest hokd.1]
  unfold Ct.left
  simp only [List.getLast?_concat]
  unfold posAt
  simp

end Go.Proofs.YtfkhljmiehdgmaaGreatDoor.Pl

/-
  Plain: more pieces behind a text that is taken by itself.
-/
namespace Go.Proofs.YtfkhljmiehdgmaaGreatDoor.Pl

/-- {{! more }}{{a.b}}{{#a}}{{.}}<i>{{/a}}, but for its first two bytes -/
def moreTail : List UInt8 := [33, 32, 109, 111, 114, 101, 32, 125, 125, 123, 123, 97, 46, 98, 125, 125, 123, 123, 35, 97, 125, 125, 123, 123, 46, 125, 125, 60, 105, 62, 123, 123, 47, 97, 125, 125]
/-- a tag at a known place -/
theorem step_at {t u : List UInt8} {c : Ct} (k : Nat) (hop : c.op = [123, 123]) (hcl : c.cl = [125, 125]) (A1 R1 A2 R2 : List UInt8) (h1 : Go.Lib.cut (u.drop k) [123, 123] = (A1, R1, true)) (h2 : Go.Lib.cut R1 [125, 125] = (A2, R2, true)) (one : Tg) (h3 : readTg (Go.Lib.trimS A2 blanks5) = one)
    (p to : Nat) (hp : t.length + k + A1.length = p) (hto : p + 4 + A2.length = to) (o : Nat × Nat) (ho : (if one.kind ≠ 2 then lineOf (t ++ u) p to else (p, to)) = o) :
    c.step (t ++ u) (t.length + k) = if ((c.addText (t ++ u) (t.length + k) o.1).take one p).1 ≠ 0 then .slip ((c.addText (t ++ u) (t.length + k) o.1).take one p).1 p else .next ((c.addText (t ++ u) (t.length + k) o.1).take one p).2 o.2 := by
  have hd : (t ++ u).drop (t.length + k) = u.drop k := by rw [List.drop_append]; simp
  refine step_tag (by rw [hd, hop, h1]) (by rw [hd, hop, h1, hcl, h2]) one (by rw [hd, hop, h1, hcl, h2]; exact h3) p to (by rw [hd, hop, h1]; exact hp) (by rw [hd, hop, h1, hcl, h2]; simp only [List.length_cons, List.length_nil]; omega) o ho
/-- a line goes on behind a tag -/
theorem lineOf_behind {T : List UInt8} {p z : Nat} {b : UInt8} {r : List UInt8} (h : T.drop z = b :: r) (hb : lineBl.contains b = false) (h10 : b ≠ 10) : lineOf T p z = (p, z) := by
  unfold lineOf Go.Lib.trimLeftS
  rw [h, List.dropWhile_cons_of_neg (by rw [hb]; simp)]
  have e1 : (List.head? (b :: r)).any (· != 10) = true := by simp [h10]
  rw [e1, Bool.or_true, if_pos rfl]
theorem lineOf_ahead {T : List UInt8} {p z : Nat} {b : UInt8} {r : List UInt8} (h : T.take p = r ++ [b]) (hb : lineBl.contains b = false) (h10 : b ≠ 10) : lineOf T p z = (p, z) := by
  unfold lineOf Go.Lib.trimRightS
  rw [h, List.reverse_append, List.reverse_cons, List.reverse_nil, List.nil_append, List.singleton_append, List.dropWhile_cons_of_neg (by rw [hb]; simp)]
  have e1 : (b :: r.reverse).reverse.getLast?.any (· != 10) = true := by simp [h10]
  rw [e1, Bool.true_or, if_pos rfl]
theorem addText_none (c : Ct) (T : List UInt8) (a : Nat) : c.addText T a a = c := by unfold Ct.addText; rw [if_neg (by omega)]

theorem tail_more {t : List UInt8} {P : List Pt} {c0 c : Ct} {a0 a : Nat} (h : Reach t (123 :: 123 :: moreTail) P c0 a0 c a) (hL : t.getLast? ≠ some 123) (hP : tokFold P Sx.start [] = some (Sx.start, [])) :
    (c.rest (t ++ 123 :: 123 :: moreTail) a).1 = (0, 0) ∧ tokFold (c.rest (t ++ 123 :: 123 :: moreTail) a).2 Sx.start [] = some (Sx.start, []) := by
  obtain ⟨u, hu⟩ : ∃ u : List UInt8, u = 123 :: 123 :: moreTail := ⟨_, rfl⟩
  have hul : u.length = 38 := by rw [hu]; rfl
  obtain ⟨T, hT⟩ : ∃ T : List UInt8, T = t ++ u := ⟨_, rfl⟩
  have hTl : T.length = t.length + 38 := by rw [hT]; simp [hul]
  have hdk : ∀ k, T.drop (t.length + k) = u.drop k := fun k => by rw [hT, List.drop_append]; simp
  have hs1 := tail_step h hL [33, 32, 109, 111, 114, 101, 32] [123, 123, 97, 46, 98, 125, 125, 123, 123, 35, 97, 125, 125, 123, 123, 46, 125, 125, 60, 105, 62, 123, 123, 47, 97, 125, 125] (by decide) ⟨7, 0, [], [], []⟩ (by decide +kernel) (t.length, t.length + 11) (by
    rw [if_pos (by simp)]
    refine lineOf_behind (b := 123) (r := [123, 97, 46, 98, 125, 125, 123, 123, 35, 97, 125, 125, 123, 123, 46, 125, 125, 60, 105, 62, 123, 123, 47, 97, 125, 125]) ?_ (by decide) (by decide)
    rw [← hu, ← hT, show t.length + 4 + ([33, 32, 109, 111, 114, 101, 32] : List UInt8).length = t.length + 11 from rfl, hdk, hu]; rfl)
  have hok : CtOk T c a := by rw [hT, hu]; exact h.ok
  have hX : tokFold (c.addText T a t.length).parts Sx.start [] = some (Sx.start, []) := by rw [hT, hu]; exact h.fold hP
  have hopn : (c.addText T a t.length).opened = [] := by rw [(addText_op _ _ _ _).2.2]; exact h.opened
  have hop1 : (c.addText T a t.length).op = [123, 123] := by rw [(addText_op _ _ _ _).1]; exact h.op
  have hcl1 : (c.addText T a t.length).cl = [125, 125] := by rw [(addText_op _ _ _ _).2.1]; exact h.cl
  rw [← hu] at hs1 ⊢
  rw [← hT] at hs1 ⊢
  simp only at hs1
  generalize c.addText T a t.length = X at hs1 hX hopn hop1 hcl1
  have ht1 : X.take ⟨7, 0, [], [], []⟩ t.length = (0, X) := rfl
  rw [ht1] at hs1
  simp only [ne_eq, not_true_eq_false, if_false] at hs1
  have ok1 := (ctStep_ok hok hs1).1
  rw [rest_next hok hs1]
  -- a.b
  have hs2 := step_at (t := t) (u := u) (c := X) 11 hop1 hcl1 [] [97, 46, 98, 125, 125, 123, 123, 35, 97, 125, 125, 123, 123, 46, 125, 125, 60, 105, 62, 123, 123, 47, 97, 125, 125] [97, 46, 98] [123, 123, 35, 97, 125, 125, 123, 123, 46, 125, 125, 60, 105, 62, 123, 123, 47, 97, 125, 125] (by rw [hu]; decide) (by decide) ⟨2, 0, [97, 46, 98], [], []⟩ (by decide +kernel) (t.length + 11) (t.length + 18) rfl rfl (t.length + 11, t.length + 18) (by rw [if_neg (by simp)])
  rw [← hT] at hs2
  simp only [addText_none] at hs2
  have ht2 : X.take ⟨2, 0, [97, 46, 98], [], []⟩ (t.length + 11) = (0, { X with parts := X.parts ++ [⟨2, t.length + 11, [97, 46, 98], 0⟩] }) := rfl
  rw [ht2] at hs2
  simp only [ne_eq, not_true_eq_false, if_false] at hs2
  have ok2 := (ctStep_ok ok1 hs2).1
  rw [rest_next ok1 hs2]
  obtain ⟨Y, hY⟩ : ∃ Y : Ct, Y = { X with parts := X.parts ++ [⟨2, t.length + 11, [97, 46, 98], 0⟩] } := ⟨_, rfl⟩
  rw [← hY] at ok2 ⊢
  have hop2 : Y.op = [123, 123] := by rw [hY]; exact hop1
  have hcl2 : Y.cl = [125, 125] := by rw [hY]; exact hcl1
  have hopn2 : Y.opened = [] := by rw [hY]; exact hopn
  have hY2 : Y.parts = X.parts ++ [⟨2, t.length + 11, [97, 46, 98], 0⟩] := by rw [hY]
  clear hY
  -- #a
  have hs3 := step_at (t := t) (u := u) (c := Y) 18 hop2 hcl2 [] [35, 97, 125, 125, 123, 123, 46, 125, 125, 60, 105, 62, 123, 123, 47, 97, 125, 125] [35, 97] [123, 123, 46, 125, 125, 60, 105, 62, 123, 123, 47, 97, 125, 125] (by rw [hu]; decide) (by decide) ⟨3, 0, [97], [], []⟩ (by decide +kernel) (t.length + 18) (t.length + 24) rfl rfl (t.length + 18, t.length + 24) (by
    rw [if_pos (by simp)]
    refine lineOf_behind (b := 123) (r := [123, 46, 125, 125, 60, 105, 62, 123, 123, 47, 97, 125, 125]) ?_ (by decide) (by decide)
    rw [← hT, hdk, hu]; rfl)
  rw [← hT] at hs3
  simp only [addText_none] at hs3
  have ht3 : Y.take ⟨3, 0, [97], [], []⟩ (t.length + 18) = (0, { Y with parts := Y.parts ++ [⟨3, t.length + 18, [97], 0⟩], opened := [Y.parts.length] }) := by
    unfold Ct.take
    simp [hopn2]
  rw [ht3] at hs3
  simp only [ne_eq, not_true_eq_false, if_false] at hs3
  have ok3 := (ctStep_ok ok2 hs3).1
  rw [rest_next ok2 hs3]
  obtain ⟨Z, hZ⟩ : ∃ Z : Ct, Z = { Y with parts := Y.parts ++ [⟨3, t.length + 18, [97], 0⟩], opened := [Y.parts.length] } := ⟨_, rfl⟩
  rw [← hZ] at ok3 ⊢
  have hop3 : Z.op = [123, 123] := by rw [hZ]; exact hop2
  have hcl3 : Z.cl = [125, 125] := by rw [hZ]; exact hcl2
  have hopn3 : Z.opened = [Y.parts.length] := by rw [hZ]
  have hZ2 : Z.parts = Y.parts ++ [⟨3, t.length + 18, [97], 0⟩] := by rw [hZ]
  clear hZ
  -- .
  have hs4 := step_at (t := t) (u := u) (c := Z) 24 hop3 hcl3 [] [46, 125, 125, 60, 105, 62, 123, 123, 47, 97, 125, 125] [46] [60, 105, 62, 123, 123, 47, 97, 125, 125] (by rw [hu]; decide) (by decide) ⟨2, 0, [46], [], []⟩ (by decide +kernel) (t.length + 24) (t.length + 29) rfl rfl (t.length + 24, t.length + 29) (by rw [if_neg (by simp)])
  rw [← hT] at hs4
  simp only [addText_none] at hs4
  have ht4 : Z.take ⟨2, 0, [46], [], []⟩ (t.length + 24) = (0, { Z with parts := Z.parts ++ [⟨2, t.length + 24, [46], 0⟩] }) := rfl
  rw [ht4] at hs4
  simp only [ne_eq, not_true_eq_false, if_false] at hs4
  have ok4 := (ctStep_ok ok3 hs4).1
  rw [rest_next ok3 hs4]
  obtain ⟨V, hV⟩ : ∃ V : Ct, V = { Z with parts := Z.parts ++ [⟨2, t.length + 24, [46], 0⟩] } := ⟨_, rfl⟩
  rw [← hV] at ok4 ⊢
  have hop4 : V.op = [123, 123] := by rw [hV]; exact hop3
  have hcl4 : V.cl = [125, 125] := by rw [hV]; exact hcl3
  have hopn4 : V.opened = [Y.parts.length] := by rw [hV]; exact hopn3
  have hV2 : V.parts = Z.parts ++ [⟨2, t.length + 24, [46], 0⟩] := by rw [hV]
  clear hV
  -- <i>, /a
  have hs5 := step_at (t := t) (u := u) (c := V) 29 hop4 hcl4 [60, 105, 62] [47, 97, 125, 125] [47, 97] [] (by rw [hu]; decide) (by decide) ⟨5, 0, [97], [], []⟩ (by decide +kernel) (t.length + 32) (t.length + 38) rfl rfl (t.length + 32, t.length + 38) (by
    rw [if_pos (by simp)]
    refine lineOf_ahead (b := 62) (r := t ++ (u.take 31)) ?_ (by decide) (by decide)
    rw [List.take_append, hu]
    simp [moreTail, List.take_of_length_le])
  rw [← hT] at hs5
  have hW : V.addText T (t.length + 29) (t.length + 32) = { V with parts := V.parts ++ [⟨1, t.length + 29, [60, 105, 62], 0⟩] } := by
    unfold Ct.addText
    rw [if_pos (by omega), hdk, hu, show t.length + 32 - (t.length + 29) = 3 by omega]
    rfl
  simp only [hW] at hs5
  obtain ⟨U, hU⟩ : ∃ U : Ct, U = { V with parts := V.parts ++ [⟨1, t.length + 29, [60, 105, 62], 0⟩] } := ⟨_, rfl⟩
  rw [← hU] at hs5
  have hopn5 : U.opened = [Y.parts.length] := by rw [hU]; exact hopn4
  have hU2 : U.parts = V.parts ++ [⟨1, t.length + 29, [60, 105, 62], 0⟩] := by rw [hU]
  clear hU hW
  have hta : textAt U.parts Y.parts.length = [97] := by
    unfold textAt
    rw [hU2, hV2, hZ2]
    simp
  have ht5 : U.take ⟨5, 0, [97], [], []⟩ (t.length + 32) = (0, { U with parts := setMate U.parts Y.parts.length U.parts.length ++ [⟨5, t.length + 32, [97], Y.parts.length⟩], opened := [] }) := by
    unfold Ct.take
    simp [hopn5, hta]
  rw [ht5] at hs5
  simp only [ne_eq, not_true_eq_false, if_false] at hs5
  have ok5 := (ctStep_ok ok4 hs5).1
  rw [← hTl] at hs5 ok5
  rw [rest_next ok4 hs5]
  rw [end_rest ok5]
  refine ⟨rfl, ?_⟩
  show tokFold (setMate _ _ _ ++ [_]) Sx.start [] = _
  rw [tokFold_append, fold_mate, hU2, hV2, hZ2, hY2]
  simp only [List.append_assoc]
  rw [tokFold_append, hX, Option.bind_some]
  generalize (X.parts ++ _).length = m
  generalize t.length = n
  rfl

end Go.Proofs.YtfkhljmiehdgmaaGreatDoor.Pl

/-
  Plain: where the parts of a text stand in it.
-/
namespace Go.Proofs.YtfkhljmiehdgmaaGreatDoor.Pl

structure PtIn (t : List UInt8) (p : Pt) : Prop where
  pos : p.pos ≤ t.length
  text : p.kind = 1 → p.pos + p.text.length ≤ t.length
  name : p.kind = 6 → p.text <:+: t
theorem addText_in {t : List UInt8} {c : Ct} {a z : Nat} (h : ∀ p ∈ c.parts, PtIn t p) (ha : a ≤ t.length) : ∀ p ∈ (c.addText t a z).parts, PtIn t p := by
  unfold Ct.addText
  split
  · intro p hp
    simp only [List.mem_append, List.mem_singleton] at hp
    rcases hp with hp | rfl
    · exact h p hp
    · refine ⟨ha, fun _ => ?_, fun e => by cases e⟩
      simp only [List.length_take, List.length_drop]; omega
  · exact h
theorem setMate_in {t : List UInt8} {l : List Pt} (m n : Nat) (h : ∀ p ∈ l, PtIn t p) : ∀ p ∈ setMate l m n, PtIn t p := by
  induction l generalizing m with
  | nil => unfold setMate; simp
  | cons q l ih =>
    cases m with
    | zero =>
      intro p hp
      have e : setMate (q :: l) 0 n = { q with mate := n } :: l := rfl
      rw [e] at hp
      rcases List.mem_cons.1 hp with rfl | hp
      · have := h q (by simp); exact ⟨this.pos, this.text, this.name⟩
      · exact h p (List.mem_cons_of_mem _ hp)
    | succ m =>
      intro p hp
      have e : setMate (q :: l) (m + 1) n = q :: setMate l m n := by simp [setMate]
      rw [e] at hp
      rcases List.mem_cons.1 hp with rfl | hp
      · exact h p (by simp)
      · exact ih m (fun r hr => h r (List.mem_cons_of_mem _ hr)) p hp
theorem take_in {t : List UInt8} {c : Ct} {one : Tg} {a : Nat} (h : ∀ p ∈ c.parts, PtIn t p) (ha : a ≤ t.length) (hk : one.kind ≠ 1) (hn : one.kind = 6 → one.name <:+: t) : ∀ p ∈ (c.take one a).2.parts, PtIn t p := by
  have hnew : PtIn t ⟨one.kind, a, one.name, 0⟩ := ⟨ha, fun e => absurd e hk, hn⟩
  have happ : ∀ (l : List Pt) (q : Pt), (∀ p ∈ l, PtIn t p) → PtIn t q → ∀ p ∈ l ++ [q], PtIn t p := fun l q hl hq p hp => by
    simp only [List.mem_append, List.mem_singleton] at hp
    rcases hp with hp | rfl
    · exact hl p hp
    · exact hq
  unfold Ct.take
  by_cases h1 : one.slip ≠ 0
  · rw [if_pos h1]; exact h
  rw [if_neg h1]
  by_cases h7 : one.kind = 7
  · rw [if_pos h7]; exact h
  rw [if_neg h7]
  by_cases h8 : one.kind = 8
  · rw [if_pos h8]; exact h
  rw [if_neg h8]
  by_cases h34 : one.kind = 3 ∨ one.kind = 4
  · rw [if_pos h34]
    split
    · exact h
    · exact happ _ _ h hnew
  rw [if_neg h34]
  by_cases h5 : one.kind = 5
  · rw [if_pos h5]
    split
    · exact h
    · rename_i m _
      split
      · exact h
      · exact happ _ _ (setMate_in _ _ h) ⟨ha, (fun e => by cases e), (fun e => by cases e)⟩
  · rw [if_neg h5]
    exact happ _ _ h hnew
theorem trimS_infix (l cs : List UInt8) : Go.Lib.trimS l cs <:+: l := by
  unfold Go.Lib.trimS Go.Lib.trimLeftS Go.Lib.trimRightS
  refine (List.dropWhile_suffix _).isInfix.trans ?_
  have := (List.dropWhile_suffix (cs.contains ·) (l := l.reverse)).isInfix
  rw [← List.reverse_infix, List.reverse_reverse]
  exact this
theorem readTg_name (l : List UInt8) (h : (readTg l).kind = 6) : (readTg l).name <:+: l := by
  rw [readTg_kind] at h
  unfold readTg
  rw [if_neg (by omega), if_neg (by omega), if_neg (by omega)]
  unfold namedTg
  rw [if_pos h]
  split
  · unfold Go.Lib.trimLeftS
    exact (List.dropWhile_suffix _).isInfix.trans (List.drop_suffix _ _).isInfix
  · exact List.nil_infix

theorem step_in {t : List UInt8} {c : Ct} {a : Nat} (hc : CtOk t c a) (h : ∀ p ∈ c.parts, PtIn t p) :
    (∀ k p, c.step t a = .slip k p → p ≤ t.length) ∧ (∀ d, c.step t a = .over d → ∀ p ∈ d.parts, PtIn t p) ∧ (∀ d b, c.step t a = .next d b → ∀ p ∈ d.parts, PtIn t p) := by
  have hle := hc.le
  cases hf1 : (Go.Lib.cut (t.drop a) c.op).2.2 with
  | false =>
    rw [step_miss hf1]
    refine ⟨fun k p e => (by cases e), fun d e => ?_, fun d b e => (by cases e)⟩
    injection e with e
    subst e
    exact addText_in h hle
  | true =>
    obtain ⟨i1, hi1, hi2, hi3, hi4, hi5⟩ := cut_hit _ _ hf1
    rw [List.length_drop] at hi2
    cases hf2 : (Go.Lib.cut (Go.Lib.cut (t.drop a) c.op).2.1 c.cl).2.2 with
    | false =>
      rw [step_unclosed hf1 hf2]
      refine ⟨fun k p e => ?_, fun d e => (by cases e), fun d b e => (by cases e)⟩
      injection e with e1 e2
      omega
    | true =>
      obtain ⟨i2, hj1, hj2, hj3, hj4, hj5⟩ := cut_hit _ _ hf2
      obtain ⟨one, h1⟩ : ∃ one, readTg (Go.Lib.trimS (Go.Lib.cut (Go.Lib.cut (t.drop a) c.op).2.1 c.cl).1 blanks5) = one := ⟨_, rfl⟩
      have ho := readTg_ok (Go.Lib.trimS (Go.Lib.cut (Go.Lib.cut (t.drop a) c.op).2.1 c.cl).1 blanks5)
      have hn := readTg_name (Go.Lib.trimS (Go.Lib.cut (Go.Lib.cut (t.drop a) c.op).2.1 c.cl).1 blanks5)
      have hin : Go.Lib.trimS (Go.Lib.cut (Go.Lib.cut (t.drop a) c.op).2.1 c.cl).1 blanks5 <:+: t := by
        refine (trimS_infix _ _).trans ?_
        rw [hj3]
        refine (List.take_prefix _ _).isInfix.trans ?_
        rw [hi4]
        exact (List.drop_suffix _ _).isInfix.trans (List.drop_suffix _ _).isInfix
      rw [h1] at ho hn
      generalize hO : (if one.kind ≠ 2 then lineOf t (a + (Go.Lib.cut (t.drop a) c.op).1.length) (a + (Go.Lib.cut (t.drop a) c.op).1.length + c.op.length + (Go.Lib.cut (Go.Lib.cut (t.drop a) c.op).2.1 c.cl).1.length + c.cl.length) else (a + (Go.Lib.cut (t.drop a) c.op).1.length, a + (Go.Lib.cut (t.drop a) c.op).1.length + c.op.length + (Go.Lib.cut (Go.Lib.cut (t.drop a) c.op).2.1 c.cl).1.length + c.cl.length)) = o
      rw [step_tag hf1 hf2 one h1 _ _ rfl rfl o hO]
      have hp : a + (Go.Lib.cut (t.drop a) c.op).1.length ≤ t.length := by omega
      have hk := ho.kind
      refine ⟨fun k p e => ?_, fun d e => ?_, fun d b e => ?_⟩
      · split at e
        · injection e with e1 e2; omega
        · cases e
      · split at e <;> cases e
      · split at e
        · cases e
        · injection e with e1 e2
          subst e1
          exact take_in (addText_in h hle) hp (by omega) (fun h6 => (hn h6).trans hin)
theorem left_in {t : List UInt8} {c : Ct} (h : ∀ p ∈ c.parts, PtIn t p) : c.left.2 ≤ t.length := by
  unfold Ct.left
  split
  · exact Nat.zero_le _
  · rename_i m _
    show posAt c.parts m ≤ _
    unfold posAt
    split
    · rename_i p hp; exact (h p (List.mem_of_getElem? hp)).pos
    · exact Nat.zero_le _
theorem go_in (t : List UInt8) : ∀ (n : Nat) (c : Ct) (a : Nat), CtOk t c a → (∀ p ∈ c.parts, PtIn t p) → (Ct.go t n c a).1.2 ≤ t.length ∧ ∀ p ∈ (Ct.go t n c a).2, PtIn t p := by
  intro n
  induction n with
  | zero => intro c a _ _; exact ⟨Nat.zero_le _, fun p hp => by cases hp⟩
  | succ n ih =>
    intro c a hc h
    obtain ⟨h1, h2, h3⟩ := step_in hc h
    unfold Ct.go
    cases hs : c.step t a with
    | slip k p => exact ⟨h1 k p hs, fun p hp => by cases hp⟩
    | over d => exact ⟨left_in (h2 d hs), h2 d hs⟩
    | next d b => exact ih d b (ctStep_ok hc hs).1 (h3 d b hs)
theorem cutAll_in (t : List UInt8) : (cutAll t).1.2 ≤ t.length ∧ ∀ p ∈ (cutAll t).2, PtIn t p := by
  have h := go_in t (t.length + 1) Ct.start 0 (ctOk_start t) (fun p hp => by cases hp)
  unfold cutAll
  split
  · exact ⟨Nat.zero_le _, fun p hp => by cases hp⟩
  · split
    · exact ⟨Nat.zero_le _, h.2⟩
    · exact ⟨h.1, fun p hp => by cases hp⟩

end Go.Proofs.YtfkhljmiehdgmaaGreatDoor.Pl

/-
  Plain: what comes of the texts that the statement Ended tries.
-/
namespace Go.Proofs.YtfkhljmiehdgmaaGreatDoor.Pl

deriving instance DecidableEq for Pt
theorem absent_alone (P : List Pt) : Absent [⟨[], P⟩] P := fun _ _ _ => rfl
theorem makeV_args {t : List UInt8} {L : List (List UInt8 × List UInt8)} (h6 : L.length ≤ 6) (ha : argsOk (L.map (·.1)) = true) : makeV t L =
    if (cutEach (([], t) :: L)).1.code ≠ 0 then (([], []), (cutEach (([], t) :: L)).1) else
    if (lookV (cutEach (([], t) :: L)).2 t.length).2.code ≠ 0 then (([], []), (lookV (cutEach (([], t) :: L)).2 t.length).2)
    else (((lookV (cutEach (([], t) :: L)).2 t.length).1, (cutEach (([], t) :: L)).2), Ft.none) := by
  unfold makeV
  rw [if_neg (fun q => q.elim (fun q => absurd h6 (by omega)) (fun q => by rw [ha] at q; cases q))]
theorem cutEach_slip {n t : List UInt8} {L : List (List UInt8 × List UInt8)} (h : (cutAll t).1.1 ≠ 0) : cutEach ((n, t) :: L) = (⟨2, (cutAll t).1.1, n, (cutAll t).1.2⟩, []) := by
  unfold cutEach
  rw [if_pos h]
theorem cutEach_one {n t : List UInt8} (h : (cutAll t).1.1 = 0) : cutEach [(n, t)] = (Ft.none, [⟨n, (cutAll t).2⟩]) := by
  unfold cutEach
  rw [if_neg (fun q => q h)]
  rfl
theorem cutEach_two {n t m s : List UInt8} (h : (cutAll t).1.1 = 0) (h2 : (cutAll s).1.1 = 0) : cutEach [(n, t), (m, s)] = (Ft.none, [⟨n, (cutAll t).2⟩, ⟨m, (cutAll s).2⟩]) := by
  unfold cutEach
  rw [if_neg (fun q => q h), cutEach_one h2]
  rfl
theorem cutEach_second {n t m s : List UInt8} (h : (cutAll t).1.1 = 0) (h2 : (cutAll s).1.1 ≠ 0) : cutEach [(n, t), (m, s)] = (⟨2, (cutAll s).1.1, m, (cutAll s).1.2⟩, []) := by
  unfold cutEach
  rw [if_neg (fun q => q h), cutEach_slip h2]
  rfl
/-- a template by itself -/
theorem make_alone (t : List UInt8) : (makeV t []).2 = Ft.none ∨ ((makeV t []).2.code ≠ 0 ∧ (makeV t []).2.place = [] ∧ (makeV t []).2.pos ≤ t.length) := by
  rw [makeV_args (by simp) rfl]
  have hin := cutAll_in t
  by_cases h : (cutAll t).1.1 = 0
  rotate_left
  · rw [cutEach_slip h, if_pos (by simp)]
    exact .inr ⟨by simp, rfl, hin.1⟩
  rw [cutEach_one h, if_neg (by simp [Ft.none])]
  have hl := look_absent [⟨[], (cutAll t).2⟩] t.length (cutAll_ok t h).1 (absent_alone _)
  have e : partsAt [⟨[], (cutAll t).2⟩] 0 = (cutAll t).2 := rfl
  rw [e] at hl
  by_cases hc : (lookV [⟨[], (cutAll t).2⟩] t.length).2.code = 0
  · rw [if_neg (fun q => q hc)]; exact .inl rfl
  rw [if_pos hc]
  refine .inr ⟨hc, ?_⟩
  show (lookV [⟨[], (cutAll t).2⟩] t.length).2.place = [] ∧ (lookV [⟨[], (cutAll t).2⟩] t.length).2.pos ≤ t.length
  cases hf : tokFold (cutAll t).2 Sx.start [] with
  | none =>
    rw [hf] at hl
    obtain ⟨_, h2, h3⟩ := hl
    refine ⟨h2, ?_⟩
    rcases h3 with h3 | ⟨p, hp, h3 | ⟨h3, h4⟩⟩
    · omega
    · rw [h3]; exact (hin.2 p hp).pos
    · have := (hin.2 p hp).text h3; omega
  | some y =>
    rw [hf] at hl
    by_cases hy : y.1 = Sx.start
    · rw [(hl.1 hy).1] at hc; exact absurd rfl hc
    · rw [hl.2 hy]; exact ⟨rfl, Nat.le_refl _⟩
theorem make_taken {t : List UInt8} (h : (makeV t []).2.code = 0) : (cutAll t).1.1 = 0 ∧ tokFold (cutAll t).2 Sx.start [] = some (Sx.start, []) := by
  rw [makeV_args (by simp) rfl] at h
  by_cases hc : (cutAll t).1.1 = 0
  rotate_left
  · rw [cutEach_slip hc, if_pos (by simp)] at h; cases h
  refine ⟨hc, ?_⟩
  rw [cutEach_one hc, if_neg (by simp [Ft.none])] at h
  have hl := look_absent [⟨[], (cutAll t).2⟩] t.length (cutAll_ok t hc).1 (absent_alone _)
  have e : partsAt [⟨[], (cutAll t).2⟩] 0 = (cutAll t).2 := rfl
  rw [e] at hl
  by_cases hk : (lookV [⟨[], (cutAll t).2⟩] t.length).2.code = 0
  rotate_left
  · rw [if_pos hk] at h; exact absurd h hk
  cases hf : tokFold (cutAll t).2 Sx.start [] with
  | none => rw [hf] at hl; rw [hl.1] at hk; cases hk
  | some y =>
    rw [hf] at hl
    by_cases hy : y.1 = Sx.start
    · have := fold_back (cutAll_ok t hc).1 _ _ _ hf
      rw [← hy, ← this]
    · rw [hl.2 hy] at hk; cases hk
theorem make_of_fold {t : List UInt8} (hc : (cutAll t).1.1 = 0) (hf : tokFold (cutAll t).2 Sx.start [] = some (Sx.start, [])) : (makeV t []).2 = Ft.none := by
  rw [makeV_args (by simp) rfl, cutEach_one hc, if_neg (by simp [Ft.none])]
  have hl := look_absent [⟨[], (cutAll t).2⟩] t.length (cutAll_ok t hc).1 (absent_alone _)
  have e : partsAt [⟨[], (cutAll t).2⟩] 0 = (cutAll t).2 := rfl
  rw [e, hf] at hl
  rw [if_neg (by rw [(hl.1 rfl).1]; decide)]
/-- a text behind which something stands -/
theorem cut_behind {t v : List UInt8} (hE : (61 : UInt8) ∉ t) (hl : t.length ≤ 1900) (hv : v.length ≤ 90) (hc : (cutAll t).1.1 = 0) :
    ∃ (c : Ct) (a : Nat), Reach t (123 :: 123 :: v) (cutAll t).2 Ct.start 0 c a ∧ cutAll (t ++ 123 :: 123 :: v) = if (c.rest (t ++ 123 :: 123 :: v) a).1.1 = 0 then ((0, 0), (c.rest (t ++ 123 :: 123 :: v) a).2) else ((c.rest (t ++ 123 :: 123 :: v) a).1, []) := by
  have hz : (Ct.go t (t.length + 1) Ct.start 0).1.1 = 0 ∧ (cutAll t).2 = (Ct.go t (t.length + 1) Ct.start 0).2 := by
    unfold cutAll at hc ⊢
    rw [if_neg (by omega)] at hc ⊢
    by_cases q : (Ct.go t (t.length + 1) Ct.start 0).1.1 = 0
    · rw [if_pos q]; exact ⟨q, rfl⟩
    · rw [if_neg q] at hc; exact absurd hc q
  obtain ⟨c, a, h⟩ := reach_go t (123 :: 123 :: v) hE ⟨123, _, rfl, by decide, by decide⟩ (t.length + 1) Ct.start 0 (ctOk_start t) rfl rfl (by omega) hz.1
  rw [← hz.2] at h
  refine ⟨c, a, h, ?_⟩
  rw [cutAll_rest _ (by simp; omega), h.rest]
/-- the tags that are tried, and their slips -/
def tails : List (List UInt8) := [[123, 123], [123, 123, 47, 97, 125, 125], [123, 123, 35, 97, 125, 125], [123, 123, 65, 125, 125], [123, 123, 125, 125]]
def tailKinds : List Nat := [2, 5, 7, 3, 3]
theorem cut_tails {t : List UInt8} (hE : (61 : UInt8) ∉ t) (hL : t.getLast? ≠ some 123) (hl : t.length ≤ 1900) (hc : (cutAll t).1.1 = 0) (i : Nat) (u : List UInt8) (k : Nat) (hu : tails[i]? = some u) (hk : tailKinds[i]? = some k) : (cutAll (t ++ u)).1 = (k, t.length) := by
  have fin : ∀ (v : List UInt8) (k : Nat), v.length ≤ 90 → k ≠ 0 → (∀ c a, Reach t (123 :: 123 :: v) (cutAll t).2 Ct.start 0 c a → (c.rest (t ++ 123 :: 123 :: v) a).1 = (k, t.length)) → (cutAll (t ++ 123 :: 123 :: v)).1 = (k, t.length) := by
    intro v k hv hk h
    obtain ⟨c, a, h1, h2⟩ := cut_behind hE hl hv hc
    rw [h2, h c a h1, if_neg hk]
  match i, hu, hk with
  | 0, hu, hk =>
    injection hu with hu; injection hk with hk; subst hu hk
    exact fin [] 2 (by decide) (by decide) fun c a h => by rw [tail_open h hL]
  | 1, hu, hk =>
    injection hu with hu; injection hk with hk; subst hu hk
    exact fin [47, 97, 125, 125] 5 (by decide) (by decide) fun c a h => by
      rw [tail_slip h hL [47, 97] [] (by decide) ⟨5, 0, [97], [], []⟩ (by decide +kernel) 5 (by decide) (fun d hd => by unfold Ct.take; simp [hd])]
  | 2, hu, hk =>
    injection hu with hu; injection hk with hk; subst hu hk
    exact fin [35, 97, 125, 125] 7 (by decide) (by decide) fun c a h => by rw [tail_sec h hL rfl]
  | 3, hu, hk =>
    injection hu with hu; injection hk with hk; subst hu hk
    exact fin [65, 125, 125] 3 (by decide) (by decide) fun c a h => by
      rw [tail_slip h hL [65] [] (by decide) ⟨2, 3, [], [], []⟩ (by decide +kernel) 3 (by decide) (fun d _ => rfl)]
  | 4, hu, hk =>
    injection hu with hu; injection hk with hk; subst hu hk
    exact fin [125, 125] 3 (by decide) (by decide) fun c a h => by
      rw [tail_slip h hL [] [] (by decide) ⟨2, 3, [], [], []⟩ (by decide +kernel) 3 (by decide) (fun d _ => rfl)]
  | i + 5, hu, _ => simp [tails] at hu
theorem tailKinds_ne {i k : Nat} (h : tailKinds[i]? = some k) : k ≠ 0 := by
  have := List.mem_of_getElem? h
  simp [tailKinds] at this
  omega
/-- in the text -/
theorem make_tail {t : List UInt8} (hE : (61 : UInt8) ∉ t) (hL : t.getLast? ≠ some 123) (hl : t.length ≤ 1900) (h : (makeV t []).2.code = 0) (i : Nat) (u : List UInt8) (k : Nat) (hu : tails[i]? = some u) (hk : tailKinds[i]? = some k) : (makeV (t ++ u) []).2 = ⟨2, k, [], t.length⟩ := by
  have hc := cut_tails hE hL hl (make_taken h).1 i u k hu hk
  have hk0 := tailKinds_ne hk
  have h1 : (cutAll (t ++ u)).1.1 ≠ 0 := by rw [hc]; exact hk0
  rw [makeV_args (by simp) rfl, cutEach_slip h1, if_pos (by simp), hc]
/-- in a partial -/
theorem make_part {t : List UInt8} (hE : (61 : UInt8) ∉ t) (hL : t.getLast? ≠ some 123) (hl : t.length ≤ 1900) (h : (makeV t []).2.code = 0) (i : Nat) (u : List UInt8) (k : Nat) (hu : tails[i]? = some u) (hk : tailKinds[i]? = some k) : (makeV [45] [([112], t ++ u)]).2 = ⟨2, k, [112], t.length⟩ := by
  have hc := cut_tails hE hL hl (make_taken h).1 i u k hu hk
  have hk0 := tailKinds_ne hk
  have h1 : (cutAll (t ++ u)).1.1 ≠ 0 := by rw [hc]; exact hk0
  rw [makeV_args (by simp) rfl, cutEach_second (by decide +kernel) h1, if_pos (by simp), hc]
/-- more pieces -/
theorem make_more {t : List UInt8} (hE : (61 : UInt8) ∉ t) (hL : t.getLast? ≠ some 123) (hl : t.length ≤ 1900) (h : (makeV t []).2.code = 0) : (makeV (t ++ 123 :: 123 :: moreTail) []).2 = Ft.none := by
  have hm := make_taken h
  obtain ⟨c, a, h1, h2⟩ := cut_behind (v := moreTail) hE hl (by decide) hm.1
  obtain ⟨h3, h4⟩ := tail_more h1 hL hm.2
  rw [h3, if_pos rfl] at h2
  refine make_of_fold ?_ ?_
  · rw [h2]
  · rw [h2]; exact h4
def ownName (k : Nat) : List UInt8 := [111, 119, 110, UInt8.ofNat (48 + k)]
theorem own_cut : ∀ k ∈ List.range 10, cutAll ([123, 123, 62] ++ ownName k ++ [125, 125]) = ((0, 0), [⟨6, 0, ownName k, 0⟩]) ∧ isIdent (ownName k) = true := by decide +kernel
/-- a partial whose name stands nowhere in its text -/
theorem make_own {t : List UInt8} (k : Nat) (hk : k < 10) (hn : ¬ ownName k <:+: t) (h : (makeV t []).2.code = 0) : (makeV ([123, 123, 62] ++ ownName k ++ [125, 125]) [(ownName k, t)]).2 = Ft.none := by
  have hm := make_taken h
  obtain ⟨h1, h2⟩ := own_cut k (List.mem_range.2 hk)
  have h10 : (cutAll ([123, 123, 62] ++ ownName k ++ [125, 125])).1.1 = 0 := by rw [h1]
  have ho : argsOk (List.map (·.1) [(ownName k, t)]) = true := by
    show (isIdent (ownName k) && (!List.contains [] (ownName k) && argsOk [])) = true
    rw [h2]; rfl
  rw [makeV_args (by simp) ho, cutEach_two h10 hm.1, if_neg (by simp [Ft.none]), h1]
  have hl := look_one (ownName k) (cutAll t).2 0 ([123, 123, 62] ++ ownName k ++ [125, 125]).length (cutAll_ok t hm.1).1 (fun p hp hk e => hn (e ▸ ((cutAll_in t).2 p hp).name hk)) [] hm.2
  rw [if_neg (by rw [hl.1]; decide)]

end Go.Proofs.YtfkhljmiehdgmaaGreatDoor.Pl

/-
  Plain: how long the parts' texts are, and what their mates may be.
-/
namespace Go.Proofs.YtfkhljmiehdgmaaGreatDoor.Pl

structure PtB (n : Nat) (p : Pt) : Prop where
  text : p.text.length ≤ n
  mate : p.mate ≤ n
theorem addText_b {t : List UInt8} {c : Ct} {a z : Nat} (h : ∀ p ∈ c.parts, PtB t.length p) : ∀ p ∈ (c.addText t a z).parts, PtB t.length p := by
  unfold Ct.addText
  split
  · intro p hp
    simp only [List.mem_append, List.mem_singleton] at hp
    rcases hp with hp | rfl
    · exact h p hp
    · refine ⟨?_, Nat.zero_le _⟩
      simp only [List.length_take, List.length_drop]; omega
  · exact h
theorem setMate_b {N : Nat} {l : List Pt} (m n : Nat) (hn : n ≤ N) (h : ∀ p ∈ l, PtB N p) : ∀ p ∈ setMate l m n, PtB N p := by
  induction l generalizing m with
  | nil => unfold setMate; simp
  | cons q l ih =>
    cases m with
    | zero =>
      intro p hp
      have e : setMate (q :: l) 0 n = { q with mate := n } :: l := rfl
      rw [e] at hp
      rcases List.mem_cons.1 hp with rfl | hp
      · exact ⟨(h q (by simp)).text, hn⟩
      · exact h p (List.mem_cons_of_mem _ hp)
    | succ m =>
      intro p hp
      have e : setMate (q :: l) (m + 1) n = q :: setMate l m n := by simp [setMate]
      rw [e] at hp
      rcases List.mem_cons.1 hp with rfl | hp
      · exact h p (by simp)
      · exact ih m (fun r hr => h r (List.mem_cons_of_mem _ hr)) p hp
theorem take_b {N : Nat} {c : Ct} {one : Tg} {a : Nat} (h : ∀ p ∈ c.parts, PtB N p) (hn : one.name.length ≤ N) (hl : c.parts.length ≤ N) (ho : ∀ m ∈ c.opened, m < c.parts.length) : ∀ p ∈ (c.take one a).2.parts, PtB N p := by
  have hnew : PtB N ⟨one.kind, a, one.name, 0⟩ := ⟨hn, Nat.zero_le _⟩
  have happ : ∀ (l : List Pt) (q : Pt), (∀ p ∈ l, PtB N p) → PtB N q → ∀ p ∈ l ++ [q], PtB N p := fun l q hl hq p hp => by
    simp only [List.mem_append, List.mem_singleton] at hp
    rcases hp with hp | rfl
    · exact hl p hp
    · exact hq
  unfold Ct.take
  by_cases h1 : one.slip ≠ 0
  · rw [if_pos h1]; exact h
  rw [if_neg h1]
  by_cases h7 : one.kind = 7
  · rw [if_pos h7]; exact h
  rw [if_neg h7]
  by_cases h8 : one.kind = 8
  · rw [if_pos h8]; exact h
  rw [if_neg h8]
  by_cases h34 : one.kind = 3 ∨ one.kind = 4
  · rw [if_pos h34]
    split
    · exact h
    · exact happ _ _ h hnew
  rw [if_neg h34]
  by_cases h5 : one.kind = 5
  · rw [if_pos h5]
    split
    · exact h
    · rename_i m hm
      split
      · exact h
      · have := ho m (List.mem_of_getLast? hm)
        exact happ _ _ (setMate_b _ _ hl h) ⟨hn, by show m ≤ N; omega⟩
  · rw [if_neg h5]
    exact happ _ _ h hnew
theorem readTg_short (l : List UInt8) : (readTg l).name.length ≤ l.length := by
  have hnm : ∀ (k : Nat) (n : List UInt8), (namedTg k n).name.length ≤ n.length := fun k n => by
    unfold namedTg
    split <;> split
    all_goals first | exact Nat.le_refl _ | exact Nat.zero_le _
  unfold readTg
  split
  · exact Nat.zero_le _
  · split
    · unfold readDl
      split
      · exact Nat.zero_le _
      · split
        · split <;> exact Nat.zero_le _
        · exact Nat.zero_le _
    · split
      · exact hnm _ _
      · refine Nat.le_trans (hnm _ _) (Nat.le_trans (trimL_le _ _) ?_)
        rw [List.length_drop]; omega
theorem step_b {t : List UInt8} {c : Ct} {a : Nat} (hc : CtOk t c a) (h : ∀ p ∈ c.parts, PtB t.length p) :
    (∀ d, c.step t a = .over d → ∀ p ∈ d.parts, PtB t.length p) ∧ (∀ d b, c.step t a = .next d b → ∀ p ∈ d.parts, PtB t.length p) := by
  have hle := hc.le
  cases hf1 : (Go.Lib.cut (t.drop a) c.op).2.2 with
  | false =>
    rw [step_miss hf1]
    refine ⟨fun d e => ?_, fun d b e => (by cases e)⟩
    injection e with e
    subst e
    exact addText_b h
  | true =>
    obtain ⟨i1, hi1, hi2, hi3, hi4, hi5⟩ := cut_hit _ _ hf1
    rw [List.length_drop] at hi2
    cases hf2 : (Go.Lib.cut (Go.Lib.cut (t.drop a) c.op).2.1 c.cl).2.2 with
    | false =>
      rw [step_unclosed hf1 hf2]
      exact ⟨fun d e => (by cases e), fun d b e => (by cases e)⟩
    | true =>
      obtain ⟨i2, hj1, hj2, hj3, hj4, hj5⟩ := cut_hit _ _ hf2
      rw [hi4, List.length_drop, List.length_drop] at hj2
      obtain ⟨one, h1⟩ : ∃ one, readTg (Go.Lib.trimS (Go.Lib.cut (Go.Lib.cut (t.drop a) c.op).2.1 c.cl).1 blanks5) = one := ⟨_, rfl⟩
      have hn := readTg_short (Go.Lib.trimS (Go.Lib.cut (Go.Lib.cut (t.drop a) c.op).2.1 c.cl).1 blanks5)
      have hin : (Go.Lib.trimS (Go.Lib.cut (Go.Lib.cut (t.drop a) c.op).2.1 c.cl).1 blanks5).length ≤ t.length := by
        refine Nat.le_trans (trimS_infix _ _).length_le ?_
        omega
      rw [h1] at hn
      generalize hO : (if one.kind ≠ 2 then lineOf t (a + (Go.Lib.cut (t.drop a) c.op).1.length) (a + (Go.Lib.cut (t.drop a) c.op).1.length + c.op.length + (Go.Lib.cut (Go.Lib.cut (t.drop a) c.op).2.1 c.cl).1.length + c.cl.length) else (a + (Go.Lib.cut (t.drop a) c.op).1.length, a + (Go.Lib.cut (t.drop a) c.op).1.length + c.op.length + (Go.Lib.cut (Go.Lib.cut (t.drop a) c.op).2.1 c.cl).1.length + c.cl.length)) = o
      rw [step_tag hf1 hf2 one h1 _ _ rfl rfl o hO]
      have ho1 : o.1 ≤ a + (Go.Lib.cut (t.drop a) c.op).1.length := by
        subst hO
        split
        · exact (lineOf_ok _ _ _ (by omega) (by omega)).1
        · exact Nat.le_refl _
      have hck := addText_ok hc o.1 (a + (Go.Lib.cut (t.drop a) c.op).1.length) (by omega) ho1 (by omega)
      refine ⟨fun d e => ?_, fun d b e => ?_⟩
      · split at e <;> cases e
      · split at e
        · cases e
        · injection e with e1 e2
          subst e1
          exact take_b (addText_b h) (by omega) (Nat.le_trans hck.few hck.le) hck.wf.lt
theorem go_b (t : List UInt8) : ∀ (n : Nat) (c : Ct) (a : Nat), CtOk t c a → (∀ p ∈ c.parts, PtB t.length p) → ∀ p ∈ (Ct.go t n c a).2, PtB t.length p := by
  intro n
  induction n with
  | zero => intro c a _ _ p hp; cases hp
  | succ n ih =>
    intro c a hc h
    obtain ⟨h2, h3⟩ := step_b hc h
    unfold Ct.go
    cases hs : c.step t a with
    | slip k p => intro p hp; cases hp
    | over d => exact h2 d hs
    | next d b => exact ih d b (ctStep_ok hc hs).1 (h3 d b hs)
theorem cutAll_b (t : List UInt8) (h : (cutAll t).1.1 = 0) : t.length ≤ 2000 ∧ ∀ p ∈ (cutAll t).2, PtB t.length p := by
  have hg := go_b t (t.length + 1) Ct.start 0 (ctOk_start t) (fun p hp => by cases hp)
  unfold cutAll at h ⊢
  split at h
  · cases h
  · rename_i h1
    refine ⟨by omega, ?_⟩
    rw [if_neg h1]
    split
    · exact hg
    · intro p hp; cases hp

end Go.Proofs.YtfkhljmiehdgmaaGreatDoor.Pl

/-
  Plain: what holds of the search's memory while a template is looked through.
-/
namespace Go.Proofs.YtfkhljmiehdgmaaGreatDoor.Pl

/-- a state that is come to -/
structure SxFit (x : Sx) : Prop where
  ok : SxOk x
  far : 0 ≤ x.ma.far ∧ x.ma.far ≤ 3
theorem start_fit : SxFit Sx.start := ⟨sxStart_ok, by decide⟩
theorem fartherMk_fit (kind : Int) (m : Nat) (far : Int) (b : UInt8) (h : 0 ≤ far ∧ far ≤ 3) : 0 ≤ fartherMk kind m far b ∧ fartherMk kind m far b ≤ 3 := by
  unfold fartherMk
  repeat' split
  all_goals omega
theorem none_far : (0 : Int) ≤ Mk.none.far ∧ Mk.none.far ≤ 3 := by decide
theorem escapedMk_far (m : Nat) (e : Bool) (b : UInt8) : 0 ≤ (escapedMk m e b).far ∧ (escapedMk m e b).far ≤ 3 := by
  unfold escapedMk
  split
  · exact none_far
  · split
    · exact ⟨Int.le_refl _, by simp⟩
    · exact none_far
theorem behindMk_far (s : St) (k : Mk) (b : UInt8) (h : 0 ≤ k.far ∧ k.far ≤ 3) : 0 ≤ (behindMk s k b).far ∧ (behindMk s k b).far ≤ 3 := by
  unfold behindMk quietMk ledMk
  split
  · exact none_far
  · split
    · exact escapedMk_far _ _ _
    · split
      · unfold stayedMk
        simp only
        split
        · exact fartherMk_fit _ _ _ _ h
        · omega
      · exact none_far
theorem behind_fit {x : Sx} (b : UInt8) (h : SxFit x) : SxFit (x.behind b) := ⟨sxBehind_ok b h.ok, behindMk_far _ _ b h.far⟩
theorem from_fit (l : List UInt8) : ∀ x : Sx, SxFit x → SxFit (sxFrom x l) := by
  induction l with
  | nil => intro x h; exact h
  | cons b l ih => intro x h; exact ih _ (behind_fit b h)
theorem hole_fit {x : Sx} (h : SxFit x) : SxFit x.behindHole := by
  refine ⟨behindHole_ok x h.ok, ?_⟩
  unfold Sx.behindHole
  split
  · exact ⟨by simp, by simp⟩
  · exact h.far
def SxEnd (x : Sx) : Prop := x = Sx.none ∨ SxFit x
theorem fit_not_none {x : Sx} (h : SxFit x) : x.isNone = false := none_not h.ok
theorem end_fit {x : Sx} (h : SxEnd x) (hn : ¬ x.isNone = true) : SxFit x := by
  rcases h with rfl | h
  · exact absurd rfl hn
  · exact h

/- look-ups by entries -/
section
variable {α : Type}
theorem getKey_mem {l : List (En × α)} {e : En} {v : α} (h : getKey l e = some v) : (e, v) ∈ l := by
  induction l with
  | nil => cases h
  | cons p l ih =>
    obtain ⟨k, u⟩ := p
    unfold getKey at h
    split at h
    · rename_i hk
      injection h with h
      subst h hk
      simp
    · exact List.mem_cons_of_mem _ (ih h)
theorem getKey_none {l : List (En × α)} {e : En} (h : getKey l e = Option.none) : ∀ p ∈ l, p.1 ≠ e := by
  induction l with
  | nil => intro p hp; cases hp
  | cons p l ih =>
    obtain ⟨k, u⟩ := p
    unfold getKey at h
    split at h
    · cases h
    · rename_i hk
      intro q hq
      rcases List.mem_cons.1 hq with rfl | hq
      · exact hk
      · exact ih h q hq
theorem putKey_new {l : List (En × α)} {e : En} (h : getKey l e = Option.none) (v : α) : putKey l e v = l ++ [(e, v)] := by
  induction l with
  | nil => rfl
  | cons p l ih =>
    obtain ⟨k, u⟩ := p
    unfold getKey at h
    split at h
    · cases h
    · rename_i hk
      unfold putKey
      rw [if_neg hk, ih h]; rfl
theorem putKey_old {l : List (En × α)} {e : En} {u : α} (h : getKey l e = some u) (v : α) : ∃ i, l[i]? = some (e, u) ∧ putKey l e v = l.set i (e, v) := by
  induction l with
  | nil => cases h
  | cons p l ih =>
    obtain ⟨k, w⟩ := p
    unfold getKey at h
    split at h
    · rename_i hk
      injection h with h
      subst h hk
      refine ⟨0, rfl, ?_⟩
      unfold putKey
      rw [if_pos rfl]; rfl
    · rename_i hk
      obtain ⟨i, h1, h2⟩ := ih h
      refine ⟨i + 1, by simpa using h1, ?_⟩
      unfold putKey
      rw [if_neg hk, h2]; rfl
theorem getKey_put (l : List (En × α)) (e : En) (v : α) (e' : En) : getKey (putKey l e v) e' = if e = e' then some v else getKey l e' := by
  induction l with
  | nil => rfl
  | cons p l ih =>
    obtain ⟨k, u⟩ := p
    unfold putKey
    by_cases hk : k = e
    · rw [if_pos hk]
      subst hk
      unfold getKey
      split
      · rfl
      · rfl
    · rw [if_neg hk]
      unfold getKey
      rw [ih]
      by_cases h1 : k = e'
      · rw [if_pos h1, if_pos h1, if_neg (fun h => hk (h1.trans h.symm))]
      · rw [if_neg h1, if_neg h1]
theorem putKey_len (l : List (En × α)) (e : En) (v : α) : (putKey l e v).length = if getKey l e = Option.none then l.length + 1 else l.length := by
  split
  · rename_i h; rw [putKey_new h]; simp
  · rename_i h
    cases hg : getKey l e with
    | none => exact absurd hg h
    | some u => obtain ⟨i, _, h2⟩ := putKey_old hg v; rw [h2]; simp
def KeysOne (l : List (En × α)) : Prop := ∀ (i j : Nat) (p q : En × α), l[i]? = some p → l[j]? = some q → p.1 = q.1 → i = j
theorem keysOne_put {l : List (En × α)} (h : KeysOne l) (e : En) (v : α) : KeysOne (putKey l e v) := by
  cases hg : getKey l e with
  | none =>
    rw [putKey_new hg]
    have hn := getKey_none hg
    intro i j p q hi hj hpq
    rw [List.getElem?_append] at hi hj
    split at hi <;> split at hj
    · exact h i j p q hi hj hpq
    · exfalso
      rename_i h1 h2
      have : j - l.length = 0 := by
        have := (List.getElem?_eq_some_iff.1 hj).1
        simp at this; omega
      rw [this] at hj
      simp at hj
      subst hj
      exact hn p (List.mem_of_getElem? hi) hpq
    · exfalso
      have : i - l.length = 0 := by
        have := (List.getElem?_eq_some_iff.1 hi).1
        simp at this; omega
      rw [this] at hi
      simp at hi
      subst hi
      exact hn q (List.mem_of_getElem? hj) hpq.symm
    · have h1 := (List.getElem?_eq_some_iff.1 hi).1
      have h2 := (List.getElem?_eq_some_iff.1 hj).1
      simp at h1 h2
      omega
  | some u =>
    obtain ⟨k, h1, h2⟩ := putKey_old hg v
    rw [h2]
    intro i j p q hi hj hpq
    have fix : ∀ (i : Nat) (p : En × α), (l.set k (e, v))[i]? = some p → ∃ p', l[i]? = some p' ∧ p'.1 = p.1 := by
      intro i p hi
      rw [List.getElem?_set] at hi
      split at hi
      · rename_i hik
        subst hik
        split at hi
        · injection hi with hi; subst hi; exact ⟨_, h1, rfl⟩
        · cases hi
      · exact ⟨p, hi, rfl⟩
    obtain ⟨p', e1, e2⟩ := fix i p hi
    obtain ⟨q', e3, e4⟩ := fix j q hj
    exact h i j p' q' e1 e3 (by rw [e2, e4, hpq])
theorem mem_put {l : List (En × α)} {e : En} {v : α} {p : En × α} (h : p ∈ putKey l e v) : p = (e, v) ∨ p ∈ l := by
  cases hg : getKey l e with
  | none => rw [putKey_new hg] at h; simp at h; exact h.symm
  | some u =>
    obtain ⟨k, h1, h2⟩ := putKey_old hg v
    rw [h2] at h
    rcases List.mem_or_eq_of_mem_set h with h | h
    · exact .inr h
    · exact .inl h
end

/-- the ends that are known -/
structure EndsOk (n : Nat) (l : List (En × Sx)) : Prop where
  key : ∀ p ∈ l, SxFit p.1.2 ∧ 1 ≤ p.1.1 ∧ p.1.1 < n
  val : ∀ p ∈ l, SxEnd p.2
  one : KeysOne l
  few : l.length ≤ 256
theorem endsOk_nil (n : Nat) : EndsOk n [] := ⟨fun _ h => (by cases h), fun _ h => (by cases h), fun i j p q h => (by simp at h), by decide⟩
theorem endsOk_put {n : Nat} {l : List (En × Sx)} (h : EndsOk n l) {e : En} {v : Sx} (he : SxFit e.2 ∧ 1 ≤ e.1 ∧ e.1 < n) (hv : SxEnd v) (hf : (putKey l e v).length ≤ 256) : EndsOk n (putKey l e v) :=
  ⟨fun p hp => (mem_put hp).elim (fun q => q ▸ he) (h.key p), fun p hp => (mem_put hp).elim (fun q => q ▸ hv) (h.val p), keysOne_put h.one e v, hf⟩
theorem placeGo_lt (n : List UInt8) : ∀ (l : List Src) (i : Nat), placeGo n i l = 0 ∨ (i ≤ placeGo n i l ∧ placeGo n i l < i + l.length)
  | [], i => .inl rfl
  | s :: l, i => by
    unfold placeGo
    split
    · exact .inr ⟨Nat.le_refl _, by simp⟩
    · rcases placeGo_lt n l (i + 1) with h | h
      · exact .inl h
      · exact .inr ⟨by omega, by simp; omega⟩
theorem placeOf_lt (S : List Src) (n : List UInt8) (h : placeOf S n ≠ 0) : 1 ≤ placeOf S n ∧ placeOf S n < S.length := by
  unfold placeOf at h ⊢
  rcases placeGo_lt n (S.drop 1) 1 with q | q
  · exact absurd q h
  · rw [List.length_drop] at q; omega

/-- what a going through does to what is known -/
structure Grew (n : Nat) (s s' : Sr) : Prop where
  ok : EndsOk n s'.ends
  more : s.ends.length ≤ s'.ends.length
  has : ∀ e, getKey s.ends e ≠ Option.none → getKey s'.ends e ≠ Option.none
  nums : s'.nums = s.nums
  vis : s'.vis = s.vis
  fault : s'.fault = s.fault ∨ s'.fault = fullFt
theorem Grew.refl {n : Nat} {s : Sr} (h : EndsOk n s.ends) : Grew n s s := ⟨h, Nat.le_refl _, fun _ h => h, rfl, rfl, .inl rfl⟩
theorem Grew.trans {n : Nat} {a b c : Sr} (h : Grew n a b) (k : Grew n b c) : Grew n a c :=
  ⟨k.ok, Nat.le_trans h.more k.more, fun e q => k.has e (h.has e q), k.nums.trans h.nums, k.vis.trans h.vis, by
    rcases k.fault with q | q
    · rw [q]; exact h.fault
    · exact .inr q⟩
/-- what is asked of what is behind a partial -/
def BehOk (n : Nat) (beh : Sr → List UInt8 → Sx → Sr × Sx) (m : Nat) : Prop := ∀ s t x, EndsOk n s.ends → m ≤ s.ends.length → SxFit x → Grew n s (beh s t x).1 ∧ SxEnd (beh s t x).2
theorem walkV_ok {n m : Nat} {beh : Sr → List UInt8 → Sx → Sr × Sx} (hb : BehOk n beh m) (P : List Pt) : ∀ (k a : Nat) (s : Sr) (x : Sx), EndsOk n s.ends → m ≤ s.ends.length → SxEnd x → Grew n s (walkV beh P k a s x).1 ∧ SxEnd (walkV beh P k a s x).2 := by
  intro k
  induction k with
  | zero => intro a s x h _ hx; exact ⟨Grew.refl h, hx⟩
  | succ k ih =>
    intro a s x h hm hx
    unfold walkV
    by_cases hn : x.isNone = true
    · rw [if_pos hn]; exact ⟨Grew.refl h, hx⟩
    rw [if_neg hn]
    have hf := end_fit hx hn
    cases hp : P[a]? with
    | none => exact ⟨Grew.refl h, hx⟩
    | some p =>
      simp only
      split
      · exact ih _ s _ h hm (.inr (from_fit _ _ hf))
      · split
        · exact ih _ s _ h hm (.inr (hole_fit hf))
        · split
          · exact ih _ s _ h hm hx
          · split
            · obtain ⟨h1, h2⟩ := hb s p.text x h hm hf
              obtain ⟨h3, h4⟩ := ih (a + 1) _ _ h1.ok (Nat.le_trans hm h1.more) h2
              exact ⟨h1.trans h3, h4⟩
            · exact ih _ s _ h hm hx
theorem none_end : SxEnd Sx.none := .inl rfl
theorem behV_ok (S : List Src) : ∀ (k m : Nat), 257 ≤ m + k → BehOk S.length (behV S k) m := by
  intro k
  induction k with
  | zero =>
    intro m hm s t x h hl hx
    have := h.few; omega
  | succ k ih =>
    intro m hm s t x h hl hx
    unfold behV
    by_cases h0 : placeOf S t = 0
    · rw [if_pos h0]; exact ⟨Grew.refl h, .inr hx⟩
    rw [if_neg h0]
    have hpl := placeOf_lt S t h0
    cases hg : getKey s.ends (placeOf S t, x) with
    | some e => exact ⟨Grew.refl h, h.val _ (getKey_mem hg)⟩
    | none =>
      simp only
      by_cases hfull : s.ends.length = 256
      · rw [if_pos hfull]
        exact ⟨⟨h, Nat.le_refl _, fun _ q => q, rfl, rfl, .inr rfl⟩, none_end⟩
      rw [if_neg hfull]
      have hlen : (putKey s.ends (placeOf S t, x) Sx.none).length = s.ends.length + 1 := by rw [putKey_new hg]; simp
      have hok1 : EndsOk S.length (putKey s.ends (placeOf S t, x) Sx.none) := endsOk_put h ⟨hx, hpl⟩ none_end (by have := h.few; omega)
      obtain ⟨g1, g2⟩ := walkV_ok (ih (s.ends.length + 1) (by omega)) (partsAt S (placeOf S t)) ((partsAt S (placeOf S t)).length + 1) 0 { s with ends := putKey s.ends (placeOf S t, x) Sx.none } x hok1 (by show s.ends.length + 1 ≤ (putKey _ _ _).length; omega) (.inr hx)
      generalize walkV (behV S k) (partsAt S (placeOf S t)) ((partsAt S (placeOf S t)).length + 1) 0 { s with ends := putKey s.ends (placeOf S t, x) Sx.none } x = r at g1 g2 ⊢
      have hm1 : s.ends.length + 1 ≤ r.1.ends.length := by have := g1.more; rw [show ({ s with ends := putKey s.ends (placeOf S t, x) Sx.none } : Sr).ends.length = s.ends.length + 1 from hlen] at this; exact this
      have hhas : getKey r.1.ends (placeOf S t, x) ≠ Option.none := g1.has _ (by show getKey (putKey _ _ _) _ ≠ _; rw [getKey_put, if_pos rfl]; simp)
      have hlen2 : (putKey r.1.ends (placeOf S t, x) r.2).length = r.1.ends.length := by rw [putKey_len, if_neg hhas]
      refine ⟨⟨endsOk_put g1.ok ⟨hx, hpl⟩ g2 (by rw [hlen2]; exact g1.ok.few), ?_, ?_, g1.nums, g1.vis, g1.fault⟩, g2⟩
      · show s.ends.length ≤ (putKey _ _ _).length; omega
      · intro e he
        show getKey (putKey _ _ _) e ≠ _
        rw [getKey_put]
        split
        · simp
        · refine g1.has e ?_
          show getKey (putKey _ _ _) e ≠ _
          rw [getKey_put]
          split
          · simp
          · exact he

end Go.Proofs.YtfkhljmiehdgmaaGreatDoor.Pl

/-
  Plain: the sections that are open on the way through parts.
-/
namespace Go.Proofs.YtfkhljmiehdgmaaGreatDoor.Pl

/-- the ends of the sections that are open, the last one first -/
def stk : List Pt → List Nat → List Nat
  | [], st => st
  | p :: l, st => if p.kind = 3 ∨ p.kind = 4 then stk l (p.mate :: st) else if p.kind = 5 then stk l st.tail else stk l st
theorem stk_cons (p : Pt) (l : List Pt) (st : List Nat) : stk (p :: l) st = if p.kind = 3 ∨ p.kind = 4 then stk l (p.mate :: st) else if p.kind = 5 then stk l st.tail else stk l st := rfl
theorem stk_append (l m : List Pt) : ∀ st, stk (l ++ m) st = stk m (stk l st) := by
  induction l with
  | nil => intro st; rfl
  | cons p l ih =>
    intro st
    rw [List.cons_append, stk_cons, stk_cons]
    split
    · exact ih _
    · split
      · exact ih _
      · exact ih _
theorem wf_stk {o : Nat} {l : List Pt} (h : Wf o l) : (∀ st, stk l st = st) ∧ ∀ i, i ≤ l.length → ∀ st, ∃ ex, stk (l.take i) st = ex ++ st ∧ (∀ m ∈ ex, o + i ≤ m ∧ m < o + l.length) ∧ ∀ m tl, ex = m :: tl → stk (l.take (m - o)) st = ex ++ st := by
  induction h with
  | nil o => exact ⟨fun st => rfl, fun i hi st => ⟨[], by simp [stk], fun m hm => (by cases hm), fun m tl e => (by cases e)⟩⟩
  | leaf o p l hk _ ih =>
    have hs : ∀ l st, stk (p :: l) st = stk l st := fun l st => by
      rw [stk_cons, if_neg (by omega), if_neg (by omega)]
    refine ⟨fun st => by rw [hs]; exact ih.1 st, fun i hi st => ?_⟩
    cases i with
    | zero => exact ⟨[], rfl, fun m hm => (by cases hm), fun m tl e => (by cases e)⟩
    | succ i =>
      obtain ⟨ex, h1, h2, h3⟩ := ih.2 i (by simpa using hi) st
      refine ⟨ex, by rw [List.take_succ_cons, hs]; exact h1, fun m hm => ?_, fun m tl e => ?_⟩
      · have := h2 m hm
        simp only [List.length_cons]; omega
      · have hm := h2 m (by rw [e]; simp)
        rw [show m - o = (m - (o + 1)) + 1 by omega, List.take_succ_cons, hs]
        exact h3 m tl e
  | sec o p q b l hp hq hm1 hm2 hb _ ihb ihl =>
    have e : p :: b ++ q :: l = p :: (b ++ q :: l) := by simp
    have hs : ∀ l st, stk (p :: l) st = stk l (p.mate :: st) := fun l st => by
      rw [stk_cons, if_pos hp]
    have hsq : ∀ l st, stk (q :: l) st = stk l st.tail := fun l st => by
      rw [stk_cons, if_neg (by omega), if_pos hq]
    rw [e]
    refine ⟨fun st => ?_, fun i hi st => ?_⟩
    · rw [hs, stk_append, ihb.1, hsq]
      exact ihl.1 st
    · cases i with
      | zero => exact ⟨[], rfl, fun m hm => (by cases hm), fun m tl e => (by cases e)⟩
      | succ j =>
        simp only [List.length_cons, List.length_append] at hi ⊢
        rw [List.take_succ_cons, hs]
        by_cases hj : j ≤ b.length
        · rw [List.take_append_of_le_length hj]
          obtain ⟨ex, h1, h2, h3⟩ := ihb.2 j hj (p.mate :: st)
          refine ⟨ex ++ [p.mate], by rw [h1]; simp, fun m hm => ?_, fun m tl e2 => ?_⟩
          · simp only [List.mem_append, List.mem_singleton] at hm
            rcases hm with hm | rfl
            · have := h2 m hm; omega
            · omega
          · cases ex with
            | nil =>
              simp only [List.nil_append, List.cons.injEq] at e2
              obtain ⟨rfl, _⟩ := e2
              rw [show p.mate - o = b.length + 1 by omega, List.take_succ_cons, hs, List.take_left, ihb.1]
              simp
            | cons m' tl' =>
              simp only [List.cons_append, List.cons.injEq] at e2
              obtain ⟨rfl, _⟩ := e2
              have hm := h2 m' (by simp)
              rw [show m' - o = (m' - (o + 1)) + 1 by omega, List.take_succ_cons, hs, List.take_append_of_le_length (by omega), h3 m' tl' rfl]
              simp
        · obtain ⟨t, rfl⟩ : ∃ t, j = b.length + 1 + t := ⟨j - (b.length + 1), by omega⟩
          have ht : (b ++ q :: l).take (b.length + 1 + t) = b ++ q :: l.take t := by
            rw [List.take_append]
            rw [List.take_of_length_le (by omega), show b.length + 1 + t - b.length = t + 1 by omega, List.take_succ_cons]
          rw [ht, stk_append, ihb.1, hsq]
          simp only [List.tail_cons]
          obtain ⟨ex, h1, h2, h3⟩ := ihl.2 t (by omega) st
          refine ⟨ex, h1, fun m hm => ?_, fun m tl e2 => ?_⟩
          · have := h2 m hm; omega
          · have hm := h2 m (by rw [e2]; simp)
            obtain ⟨u, hu⟩ : ∃ u, m - o = (b.length + 1 + u) + 1 := ⟨m - o - (b.length + 2), by omega⟩
            have ht2 : (b ++ q :: l).take (b.length + 1 + u) = b ++ q :: l.take u := by
              rw [List.take_append]
              rw [List.take_of_length_le (by omega), show b.length + 1 + u - b.length = u + 1 by omega, List.take_succ_cons]
            rw [hu, List.take_succ_cons, hs, ht2, stk_append, ihb.1, hsq]
            simp only [List.tail_cons]
            have := h3 m tl e2
            rw [show m - (o + b.length + 2) = u by omega] at this
            exact this
theorem stk_len (l : List Pt) : ∀ st, (stk l st).length ≤ l.length + st.length := by
  induction l with
  | nil => intro st; simp [stk]
  | cons p l ih =>
    intro st
    rw [stk_cons]
    split
    · have := ih (p.mate :: st); simp only [List.length_cons] at this ⊢; omega
    · split
      · have := ih st.tail; rw [List.length_tail] at this; simp only [List.length_cons]; omega
      · have := ih st; simp only [List.length_cons]; omega
theorem deep_stk (l m : List Pt) : ∀ st, deep (l ++ m) st.length = true → deep m (stk l st).length = true := by
  induction l with
  | nil => intro st h; exact h
  | cons p l ih =>
    intro st h
    have h : deep (p :: (l ++ m)) st.length = true := h
    unfold deep at h
    rw [stk_cons]
    by_cases h3 : p.kind = 3 ∨ p.kind = 4
    · rw [if_pos h3] at h ⊢
      exact ih (p.mate :: st) (by simpa using h)
    rw [if_neg h3] at h ⊢
    by_cases h5 : p.kind = 5
    · rw [if_pos h5] at h ⊢
      simp only [ne_eq, Bool.and_eq_true, decide_eq_true_eq] at h
      exact ih st.tail (by simpa using h.2)
    · rw [if_neg h5] at h ⊢
      exact ih st h
/-- an end's section lies in the same parts -/
theorem wf_mate5 {o : Nat} {l : List Pt} (h : Wf o l) : ∀ (i : Nat) (p : Pt), l[i]? = some p → p.kind = 5 → p.mate < o + l.length ∧ o ≤ p.mate := by
  induction h with
  | nil o => intro i p hp; simp at hp
  | leaf o q l hk _ ih =>
    intro i p hp h5
    cases i with
    | zero => simp at hp; subst hp; omega
    | succ i =>
      have := ih i p (by simpa using hp) h5
      simp only [List.length_cons]; omega
  | sec o q z b l hq hz h1 h2 hb _ ihb ihl =>
    intro i p hp h5
    have e : q :: b ++ z :: l = q :: (b ++ z :: l) := by simp
    rw [e] at hp ⊢
    simp only [List.length_cons, List.length_append]
    cases i with
    | zero => simp at hp; subst hp; omega
    | succ i =>
      simp only [List.getElem?_cons_succ] at hp
      rw [List.getElem?_append] at hp
      split at hp
      · have := ihb i p hp h5; omega
      · rename_i hi
        cases hx : i - b.length with
        | zero => rw [hx] at hp; simp at hp; subst hp; omega
        | succ j =>
          rw [hx] at hp
          have := ihl j p (by simpa using hp) h5
          omega

end Go.Proofs.YtfkhljmiehdgmaaGreatDoor.Pl

/-
  Plain: what holds of what is known while a template is gone through.
-/
namespace Go.Proofs.YtfkhljmiehdgmaaGreatDoor.Pl

/-- what is known -/
structure Inv (S : List Src) (s : Sr) : Prop where
  ends : EndsOk S.length s.ends
  key : ∀ p ∈ s.nums, SxFit p.1.2 ∧ p.1.1 < S.length
  one : KeysOne s.nums
  sub : ∀ p ∈ s.nums, p.1 = (0, Sx.start) ∨ getKey s.ends p.1 ≠ Option.none
  zero : ∀ p ∈ s.nums, p.2 = 0 → p.1.1 = 0
  vis : s.vis.length = s.nums.length
/-- what stays -/
structure Gv (s s' : Sr) : Prop where
  has : ∀ e, getKey s.ends e ≠ Option.none → getKey s'.ends e ≠ Option.none
  nums : s.nums.length ≤ s'.nums.length
  vis : ∀ (i : Nat) (u : Nat × List Int), s.vis[i]? = some u → ∃ u', s'.vis[i]? = some u' ∧ u'.1 = u.1 ∧ u'.2.length = u.2.length
theorem Gv.refl (s : Sr) : Gv s s := ⟨fun _ h => h, Nat.le_refl _, fun _ u h => ⟨u, h, rfl, rfl⟩⟩
theorem Gv.trans {a b c : Sr} (h : Gv a b) (k : Gv b c) : Gv a c :=
  ⟨fun e q => k.has e (h.has e q), Nat.le_trans h.nums k.nums, fun i u q => by
    obtain ⟨u1, e1, e2, e3⟩ := h.vis i u q
    obtain ⟨u2, f1, f2, f3⟩ := k.vis i u1 e1
    exact ⟨u2, f1, f2.trans e2, f3.trans e3⟩⟩
theorem Inv.mark {S : List Src} {s : Sr} (h : Inv S s) (v a : Nat) (m : Int) : Inv S (s.mark v a m) := ⟨h.ends, h.key, h.one, h.sub, h.zero, by unfold Sr.mark; simp [h.vis]⟩
theorem Gv.mark (s : Sr) (v a : Nat) (m : Int) : Gv s (s.mark v a m) :=
  ⟨fun _ h => h, Nat.le_refl _, fun i u hu => by
    show ∃ u', (s.vis.modify v fun x => (x.1, x.2.set a m))[i]? = some u' ∧ _
    rw [List.getElem?_modify, hu]
    by_cases h : v = i
    · exact ⟨(u.1, u.2.set a m), by simp [h], rfl, by simp⟩
    · exact ⟨u, by simp [h], rfl, rfl⟩⟩
theorem Inv.wrong {S : List Src} {s : Sr} (h : Inv S s) (S' : List Src) (i : Nat) (kind : Int) (pos : Nat) : Inv S (s.wrong S' i kind pos) := ⟨h.ends, h.key, h.one, h.sub, h.zero, h.vis⟩
theorem Gv.wrong (s : Sr) (S' : List Src) (i : Nat) (kind : Int) (pos : Nat) : Gv s (s.wrong S' i kind pos) := ⟨fun _ h => h, Nat.le_refl _, fun _ u h => ⟨u, h, rfl, rfl⟩⟩
theorem Inv.grew {S : List Src} {s s' : Sr} (h : Inv S s) (g : Grew S.length s s') : Inv S s' ∧ Gv s s' :=
  ⟨⟨g.ok, by rw [g.nums]; exact h.key, by rw [g.nums]; exact h.one, by rw [g.nums]; exact fun p hp => (h.sub p hp).imp_right (g.has _), by rw [g.nums]; exact h.zero, by rw [g.vis, g.nums]; exact h.vis⟩,
   ⟨g.has, by rw [g.nums]; exact Nat.le_refl _, by rw [g.vis]; exact fun _ u h => ⟨u, h, rfl, rfl⟩⟩⟩
theorem nodup_le {α : Type} [DecidableEq α] : ∀ (l m : List α), l.Nodup → (∀ x ∈ l, x ∈ m) → l.length ≤ m.length
  | [], m, _, _ => Nat.zero_le _
  | x :: l, m, h, hs => by
    obtain ⟨h1, h2⟩ := List.nodup_cons.1 h
    have hx := hs x (by simp)
    have := nodup_le l (m.erase x) h2 (fun y hy => (List.mem_erase_of_ne (fun e => h1 (by rw [← e]; exact hy))).2 (hs y (List.mem_cons_of_mem _ hy)))
    rw [List.length_erase_of_mem hx] at this
    have hp := List.length_pos_of_mem hx
    simp only [List.length_cons]; omega
theorem keysOne_nodup {α : Type} : ∀ {l : List (En × α)}, KeysOne l → (l.map (·.1)).Nodup
  | [], _ => List.nodup_nil
  | p :: l, h => by
    have ht : KeysOne l := fun i j a b hi hj e => by
      have := h (i + 1) (j + 1) a b (by simpa using hi) (by simpa using hj) e
      omega
    rw [List.map_cons, List.nodup_cons]
    refine ⟨fun hm => ?_, keysOne_nodup ht⟩
    obtain ⟨q, hq, e⟩ := List.mem_map.1 hm
    obtain ⟨i, hi⟩ := List.getElem?_of_mem hq
    have := h 0 (i + 1) p q rfl (by simpa using hi) e.symm
    omega
theorem getKey_in {α : Type} {l : List (En × α)} {e : En} (h : getKey l e ≠ Option.none) : e ∈ l.map (·.1) := by
  cases hg : getKey l e with
  | none => exact absurd hg h
  | some v => exact List.mem_map.2 ⟨_, getKey_mem hg, rfl⟩
theorem Inv.few {S : List Src} {s : Sr} (h : Inv S s) : s.nums.length ≤ s.ends.length + 1 := by
  have := nodup_le (s.nums.map (·.1)) ((0, Sx.start) :: s.ends.map (·.1)) (keysOne_nodup h.one) (fun x hx => by
    obtain ⟨p, hp, rfl⟩ := List.mem_map.1 hx
    rcases h.sub p hp with e | e
    · rw [e]; simp
    · exact List.mem_cons_of_mem _ (getKey_in e))
  simpa using this
/-- what a text may be gone through from -/
structure Pre (S : List Src) (s : Sr) (e : En) : Prop where
  inv : Inv S s
  new : getKey s.nums e = Option.none
  src : (e = (0, Sx.start) ∧ s.nums = []) ∨ (getKey s.ends e ≠ Option.none ∧ 1 ≤ e.1 ∧ s.nums ≠ [])
  fit : SxFit e.2
  lt : e.1 < S.length
theorem Pre.begun {S : List Src} {s : Sr} {e : En} (h : Pre S s e) : Inv S (begun S s e) ∧ Gv s (begun S s e) ∧ (Pl.begun S s e).nums.length = s.nums.length + 1 := by
  have hput : putKey s.nums e s.vis.length = s.nums ++ [(e, s.vis.length)] := putKey_new h.new _
  refine ⟨⟨h.inv.ends, ?_, ?_, ?_, ?_, ?_⟩, ⟨fun _ q => q, ?_, ?_⟩, ?_⟩
  · intro p hp
    rcases mem_put hp with rfl | hp
    · exact ⟨h.fit, h.lt⟩
    · exact h.inv.key p hp
  · exact keysOne_put h.inv.one _ _
  · intro p hp
    rcases mem_put hp with rfl | hp
    · rcases h.src with q | q
      · exact .inl q.1
      · exact .inr q.1
    · exact h.inv.sub p hp
  · intro p hp h0
    rcases mem_put hp with rfl | hp
    · rcases h.src with q | q
      · rw [q.1]
      · exfalso
        have h0 : s.vis.length = 0 := h0
        rw [h.inv.vis] at h0
        exact q.2.2 (List.length_eq_zero_iff.1 h0)
    · exact h.inv.zero p hp h0
  · show (s.vis ++ [_]).length = (putKey _ _ _).length
    rw [hput]; simp [h.inv.vis]
  · show s.nums.length ≤ (putKey _ _ _).length
    rw [hput]; simp
  · intro i u hu
    refine ⟨u, ?_, rfl, rfl⟩
    show (s.vis ++ [_])[i]? = some u
    rw [List.getElem?_append_left (List.getElem?_eq_some_iff.1 hu).1]
    exact hu
  · show (putKey _ _ _).length = _
    rw [hput]; simp
def NmOk (S : List Src) (nm : Sr → List UInt8 → Sx → Sr × Nat × Sx) (m : Nat) : Prop := ∀ s t x, Inv S s → m ≤ s.nums.length → SxFit x → Inv S (nm s t x).1 ∧ Gv s (nm s t x).1 ∧ SxEnd (nm s t x).2.2
theorem goV_ok {S : List Src} {nm : Sr → List UInt8 → Sx → Sr × Nat × Sx} {m : Nat} (hnm : NmOk S nm m) (i v : Nat) (P : List Pt) : ∀ (n a : Nat) (s : Sr) (x : Sx) (B : List (Sx × Nat)), Inv S s → m ≤ s.nums.length → SxFit x → (∀ b ∈ B, SxFit b.1) → Inv S (goV nm S i v P n a s x B) ∧ Gv s (goV nm S i v P n a s x B) := by
  intro n
  induction n with
  | zero => intro a s x B h _ _ _; exact ⟨h, Gv.refl s⟩
  | succ n ih =>
    intro a s x B h hm hx hB
    unfold goV
    cases hp : P[a]? with
    | none => exact ⟨h, Gv.refl s⟩
    | some p =>
      simp only
      split
      · split
        · exact ⟨h.wrong _ _ _ _, Gv.wrong _ _ _ _ _⟩
        · exact ih _ s _ B h hm (from_fit _ _ hx) hB
      · split
        · split
          · exact ⟨h.wrong _ _ _ _, Gv.wrong _ _ _ _ _⟩
          · obtain ⟨h1, h2⟩ := ih (a + 1) (s.mark v a x.hole.1) x.behindHole B (h.mark _ _ _) hm (hole_fit hx) hB
            exact ⟨h1, (Gv.mark s v a _).trans h2⟩
        · split
          · exact ih _ s x _ h hm hx (fun b hb => by
              rcases List.mem_append.1 hb with hb | hb
              · exact hB b hb
              · simp at hb; subst hb; exact hx)
          · split
            · split
              · exact ⟨h, Gv.refl s⟩
              · split
                · exact ⟨h.wrong _ _ _ _, Gv.wrong _ _ _ _ _⟩
                · exact ih _ s x _ h hm hx (fun b hb => hB b ((List.dropLast_sublist _).subset hb))
            · split
              · obtain ⟨h1, h2, h3⟩ := hnm s p.text x h hm hx
                have g1 := h1.mark v a ((nm s p.text x).2.1 : Nat)
                have g2 := h2.trans (Gv.mark (nm s p.text x).1 v a ((nm s p.text x).2.1 : Nat))
                have hm1 : m ≤ ((nm s p.text x).1.mark v a ((nm s p.text x).2.1 : Nat)).nums.length := Nat.le_trans hm h2.nums
                split
                · exact ⟨g1, g2⟩
                · split
                  · rename_i hnn
                    obtain ⟨k1, k2⟩ := ih (a + 1) _ _ B g1 hm1 (end_fit h3 (by rw [hnn]; simp)) hB
                    exact ⟨k1, g2.trans k2⟩
                  · split
                    · exact ⟨g1, g2⟩
                    · rename_i b hb
                      obtain ⟨k1, k2⟩ := ih b.2 _ b.1 B g1 hm1 (hB b (List.mem_of_getLast? hb)) hB
                      exact ⟨k1, g2.trans k2⟩
              · exact ih _ s x B h hm hx hB
theorem behV_has (S : List Src) (k : Nat) (s : Sr) (n : List UInt8) (x : Sx) (h0 : placeOf S n ≠ 0) : getKey (behV S (k + 1) s n x).1.ends (placeOf S n, x) ≠ Option.none ∨ (behV S (k + 1) s n x).1.fault = fullFt := by
  unfold behV
  rw [if_neg h0]
  cases hg : getKey s.ends (placeOf S n, x) with
  | some e => exact .inl (by simp [hg])
  | none =>
    simp only
    split
    · exact .inr rfl
    · refine .inl ?_
      show getKey (putKey _ _ _) _ ≠ _
      rw [getKey_put, if_pos rfl]; simp
theorem nm_pre {S : List Src} {s : Sr} {n : List UInt8} {x : Sx} (h : Inv S s) (h1 : 1 ≤ s.nums.length) (hx : SxFit x) (h0 : placeOf S n ≠ 0) (hf : (behV S 257 s n x).1.fault.code = 0) (hz : numOf (behV S 257 s n x).1 (placeOf S n, x) = 0) : Pre S (behV S 257 s n x).1 (placeOf S n, x) := by
  obtain ⟨g1, g2⟩ := behV_ok S 257 0 (by omega) s n x h.ends (Nat.zero_le _) hx
  obtain ⟨i1, i2⟩ := h.grew g1
  have hpl := placeOf_lt S n h0
  refine ⟨i1, ?_, .inr ⟨?_, hpl.1, fun e => ?_⟩, hx, hpl.2⟩
  · cases hg : getKey (behV S 257 s n x).1.nums (placeOf S n, x) with
    | none => rfl
    | some v =>
      exfalso
      have hv : v = 0 := by
        unfold numOf at hz
        rw [hg] at hz
        exact hz
      have := i1.zero _ (getKey_mem hg) hv
      simp only at this; omega
  · rcases behV_has S 256 s n x h0 with q | q
    · exact q
    · rw [q] at hf; cases hf
  · rw [g1.nums] at e; rw [e] at h1; simp at h1
theorem thruV_ok (S : List Src) : ∀ (k : Nat) (s : Sr) (e : En), Pre S s e → 258 ≤ s.nums.length + k → Inv S (thruV S k s e) ∧ Gv s (thruV S k s e) := by
  intro k
  induction k with
  | zero =>
    intro s e h hk
    have := h.inv.few
    have := h.inv.ends.few
    omega
  | succ k ih =>
    intro s e h hk
    rw [thruV_eq]
    obtain ⟨b1, b2, b3⟩ := h.begun
    have hnm : NmOk S (nmV S k) (s.nums.length + 1) := by
      intro s' t x h' hm hx
      obtain ⟨g1, g2⟩ := behV_ok S 257 0 (by omega) s' t x h'.ends (Nat.zero_le _) hx
      obtain ⟨i1, i2⟩ := h'.grew g1
      unfold nmV
      simp only
      split
      · exact ⟨i1, i2, g2⟩
      · rename_i hc
        split
        · rename_i hz
          have hp := nm_pre h' (by omega) hx (fun q => hc (.inl q)) (by cases hq : (behV S 257 s' t x).1.fault.code with | zero => rfl | succ n => exact absurd (.inr (by rw [hq]; simp)) hc) hz
          obtain ⟨j1, j2⟩ := ih _ _ hp (by rw [g1.nums]; omega)
          exact ⟨j1, i2.trans j2, g2⟩
        · exact ⟨i1, i2, g2⟩
    obtain ⟨k1, k2⟩ := goV_ok hnm e.1 s.vis.length (partsAt S e.1) ((partsAt S e.1).length + 1) 0 (Pl.begun S s e) e.2 [] b1 (by omega) h.fit (fun b hb => by cases hb)
    exact ⟨k1, b2.trans k2⟩
theorem nmV_ok (S : List Src) (k m : Nat) (hk : 258 ≤ m + k) (h1 : 1 ≤ m) : NmOk S (nmV S k) m := by
  intro s' t x h' hm hx
  obtain ⟨g1, g2⟩ := behV_ok S 257 0 (by omega) s' t x h'.ends (Nat.zero_le _) hx
  obtain ⟨i1, i2⟩ := h'.grew g1
  unfold nmV
  simp only
  split
  · exact ⟨i1, i2, g2⟩
  · rename_i hc
    split
    · rename_i hz
      have hp := nm_pre h' (by omega) hx (fun q => hc (.inl q)) (by cases hq : (behV S 257 s' t x).1.fault.code with | zero => rfl | succ n => exact absurd (.inr (by rw [hq]; simp)) hc) hz
      obtain ⟨j1, j2⟩ := thruV_ok S k _ _ hp (by rw [g1.nums]; omega)
      exact ⟨j1, i2.trans j2, g2⟩
    · exact ⟨i1, i2, g2⟩

end Go.Proofs.YtfkhljmiehdgmaaGreatDoor.Pl

/-
  Plain: where in a text a scheme is made.
-/
namespace Go.Proofs.YtfkhljmiehdgmaaGreatDoor.Pl

theorem scheme_at : ∀ (T : List UInt8) (x : Sx) (j : Nat) (h : j < T.length), schemeAt x (T.take j) = Option.none → makesScheme (sxFrom x (T.take j)).st.kind (sxFrom x (T.take j)).st.mode (sxFrom x (T.take j)).ma.far T[j] = true → schemeAt x T = some j
  | [], x, j, h, _, _ => by simp at h
  | b :: l, x, 0, h, _, hm => by
    have hm : makesScheme x.st.kind x.st.mode x.ma.far b = true := hm
    unfold schemeAt
    rw [if_pos hm]
  | b :: l, x, j + 1, h, h0, hm => by
    rw [List.take_succ_cons] at h0
    unfold schemeAt at h0 ⊢
    split at h0
    · cases h0
    · rename_i hb
      rw [if_neg hb]
      rw [Option.map_eq_none_iff] at h0
      rw [scheme_at l (x.behind b) j (by simpa using h) h0 hm]
      rfl
theorem scheme_on : ∀ (T : List UInt8) (x : Sx) (j : Nat) (h : j < T.length), schemeAt x (T.take j) = Option.none → makesScheme (sxFrom x (T.take j)).st.kind (sxFrom x (T.take j)).st.mode (sxFrom x (T.take j)).ma.far T[j] = false → schemeAt x (T.take (j + 1)) = Option.none
  | [], x, j, h, _, _ => by simp at h
  | b :: l, x, 0, h, _, hm => by
    have hm : makesScheme x.st.kind x.st.mode x.ma.far b = false := hm
    rw [List.take_succ_cons]
    unfold schemeAt
    rw [hm, List.take_zero]
    rfl
  | b :: l, x, j + 1, h, h0, hm => by
    rw [List.take_succ_cons] at h0 ⊢
    unfold schemeAt at h0 ⊢
    split at h0
    · cases h0
    · rename_i hb
      rw [if_neg hb]
      rw [Option.map_eq_none_iff] at h0 ⊢
      exact scheme_on l (x.behind b) j (by simpa using h) h0 hm

end Go.Proofs.YtfkhljmiehdgmaaGreatDoor.Pl

/-
  Several texts laid together: each opens with its own remark.
-/
import Derived.Test.YtfkhljmiehdgmaaGreatDoorMhA
import Derived.Lib.Split
import Derived.Lib.SlTrimSet
import Derived.Test.YtfkhljmiehdgmaaGreatDoorMhD

/-
  Plain functions of the program's cutting of a text into parts.
-/
namespace Go.Proofs.YtfkhljmiehdgmaaGreatDoor.Pl

def blanks5 : List UInt8 := [9, 10, 12, 13, 32]
def lineBl : List UInt8 := [9, 12, 13, 32]
def identByte (b : UInt8) : Bool := b == 95 || (isDigit b || (decide (97 ≤ b.toNat) && decide (b.toNat ≤ 122)))
def isIdent (l : List UInt8) : Bool := !l.isEmpty && (decide (l.length ≤ 8) && l.all identByte)
def isNm (l : List UInt8) : Bool := l == [46] || (decide ((Go.Lib.split l [46]).length ≤ 4) && (Go.Lib.split l [46]).all isIdent)

/-- what a tag's content says -/
structure Tg where
  kind : Nat
  slip : Nat
  name : List UInt8
  op : List UInt8
  cl : List UInt8
def kindOfTag : List UInt8 → Nat
  | [] => 2
  | b :: _ => if b = 33 then 7 else if b = 61 then 8 else if b = 35 then 3 else if b = 94 then 4 else if b = 47 then 5 else if b = 62 then 6 else 2
def namedTg (kind : Nat) (n : List UInt8) : Tg := if (if kind = 6 then isIdent n else isNm n) = true then ⟨kind, 0, n, [], []⟩ else ⟨kind, 3, [], [], []⟩
/-- the words of a text: what stands between blanks -/
def wordsGo : List UInt8 → List UInt8 → List (List UInt8)
  | cur, [] => if cur = [] then [] else [cur]
  | cur, b :: l => if among b blanks5 = true then (if cur = [] then wordsGo [] l else cur :: wordsGo [] l) else wordsGo (cur ++ [b]) l
def wordsOf (l : List UInt8) : List (List UInt8) := wordsGo [] l
def isDelim (l : List UInt8) : Bool := decide (l.length ≤ 3) && !(among 61 l)
def readDl (c : List UInt8) : Tg :=
  if Go.Lib.hasSuffix (c.drop 1) [61] = false then ⟨8, 4, [], [], []⟩ else
  match wordsOf (Go.Lib.trimSuffix (c.drop 1) [61]) with
  | [a, b] => if isDelim a = true ∧ isDelim b = true then ⟨8, 0, [], a, b⟩ else ⟨8, 4, [], [], []⟩
  | _ => ⟨8, 4, [], [], []⟩
def readTg (c : List UInt8) : Tg :=
  if kindOfTag c = 7 then ⟨7, 0, [], [], []⟩ else if kindOfTag c = 8 then readDl c else if kindOfTag c = 2 then namedTg 2 c
  else namedTg (kindOfTag c) (Go.Lib.trimLeftS (c.drop 1) blanks5)

/-- a part -/
structure Pt where
  kind : Nat
  pos : Nat
  text : List UInt8
  mate : Nat
/-- what is known while a text is cut -/
structure Ct where
  op : List UInt8
  cl : List UInt8
  parts : List Pt
  opened : List Nat
def lineOf (t : List UInt8) (a z : Nat) : Nat × Nat :=
  if (Go.Lib.trimRightS (t.take a) lineBl).getLast?.any (· != 10) || (Go.Lib.trimLeftS (t.drop z) lineBl).head?.any (· != 10) then (a, z)
  else ((Go.Lib.trimRightS (t.take a) lineBl).length, t.length - (Go.Lib.trimPrefix (Go.Lib.trimLeftS (t.drop z) lineBl) [10]).length)
def Ct.addText (c : Ct) (t : List UInt8) (a z : Nat) : Ct := if a < z then { c with parts := c.parts ++ [⟨1, a, (t.drop a).take (z - a), 0⟩] } else c
def setMate (l : List Pt) (m n : Nat) : List Pt := l.modify m fun p => { p with mate := n }
def textAt (l : List Pt) (m : Nat) : List UInt8 := match l[m]? with
  | some p => p.text
  | none => []
def posAt (l : List Pt) (m : Nat) : Nat := match l[m]? with
  | some p => p.pos
  | none => 0
def Ct.take (c : Ct) (one : Tg) (a : Nat) : Nat × Ct :=
  if one.slip ≠ 0 then (one.slip, c)
  else if one.kind = 7 then (0, c)
  else if one.kind = 8 then (0, { c with op := one.op, cl := one.cl })
  else if one.kind = 3 ∨ one.kind = 4 then
    (if c.opened.length = 6 then (8, c) else (0, { c with parts := c.parts ++ [⟨one.kind, a, one.name, 0⟩], opened := c.opened ++ [c.parts.length] }))
  else if one.kind = 5 then
    (match c.opened.getLast? with
     | none => (5, c)
     | some m => if textAt c.parts m ≠ one.name then (6, c) else (0, { c with parts := setMate c.parts m c.parts.length ++ [⟨5, a, one.name, m⟩], opened := c.opened.dropLast }))
  else (0, { c with parts := c.parts ++ [⟨one.kind, a, one.name, 0⟩] })
def Ct.left (c : Ct) : Nat × Nat := match c.opened.getLast? with
  | none => (0, 0)
  | some m => (7, posAt c.parts m)
/-- one tag: a slip and its place, or from where to go on (none: the text is at its end) -/
inductive Tagged where
  | slip (kind pos : Nat)
  | over (c : Ct)
  | next (c : Ct) (a : Nat)
def Ct.step (c : Ct) (t : List UInt8) (a : Nat) : Tagged :=
  if (Go.Lib.cut (t.drop a) c.op).2.2 = false then .over (c.addText t a t.length)
  else
    let at_ := a + (Go.Lib.cut (t.drop a) c.op).1.length
    let rest := (Go.Lib.cut (t.drop a) c.op).2.1
    if (Go.Lib.cut rest c.cl).2.2 = false then .slip 2 at_
    else
      let inner := (Go.Lib.cut rest c.cl).1
      let to := at_ + c.op.length + inner.length + c.cl.length
      let one := readTg (Go.Lib.trimS inner blanks5)
      let o := if one.kind ≠ 2 then lineOf t at_ to else (at_, to)
      let r := (c.addText t a o.1).take one at_
      if r.1 ≠ 0 then .slip r.1 at_ else .next r.2 o.2
def Ct.go (t : List UInt8) : Nat → Ct → Nat → (Nat × Nat) × List Pt
  | 0, _, _ => ((0, 0), [])
  | n + 1, c, a => match c.step t a with
    | .slip k p => ((k, p), [])
    | .over d => (d.left, d.parts)
    | .next d b => Ct.go t n d b
def Ct.start : Ct := ⟨[123, 123], [125, 125], [], []⟩
/-- the cutting of a text: the slip (kind 0: none) and the parts -/
def cutAll (t : List UInt8) : (Nat × Nat) × List Pt := if 2000 < t.length then ((1, 0), []) else
  if (Ct.go t (t.length + 1) Ct.start 0).1.1 = 0 then ((0, 0), (Ct.go t (t.length + 1) Ct.start 0).2) else ((Ct.go t (t.length + 1) Ct.start 0).1, [])

end Go.Proofs.YtfkhljmiehdgmaaGreatDoor.Pl

/-
  What holds of a text that is being cut: few parts, sections within sections.
-/
namespace Go.Proofs.YtfkhljmiehdgmaaGreatDoor.Pl

/-- parts from place o on in which every section ends -/
inductive Wf : Nat → List Pt → Prop
  | nil (o : Nat) : Wf o []
  | leaf (o : Nat) (p : Pt) (l : List Pt) : (p.kind = 1 ∨ p.kind = 2 ∨ p.kind = 6) → Wf (o + 1) l → Wf o (p :: l)
  | sec (o : Nat) (p q : Pt) (b l : List Pt) : (p.kind = 3 ∨ p.kind = 4) → q.kind = 5 → p.mate = o + 1 + b.length → q.mate = o → Wf (o + 1) b → Wf (o + b.length + 2) l → Wf o (p :: b ++ q :: l)
/-- parts in which the sections that begin at the places of the list are open -/
inductive WfO : List Pt → List Nat → Prop
  | done (l : List Pt) : Wf 0 l → WfO l []
  | opn (l : List Pt) (p : Pt) (m : List Pt) (st : List Nat) : WfO l st → (p.kind = 3 ∨ p.kind = 4) → Wf (l.length + 1) m → WfO (l ++ p :: m) (st ++ [l.length])

theorem Wf.append {o : Nat} {l m : List Pt} (h : Wf o l) (hm : Wf (o + l.length) m) : Wf o (l ++ m) := by
  induction h with
  | nil o => simpa using hm
  | leaf o p l hk _ ih =>
    refine .leaf o p _ hk (ih ?_)
    simpa [Nat.add_assoc, Nat.add_comm, Nat.add_left_comm] using hm
  | sec o p q b l hp hq h1 h2 hb _ _ ih =>
    have e : p :: b ++ q :: l ++ m = p :: b ++ q :: (l ++ m) := by simp
    rw [e]
    refine .sec o p q b _ hp hq h1 h2 hb (ih ?_)
    simpa [Nat.add_assoc, Nat.add_comm, Nat.add_left_comm] using hm
theorem Wf.one {o : Nat} (p : Pt) (hk : p.kind = 1 ∨ p.kind = 2 ∨ p.kind = 6) : Wf o [p] := .leaf o p [] hk (.nil _)

theorem WfO.snoc {l : List Pt} {st : List Nat} (h : WfO l st) (p : Pt) (hk : p.kind = 1 ∨ p.kind = 2 ∨ p.kind = 6) : WfO (l ++ [p]) st := by
  cases h with
  | done l h => exact .done _ (h.append (.one p hk))
  | opn l q m st h hq hm =>
    have e : l ++ q :: m ++ [p] = l ++ q :: (m ++ [p]) := by simp
    rw [e]
    exact .opn l q _ st h hq (hm.append (.one p hk))
theorem WfO.push {l : List Pt} {st : List Nat} (h : WfO l st) (p : Pt) (hk : p.kind = 3 ∨ p.kind = 4) : WfO (l ++ [p]) (st ++ [l.length]) := .opn l p [] st h hk (.nil _)

theorem setMate_mid (l : List Pt) (p : Pt) (m : List Pt) (n : Nat) : setMate (l ++ p :: m) l.length n = l ++ { p with mate := n } :: m := by
  unfold setMate
  induction l with
  | nil => rfl
  | cons x l ih => simpa using ih
theorem textAt_mid (l : List Pt) (p : Pt) (m : List Pt) : textAt (l ++ p :: m) l.length = p.text := by
  unfold textAt; simp
theorem WfO.last {l : List Pt} {st : List Nat} (h : WfO l st) (m : Nat) (hm : st.getLast? = some m) :
    ∃ (a : List Pt) (p : Pt) (b : List Pt), l = a ++ p :: b ∧ m = a.length ∧ (p.kind = 3 ∨ p.kind = 4) ∧ Wf (a.length + 1) b ∧ WfO a st.dropLast := by
  cases h with
  | done l h => simp at hm
  | opn l q m' st h hq hb =>
    rw [List.getLast?_concat] at hm
    refine ⟨l, q, m', rfl, (Option.some.inj hm).symm, hq, hb, ?_⟩
    rw [List.dropLast_concat]
    exact h
theorem WfO.pop {l : List Pt} {st : List Nat} (h : WfO l st) (m : Nat) (hm : st.getLast? = some m) (q : Pt) (hq : q.kind = 5) (hqm : q.mate = m) : WfO (setMate l m l.length ++ [q]) st.dropLast := by
  obtain ⟨a, p, b, rfl, rfl, hp, hb, ha⟩ := h.last m hm
  have W : ∀ (p' : Pt), (p'.kind = 3 ∨ p'.kind = 4) → p'.mate = (a ++ p :: b).length → ∀ o, o = a.length → Wf o (p' :: b ++ [q]) := by
    rintro p' hk hmm o rfl
    refine .sec _ p' q b [] hk hq ?_ hqm hb (.nil _)
    rw [hmm]; simp; omega
  rw [setMate_mid]
  generalize hP : ({ p with mate := (a ++ p :: b).length } : Pt) = p'
  have hk' : p'.kind = 3 ∨ p'.kind = 4 := by subst hP; exact hp
  have hm' : p'.mate = (a ++ p :: b).length := by subst hP; rfl
  have e : a ++ p' :: b ++ [q] = a ++ (p' :: b ++ [q]) := by simp
  rw [e]
  generalize hst : st.dropLast = st' at ha
  clear hP hst hm h
  cases ha with
  | done a ha => exact .done _ (ha.append (W p' hk' hm' _ (Nat.zero_add _)))
  | opn l' q' m' st' ha hq' hb' =>
    have e2 : l' ++ q' :: m' ++ (p' :: b ++ [q]) = l' ++ q' :: (m' ++ (p' :: b ++ [q])) := by simp
    rw [e2]
    exact .opn l' q' _ st' ha hq' (hb'.append (W p' hk' hm' _ (by simp; omega)))
theorem WfO.lt {l : List Pt} {st : List Nat} (h : WfO l st) : ∀ m ∈ st, m < l.length := by
  induction h with
  | done l _ => intro m hm; cases hm
  | opn l p b st _ _ _ ih =>
    intro m hm
    rcases List.mem_append.1 hm with h | h
    · have := ih m h; simp; omega
    · simp at h; subst h; simp

end Go.Proofs.YtfkhljmiehdgmaaGreatDoor.Pl

/-
  What holds of a text that is being cut, tag by tag.
-/
namespace Go.Proofs.YtfkhljmiehdgmaaGreatDoor.Pl

theorem ctTrue' {b : Bool} (h : ¬ b = false) : b = true := by cases b <;> simp_all
theorem cut_hit (s x : List UInt8) (h : (Go.Lib.cut s x).2.2 = true) : ∃ i : Nat, Go.Lib.index s x = i ∧ i + x.length ≤ s.length ∧ (Go.Lib.cut s x).1 = s.take i ∧ (Go.Lib.cut s x).2.1 = s.drop (i + x.length) ∧ (Go.Lib.cut s x).1.length = i := by
  unfold Go.Lib.cut at h ⊢
  by_cases h0 : 0 ≤ Go.Lib.index s x
  · have hr := Go.Lib.index_room s x h0
    rw [if_pos h0]
    refine ⟨(Go.Lib.index s x).toNat, by omega, by omega, rfl, rfl, ?_⟩
    simp only [List.length_take]
    omega
  · rw [if_neg h0] at h; cases h
theorem ctDropWhile_le {α : Type} (f : α → Bool) (l : List α) : (l.dropWhile f).length ≤ l.length := (List.dropWhile_sublist f).length_le
theorem trimR_le (l cs : List UInt8) : (Go.Lib.trimRightS l cs).length ≤ l.length := by
  unfold Go.Lib.trimRightS
  have := ctDropWhile_le (cs.contains ·) l.reverse
  simpa using this
theorem trimL_le (l cs : List UInt8) : (Go.Lib.trimLeftS l cs).length ≤ l.length := ctDropWhile_le _ _
theorem trimP_le (l p : List UInt8) : (Go.Lib.trimPrefix l p).length ≤ l.length := by
  unfold Go.Lib.trimPrefix
  split <;> simp
theorem lineOf_ok (t : List UInt8) (a z : Nat) (h : a ≤ t.length) (hz : z ≤ t.length) : (lineOf t a z).1 ≤ a ∧ z ≤ (lineOf t a z).2 ∧ (lineOf t a z).2 ≤ t.length := by
  unfold lineOf
  split
  · exact ⟨Nat.le_refl _, Nat.le_refl _, hz⟩
  · have h1 := trimR_le (t.take a) lineBl
    have h2 := trimP_le (Go.Lib.trimLeftS (t.drop z) lineBl) [10]
    have h3 := trimL_le (t.drop z) lineBl
    rw [List.length_take] at h1
    rw [List.length_drop] at h3
    refine ⟨?_, ?_, ?_⟩ <;> simp only <;> omega

theorem wordsGo_ne (l : List UInt8) : ∀ cur, ∀ x ∈ wordsGo cur l, x ≠ [] := by
  induction l with
  | nil => intro cur x hx; unfold wordsGo at hx; split at hx <;> simp_all
  | cons b l ih =>
    intro cur x hx
    unfold wordsGo at hx
    split at hx
    · split at hx
      · exact ih _ x hx
      · rcases List.mem_cons.1 hx with rfl | hx
        · assumption
        · exact ih _ x hx
    · exact ih _ x hx
/-- what a tag may say -/
structure TgOk (one : Tg) : Prop where
  kind : 2 ≤ one.kind ∧ one.kind ≤ 8
  op : one.kind = 8 → one.slip = 0 → (1 ≤ one.op.length ∧ one.op.length ≤ 3) ∧ 1 ≤ one.cl.length ∧ one.cl.length ≤ 3
theorem kindOfTag_ok (c : List UInt8) : 2 ≤ kindOfTag c ∧ kindOfTag c ≤ 8 := by
  unfold kindOfTag
  split
  · omega
  · repeat' split
    all_goals omega
theorem ctLen_pos {l : List UInt8} (h : l ≠ []) : 1 ≤ l.length := by
  cases l with
  | nil => exact absurd rfl h
  | cons b l => simp
theorem readDl_ok (c : List UInt8) : TgOk (readDl c) := by
  unfold readDl
  split
  · exact ⟨by simp, fun _ h => by cases h⟩
  · split
    · rename_i a b hw
      have h1 := wordsGo_ne _ _ a (by show a ∈ wordsOf _; rw [hw]; simp)
      have h2 := wordsGo_ne _ _ b (by show b ∈ wordsOf _; rw [hw]; simp)
      split
      · rename_i hd
        obtain ⟨d1, d2⟩ := hd
        unfold isDelim at d1 d2
        simp only [Bool.and_eq_true, decide_eq_true_eq] at d1 d2
        exact ⟨by simp, fun _ _ => ⟨⟨ctLen_pos h1, d1.1⟩, ctLen_pos h2, d2.1⟩⟩
      · exact ⟨by simp, fun _ h => by cases h⟩
    · exact ⟨by simp, fun _ h => by cases h⟩
theorem namedTg_ok (k : Nat) (n : List UInt8) (h : 2 ≤ k ∧ k < 8) : TgOk (namedTg k n) := by
  unfold namedTg
  split <;> split <;> exact ⟨by simp; omega, fun e => by simp at e; omega⟩
theorem readTg_ok (c : List UInt8) : TgOk (readTg c) := by
  have hk := kindOfTag_ok c
  unfold readTg
  split
  · exact ⟨by simp, fun h => by cases h⟩
  · split
    · exact readDl_ok c
    · split
      · exact namedTg_ok _ _ (by omega)
      · exact namedTg_ok _ _ (by omega)

structure CtOk (t : List UInt8) (c : Ct) (a : Nat) : Prop where
  op : 1 ≤ c.op.length ∧ c.op.length ≤ 3
  cl : 1 ≤ c.cl.length ∧ c.cl.length ≤ 3
  le : a ≤ t.length
  few : c.parts.length ≤ a
  six : c.opened.length ≤ 6
  wf : WfO c.parts c.opened
theorem ctOk_start (t : List UInt8) : CtOk t Ct.start 0 := ⟨by decide, by decide, Nat.zero_le _, by decide, by decide, .done _ (.nil _)⟩

theorem addText_ok {t : List UInt8} {c : Ct} {a : Nat} (h : CtOk t c a) (z n : Nat) (hn : a ≤ n) (hz : z ≤ n) (ht : n ≤ t.length) : CtOk t (c.addText t a z) n := by
  unfold Ct.addText
  split
  · rename_i q
    have := h.few
    exact ⟨h.op, h.cl, ht, by simp; omega, h.six, h.wf.snoc _ (.inl rfl)⟩
  · exact ⟨h.op, h.cl, ht, Nat.le_trans h.few hn, h.six, h.wf⟩
theorem setMate_len (l : List Pt) (m n : Nat) : (setMate l m n).length = l.length := by simp [setMate]
theorem ctTake_ok {t : List UInt8} {c : Ct} {a : Nat} (h : CtOk t c a) (one : Tg) (ho : TgOk one) (p n : Nat) (hn : a + 1 ≤ n) (ht : n ≤ t.length) (hs : (c.take one p).1 = 0) : CtOk t (c.take one p).2 n := by
  unfold Ct.take at hs ⊢
  have hf := h.few
  by_cases h1 : one.slip ≠ 0
  · rw [if_pos h1] at hs; exact absurd hs h1
  rw [if_neg h1] at hs ⊢
  have h1 : one.slip = 0 := by omega
  by_cases h2 : one.kind = 7
  · rw [if_pos h2]; exact ⟨h.op, h.cl, ht, by show c.parts.length ≤ _; omega, h.six, h.wf⟩
  rw [if_neg h2] at hs ⊢
  by_cases h3 : one.kind = 8
  · rw [if_pos h3]; exact ⟨(ho.op h3 h1).1, (ho.op h3 h1).2, ht, by show c.parts.length ≤ _; omega, h.six, h.wf⟩
  rw [if_neg h3] at hs ⊢
  by_cases h4 : one.kind = 3 ∨ one.kind = 4
  · rw [if_pos h4] at hs ⊢
    by_cases h5 : c.opened.length = 6
    · rw [if_pos h5] at hs; cases hs
    · rw [if_neg h5]
      have := h.six
      exact ⟨h.op, h.cl, ht, by simp; omega, by simp; omega, h.wf.push _ h4⟩
  rw [if_neg h4] at hs ⊢
  by_cases h5 : one.kind = 5
  · rw [if_pos h5] at hs ⊢
    cases hl : c.opened.getLast? with
    | none => rw [hl] at hs; cases hs
    | some m =>
      rw [hl] at hs
      by_cases h6 : textAt c.parts m ≠ one.name
      · simp only [if_pos h6] at hs; cases hs
      · simp only [if_neg h6]
        have := h.six
        refine ⟨h.op, h.cl, ht, by simp [setMate_len]; omega, by simp; omega, ?_⟩
        exact h.wf.pop m hl ⟨5, p, one.name, m⟩ rfl rfl
  · rw [if_neg h5]
    have := ho.kind
    exact ⟨h.op, h.cl, ht, by simp; omega, h.six, h.wf.snoc _ (by simp only; omega)⟩

theorem ctStep_ok {t : List UInt8} {c : Ct} {a : Nat} (h : CtOk t c a) {d : Ct} {b : Nat} (hs : c.step t a = .next d b) : CtOk t d b ∧ a < b := by
  unfold Ct.step at hs
  have hle := h.le
  by_cases h1 : (Go.Lib.cut (t.drop a) c.op).2.2 = false
  · rw [if_pos h1] at hs; cases hs
  rw [if_neg h1] at hs
  obtain ⟨i, _, hi, _, hr, hil⟩ := cut_hit _ _ (ctTrue' h1)
  simp only [hil, hr] at hs
  rw [List.length_drop] at hi
  by_cases h2 : (Go.Lib.cut ((t.drop a).drop (i + c.op.length)) c.cl).2.2 = false
  · rw [if_pos h2] at hs; cases hs
  rw [if_neg h2] at hs
  obtain ⟨j, _, hj, _, _, hjl⟩ := cut_hit _ _ (ctTrue' h2)
  rw [hjl] at hs
  rw [List.length_drop, List.length_drop] at hj
  have hone := readTg_ok (Go.Lib.trimS (Go.Lib.cut ((t.drop a).drop (i + c.op.length)) c.cl).1 blanks5)
  generalize readTg _ = one at hs hone
  have ho := h.op
  have hc := h.cl
  have hO : (if one.kind ≠ 2 then lineOf t (a + i) (a + i + c.op.length + j + c.cl.length) else (a + i, a + i + c.op.length + j + c.cl.length)).1 ≤ a + i ∧ a + i + c.op.length + j + c.cl.length ≤ (if one.kind ≠ 2 then lineOf t (a + i) (a + i + c.op.length + j + c.cl.length) else (a + i, a + i + c.op.length + j + c.cl.length)).2 ∧ (if one.kind ≠ 2 then lineOf t (a + i) (a + i + c.op.length + j + c.cl.length) else (a + i, a + i + c.op.length + j + c.cl.length)).2 ≤ t.length := by
    split
    · exact lineOf_ok _ _ _ (by omega) (by omega)
    · refine ⟨Nat.le_refl _, Nat.le_refl _, ?_⟩; show a + i + c.op.length + j + c.cl.length ≤ t.length; omega
  generalize (if one.kind ≠ 2 then lineOf t (a + i) (a + i + c.op.length + j + c.cl.length) else (a + i, a + i + c.op.length + j + c.cl.length)) = o at hs hO
  obtain ⟨o1, o2⟩ := o
  simp only at hs hO
  by_cases h3 : ((c.addText t a o1).take one (a + i)).1 ≠ 0
  · rw [if_pos h3] at hs; cases hs
  rw [if_neg h3] at hs
  injection hs with e1 e2
  subst e1 e2
  refine ⟨ctTake_ok (a := a + i) (addText_ok h o1 _ (by omega) (by omega) (by omega)) one hone _ _ (by omega) (by omega) (by omega), by omega⟩

/-- what comes of a text that is cut: with no slip every section ends -/
theorem ctLeft_ok {l : List Pt} {st : List Nat} (h : WfO l st) (hs : st.getLast? = none) : Wf 0 l := by
  cases h with
  | done l h => exact h
  | opn => simp at hs
theorem ctStep_slip {t : List UInt8} {c : Ct} {a k p : Nat} (hs : c.step t a = .slip k p) : k ≠ 0 := by
  unfold Ct.step at hs
  by_cases h1 : (Go.Lib.cut (t.drop a) c.op).2.2 = false
  · rw [if_pos h1] at hs; cases hs
  rw [if_neg h1] at hs
  simp only at hs
  by_cases h2 : (Go.Lib.cut (Go.Lib.cut (t.drop a) c.op).2.1 c.cl).2.2 = false
  · rw [if_pos h2] at hs; injection hs with e _; omega
  rw [if_neg h2] at hs
  generalize hO : (if (readTg _).kind ≠ 2 then _ else _ : Nat × Nat) = o at hs
  by_cases h3 : ((c.addText t a o.1).take (readTg (Go.Lib.trimS (Go.Lib.cut (Go.Lib.cut (t.drop a) c.op).2.1 c.cl).1 blanks5)) (a + (Go.Lib.cut (t.drop a) c.op).1.length)).1 ≠ 0
  · rw [if_pos h3] at hs; injection hs with e _; rw [← e]; exact h3
  · rw [if_neg h3] at hs; cases hs
theorem ctStep_over {t : List UInt8} {c d : Ct} {a : Nat} (hs : c.step t a = .over d) : d = c.addText t a t.length := by
  unfold Ct.step at hs
  by_cases h1 : (Go.Lib.cut (t.drop a) c.op).2.2 = false
  · rw [if_pos h1] at hs; injection hs with e; exact e.symm
  rw [if_neg h1] at hs
  simp only at hs
  by_cases h2 : (Go.Lib.cut (Go.Lib.cut (t.drop a) c.op).2.1 c.cl).2.2 = false
  · rw [if_pos h2] at hs; cases hs
  rw [if_neg h2] at hs
  generalize hO : (if (readTg _).kind ≠ 2 then _ else _ : Nat × Nat) = o at hs
  by_cases h3 : ((c.addText t a o.1).take (readTg (Go.Lib.trimS (Go.Lib.cut (Go.Lib.cut (t.drop a) c.op).2.1 c.cl).1 blanks5)) (a + (Go.Lib.cut (t.drop a) c.op).1.length)).1 ≠ 0
  · rw [if_pos h3] at hs; cases hs
  · rw [if_neg h3] at hs; cases hs
theorem ctGo_ok (t : List UInt8) : ∀ (n : Nat) (c : Ct) (a : Nat), CtOk t c a → t.length - a < n → (Ct.go t n c a).1.1 = 0 → Wf 0 (Ct.go t n c a).2 ∧ (Ct.go t n c a).2.length ≤ t.length := by
  intro n
  induction n with
  | zero => intro c a _ h; omega
  | succ n ih =>
    intro c a hc hn hs
    unfold Ct.go at hs ⊢
    cases hst : c.step t a with
    | slip k p =>
      rw [hst] at hs
      exact absurd hs (ctStep_slip hst)
    | over d =>
      rw [hst] at hs
      simp only at hs ⊢
      have hd : CtOk t d t.length := by rw [ctStep_over hst]; exact addText_ok hc _ _ hc.le (Nat.le_refl _) (Nat.le_refl _)
      refine ⟨ctLeft_ok hd.wf ?_, hd.few⟩
      unfold Ct.left at hs
      cases hl : d.opened.getLast? with
      | none => rfl
      | some m => rw [hl] at hs; cases hs
    | next d b =>
      rw [hst] at hs
      obtain ⟨h1, h2⟩ := ctStep_ok hc hst
      have := h1.le
      exact ih d b h1 (by omega) hs
theorem cutAll_ok (t : List UInt8) (h : (cutAll t).1.1 = 0) : Wf 0 (cutAll t).2 ∧ (cutAll t).2.length ≤ t.length := by
  unfold cutAll at h ⊢
  split at h
  · cases h
  · split at h
    · rename_i h1 h2
      rw [if_neg h1, if_pos h2]
      exact ctGo_ok t _ _ _ (ctOk_start t) (by omega) h2
    · rename_i h1 h2; exact absurd h h2

end Go.Proofs.YtfkhljmiehdgmaaGreatDoor.Pl

/-
  Plain functions of the program's going through a template: the search with its memory.
-/
namespace Go.Proofs.YtfkhljmiehdgmaaGreatDoor.Pl

deriving instance DecidableEq for St, Mk, Sx

/-- a source: a partial's name, and its text's parts -/
structure Src where
  name : List UInt8
  parts : List Pt
abbrev En := Nat × Sx
/-- a fault -/
structure Ft where
  code : Nat
  kind : Int
  place : List UInt8
  pos : Nat
def Ft.none : Ft := ⟨0, 0, [], 0⟩
/-- what the search knows -/
structure Sr where
  ends : List (En × Sx)
  nums : List (En × Nat)
  vis : List (Nat × List Int)
  fault : Ft
def Sx.none : Sx := ⟨⟨0, [], [], 0, 0, false⟩, Mk.none⟩
def Sx.isNone (x : Sx) : Bool := x.st.mode == 0
def getKey {α : Type} : List (En × α) → En → Option α
  | [], _ => Option.none
  | (k, v) :: l, e => if k = e then some v else getKey l e
def putKey {α : Type} : List (En × α) → En → α → List (En × α)
  | [], e, v => [(e, v)]
  | (k, u) :: l, e, v => if k = e then (e, v) :: l else (k, u) :: putKey l e v
def placeGo (n : List UInt8) : Nat → List Src → Nat
  | _, [] => 0
  | i, s :: l => if s.name = n then i else placeGo n (i + 1) l
def placeOf (S : List Src) (n : List UInt8) : Nat := placeGo n 1 (S.drop 1)
def partsAt (S : List Src) (i : Nat) : List Pt := match S[i]? with
  | some s => s.parts
  | Option.none => []
def nameAt (S : List Src) (i : Nat) : List UInt8 := match S[i]? with
  | some s => s.name
  | Option.none => []

/-- in what parts end, whatever is wrong; 'beh': what is behind a partial -/
def walkV (beh : Sr → List UInt8 → Sx → Sr × Sx) (P : List Pt) : Nat → Nat → Sr → Sx → Sr × Sx
  | 0, _, s, x => (s, x)
  | n + 1, a, s, x =>
    if x.isNone = true then (s, x) else
    match P[a]? with
    | Option.none => (s, x)
    | some p =>
      if p.kind = 1 then walkV beh P n (a + 1) s (sxFrom x p.text)
      else if p.kind = 2 then walkV beh P n (a + 1) s x.behindHole
      else if p.kind = 3 ∨ p.kind = 4 then walkV beh P n (p.mate + 1) s x
      else if p.kind = 6 then walkV beh P n (a + 1) (beh s p.text x).1 (beh s p.text x).2
      else walkV beh P n (a + 1) s x
def fullFt : Ft := ⟨3, 0, [], 0⟩
/-- the state behind where a partial is named -/
def behV (S : List Src) : Nat → Sr → List UInt8 → Sx → Sr × Sx
  | 0, s, _, x => (s, x)
  | k + 1, s, n, x =>
    if placeOf S n = 0 then (s, x) else
    match getKey s.ends (placeOf S n, x) with
    | some e => (s, e)
    | Option.none =>
      if s.ends.length = 256 then ({ s with fault := fullFt }, Sx.none) else
      let P := partsAt S (placeOf S n)
      let r := walkV (behV S k) P (P.length + 1) 0 { s with ends := putKey s.ends (placeOf S n, x) Sx.none } x
      ({ r.1 with ends := putKey r.1.ends (placeOf S n, x) r.2 }, r.2)
/-- where a text makes a scheme -/
def schemeAt : Sx → List UInt8 → Option Nat
  | _, [] => Option.none
  | x, b :: l => if makesScheme x.st.kind x.st.mode x.ma.far b = true then some 0 else (schemeAt (x.behind b) l).map (· + 1)
def Sr.wrong (s : Sr) (S : List Src) (i : Nat) (kind : Int) (pos : Nat) : Sr := { s with fault := ⟨3, kind, nameAt S i, pos⟩ }
def Sr.mark (s : Sr) (v a : Nat) (m : Int) : Sr := { s with vis := s.vis.modify v fun x => (x.1, x.2.set a m) }
def numOf (s : Sr) (e : En) : Nat := (getKey s.nums e).getD 0
/-- going through parts; 'nm': through a partial; v: the visit -/
def goV (nm : Sr → List UInt8 → Sx → Sr × Nat × Sx) (S : List Src) (i v : Nat) (P : List Pt) : Nat → Nat → Sr → Sx → List (Sx × Nat) → Sr
  | 0, _, s, _, _ => s
  | n + 1, a, s, x, B =>
    match P[a]? with
    | Option.none => s
    | some p =>
      if p.kind = 1 then
        (match schemeAt x p.text with
         | some j => s.wrong S i 14 (p.pos + j)
         | Option.none => goV nm S i v P n (a + 1) s (sxFrom x p.text) B)
      else if p.kind = 2 then
        (if x.hole.2 ≠ 0 then s.wrong S i x.hole.2 p.pos else goV nm S i v P n (a + 1) (s.mark v a x.hole.1) x.behindHole B)
      else if p.kind = 3 ∨ p.kind = 4 then goV nm S i v P n (a + 1) s x (B ++ [(x, p.mate)])
      else if p.kind = 5 then
        (match B.getLast? with
         | Option.none => s
         | some b => if x ≠ b.1 then s.wrong S i 13 (posAt P p.mate) else goV nm S i v P n (a + 1) s x B.dropLast)
      else if p.kind = 6 then
        let r := nm s p.text x
        let s1 := r.1.mark v a r.2.1
        if s1.fault.code ≠ 0 ∨ (r.2.2.isNone = true ∧ B = []) then s1
        else if r.2.2.isNone = false then goV nm S i v P n (a + 1) s1 r.2.2 B
        else (match B.getLast? with
          | Option.none => s1
          | some b => goV nm S i v P n b.2 s1 b.1 B)
      else goV nm S i v P n (a + 1) s x B
/-- going through a text from a state -/
def thruV (S : List Src) : Nat → Sr → En → Sr
  | 0, s, _ => s
  | k + 1, s, e =>
    let P := partsAt S e.1
    let nm := fun (s : Sr) (n : List UInt8) (x : Sx) =>
      let r := behV S 257 s n x
      if placeOf S n = 0 ∨ r.1.fault.code ≠ 0 then (r.1, 0, r.2)
      else if numOf r.1 (placeOf S n, x) = 0 then
        (thruV S k r.1 (placeOf S n, x), numOf (thruV S k r.1 (placeOf S n, x)) (placeOf S n, x), r.2)
      else (r.1, numOf r.1 (placeOf S n, x), r.2)
    goV nm S e.1 s.vis.length P (P.length + 1) 0 { s with nums := putKey s.nums e s.vis.length, vis := s.vis ++ [(e.1, List.replicate P.length 0)] } e.2 []
/-- the visits of a template, or the fault -/
def lookV (S : List Src) (len : Nat) : List (Nat × List Int) × Ft :=
  let s := thruV S 258 ⟨[], [], [], Ft.none⟩ (0, Sx.start)
  if s.fault.code ≠ 0 then ([], s.fault) else
  let P := partsAt S 0
  let r := walkV (behV S 257) P (P.length + 1) 0 s Sx.start
  if r.2.isNone = false ∧ r.2 ≠ Sx.start then ([], ⟨3, 15, nameAt S 0, len⟩)
  else if r.1.fault.code ≠ 0 then ([], r.1.fault) else (r.1.vis, Ft.none)
def argsOk : List (List UInt8) → Bool
  | [] => true
  | n :: l => isIdent n && (!l.contains n && argsOk l)
/-- the cutting of all texts: the first slip, or the sources -/
def cutEach : List (List UInt8 × List UInt8) → Ft × List Src
  | [] => (Ft.none, [])
  | (n, t) :: l => if (cutAll t).1.1 ≠ 0 then (⟨2, (cutAll t).1.1, n, (cutAll t).1.2⟩, [])
    else if (cutEach l).1.code ≠ 0 then ((cutEach l).1, []) else (Ft.none, ⟨n, (cutAll t).2⟩ :: (cutEach l).2)
/-- a template: the visits and the sources, or the fault -/
def makeV (t : List UInt8) (L : List (List UInt8 × List UInt8)) : (List (Nat × List Int) × List Src) × Ft :=
  if 6 < L.length ∨ argsOk (L.map (·.1)) = false then (([], []), ⟨1, 0, [], 0⟩) else
  if (cutEach (([], t) :: L)).1.code ≠ 0 then (([], []), (cutEach (([], t) :: L)).1) else
  if (lookV (cutEach (([], t) :: L)).2 t.length).2.code ≠ 0 then (([], []), (lookV (cutEach (([], t) :: L)).2 t.length).2)
  else (((lookV (cutEach (([], t) :: L)).2 t.length).1, (cutEach (([], t) :: L)).2), Ft.none)

end Go.Proofs.YtfkhljmiehdgmaaGreatDoor.Pl

/-
  Plain: a text that is cut, round by round.
-/
namespace Go.Proofs.YtfkhljmiehdgmaaGreatDoor.Pl

theorem ctGo_fuel (t : List UInt8) : ∀ (n m : Nat) (c : Ct) (a : Nat), CtOk t c a → t.length - a < n → t.length - a < m → Ct.go t n c a = Ct.go t m c a := by
  intro n
  induction n with
  | zero => intro m c a _ h _; omega
  | succ n ih =>
    intro m c a hc hn hm
    obtain ⟨m, rfl⟩ : ∃ k, m = k + 1 := ⟨m - 1, by omega⟩
    unfold Ct.go
    cases hs : c.step t a with
    | slip k p => rfl
    | over d => rfl
    | next d b =>
      obtain ⟨h1, h2⟩ := ctStep_ok hc hs
      have := h1.le
      exact ih m d b h1 (by omega) (by omega)
/-- the cutting from a place on -/
def Ct.rest (t : List UInt8) (c : Ct) (a : Nat) : (Nat × Nat) × List Pt := Ct.go t (t.length - a + 1) c a
theorem rest_next {t : List UInt8} {c d : Ct} {a b : Nat} (h : CtOk t c a) (hs : c.step t a = .next d b) : c.rest t a = d.rest t b := by
  obtain ⟨h1, h2⟩ := ctStep_ok h hs
  have := h1.le
  unfold Ct.rest
  have e : Ct.go t (t.length - a + 1) c a = Ct.go t (t.length - a) d b := by
    conv => lhs; unfold Ct.go
    rw [hs]
  rw [e]
  exact ctGo_fuel t _ _ d b h1 (by omega) (by omega)
theorem rest_slip {t : List UInt8} {c : Ct} {a k p : Nat} (hs : c.step t a = .slip k p) : c.rest t a = ((k, p), []) := by
  unfold Ct.rest Ct.go
  rw [hs]
theorem rest_over {t : List UInt8} {c d : Ct} {a : Nat} (hs : c.step t a = .over d) : c.rest t a = (d.left, d.parts) := by
  unfold Ct.rest Ct.go
  rw [hs]
theorem cutAll_rest (t : List UInt8) (h : t.length ≤ 2000) : cutAll t = if (Ct.start.rest t 0).1.1 = 0 then ((0, 0), (Ct.start.rest t 0).2) else ((Ct.start.rest t 0).1, []) := by
  unfold cutAll Ct.rest
  rw [if_neg (by omega)]
  rfl
/-- the four ways of a round -/
theorem step_miss {t : List UInt8} {c : Ct} {a : Nat} (h : (Go.Lib.cut (t.drop a) c.op).2.2 = false) : c.step t a = .over (c.addText t a t.length) := by
  unfold Ct.step; rw [if_pos h]
theorem step_unclosed {t : List UInt8} {c : Ct} {a : Nat} (h : (Go.Lib.cut (t.drop a) c.op).2.2 = true) (h2 : (Go.Lib.cut (Go.Lib.cut (t.drop a) c.op).2.1 c.cl).2.2 = false) : c.step t a = .slip 2 (a + (Go.Lib.cut (t.drop a) c.op).1.length) := by
  unfold Ct.step; rw [if_neg (by rw [h]; simp)]; simp only [h2, if_true]
theorem step_tag {t : List UInt8} {c : Ct} {a : Nat} (h : (Go.Lib.cut (t.drop a) c.op).2.2 = true) (h2 : (Go.Lib.cut (Go.Lib.cut (t.drop a) c.op).2.1 c.cl).2.2 = true) (one : Tg) (h1 : readTg (Go.Lib.trimS (Go.Lib.cut (Go.Lib.cut (t.drop a) c.op).2.1 c.cl).1 blanks5) = one)
    (p to : Nat) (hp : a + (Go.Lib.cut (t.drop a) c.op).1.length = p) (hto : p + c.op.length + (Go.Lib.cut (Go.Lib.cut (t.drop a) c.op).2.1 c.cl).1.length + c.cl.length = to) (o : Nat × Nat) (ho : (if one.kind ≠ 2 then lineOf t p to else (p, to)) = o) :
    c.step t a = if ((c.addText t a o.1).take one p).1 ≠ 0 then .slip ((c.addText t a o.1).take one p).1 p else .next ((c.addText t a o.1).take one p).2 o.2 := by
  subst ho hto hp h1
  unfold Ct.step; rw [if_neg (by rw [h]; simp)]; simp only [h2, Bool.true_eq_false, if_false]

end Go.Proofs.YtfkhljmiehdgmaaGreatDoor.Pl

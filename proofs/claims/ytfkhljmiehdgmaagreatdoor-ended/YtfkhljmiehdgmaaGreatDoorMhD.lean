/-
  Several texts laid together: each opens with its own remark.
-/
import Derived.Test.YtfkhljmiehdgmaaGreatDoorMhB

/-
  Plain laws: all that counts of a state is all that counts of the document's spot. No program is named here.
-/
namespace Go.Proofs.YtfkhljmiehdgmaaGreatDoor.Pl

/- what is read off the end of a run -/
def pct1 (b : UInt8) : List UInt8 → Int
  | [] => 0
  | c :: _ => if c = 37 ∧ among b hexDigits = true then 1 else 0
def pctR : List UInt8 → Int
  | [] => 0
  | b :: l => if b = 37 then 2 else pct1 b l
theorem pctR_yes (l : List UInt8) : pctR (37 :: l) = 2 := rfl
theorem pctR_no {b : UInt8} (l : List UInt8) (h : b ≠ 37) : pctR (b :: l) = pct1 b l := if_neg h
def pctOf (run : List UInt8) : Int := pctR run.reverse
theorem refR_cons (b : UInt8) (l : List UInt8) : refR (b :: l) = (b == 38 || (among b refBytes && refR l)) := by
  have e : refR (b :: l) = if b = 38 then true else if among b refBytes = true then refR l else false := rfl
  rw [e]
  by_cases h : b = 38
  · rw [if_pos h, beq_iff_eq.2 h]; rfl
  · rw [if_neg h, beq_eq_false_iff_ne.2 h, Bool.false_or]
    by_cases q : among b refBytes = true
    · rw [if_pos q, q, Bool.true_and]
    · rw [if_neg q, Bool.eq_false_iff.2 q, Bool.false_and]
theorem refer_snoc (l : List UInt8) (b : UInt8) : refer (l ++ [b]) = (b == 38 || (among b refBytes && refer l)) := by
  unfold refer
  rw [List.reverse_append]
  exact refR_cons b _
theorem inRef_eq (b : UInt8) : inRef b = among b refBytes := by
  have : ∀ n ∈ List.range 256, inRef (UInt8.ofNat n) = among (UInt8.ofNat n) refBytes := by decide +kernel
  have := this b.toNat (List.mem_range.2 b.toNat_lt)
  rwa [UInt8.ofNat_toNat] at this
theorem pct1_range (b : UInt8) (l : List UInt8) : pct1 b l = 0 ∨ pct1 b l = 1 := by
  match l with
  | [] => exact .inl rfl
  | c :: t =>
    have e : pct1 b (c :: t) = if c = 37 ∧ among b hexDigits = true then 1 else 0 := rfl
    rw [e]
    split
    · exact .inr rfl
    · exact .inl rfl
theorem pctR_range (l : List UInt8) : pctR l = 0 ∨ pctR l = 1 ∨ (pctR l = 2 ∧ ∃ t, l = 37 :: t) := by
  match l with
  | [] => exact .inl rfl
  | b :: l =>
    by_cases h : b = 37
    · subst h; exact .inr (.inr ⟨rfl, l, rfl⟩)
    · rw [pctR_no l h]
      rcases pct1_range b l with q | q
      · exact .inl q
      · exact .inr (.inl q)
theorem pctR_cons (b : UInt8) (l : List UInt8) : pctR (b :: l) = if b = 37 then 2 else fewer (pctR l) b := by
  by_cases h : b = 37
  · subst h; rfl
  · rw [if_neg h, pctR_no l h]
    match l with
    | [] => simp [fewer, pctR, pct1]
    | c :: t =>
      by_cases hc : c = 37
      · subst hc
        rw [pctR_yes]
        have e : pct1 b (37 :: t) = if (37 : UInt8) = 37 ∧ among b hexDigits = true then 1 else 0 := rfl
        rw [e]
        unfold fewer
        by_cases hb : among b hexDigits = true
        · have h1 : (37 : UInt8) = 37 ∧ among b hexDigits = true := ⟨rfl, hb⟩
          have h2 : (0 : Int) < 2 ∧ among b hexB = true := ⟨by omega, hb⟩
          rw [if_pos h1, if_pos h2]; rfl
        · have h1 : ¬ ((37 : UInt8) = 37 ∧ among b hexDigits = true) := fun q => hb q.2
          have h2 : ¬ ((0 : Int) < 2 ∧ among b hexB = true) := fun q => hb q.2
          rw [if_neg h1, if_neg h2]
      · have h1 : pct1 b (c :: t) = 0 := if_neg (fun q => hc q.1)
        rw [h1]
        rcases pctR_range (c :: t) with q | q | ⟨_, t', q⟩
        · rw [q]; unfold fewer; rw [if_neg (fun z => absurd z.1 (by omega))]
        · rw [q]; unfold fewer; split <;> rfl
        · simp only [List.cons.injEq] at q; exact absurd q.1 hc
theorem pctOf_snoc (l : List UInt8) (b : UInt8) : pctOf (l ++ [b]) = if b = 37 then 2 else fewer (pctOf l) b := by
  unfold pctOf
  rw [List.reverse_append]
  exact pctR_cons b _
theorem ref_pct : ∀ r : List UInt8, refR r = true → pctR r = 0
  | [], h => by cases h
  | b :: l, h => by
    rw [refR_cons] at h
    have hb : b ≠ 37 := by
      rintro rfl
      revert h
      have z : ((37 : UInt8) == 38) = false := by decide
      rw [z, show among 37 refBytes = false by decide]
      simp
    rw [pctR_no l hb]
    match l, h with
    | [], _ => rfl
    | c :: t, h =>
      refine if_neg ?_
      rintro ⟨rfl, q⟩
      have h37 : refR (37 :: t) = false := by rw [refR_cons]; rw [show ((37 : UInt8) == 38) = false by decide, show among 37 refBytes = false by decide]; rfl
      rw [h37, Bool.and_false, Bool.or_false, beq_iff_eq] at h
      subst h
      revert q; decide
theorem take2_ref (r : List UInt8) (h : refR r = false) : refR (r.take 2) = false := by
  match r, h with
  | [], _ => rfl
  | [b], h => exact h
  | b :: c :: t, h =>
    show refR [b, c] = false
    rw [refR_cons, refR_cons] at h ⊢
    cases hb : (b == 38)
    · rw [hb] at h
      cases ha : among b refBytes
      · rfl
      · rw [ha] at h
        cases hc : (c == 38)
        · rw [show refR [] = false from rfl, Bool.and_false]; rfl
        · rw [hc] at h; cases h
    · rw [hb] at h; cases h
theorem take2_pct (r : List UInt8) : pctR (r.take 2) = pctR r := by
  match r with
  | [] => rfl
  | [b] => rfl
  | b :: c :: t => rfl
theorem drop_rev (l : List UInt8) : (l.drop (l.length - 2)).reverse = l.reverse.take 2 := by
  rw [List.reverse_drop]
  by_cases h : 2 ≤ l.length
  · congr 1; omega
  · rw [show l.length - (l.length - 2) = l.length by omega, List.take_of_length_le (by simp), List.take_of_length_le (by simp; omega)]
theorem kept_ref (m : Int) (l : List UInt8) (hm : isStr m = false) : refer (kept m l) = refer l := by
  unfold kept
  rw [if_neg (by rw [hm]; simp)]
  by_cases h : refer l = true
  · rw [if_pos h, h]; rfl
  · rw [if_neg h]
    have h' := Bool.eq_false_iff.2 h
    split
    · rw [h']; rfl
    · split
      · unfold refer
        rw [drop_rev, take2_ref _ h']
        exact h'.symm
      · rfl
theorem kept_pct (m : Int) (l : List UInt8) (hm : isStr m = false) (h1 : ¬ (m = 1 ∨ m = 19)) : pctOf (kept m l) = pctOf l := by
  unfold kept
  rw [if_neg (by rw [hm]; simp)]
  by_cases h : refer l = true
  · rw [if_pos h]
    exact (show pctOf [38] = 0 from rfl).trans (ref_pct _ h).symm
  · rw [if_neg h, if_neg h1]
    split
    · unfold pctOf
      rw [drop_rev, take2_pct]
    · rfl
theorem kept_esc (m : Int) (l : List UInt8) (hm : isStr m = true) : escOf (sheetly m) (kept m l) = escOf (sheetly m) l := by
  unfold kept
  rw [if_pos hm]
  split
  · next h => rw [h]; rfl
  · rfl

end Go.Proofs.YtfkhljmiehdgmaaGreatDoor.Pl

/-
  Plain laws: all that counts of a state is all that counts of the document's spot, byte by byte. No program is named here.
-/
namespace Go.Proofs.YtfkhljmiehdgmaaGreatDoor.Pl

/-- how far a link is, as the document counts -/
def farMap (f : Int) : Int := if f = 0 then 2 else if f = 1 then 3 else if f = 2 then 4 else 1
/-- the marks of a state in mode m say what the run says -/
structure MkPar (kind : Int) (m : Nat) (k : Mk) (esc : Bool) (run : List UInt8) (far : Int) : Prop where
  ref : k.ref = (decide (writtenAs m = 1) && refer run)
  hex : 0 ≤ k.hex
  str : isStr m = true → (if esc = true then (1 : Int) else if k.hex = 0 then 0 else k.hex + 1) = escOf (sheetly m) run
  nostr : isStr m = false → esc = false ∧ k.hex = 0
  link : inLink kind m = true → k.pct = pctOf run ∧ farMap k.far = far ∧ 0 ≤ k.far ∧ k.far ≤ 3
  nolink : inLink kind m = false → k.pct = 0 ∧ k.far = 0
theorem inLink_mode {kind : Int} {m : Nat} (h : inLink kind m = true) : (m = 8 ∨ m = 9) ∧ kind = 1 := by
  unfold inLink at h
  rw [Bool.and_eq_true, Bool.or_eq_true, beq_iff_eq, beq_iff_eq, beq_iff_eq] at h
  exact ⟨h.2, h.1⟩
theorem isStr_not_text : ∀ m : Nat, m ≤ 33 → isStr (m : Int) = true → writtenAs m ≠ 1 ∧ m ≠ 8 ∧ m ≠ 9 ∧ m ≠ 1 ∧ m ≠ 19 := by
  have : ∀ m : Nat, m ≤ 33 → isStr (m : Int) = true → writtenAs m ≠ 1 ∧ m ≠ 8 ∧ m ≠ 9 ∧ m ≠ 1 ∧ m ≠ 19 := by decide
  exact this
theorem text_modes : ∀ m : Nat, m ≤ 33 → writtenAs m = 1 → m = 1 ∨ m = 8 ∨ m = 9 ∨ m = 19 := by decide
/-- nothing is marked, of a mode that is just come to -/
theorem mkPar_new (kind : Int) (m : Nat) : MkPar kind m Mk.none false [] (if m = 8 ∨ m = 9 then 2 else 0) := by
  refine ⟨?_, by decide, fun _ => rfl, fun _ => ⟨rfl, rfl⟩, fun h => ⟨rfl, ?_, by decide, by decide⟩, fun _ => ⟨rfl, rfl⟩⟩
  · show false = _
    rw [show refer [] = false from rfl, Bool.and_false]
  · rw [if_pos (inLink_mode h).1]; rfl
theorem mkPar_any (kind : Int) (m : Nat) (far : Int) (h : m ≠ 8) (h' : m ≠ 9) : MkPar kind m Mk.none false [] far := by
  refine ⟨?_, by decide, fun _ => rfl, fun _ => ⟨rfl, rfl⟩, fun q => ?_, fun _ => ⟨rfl, rfl⟩⟩
  · show false = _
    rw [show refer [] = false from rfl, Bool.and_false]
  · exfalso
    rcases (inLink_mode q).1 with z | z
    · exact h z
    · exact h' z
theorem far_step (kind : Int) (m : Nat) (f : Int) (b : UInt8) (hl : inLink kind m = true) (hf0 : 0 ≤ f) (hf3 : f ≤ 3) : farMap (fartherMk kind m f b) = farther (farMap f) b ∧ 0 ≤ fartherMk kind m f b ∧ fartherMk kind m f b ≤ 3 := by
  have hf : f = 0 ∨ f = 1 ∨ f = 2 ∨ f = 3 := by omega
  unfold fartherMk makesScheme
  rw [hl, Bool.true_and]
  have hd : among b deciders = (b == 47 || (b == 63 || (b == 35 || b == 58))) := by
    have : ∀ n ∈ List.range 256, among (UInt8.ofNat n) deciders = ((UInt8.ofNat n) == 47 || ((UInt8.ofNat n) == 63 || ((UInt8.ofNat n) == 35 || (UInt8.ofNat n) == 58))) := by decide +kernel
    have := this b.toNat (List.mem_range.2 b.toNat_lt)
    rwa [UInt8.ofNat_toNat] at this
  rw [hd]
  unfold farther
  cases h1 : (b == 47) <;> cases h2 : (b == 63) <;> cases h3 : (b == 35) <;> cases h4 : (b == 58)
  all_goals
    rcases hf with rfl | rfl | rfl | rfl
    all_goals first
      | (refine ⟨?_, ?_, ?_⟩ <;> decide)
      | (exfalso; first | exact absurd ((beq_iff_eq.1 h1).symm.trans (beq_iff_eq.1 h2)) (by decide) | exact absurd ((beq_iff_eq.1 h1).symm.trans (beq_iff_eq.1 h3)) (by decide) | exact absurd ((beq_iff_eq.1 h1).symm.trans (beq_iff_eq.1 h4)) (by decide) | exact absurd ((beq_iff_eq.1 h2).symm.trans (beq_iff_eq.1 h3)) (by decide) | exact absurd ((beq_iff_eq.1 h2).symm.trans (beq_iff_eq.1 h4)) (by decide) | exact absurd ((beq_iff_eq.1 h3).symm.trans (beq_iff_eq.1 h4)) (by decide))
theorem esc_fewer (css : Bool) (h : Int) (b : UInt8) (h0 : 0 ≤ h) (hb : b ≠ 92) : (if fewer h b = 0 then (0 : Int) else fewer h b + 1) = escStep css (if h = 0 then 0 else h + 1) b := by
  have hL : ((if h = 0 then 0 else h + 1 : Int) = 0 ∧ h = 0) ∨ ((if h = 0 then 0 else h + 1 : Int) = h + 1 ∧ 1 ≤ h) := by
    by_cases hz : h = 0
    · left; exact ⟨if_pos hz, hz⟩
    · right; exact ⟨if_neg hz, by omega⟩
  generalize (if h = 0 then 0 else h + 1 : Int) = L at hL
  unfold escStep fewer
  have hhex : among b hexB = among b hexDigits := rfl
  rw [hhex]
  have h1 : ¬ L = 1 := by omega
  rw [if_neg h1]
  by_cases hx : among b hexDigits = true
  · rcases hL with ⟨q, z⟩ | ⟨q, z⟩
    · have c1 : ¬ (0 < h ∧ among b hexDigits = true) := fun q => by omega
      have c2 : ¬ (1 < L ∧ among b hexDigits = true) := fun q => by omega
      rw [if_neg c1, if_neg c2, if_neg hb]; rfl
    · have c1 : 0 < h ∧ among b hexDigits = true := ⟨by omega, hx⟩
      have c2 : 1 < L ∧ among b hexDigits = true := ⟨by omega, hx⟩
      rw [if_pos c1, if_pos c2]
      by_cases y : h - 1 = 0
      · rw [if_pos y, if_pos (by omega)]
      · rw [if_neg y, if_neg (by omega)]; omega
  · have c1 : ¬ (0 < h ∧ among b hexDigits = true) := fun q => hx q.2
    have c2 : ¬ (1 < L ∧ among b hexDigits = true) := fun q => hx q.2
    rw [if_neg c1, if_neg c2, if_neg hb]; rfl
/-- one stays in the mode -/
theorem mkPar_stay (kind : Int) (m : Nat) (hm : m ≤ 33) (k : Mk) (run : List UInt8) (far : Int) (b : UInt8) (h : MkPar kind m k false run far) (hb : isStr (m : Int) = true → b ≠ 92)
    (run' : List UInt8) (far' : Int) (hrun : (isStr (m : Int) = true ∨ writtenAs m = 1) → run' = kept m (run ++ [b])) (hfar : m = 8 ∨ m = 9 → far' = farther far b) :
    MkPar kind m (stayedMk kind m k b) false run' far' := by
  by_cases hs : isStr (m : Int) = true
  · obtain ⟨n1, n8, n9, _, _⟩ := isStr_not_text m hm hs
    have hl : inLink kind m = false := by
      rw [Bool.eq_false_iff]
      intro q
      rcases (inLink_mode q).1 with z | z
      · exact n8 z
      · exact n9 z
    have hst := h.str hs
    rw [if_neg (by simp)] at hst
    have h0 := h.hex
    refine ⟨?_, ?_, fun _ => ?_, fun q => ?_, fun q => ?_, fun _ => ⟨?_, ?_⟩⟩
    · unfold stayedMk; rw [if_neg n1, decide_eq_false n1, Bool.false_and]
    · show 0 ≤ fewer k.hex b
      unfold fewer
      split
      · next q => omega
      · omega
    · rw [if_neg (by simp), hrun (.inl hs), kept_esc _ _ hs, escOf_snoc, ← hst]
      exact esc_fewer _ _ _ h0 (hb hs)
    · rw [hs] at q; cases q
    · rw [hl] at q; cases q
    · unfold stayedMk; rw [hl]; rfl
    · unfold stayedMk; rw [hl]; rfl
  · have hs' := Bool.eq_false_iff.2 hs
    obtain ⟨_, hx0⟩ := h.nostr hs'
    refine ⟨?_, ?_, fun q => absurd q hs, fun _ => ⟨rfl, ?_⟩, fun hl => ?_, fun hl => ⟨?_, ?_⟩⟩
    · by_cases hw : writtenAs m = 1
      · rw [decide_eq_true hw, Bool.true_and, hrun (.inr hw), kept_ref _ _ hs', refer_snoc]
        unfold stayedMk
        rw [if_pos hw, inRef_eq, h.ref, decide_eq_true hw, Bool.true_and, Bool.and_comm]
      · rw [decide_eq_false hw, Bool.false_and]
        unfold stayedMk
        rw [if_neg hw]
    · show 0 ≤ fewer k.hex b
      rw [hx0]; unfold fewer; rw [if_neg (fun q => absurd q.1 (by omega))]; omega
    · show fewer k.hex b = 0
      rw [hx0]; unfold fewer; rw [if_neg (fun q => absurd q.1 (by omega))]
    · obtain ⟨l1, l2, l3, l4⟩ := h.link hl
      have hm8 := (inLink_mode hl).1
      have hw : writtenAs m = 1 := by rcases hm8 with rfl | rfl <;> rfl
      obtain ⟨f1, f2, f3⟩ := far_step kind m k.far b hl l3 l4
      have e1 : (stayedMk kind m k b).pct = if b = 37 then 2 else fewer k.pct b := by unfold stayedMk; rw [hl]; rfl
      have e2 : (stayedMk kind m k b).far = fartherMk kind m k.far b := by unfold stayedMk; rw [hl]; rfl
      rw [e1, e2, hrun (.inr hw), kept_pct _ _ hs' (by omega), pctOf_snoc, l1, hfar hm8, ← l2]
      exact ⟨rfl, f1, f2, f3⟩
    · unfold stayedMk; rw [hl]; rfl
    · unfold stayedMk; rw [hl]; rfl

end Go.Proofs.YtfkhljmiehdgmaaGreatDoor.Pl

/-
  Plain laws: all that counts of a state is all that counts of the document's spot: a byte that the tables read. No program is named here.
-/
namespace Go.Proofs.YtfkhljmiehdgmaaGreatDoor.Pl

/-- a state and a spot that say the same in all that counts -/
structure ParX (x : Sx) (p : Sp) : Prop where
  par : Par x.st p
  kind : 6 ≤ x.st.mode → x.st.mode ≤ 9 → x.st.kind = kindOf p.attr
  plain : ¬ (6 ≤ x.st.mode ∧ x.st.mode ≤ 9) → x.st.kind = 0
  ma : MkPar x.st.kind x.st.mode x.ma x.st.esc p.run p.far
theorem led1_kind (s : St) (t : Nat) (b : UInt8) (h : t ≠ 34) : (s.led1 t b).kind = if t = 4 ∨ t = 5 ∨ t = 10 then 0 else s.kind := by
  unfold St.led1
  by_cases c3 : t = 3
  · rw [if_pos c3, if_neg (by omega)]
  rw [if_neg c3]
  by_cases c5 : t = 5
  · rw [if_pos c5, if_pos (by omega)]
  rw [if_neg c5]
  by_cases c4 : t = 4 ∨ t = 10
  · rw [if_pos c4, if_pos (by omega)]
  rw [if_neg c4, if_neg h, if_neg (by omega)]
theorem led_kind (s : St) (t : Nat) (b : UInt8) (h : t ≠ 34) : (s.led t b).kind = if t = 4 ∨ t = 5 ∨ t = 10 then 0 else if t ≠ s.mode ∧ s.mode = 5 then kindOf s.name else s.kind := by
  unfold St.led
  by_cases q : t = s.mode
  · have : ¬ (t ≠ s.mode ∧ s.mode = 5) := fun z => z.1 q
    rw [if_pos q, led1_kind s t b h, if_neg this]
  · rw [if_neg q, led1_kind _ t b h]
    unfold St.named
    by_cases w : s.mode = 5
    · have : t ≠ s.mode ∧ s.mode = 5 := ⟨q, w⟩
      rw [if_pos this, if_pos w]
    · have : ¬ (t ≠ s.mode ∧ s.mode = 5) := fun z => w z.2
      rw [if_neg this, if_neg w]
theorem mkPar_kind {kind kind' : Int} {m : Nat} {k : Mk} {esc : Bool} {run : List UInt8} {far : Int} (h : MkPar kind m k esc run far) (h8 : m ≠ 8) (h9 : m ≠ 9) : MkPar kind' m k esc run far := by
  have no : ∀ z, inLink z m = false := fun z => by
    rw [Bool.eq_false_iff]
    intro q
    rcases (inLink_mode q).1 with y | y
    · exact h8 y
    · exact h9 y
  exact ⟨h.ref, h.hex, h.str, h.nostr, fun q => (by rw [no] at q; cases q), fun _ => h.nolink (no _)⟩
/-- what leads to where an attribute's kind counts -/
def attrTo (m : Nat) (c : UInt8) : Bool := if 6 ≤ tgt m c ∧ tgt m c ≤ 9 then decide (5 ≤ m) && decide (m ≤ 9) else true
theorem attrTo_tab : ((List.range 34).all fun m => (0 :: named).all fun c => attrTo m c) = true := by decide +kernel
theorem attrTo_all (m : Nat) (hm : m ≤ 33) (b : UInt8) (h : 6 ≤ tgt m b ∧ tgt m b ≤ 9) : 5 ≤ m ∧ m ≤ 9 := by
  have e : attrTo m b = attrTo m (cls b) := by unfold attrTo; rw [tgt_cls m hm b]
  have := List.all_eq_true.1 ((List.all_eq_true.1 attrTo_tab) m (List.mem_range.2 (by omega))) _ (cls_mem b)
  rw [← e] at this
  unfold attrTo at this
  rw [if_pos h] at this
  simpa only [Bool.and_eq_true, decide_eq_true_eq] using this
theorem runs_of (r : Nat) (hr : r ≤ 33) (h19 : r ≠ 19) (h : isStr (r : Int) = true ∨ writtenAs r = 1) : runs (r : Int) = true := by
  unfold runs
  rcases h with h | h
  · rw [h]; simp
  · rcases text_modes r hr h with rfl | rfl | rfl | rfl
    · rfl
    · rfl
    · rfl
    · exact absurd rfl h19
theorem within_ma (n : List UInt8) : (within n).kind = 0 ∧ (within n).esc = false ∧ (within n).mode ≠ 8 ∧ (within n).mode ≠ 9 ∧ ¬ (6 ≤ (within n).mode ∧ (within n).mode ≤ 9) := by
  unfold within contentOf
  repeat' split
  all_goals refine ⟨rfl, rfl, ?_, ?_, ?_⟩ <;> simp

theorem led_parx (m : Nat) (n e : List UInt8) (k : Int) (rd : Nat) (K : Mk) (p : Sp) (b : UInt8) (hs : (St.mk m n e k rd false).Ok) (hx : ParX ⟨St.mk m n e k rd false, K⟩ p) (r t : Nat) (PR : List UInt8) (PF : Int)
    (hPr : r = m → PR = p.run ∧ PF = p.far) (hPn : r ≠ m → K = Mk.none ∧ PR = []) (hb : isStr (m : Int) = true → b ≠ 92) (h19 : r ≠ 19)
    (hsh : shape m b = true) (hr : readAt m b = r) (ht : leads m b = t)
    (hT : tgt r b = t ∨ (tgt r b = -1 ∧ t = 34 ∧ r = m)) :
    ParX (Sx.led ⟨St.mk r n e k rd false, K⟩ t b) ((Sp.mk r p.tag p.attr p.inside PR PF).step1 r b) := by
  have hpar := led_par m n e k rd p b hs hx.par r t PR PF (fun q => (hPr q).1) hb hsh hr ht hT
  unfold shape at hsh
  simp only [Bool.and_eq_true, decide_eq_true_eq, Bool.or_eq_true] at hsh
  rw [hr, ht] at hsh
  obtain ⟨⟨⟨⟨⟨⟨⟨⟨⟨⟨r1, r2⟩, t1⟩, t2⟩, hf⟩, hrm⟩, h34⟩, h3⟩, h5⟩, h4⟩, hpp⟩ := hsh
  have ghi := hs.hi
  have gk := hx.kind
  have gp := hx.plain
  have gm := hx.ma
  have e5 := hx.par.attrName
  simp only at ghi gk gp gm e5
  have hmt : (m < 19 ↔ (t < 19 ∨ t = 34)) ∧ (m < 19 ↔ r < 19) := by
    by_cases hm : m < 19
    · rw [if_pos hm] at hf
      simp only [Bool.and_eq_true, Bool.or_eq_true, decide_eq_true_eq] at hf
      omega
    · rw [if_neg hm] at hf
      simp only [Bool.and_eq_true, decide_eq_true_eq] at hf
      omega
  clear hf
  have hmr : MkPar k r K false PR PF := by
    by_cases q : r = m
    · obtain ⟨q1, q2⟩ := hPr q
      rw [q1, q2, q]; exact gm
    · obtain ⟨q1, q2⟩ := hPn q
      rw [q1, q2]
      refine mkPar_any k r PF ?_ ?_ <;> omega
  rcases hT with hT | ⟨hT, h34', hrm'⟩
  · have c34 : t ≠ 34 := by
      intro c34
      have := tgt_range r b r2
      rw [hT] at this
      subst c34
      rcases this with q | q | ⟨k, q, q'⟩ <;> omega
    obtain ⟨fm, _, _, fx, _⟩ := led_f (St.mk r n e k rd false) t b c34
    have fk := led_kind (St.mk r n e k rd false) t b c34
    simp only at fx fk
    have hr3 : t = 3 ∨ t = 5 ∨ t = 4 ∨ (6 ≤ t ∧ t ≤ 10) → r = m := by
      intro q
      rcases hrm with z | z
      · rcases z with z | z
        · exact z
        · exfalso
          have : ∀ c ∈ (0 :: named : List UInt8), tgt 1 c = 1 ∨ tgt 1 c = 2 := by decide
          have h1 := this _ (cls_mem b)
          rw [← tgt_cls 1 (by omega) b] at h1
          rw [z.2] at hT
          omega
      · omega
    have hstep : ((Sp.mk r p.tag p.attr p.inside PR PF).step1 r b) = ⟨t, (Sp.named ⟨r, p.tag, p.attr, p.inside, PR, PF⟩ r b t).tag, (Sp.named ⟨r, p.tag, p.attr, p.inside, PR, PF⟩ r b t).attr, (Sp.named ⟨r, p.tag, p.attr, p.inside, PR, PF⟩ r b t).inside,
        (if (t : Int) = r ∧ runs t = true then kept t (PR ++ [b]) else []), (if (t : Int) = 8 ∨ (t : Int) = 9 then (if (t : Int) = r then farther PF b else 2) else 0)⟩ := by
      unfold Sp.step1
      rw [hT, if_neg (by omega)]
    have hma : (Sx.led ⟨St.mk r n e k rd false, K⟩ t b).ma = if t = r then stayedMk k r K b else Mk.none := by
      show ledMk _ _ _ _ = _
      unfold ledMk
      by_cases q : t = r
      · rw [if_pos q, if_pos ⟨q, c34⟩]
      · rw [if_neg q, if_neg (fun z => q z.1)]
    have hst : (Sx.led ⟨St.mk r n e k rd false, K⟩ t b).st = (St.mk r n e k rd false).led t b := rfl
    refine ⟨hpar, fun q q' => ?_, fun q => ?_, ?_⟩
    · rw [hst, fm] at q q'
      rw [hst, fk, hstep]
      have hrm2 := hr3 (by omega)
      have ha := attrTo_all r r2 b (by rw [hT]; omega)
      have hattr : (Sp.named ⟨r, p.tag, p.attr, p.inside, PR, PF⟩ r b t).attr = p.attr := by
        unfold Sp.named
        rw [if_neg (by omega), if_neg (by omega), if_neg (by omega), if_pos (by omega)]
      show _ = kindOf (Sp.named ⟨r, p.tag, p.attr, p.inside, PR, PF⟩ r b t).attr
      rw [hattr, if_neg (by omega)]
      by_cases z : r = 5
      · have y : t ≠ r ∧ r = 5 := ⟨by omega, z⟩
        rw [if_pos y, e5 (by omega)]
      · have y : ¬ (t ≠ r ∧ r = 5) := fun y => z y.2
        rw [if_neg y]
        exact gk (by omega) (by omega)
    · rw [hst, fm] at q
      rw [hst, fk]
      by_cases z : t = 4 ∨ t = 5 ∨ t = 10
      · rw [if_pos z]
      · rw [if_neg z]
        have hm3 : ¬ (4 ≤ m ∧ m ≤ 10) := by
          by_cases y : t = 3
          · rw [if_pos y] at h3
            simp only [Bool.or_eq_true, decide_eq_true_eq] at h3
            omega
          · by_cases y19 : t < 19
            · rw [if_pos (by omega)] at hpp
              simp only [Bool.and_eq_true, Bool.or_eq_true, decide_eq_true_eq] at hpp
              omega
            · omega
        have y : ¬ (t ≠ r ∧ r = 5) := by
          rintro ⟨_, y⟩
          have : r = m ∨ (m = 2 ∧ r = 1) ∨ 24 ≤ m := by omega
          omega
        rw [if_neg y]
        exact gp (by omega)
    · rw [hst, fm, fx, hma, hstep]
      show MkPar _ t _ false (if (t : Int) = r ∧ runs t = true then kept t (PR ++ [b]) else []) (if (t : Int) = 8 ∨ (t : Int) = 9 then (if (t : Int) = r then farther PF b else 2) else 0)
      by_cases q : t = r
      · subst q
        rw [if_pos rfl]
        have hstay := mkPar_stay k t r2 K PR PF b hmr (fun q => by
          by_cases z : t = m
          · exact hb (by rw [← z]; exact q)
          · exfalso
            have hro : t = around m := by
              unfold readAt at hr
              split at hr
              · exact hr.symm
              · exact absurd hr.symm z
            have : ∀ m : Nat, m ≤ 33 → isStr (around m : Nat) = false := by decide
            rw [hro, this m ghi] at q
            cases q)
          (if (t : Int) = t ∧ runs t = true then kept t (PR ++ [b]) else []) (if (t : Int) = 8 ∨ (t : Int) = 9 then (if (t : Int) = t then farther PF b else 2) else 0)
          (fun z => by rw [if_pos ⟨rfl, runs_of t r2 h19 z⟩]) (fun z => by rw [if_pos (by omega), if_pos rfl])
        by_cases z : t = 4 ∨ t = 5 ∨ t = 10
        · exact mkPar_kind hstay (by omega) (by omega)
        · have y : ¬ (t ≠ t ∧ t = 5) := fun y => y.1 rfl
          rw [fk, if_neg z, if_neg y]
          exact hstay
      · have q' : ¬ (t : Int) = r := by omega
        rw [if_neg q, if_neg (fun z => q' z.1), if_neg q']
        have := mkPar_new ((St.mk r n e k rd false).led t b).kind t
        by_cases z : t = 8 ∨ t = 9
        · rw [if_pos z] at this
          rw [if_pos (by omega)]
          exact this
        · rw [if_neg z] at this
          rw [if_neg (by omega)]
          exact this
  · subst h34' hrm'
    have hma : (Sx.led ⟨St.mk r n e k rd false, K⟩ 34 b).ma = Mk.none := by
      show ledMk _ _ _ _ = _
      unfold ledMk
      rw [if_neg (fun z => z.2 rfl)]
    have hl : (Sx.led ⟨St.mk r n e k rd false, K⟩ 34 b).st = within (if r = 3 then elementOf n else e) := by
      show (St.mk r n e k rd false).led 34 b = _
      unfold St.led
      have z : ¬ 34 = (St.mk r n e k rd false).mode := by show ¬ 34 = r; omega
      rw [if_neg z]
      rfl
    obtain ⟨w1, w2, w3, w4, w5⟩ := within_ma (if r = 3 then elementOf n else e)
    refine ⟨hpar, fun q q' => ?_, fun _ => ?_, ?_⟩
    · rw [hl] at q q'
      exact absurd ⟨q, q'⟩ w5
    · rw [hl]; exact w1
    · rw [hl, hma, w2]
      have hrun : ((Sp.mk r p.tag p.attr p.inside PR PF).step1 r b).run = [] := by
        unfold Sp.step1
        rw [hT, if_pos rfl]
        split <;> rfl
      rw [hrun]
      exact mkPar_any _ _ _ w3 w4

end Go.Proofs.YtfkhljmiehdgmaaGreatDoor.Pl

/-
  Plain laws: all that counts of a state is all that counts of the document's spot: any byte, any page. No program is named here.
-/
namespace Go.Proofs.YtfkhljmiehdgmaaGreatDoor.Pl

def againAt (m : Nat) (c : UInt8) : Bool := if tgt m c = -2 then decide (m = 2) || (decide (m = 24) || decide (m = 31)) else true
theorem again_tab : ((List.range 34).all fun m => (0 :: named).all fun c => againAt m c) = true := by decide +kernel
theorem again_all (m : Nat) (hm : m ≤ 33) (b : UInt8) (h : tgt m b = -2) : m = 2 ∨ m = 24 ∨ m = 31 := by
  have e : againAt m b = againAt m (cls b) := by unfold againAt; rw [tgt_cls m hm b]
  have := List.all_eq_true.1 ((List.all_eq_true.1 again_tab) m (List.mem_range.2 (by omega))) _ (cls_mem b)
  rw [← e] at this
  unfold againAt at this
  rw [if_pos h] at this
  simpa only [Bool.or_eq_true, decide_eq_true_eq] using this
theorem mk_none {kind : Int} {m : Nat} {k : Mk} {run : List UInt8} {far : Int} (h : MkPar kind m k false run far) (hm : m = 2 ∨ m = 24 ∨ m = 31) : k = Mk.none := by
  obtain ⟨a, c, d, f⟩ := k
  have h1 := h.ref
  have hs : isStr (m : Int) = false := by rcases hm with rfl | rfl | rfl <;> decide
  have hl : inLink kind m = false := by
    rw [Bool.eq_false_iff]
    intro q
    rcases (inLink_mode q).1 with y | y <;> omega
  have hw : decide (writtenAs m = 1) = false := by rcases hm with rfl | rfl | rfl <;> decide
  have h2 := (h.nostr hs).2
  have h3 := h.nolink hl
  simp only at h1 h2 h3
  rw [hw, Bool.false_and] at h1
  rw [h1, h2, h3.1, h3.2]
  rfl
theorem table_parx (m : Nat) (n e : List UInt8) (k : Int) (rd : Nat) (K : Mk) (p : Sp) (b : UInt8) (hs : (St.mk m n e k rd false).Ok) (hx : ParX ⟨St.mk m n e k rd false, K⟩ p) (PM : Int) (hM : PM = m) (hb : isStr (m : Int) = true → b ≠ 92) (h19 : m ≠ 19) :
    ParX (Sx.led ⟨St.mk (readAt m b) n e k rd false, K⟩ (leads m b) b) ((Sp.mk PM p.tag p.attr p.inside p.run p.far).step m b) := by
  subst hM
  have h1 := hs.lo
  have h2 := hs.hi
  simp only at h1 h2
  have ha := agree_all m h1 h2 b
  have hsh := shape_all m h1 h2 b
  unfold agree at ha
  unfold Sp.step
  by_cases c2 : tgt m b = -2
  · rw [if_pos c2] at ha ⊢
    simp only [Bool.and_eq_true, decide_eq_true_eq] at ha
    obtain ⟨⟨a1, a2⟩, a3⟩ := ha
    have ne : aroundOf m ≠ m := by
      intro q
      have := around_stays m b
      rw [q] at this
      exact this c2
    have a19 : aroundOf m ≠ 19 := by
      unfold aroundOf
      repeat' split
      all_goals omega
    have := led_parx m n e k rd K p b hs hx (aroundOf m) (leads m b) [] p.far (fun q => absurd q ne) (fun _ => ⟨mk_none hx.ma (again_all m h2 b c2), rfl⟩) hb a19 hsh a1 rfl (.inl a2.symm)
    rw [a1]; exact this
  · rw [if_neg c2] at ha ⊢
    by_cases c1 : tgt m b = -1
    · rw [if_pos c1] at ha
      simp only [Bool.and_eq_true, decide_eq_true_eq] at ha
      rw [ha.1.1.1]
      exact led_parx m n e k rd K p b hs hx m (leads m b) p.run p.far (fun _ => ⟨rfl, rfl⟩) (fun q => absurd rfl q) hb h19 hsh ha.1.1.1 rfl (.inr ⟨c1, ha.1.1.2, rfl⟩)
    · rw [if_neg c1] at ha
      simp only [Bool.and_eq_true, decide_eq_true_eq] at ha
      rw [ha.1]
      exact led_parx m n e k rd K p b hs hx m (leads m b) p.run p.far (fun _ => ⟨rfl, rfl⟩) (fun q => absurd rfl q) hb h19 hsh ha.1 rfl (.inl ha.2.symm)

theorem str_modes : ∀ m : Nat, m ≤ 33 → isStr (m : Int) = true → m = 21 ∨ m = 22 ∨ m = 23 ∨ m = 29 ∨ m = 30 := by decide
theorem escMk_hex (m : Nat) (b : UInt8) : (escapedMk m true b).hex = if longHit m b (21, 23, [120], 2) = true then 2 else if longHit m b (21, 23, [117], 4) = true then 4 else if longHit m b (29, 30, hexB, 5) = true then 5 else 0 := by
  have e : escapedMk m true b = match longTab.find? (longHit m b) with
    | some r => ⟨false, r.2.2.2, 0, 0⟩
    | none => Mk.none := rfl
  rw [e]
  unfold longTab
  rw [List.find?_cons, List.find?_cons, List.find?_cons, List.find?_nil]
  cases longHit m b (21, 23, [120], 2) <;> cases longHit m b (21, 23, [117], 4) <;> cases longHit m b (29, 30, hexB, 5) <;> rfl
theorem esc_table (m : Nat) (hm : m ≤ 33) (h : isStr (m : Int) = true) (b : UInt8) : (if (escapedMk m true b).hex = 0 then (0 : Int) else (escapedMk m true b).hex + 1) = escStep (sheetly m) 1 b := by
  have hx : among b hexB = among b hexDigits := rfl
  have e120 : among b [120] = (b == 120) := by
    show ([120] : List UInt8).any _ = _
    rw [List.any_cons, List.any_nil, Bool.or_false, Bool.beq_comm]
  have e117 : among b [117] = (b == 117) := by
    show ([117] : List UInt8).any _ = _
    rw [List.any_cons, List.any_nil, Bool.or_false, Bool.beq_comm]
  have e1 : escStep (sheetly m) 1 b = if (sheetly m && among b hexDigits) = true then 6 else if (!sheetly m && b == 120) = true then 3 else if (!sheetly m && b == 117) = true then 5 else 0 := by unfold escStep; rw [if_pos rfl]
  have hne : (b == 120) = true → (b == 117) = false := fun q => by rw [beq_iff_eq] at q; subst q; decide
  rw [escMk_hex, e1]
  unfold longHit
  simp only [hx, e120, e117]
  rcases str_modes m hm h with rfl | rfl | rfl | rfl | rfl
  all_goals
    cases h1 : (b == 120) <;> cases h2 : (b == 117) <;> cases h3 : among b hexDigits
    all_goals first | rfl | (exfalso; rw [hne h1] at h2; cases h2)
theorem escaped_rest (m : Nat) (z : Bool) (b : UInt8) : (escapedMk m z b).ref = false ∧ (escapedMk m z b).pct = 0 ∧ (escapedMk m z b).far = 0 := by
  unfold escapedMk
  split
  · exact ⟨rfl, rfl, rfl⟩
  · split <;> exact ⟨rfl, rfl, rfl⟩
theorem str_nolink (kind : Int) (m : Nat) (hm : m ≤ 33) (h : isStr (m : Int) = true) : inLink kind m = false := by
  obtain ⟨_, n8, n9, _, _⟩ := isStr_not_text m hm h
  rw [Bool.eq_false_iff]
  intro q
  rcases (inLink_mode q).1 with y | y
  · exact n8 y
  · exact n9 y

theorem next_parx (x : Sx) (p : Sp) (b : UInt8) (hok : SxOk x) (h : ParX x p) : ParX (x.behind b) (p.next b) := by
  obtain ⟨⟨m, n, e, k, rd, z⟩, K⟩ := x
  have hpar := next_par _ p b hok.st h.par
  have hs := hok.st
  simp only at hs
  have h1 := hs.lo
  have h2 := hs.hi
  have hcalm := hs.calm
  have hmode := h.par.mode
  have hk := h.kind
  have hpl := h.plain
  have hma := h.ma
  simp only at h1 h2 hcalm hmode hk hpl hma
  have hnext : p.next b = if 19 ≤ m then p.element m b else p.step m b := by unfold Sp.next; rw [hmode, Int.toNat_natCast]
  have htab := isStr_tab m h2
  by_cases hm : 19 ≤ m
  · rw [if_pos hm] at hnext
    have het := h.par.tag hm
    have her := h.par.read hm
    simp only at het her
    have hk0 : k = 0 := hpl (by omega)
    have hends : (St.mk m n e k rd z).ends b = true ↔ (p.read = (spEnd p.tag).length ∧ among b endBytes = true) := by
      unfold St.ends
      rw [Bool.and_eq_true, decide_eq_true_eq, her, het]
      rfl
    unfold Sp.element at hnext
    by_cases ce : p.read = (spEnd p.tag).length ∧ among b endBytes = true
    · rw [if_pos ce] at hnext
      have hX := bx_end ⟨⟨m, n, e, k, rd, z⟩, K⟩ b hm (hends.2 ce)
      have hbe : behindEnd b = 1 ∨ behindEnd b = 12 := by
        unfold behindEnd
        split
        · exact .inl rfl
        · exact .inr rfl
      refine ⟨hpar, ?_, ?_, ?_⟩
      · rw [hX]; intro q q'
        exfalso
        replace q : 6 ≤ behindEnd b := q
        replace q' : behindEnd b ≤ 9 := q'
        omega
      · rw [hX]; intro _; rfl
      · rw [hX]
        have hrun : (p.next b).run = [] := by rw [hnext]; split <;> rfl
        rw [hrun]
        refine mkPar_any _ _ _ ?_ ?_ <;> (simp only; omega)
    · rw [if_neg ce] at hnext
      have hne : ¬ (19 ≤ (Sx.mk ⟨m, n, e, k, rd, z⟩ K).st.mode ∧ (Sx.mk ⟨m, n, e, k, rd, z⟩ K).st.ends b = true) := fun q => ce (hends.1 q.2)
      by_cases cs : isStr (m : Int) = true
      · have hn19 : ¬ m = 19 := (isStr_not_text m h2 cs).2.2.2.2
        have hw1 := (isStr_not_text m h2 cs).1
        have hst := hma.str cs
        by_cases hz : z = true
        · subst hz
          rw [if_pos rfl] at hst
          have w : isStr (m : Int) = true ∧ escOf (sheetly m) p.run = 1 := ⟨cs, hst.symm⟩
          rw [if_pos w] at hnext
          have hX := bx_esc ⟨⟨m, n, e, k, rd, true⟩, K⟩ b hne (by show (escapesTab.getD m false && (true || _)) = true; rw [htab, cs]; rfl)
          obtain ⟨r1, r2, r3⟩ := escaped_rest m true b
          refine ⟨hpar, ?_, ?_, ?_⟩
          · rw [hX]; intro q q'; simp only at q'; omega
          · rw [hX]; intro _; exact hk0
          · rw [hX, hnext]
            refine ⟨?_, (escapedMk_ok m true b).hex.1, fun _ => ?_, fun q => ?_, fun q => ?_, fun _ => ⟨r2, r3⟩⟩
            · show (escapedMk m true b).ref = _
              rw [r1, decide_eq_false hw1, Bool.false_and]
            · show (if (!true) = true then (1 : Int) else if (escapedMk m true b).hex = 0 then 0 else (escapedMk m true b).hex + 1) = escOf (sheetly m) (p.run ++ [b])
              rw [if_neg (by simp), escOf_snoc, ← hst]
              exact esc_table m h2 cs b
            · replace q : isStr (m : Int) = false := q
              rw [cs] at q; cases q
            · replace q : inLink k m = true := q
              rw [str_nolink k m h2 cs] at q; cases q
        · have hz' := Bool.eq_false_iff.2 hz
          subst hz'
          rw [if_neg (by simp)] at hst
          have hh := hma.hex
          have h1' : ¬ escOf (sheetly m) p.run = 1 := by rw [← hst]; split <;> omega
          have w : ¬ (isStr (m : Int) = true ∧ escOf (sheetly m) p.run = 1) := fun q => h1' q.2
          rw [if_neg w, if_neg hn19] at hnext
          by_cases cb : b = 92
          · subst cb
            have hX := bx_esc ⟨⟨m, n, e, k, rd, false⟩, K⟩ 92 hne (by show (escapesTab.getD m false && (false || _)) = true; rw [htab, cs]; rfl)
            have hrun : (p.next 92).run = kept m (p.run ++ [92]) := by
              rw [hnext]
              unfold Sp.step Sp.step1
              rw [back_stays m h2 cs, if_neg (by omega), if_neg (by omega)]
              have hruns : (m : Int) = (m : Int) ∧ runs (m : Int) = true := ⟨rfl, by unfold runs; rw [cs]; simp⟩
              show (if _ then _ else _ : List UInt8) = _
              rw [if_pos hruns]
            refine ⟨hpar, ?_, ?_, ?_⟩
            · rw [hX]; intro q q'; simp only at q'; omega
            · rw [hX]; intro _; exact hk0
            · rw [hX, hrun]
              refine ⟨?_, Int.le_refl 0, fun _ => ?_, fun q => ?_, fun q => ?_, fun _ => ⟨rfl, rfl⟩⟩
              · show false = _
                rw [decide_eq_false hw1, Bool.false_and]
              · show (if (!false) = true then (1 : Int) else _) = escOf (sheetly m) _
                have ht : (!false) = true := rfl
                rw [if_pos ht, kept_esc _ _ cs, escOf_snoc, escStep_back _ _ h1']
              · replace q : isStr (m : Int) = false := q
                rw [cs] at q; cases q
              · replace q : inLink k m = true := q
                rw [str_nolink k m h2 cs] at q; cases q
          · have hX := bx_led ⟨⟨m, n, e, k, rd, false⟩, K⟩ b _ _ hne (by show (escapesTab.getD m false && (false || b == 92)) = false; rw [htab, cs, beq_eq_false_iff_ne.2 cb]; rfl) rfl rfl
            rw [hX, hnext]
            have hrd : (St.mk m n e k rd false).nowRead b = (St.mk m n e k rd false).readEnd b := by unfold St.nowRead; rw [if_pos hm]
            simp only
            rw [hrd]
            refine table_parx m n e k _ K ⟨m, p.tag, p.attr, tail12 (p.inside ++ [b]), p.run, p.far⟩ b ?_ ⟨?_, hk, hpl, hma⟩ _ rfl (fun _ => cb) hn19
            · exact ⟨h1, h2, hs.name, hs.named, hs.elem, hs.bare, fun hh => by simp only at hh; omega, hs.calm, readEnd_le _ b, hs.wrap, hs.high⟩
            · refine ⟨rfl, h.par.tagName, h.par.attrName, h.par.inTag, h.par.tag, fun _ => ?_, h.par.esc⟩
              show rdFrom (tail12 (p.inside ++ [b])) (spEnd p.tag) (spEnd p.tag).length = _
              rw [het, read_next _ _ _ hs.elem]
              have hr : rdFrom p.inside (spEnd e) (spEnd e).length = rd := by
                have : p.read = rdFrom p.inside (spEnd e) (spEnd e).length := by unfold Sp.read; rw [het]
                rw [← this]; exact her
              rw [hr]
              rfl
      · have cs' := Bool.eq_false_iff.2 cs
        obtain ⟨hz', hx0⟩ := hma.nostr cs'
        subst hz'
        have w : ¬ (isStr (m : Int) = true ∧ escOf (sheetly m) p.run = 1) := fun q => cs q.1
        rw [if_neg w] at hnext
        have hX := bx_led ⟨⟨m, n, e, k, rd, false⟩, K⟩ b _ _ hne (by show (escapesTab.getD m false && _) = false; rw [htab, cs']; rfl) rfl rfl
        by_cases w19 : m = 19
        · subst w19
          rw [if_pos rfl] at hnext
          have ha := agree_all 19 (by omega) (by omega) b
          have ht : tgt 19 b = 19 := rfl
          unfold agree at ha
          rw [ht, if_neg (by omega), if_neg (by omega)] at ha
          simp only [Bool.and_eq_true, decide_eq_true_eq] at ha
          have hr19 : readAt 19 b = 19 := ha.1
          have hl19 : leads 19 b = 19 := by omega
          simp only at hX
          rw [hr19, hl19] at hX
          refine ⟨hpar, ?_, ?_, ?_⟩
          · rw [hX]; intro q q'; exfalso; replace q' : 19 ≤ 9 := q'; omega
          · rw [hX]; intro _; exact hk0
          · rw [hX, hnext]
            exact mkPar_stay k 19 (by omega) K p.run p.far b hma (fun q => by cases q) _ _ (fun _ => rfl) (fun q => by omega)
        · rw [if_neg w19] at hnext
          rw [hX, hnext]
          have hrd : (St.mk m n e k rd false).nowRead b = (St.mk m n e k rd false).readEnd b := by unfold St.nowRead; rw [if_pos hm]
          simp only
          rw [hrd]
          refine table_parx m n e k _ K ⟨m, p.tag, p.attr, tail12 (p.inside ++ [b]), p.run, p.far⟩ b ?_ ⟨?_, hk, hpl, hma⟩ _ rfl (fun q => absurd q cs) w19
          · exact ⟨h1, h2, hs.name, hs.named, hs.elem, hs.bare, fun hh => by simp only at hh; omega, hs.calm, readEnd_le _ b, hs.wrap, hs.high⟩
          · refine ⟨rfl, h.par.tagName, h.par.attrName, h.par.inTag, h.par.tag, fun _ => ?_, h.par.esc⟩
            show rdFrom (tail12 (p.inside ++ [b])) (spEnd p.tag) (spEnd p.tag).length = _
            rw [het, read_next _ _ _ hs.elem]
            have hr : rdFrom p.inside (spEnd e) (spEnd e).length = rd := by
              have : p.read = rdFrom p.inside (spEnd e) (spEnd e).length := by unfold Sp.read; rw [het]
              rw [← this]; exact her
            rw [hr]
            rfl
  · rw [if_neg hm] at hnext
    have he : escapesTab.getD m false = false := esc_low m (by omega)
    have hz' : z = false := hcalm he
    subst hz'
    have hX := bx_led ⟨⟨m, n, e, k, rd, false⟩, K⟩ b _ _ (fun q => hm q.1) (by show (escapesTab.getD m false && _) = false; rw [he]; rfl) rfl rfl
    rw [hX, hnext]
    have hrd : (St.mk m n e k rd false).nowRead b = rd := by unfold St.nowRead; rw [if_neg hm]
    simp only
    rw [hrd]
    exact table_parx m n e k rd K p b hs h p.mode hmode (fun q => by have := isStr_ge m h2 q; omega) (by omega)

theorem parx_start : ParX Sx.start Sp.start :=
  ⟨par_start, fun q => (by revert q; decide), fun _ => rfl, mkPar_any 0 1 0 (by decide) (by decide)⟩
theorem from_parx (l : List UInt8) : ∀ (x : Sx) (p : Sp), SxOk x → ParX x p → ParX (sxFrom x l) (spFrom p l) := by
  induction l with
  | nil => intro x p _ h; exact h
  | cons b l ih => intro x p hok h; exact ih _ _ (sxBehind_ok b hok) (next_parx x p b hok h)

end Go.Proofs.YtfkhljmiehdgmaaGreatDoor.Pl

/-
  Plain laws: states are the same as often as all that counts of the spots is; holes. No program is named here.
-/
namespace Go.Proofs.YtfkhljmiehdgmaaGreatDoor.Pl

/-- all that counts of a spot, as the document's answer has it -/
structure Vw where
  mode : Int
  elem : Int
  attr : Int
  ends : Int
  esc : Int
  pct : Int
  link : Int
  name : List UInt8
  ref : Bool
def kindRef (n : List UInt8) : Int := if n = styleN ∨ [111, 110] <+: n then 3 else if n = [104, 114, 101, 102] ∨ n = [115, 114, 99] ∨ n = [97, 99, 116, 105, 111, 110] then 2 else 1
theorem kindRef_eq (n : List UInt8) : kindRef n = kindOf n + 1 := by
  unfold kindRef
  have hpre : ([111, 110] : List UInt8).isPrefixOf n = true ↔ [111, 110] <+: n := List.isPrefixOf_iff_prefix
  by_cases h0 : n = [104, 114, 101, 102]
  · subst h0; rfl
  by_cases h1 : n = [115, 114, 99]
  · subst h1; rfl
  by_cases h2 : n = [97, 99, 116, 105, 111, 110]
  · subst h2; rfl
  have f0 : fitsAttr n ([104, 114, 101, 102], false, 1) = false := by unfold fitsAttr; rw [Bool.false_and, Bool.or_false, beq_eq_false_iff_ne]; exact fun q => h0 q.symm
  have f1 : fitsAttr n ([115, 114, 99], false, 1) = false := by unfold fitsAttr; rw [Bool.false_and, Bool.or_false, beq_eq_false_iff_ne]; exact fun q => h1 q.symm
  have f2 : fitsAttr n ([97, 99, 116, 105, 111, 110], false, 1) = false := by unfold fitsAttr; rw [Bool.false_and, Bool.or_false, beq_eq_false_iff_ne]; exact fun q => h2 q.symm
  have hno : ¬ (n = [104, 114, 101, 102] ∨ n = [115, 114, 99] ∨ n = [97, 99, 116, 105, 111, 110]) := by
    rintro (q | q | q)
    · exact h0 q
    · exact h1 q
    · exact h2 q
  rw [if_neg hno]
  unfold kindOf attrTab
  rw [List.find?_cons, f0, List.find?_cons, f1, List.find?_cons, f2, List.find?_cons]
  by_cases h3 : n = styleN
  · have f3 : fitsAttr n (styleN, false, 2) = true := by unfold fitsAttr; rw [h3]; rfl
    rw [f3, if_pos (.inl h3)]; rfl
  · have f3 : fitsAttr n (styleN, false, 2) = false := by unfold fitsAttr; rw [Bool.false_and, Bool.or_false, beq_eq_false_iff_ne]; exact fun q => h3 q.symm
    rw [f3, List.find?_cons]
    by_cases h4 : [111, 110] <+: n
    · have f4 : fitsAttr n ([111, 110], true, 2) = true := by unfold fitsAttr; rw [Bool.true_and, hpre.2 h4, Bool.or_true]
      rw [f4, if_pos (.inr h4)]; rfl
    · have f4 : fitsAttr n ([111, 110], true, 2) = false := by
        unfold fitsAttr
        rw [Bool.true_and, Bool.eq_false_iff.2 (fun q => h4 (hpre.1 q)), Bool.or_false, beq_eq_false_iff_ne]
        rintro rfl
        exact h4 (List.prefix_refl _)
      rw [f4, List.find?_nil, if_neg (fun q => q.elim h3 h4)]; rfl
def textual (m : Int) : Bool := m == 1 || (m == 19 || (m == 8 || m == 9))
def Sp.view (p : Sp) : Vw where
  mode := p.mode
  elem := if (3 < p.mode ∧ p.mode ≤ 10) ∨ 19 ≤ p.mode then elemNo p.tag else 0
  attr := if 6 ≤ p.mode ∧ p.mode ≤ 9 then kindRef p.attr else 0
  ends := if 19 ≤ p.mode then p.read else 0
  esc := if isStr p.mode = true then escOf (sheetly p.mode) p.run else 0
  pct := if (p.mode = 8 ∨ p.mode = 9) ∧ kindRef p.attr = 2 then pctOf p.run else 0
  link := if (p.mode = 8 ∨ p.mode = 9) ∧ kindRef p.attr = 2 then p.far else 0
  name := if p.mode = 3 then p.tag else if p.mode = 5 then p.attr else []
  ref := if textual p.mode = true then refer p.run else false
/-- the same, read off a state -/
def Sx.view (x : Sx) : Vw where
  mode := x.st.mode
  elem := elemNo x.st.elem
  attr := if 6 ≤ x.st.mode ∧ x.st.mode ≤ 9 then x.st.kind + 1 else 0
  ends := x.st.read
  esc := if x.st.esc = true then 1 else if x.ma.hex = 0 then 0 else x.ma.hex + 1
  pct := x.ma.pct
  link := if inLink x.st.kind x.st.mode = true then farMap x.ma.far else 0
  name := x.st.name
  ref := x.ma.ref
theorem elemNo_elementOf (n : List UInt8) : elemNo (elementOf n) = elemNo n := by
  unfold elementOf
  split
  · rfl
  · next h =>
    simp only [not_or] at h
    unfold elemNo
    rw [if_neg h.1, if_neg h.2.1, if_neg h.2.2.1, if_neg h.2.2.2]
    rfl
theorem textual_eq : ∀ m : Nat, m ≤ 33 → textual (m : Int) = decide (writtenAs m = 1) := by decide
theorem view_parx (x : Sx) (p : Sp) (hok : SxOk x) (h : ParX x p) : p.view = x.view := by
  have hm := h.par.mode
  have hs := hok.st
  have hhi := hs.hi
  have hbare := hs.bare
  unfold Sp.view Sx.view
  rw [hm]
  have c1 : (if (3 < (x.st.mode : Int) ∧ (x.st.mode : Int) ≤ 10) ∨ 19 ≤ (x.st.mode : Int) then (elemNo p.tag : Int) else 0) = elemNo x.st.elem := by
    by_cases q : 4 ≤ x.st.mode ∧ x.st.mode ≤ 10
    · rw [if_pos (by omega), ← h.par.inTag q.1 q.2, elemNo_elementOf]
    · by_cases q' : 19 ≤ x.st.mode
      · rw [if_pos (by omega), h.par.tag q']
      · rw [if_neg (by omega), (hbare (by omega)).1]; rfl
  have c2 : (if 6 ≤ (x.st.mode : Int) ∧ (x.st.mode : Int) ≤ 9 then kindRef p.attr else 0) = if 6 ≤ x.st.mode ∧ x.st.mode ≤ 9 then x.st.kind + 1 else 0 := by
    by_cases q : 6 ≤ x.st.mode ∧ x.st.mode ≤ 9
    · rw [if_pos (by omega), if_pos q, h.kind q.1 q.2, kindRef_eq]
    · rw [if_neg (by omega), if_neg q]
  have c3 : (if 19 ≤ (x.st.mode : Int) then (p.read : Int) else 0) = x.st.read := by
    by_cases q : 19 ≤ x.st.mode
    · rw [if_pos (by omega), h.par.read q]
    · rw [if_neg (by omega), hs.low (by omega)]; rfl
  have c4 : (if isStr (x.st.mode : Int) = true then escOf (sheetly x.st.mode) p.run else 0) = if x.st.esc = true then 1 else if x.ma.hex = 0 then 0 else x.ma.hex + 1 := by
    by_cases q : isStr (x.st.mode : Int) = true
    · rw [if_pos q]; exact (h.ma.str q).symm
    · obtain ⟨q1, q2⟩ := h.ma.nostr (Bool.eq_false_iff.2 q)
      rw [if_neg q, q1, q2]; rfl
  have hlk : (((x.st.mode : Int) = 8 ∨ (x.st.mode : Int) = 9) ∧ kindRef p.attr = 2) ↔ inLink x.st.kind x.st.mode = true := by
    unfold inLink
    rw [Bool.and_eq_true, Bool.or_eq_true, beq_iff_eq, beq_iff_eq, beq_iff_eq]
    constructor
    · rintro ⟨a, c⟩
      rw [kindRef_eq, ← h.kind (by omega) (by omega)] at c
      exact ⟨by omega, by omega⟩
    · rintro ⟨a, c⟩
      rw [kindRef_eq, ← h.kind (by omega) (by omega)]
      exact ⟨by omega, by omega⟩
  have c5 : (if ((x.st.mode : Int) = 8 ∨ (x.st.mode : Int) = 9) ∧ kindRef p.attr = 2 then pctOf p.run else 0) = x.ma.pct := by
    by_cases q : inLink x.st.kind x.st.mode = true
    · rw [if_pos (hlk.2 q)]; exact (h.ma.link q).1.symm
    · rw [if_neg (fun z => q (hlk.1 z))]; exact (h.ma.nolink (Bool.eq_false_iff.2 q)).1.symm
  have c6 : (if ((x.st.mode : Int) = 8 ∨ (x.st.mode : Int) = 9) ∧ kindRef p.attr = 2 then p.far else 0) = if inLink x.st.kind x.st.mode = true then farMap x.ma.far else 0 := by
    by_cases q : inLink x.st.kind x.st.mode = true
    · rw [if_pos (hlk.2 q), if_pos q]; exact (h.ma.link q).2.1.symm
    · rw [if_neg (fun z => q (hlk.1 z)), if_neg q]
  have c7 : (if (x.st.mode : Int) = 3 then p.tag else if (x.st.mode : Int) = 5 then p.attr else []) = x.st.name := by
    by_cases q : x.st.mode = 3
    · rw [if_pos (by omega), h.par.tagName q]
    · by_cases q' : x.st.mode = 5
      · rw [if_neg (by omega), if_pos (by omega), h.par.attrName q']
      · rw [if_neg (by omega), if_neg (by omega), hs.named q q']
  have c8 : (if textual (x.st.mode : Int) = true then refer p.run else false) = x.ma.ref := by
    rw [textual_eq _ hhi, h.ma.ref]
    cases decide (writtenAs x.st.mode = 1) <;> rfl
  rw [c1, c2, c3, c4, c5, c6, c7, c8]

/-- just behind a backslash nothing else of an escape is marked -/
def EscHex (x : Sx) : Prop := x.st.esc = true → x.ma.hex = 0
theorem escHex_behind (x : Sx) (b : UInt8) (hok : SxOk x) : EscHex (x.behind b) := by
  have hs := hok.st
  by_cases he : 19 ≤ x.st.mode ∧ x.st.ends b = true
  · rw [bx_end x b he.1 he.2]; intro q; cases q
  · cases hq : (escapesTab.getD x.st.mode false && (x.st.esc || b == 92))
    · rw [bx_led x b _ _ he hq rfl rfl]
      have hz : x.st.esc = false := by
        by_cases q : escapesTab.getD x.st.mode false = true
        · rw [q, Bool.true_and, Bool.or_eq_false_iff] at hq
          exact hq.1
        · exact hs.calm (Bool.eq_false_iff.2 q)
      intro q
      exfalso
      replace q : ((St.mk (readAt x.st.mode b) x.st.name x.st.elem x.st.kind (x.st.nowRead b) x.st.esc).led (leads x.st.mode b) b).esc = true := q
      by_cases c : leads x.st.mode b = 34
      · rw [c] at q
        unfold St.led at q
        split at q
        · rw [show ∀ s : St, s.led1 34 b = within s.elem from fun _ => rfl, (within_ma _).2.1] at q; cases q
        · rw [show ∀ s : St, s.led1 34 b = within s.elem from fun _ => rfl, (within_ma _).2.1] at q; cases q
      · rw [(led_f _ _ b c).2.2.2.1] at q
        simp only at q
        rw [hz] at q; cases q
    · rw [bx_esc x b he hq]
      intro q
      replace q : (!x.st.esc) = true := q
      show (escapedMk x.st.mode x.st.esc b).hex = 0
      have : x.st.esc = false := by cases h : x.st.esc with
        | false => rfl
        | true => rw [h] at q; cases q
      rw [this]; rfl
theorem elemNo_inj {n n' : List UInt8} (h : nameOk n) (h' : nameOk n') (q : elemNo n = elemNo n') : n = n' := by
  rcases h with rfl | rfl | rfl | rfl | rfl <;> rcases h' with rfl | rfl | rfl | rfl | rfl <;> first | rfl | (exfalso; revert q; decide)
/-- states that look alike are the same -/
theorem view_inj (x y : Sx) (p q : Sp) (hx : SxOk x) (hy : SxOk y) (ex : EscHex x) (ey : EscHex y) (px : ParX x p) (py : ParX y q) (h : x.view = y.view) : x = y := by
  have hm : x.st.mode = y.st.mode := by
    have := congrArg Vw.mode h
    show _ = _
    have z : (x.st.mode : Int) = (y.st.mode : Int) := this
    omega
  have he : x.st.elem = y.st.elem := by
    have z : (elemNo x.st.elem : Int) = (elemNo y.st.elem : Int) := congrArg Vw.elem h
    exact elemNo_inj hx.st.elem hy.st.elem (by omega)
  have hn : x.st.name = y.st.name := congrArg Vw.name h
  have hr : x.st.read = y.st.read := by
    have z : (x.st.read : Int) = (y.st.read : Int) := congrArg Vw.ends h
    omega
  have hk : x.st.kind = y.st.kind := by
    have z : (if 6 ≤ x.st.mode ∧ x.st.mode ≤ 9 then x.st.kind + 1 else 0) = (if 6 ≤ y.st.mode ∧ y.st.mode ≤ 9 then y.st.kind + 1 else 0) := congrArg Vw.attr h
    by_cases c : 6 ≤ x.st.mode ∧ x.st.mode ≤ 9
    · rw [if_pos c, if_pos (by rw [← hm]; exact c)] at z; omega
    · rw [px.plain c, py.plain (by rw [← hm]; exact c)]
  have hrf : x.ma.ref = y.ma.ref := congrArg Vw.ref h
  have hpc : x.ma.pct = y.ma.pct := congrArg Vw.pct h
  have hfr : x.ma.far = y.ma.far := by
    have z : (if inLink x.st.kind x.st.mode = true then farMap x.ma.far else 0) = (if inLink y.st.kind y.st.mode = true then farMap y.ma.far else 0) := congrArg Vw.link h
    rw [← hk, ← hm] at z
    by_cases c : inLink x.st.kind x.st.mode = true
    · rw [if_pos c, if_pos c] at z
      obtain ⟨_, _, a1, a2⟩ := px.ma.link c
      obtain ⟨_, _, b1, b2⟩ := py.ma.link (by rw [← hk, ← hm]; exact c)
      unfold farMap at z
      repeat' split at z
      all_goals omega
    · rw [(px.ma.nolink (Bool.eq_false_iff.2 c)).2, (py.ma.nolink (by rw [← hk, ← hm]; exact Bool.eq_false_iff.2 c)).2]
  have hes : x.st.esc = y.st.esc ∧ x.ma.hex = y.ma.hex := by
    have z : (if x.st.esc = true then (1 : Int) else if x.ma.hex = 0 then 0 else x.ma.hex + 1) = (if y.st.esc = true then (1 : Int) else if y.ma.hex = 0 then 0 else y.ma.hex + 1) := congrArg Vw.esc h
    have x0 := px.ma.hex
    have y0 := py.ma.hex
    cases a : x.st.esc <;> cases c : y.st.esc
    · rw [a, c] at z
      replace z : (if x.ma.hex = 0 then (0 : Int) else x.ma.hex + 1) = (if y.ma.hex = 0 then (0 : Int) else y.ma.hex + 1) := z
      refine ⟨rfl, ?_⟩
      by_cases c1 : x.ma.hex = 0 <;> by_cases c2 : y.ma.hex = 0
      · omega
      · rw [if_pos c1, if_neg c2] at z; omega
      · rw [if_neg c1, if_pos c2] at z; omega
      · rw [if_neg c1, if_neg c2] at z; omega
    · rw [a, c] at z
      replace z : (if x.ma.hex = 0 then (0 : Int) else x.ma.hex + 1) = 1 := z
      exfalso
      by_cases c1 : x.ma.hex = 0
      · rw [if_pos c1] at z; omega
      · rw [if_neg c1] at z; omega
    · rw [a, c] at z
      replace z : (1 : Int) = (if y.ma.hex = 0 then (0 : Int) else y.ma.hex + 1) := z
      exfalso
      by_cases c1 : y.ma.hex = 0
      · rw [if_pos c1] at z; omega
      · rw [if_neg c1] at z; omega
    · exact ⟨rfl, by rw [ex a, ey c]⟩
  obtain ⟨⟨m, n, e, k, r, z⟩, ⟨rf, hx', pc, fr⟩⟩ := x
  obtain ⟨⟨m', n', e', k', r', z'⟩, ⟨rf', hx'', pc', fr'⟩⟩ := y
  simp only at hm he hn hr hk hrf hpc hfr hes
  obtain ⟨h1, h2⟩ := hes
  subst hm he hn hr hk hrf hpc hfr h1 h2
  rfl

end Go.Proofs.YtfkhljmiehdgmaaGreatDoor.Pl

/-
  Plain laws: a hole is written, or wrong, by the state as by the spot. No program is named here.
-/
namespace Go.Proofs.YtfkhljmiehdgmaaGreatDoor.Pl

def Sx.halfway (x : Sx) : Bool := x.ma.ref || (x.st.esc || (decide (0 < x.ma.hex) || (decide (0 < x.ma.pct) || decide (0 < x.st.read))))
/-- how a hole is written, and what is wrong with it, by the program -/
def Sx.hole (x : Sx) : Int × Int :=
  if writtenAs x.st.mode = 0 then (0, 10) else if x.st.kind = 2 then (0, 11) else if x.halfway = true then (0, 12)
  else if inLink x.st.kind x.st.mode = true ∧ x.ma.far = 0 then (2, 0) else if inLink x.st.kind x.st.mode = true then (3, 0) else (writtenAs x.st.mode, 0)
def Sx.behindHole (x : Sx) : Sx := if inLink x.st.kind x.st.mode = true ∧ x.ma.far < 2 then ⟨x.st, ⟨x.ma.ref, x.ma.hex, x.ma.pct, 2⟩⟩ else x
/-- the same by the document's answer -/
def Vw.as (v : Vw) : Int :=
  if v.mode = 1 ∨ v.mode = 19 then 1 else if v.mode = 8 ∨ v.mode = 9 then (if v.link = 2 then 2 else if v.attr = 2 then 3 else 1) else if v.mode = 21 ∨ v.mode = 22 then 4 else if v.mode = 29 ∨ v.mode = 30 then 5 else 0
def Vw.hole (v : Vw) : Int × Int := if v.as = 0 then (0, 10) else if v.attr = 3 then (0, 11) else if (v.ref || (decide (0 < v.esc) || (decide (0 < v.pct) || decide (0 < v.ends)))) = true then (0, 12) else (v.as, 0)
def Sp.behindHole (p : Sp) : Sp := if p.view.link = 2 ∨ p.view.link = 3 then ⟨p.mode, p.tag, p.attr, p.inside, p.run, 4⟩ else p

theorem link_view (x : Sx) (p : Sp) (h : ParX x p) : (x.view.link = 2 ↔ inLink x.st.kind x.st.mode = true ∧ x.ma.far = 0) ∧ (x.view.link = 3 ↔ inLink x.st.kind x.st.mode = true ∧ x.ma.far = 1) ∧ (x.view.link = 4 ↔ inLink x.st.kind x.st.mode = true ∧ x.ma.far = 2) := by
  have e : x.view.link = if inLink x.st.kind x.st.mode = true then farMap x.ma.far else 0 := rfl
  rw [e]
  by_cases c : inLink x.st.kind x.st.mode = true
  · obtain ⟨_, _, a, b⟩ := h.ma.link c
    rw [if_pos c]
    unfold farMap
    have : x.ma.far = 0 ∨ x.ma.far = 1 ∨ x.ma.far = 2 ∨ x.ma.far = 3 := by omega
    rcases this with q | q | q | q <;> rw [q] <;> simp [c]
  · rw [if_neg c]
    refine ⟨⟨fun q => by omega, fun q => absurd q.1 c⟩, ⟨fun q => by omega, fun q => absurd q.1 c⟩, ⟨fun q => by omega, fun q => absurd q.1 c⟩⟩
theorem hole_view (x : Sx) (p : Sp) (h : ParX x p) : x.view.hole = x.hole := by
  have hm : x.view.mode = (x.st.mode : Int) := rfl
  have ha : x.view.attr = if 6 ≤ x.st.mode ∧ x.st.mode ≤ 9 then x.st.kind + 1 else 0 := rfl
  obtain ⟨l2, _, _⟩ := link_view x p h
  have hil : inLink x.st.kind x.st.mode = true ↔ (x.st.mode = 8 ∨ x.st.mode = 9) ∧ x.st.kind = 1 := by
    refine ⟨inLink_mode, fun q => ?_⟩
    unfold inLink
    rw [Bool.and_eq_true, Bool.or_eq_true, beq_iff_eq, beq_iff_eq, beq_iff_eq]
    exact ⟨q.2, q.1⟩
  have hw : writtenAs x.st.mode = if x.st.mode = 1 ∨ x.st.mode = 19 ∨ x.st.mode = 8 ∨ x.st.mode = 9 then 1 else if x.st.mode = 21 ∨ x.st.mode = 22 then 4 else if x.st.mode = 29 ∨ x.st.mode = 30 then 5 else 0 := rfl
  have has : x.view.as = if inLink x.st.kind x.st.mode = true ∧ x.ma.far = 0 then 2 else if inLink x.st.kind x.st.mode = true then 3 else writtenAs x.st.mode := by
    have A : x.view.as = if ((x.st.mode : Int) = 1 ∨ (x.st.mode : Int) = 19) then 1 else if ((x.st.mode : Int) = 8 ∨ (x.st.mode : Int) = 9) then (if x.view.link = 2 then 2 else if x.view.attr = 2 then 3 else 1) else if ((x.st.mode : Int) = 21 ∨ (x.st.mode : Int) = 22) then 4 else if ((x.st.mode : Int) = 29 ∨ (x.st.mode : Int) = 30) then 5 else 0 := rfl
    rw [A, hw]
    by_cases c2 : x.st.mode = 8 ∨ x.st.mode = 9
    · have p1 : ¬ ((x.st.mode : Int) = 1 ∨ (x.st.mode : Int) = 19) := by omega
      have p2 : (x.st.mode : Int) = 8 ∨ (x.st.mode : Int) = 9 := by omega
      have p3 : x.st.mode = 1 ∨ x.st.mode = 19 ∨ x.st.mode = 8 ∨ x.st.mode = 9 := by omega
      have p4 : 6 ≤ x.st.mode ∧ x.st.mode ≤ 9 := by omega
      rw [if_neg p1, if_pos p2, if_pos p3, ha, if_pos p4]
      by_cases c3 : inLink x.st.kind x.st.mode = true ∧ x.ma.far = 0
      · rw [if_pos (l2.2 c3), if_pos c3]
      · rw [if_neg (fun q => c3 (l2.1 q)), if_neg c3]
        by_cases c4 : inLink x.st.kind x.st.mode = true
        · have : x.st.kind + 1 = 2 := by have := (hil.1 c4).2; omega
          rw [if_pos this, if_pos c4]
        · have : ¬ x.st.kind + 1 = 2 := fun q => c4 (hil.2 ⟨c2, by omega⟩)
          rw [if_neg this, if_neg c4]
    · have n : ¬ inLink x.st.kind x.st.mode = true := fun q => c2 (hil.1 q).1
      have n' : ¬ (inLink x.st.kind x.st.mode = true ∧ x.ma.far = 0) := fun q => n q.1
      rw [if_neg n', if_neg n]
      by_cases c1 : x.st.mode = 1 ∨ x.st.mode = 19
      · have p1 : (x.st.mode : Int) = 1 ∨ (x.st.mode : Int) = 19 := by omega
        have p3 : x.st.mode = 1 ∨ x.st.mode = 19 ∨ x.st.mode = 8 ∨ x.st.mode = 9 := by omega
        rw [if_pos p1, if_pos p3]
      · have p1 : ¬ ((x.st.mode : Int) = 1 ∨ (x.st.mode : Int) = 19) := by omega
        have p2 : ¬ ((x.st.mode : Int) = 8 ∨ (x.st.mode : Int) = 9) := by omega
        have p3 : ¬ (x.st.mode = 1 ∨ x.st.mode = 19 ∨ x.st.mode = 8 ∨ x.st.mode = 9) := by omega
        rw [if_neg p1, if_neg p2, if_neg p3]
        by_cases c4 : x.st.mode = 21 ∨ x.st.mode = 22
        · have p5 : (x.st.mode : Int) = 21 ∨ (x.st.mode : Int) = 22 := by omega
          rw [if_pos p5, if_pos c4]
        · have p5 : ¬ ((x.st.mode : Int) = 21 ∨ (x.st.mode : Int) = 22) := by omega
          rw [if_neg p5, if_neg c4]
          by_cases c5 : x.st.mode = 29 ∨ x.st.mode = 30
          · have p6 : (x.st.mode : Int) = 29 ∨ (x.st.mode : Int) = 30 := by omega
            rw [if_pos p6, if_pos c5]
          · have p6 : ¬ ((x.st.mode : Int) = 29 ∨ (x.st.mode : Int) = 30) := by omega
            rw [if_neg p6, if_neg c5]
  have has0 : x.view.as = 0 ↔ writtenAs x.st.mode = 0 := by
    rw [has]
    by_cases c : inLink x.st.kind x.st.mode = true
    · have : writtenAs x.st.mode = 1 := by rcases (hil.1 c).1 with q | q <;> rw [q] <;> rfl
      rw [this]
      by_cases c' : inLink x.st.kind x.st.mode = true ∧ x.ma.far = 0
      · rw [if_pos c']; omega
      · rw [if_neg c', if_pos c]; omega
    · rw [if_neg (fun q => c q.1), if_neg c]
  have hesc : decide (0 < x.view.esc) = (x.st.esc || decide (0 < x.ma.hex)) := by
    have e : x.view.esc = if x.st.esc = true then 1 else if x.ma.hex = 0 then 0 else x.ma.hex + 1 := rfl
    have h0 := h.ma.hex
    rw [e]
    cases x.st.esc
    · rw [if_neg (by simp), Bool.false_or]
      by_cases c : x.ma.hex = 0
      · rw [if_pos c, c]
      · rw [if_neg c, decide_eq_true (by omega), decide_eq_true (by omega)]
    · rw [if_pos rfl]; rfl
  have hends : decide (0 < x.view.ends) = decide (0 < x.st.read) := by
    have e : x.view.ends = (x.st.read : Int) := rfl
    rw [e, decide_eq_decide]; omega
  have hhalf : (x.view.ref || (decide (0 < x.view.esc) || (decide (0 < x.view.pct) || decide (0 < x.view.ends)))) = x.halfway := by
    unfold Sx.halfway
    rw [hesc, hends, show x.view.ref = x.ma.ref from rfl, show x.view.pct = x.ma.pct from rfl, Bool.or_assoc]
  unfold Vw.hole Sx.hole
  rw [hhalf]
  by_cases c : writtenAs x.st.mode = 0
  · rw [if_pos (has0.2 c), if_pos c]
  · rw [if_neg (fun q => c (has0.1 q)), if_neg c]
    have hkind : x.view.attr = 3 ↔ x.st.kind = 2 := by
      rw [ha]
      by_cases q : 6 ≤ x.st.mode ∧ x.st.mode ≤ 9
      · rw [if_pos q]; omega
      · rw [if_neg q, h.plain q]; omega
    by_cases c2 : x.st.kind = 2
    · rw [if_pos (hkind.2 c2), if_pos c2]
    · rw [if_neg (fun q => c2 (hkind.1 q)), if_neg c2]
      by_cases c3 : x.halfway = true
      · rw [if_pos c3, if_pos c3]
      · rw [if_neg c3, if_neg c3, has]
        split
        · rfl
        · split
          · rfl
          · rfl
theorem hole_parx (x : Sx) (p : Sp) (hok : SxOk x) (h : ParX x p) : p.view.hole = x.hole := by rw [view_parx x p hok h, hole_view x p h]
theorem behindHole_parx (x : Sx) (p : Sp) (hok : SxOk x) (h : ParX x p) : ParX x.behindHole p.behindHole := by
  obtain ⟨l2, l3, _⟩ := link_view x p h
  unfold Sx.behindHole Sp.behindHole
  rw [view_parx x p hok h]
  by_cases c : inLink x.st.kind x.st.mode = true
  · obtain ⟨a1, a2, a3, a4⟩ := h.ma.link c
    by_cases f : x.ma.far < 2
    · have hv : x.view.link = 2 ∨ x.view.link = 3 := by
        by_cases z : x.ma.far = 0
        · exact .inl (l2.2 ⟨c, z⟩)
        · exact .inr (l3.2 ⟨c, by omega⟩)
      rw [if_pos ⟨c, f⟩, if_pos hv]
      refine ⟨⟨h.par.mode, h.par.tagName, h.par.attrName, h.par.inTag, h.par.tag, h.par.read, h.par.esc⟩, h.kind, h.plain, ?_⟩
      exact ⟨h.ma.ref, h.ma.hex, h.ma.str, h.ma.nostr, fun _ => ⟨a1, rfl, (by show (0 : Int) ≤ 2; omega), (by show (2 : Int) ≤ 3; omega)⟩, fun q => by rw [c] at q; cases q⟩
    · have hv : ¬ (x.view.link = 2 ∨ x.view.link = 3) := by
        rintro (q | q)
        · have := (l2.1 q).2; omega
        · have := (l3.1 q).2; omega
      rw [if_neg (fun q => f q.2), if_neg hv]
      exact h
  · have hv : ¬ (x.view.link = 2 ∨ x.view.link = 3) := by
      rintro (q | q)
      · exact c (l2.1 q).1
      · exact c (l3.1 q).1
    rw [if_neg (fun q => c q.1), if_neg hv]
    exact h
theorem behindHole_ok (x : Sx) (h : SxOk x) : SxOk x.behindHole := by
  unfold Sx.behindHole
  split
  · exact ⟨h.st, ⟨h.ma.hex, h.ma.pct⟩⟩
  · exact h
theorem behindHole_esc (x : Sx) (h : EscHex x) : EscHex x.behindHole := by
  unfold Sx.behindHole
  split
  · exact h
  · exact h
/-- a colon that could make a scheme -/
theorem scheme_parx (x : Sx) (p : Sp) (b : UInt8) (hok : SxOk x) (h : ParX x p) : makesScheme x.st.kind x.st.mode x.ma.far b = (b == 58 && decide (p.view.link = 4)) := by
  obtain ⟨_, _, l4⟩ := link_view x p h
  rw [view_parx x p hok h]
  unfold makesScheme
  congr 1
  rw [Bool.eq_iff_iff, Bool.and_eq_true, beq_iff_eq, decide_eq_true_eq]
  exact l4.symm

end Go.Proofs.YtfkhljmiehdgmaaGreatDoor.Pl

/-
  Several texts laid together: each opens with its own remark.
-/
import Derived.Test.YtfkhljmiehdgmaaGreatDoorMhS

/-
  The walk of the statement Ended: what is left out, and a template that is not taken.
-/
namespace Go.Proofs.YtfkhljmiehdgmaaGreatDoor
open Go.RowKit

/-- how the world stands -/
structure EnW (w wr : World) : Prop where
  below : Below w.heap.size w wr
  tabs : PTabs wr
  ml : MaxLenAt wr
theorem EnW.refl {w : World} (h : PTabs w) (hm : MaxLenAt w) : EnW w w := ⟨Below.refl _ _, h, hm⟩
theorem EnW.next {w wr w' : World} (h : EnW w wr) (hb : Below wr.heap.size wr w') : EnW w w' := ⟨h.below.trans (hb.mono h.below.size), h.tabs.kept hb, h.ml.below hb⟩
theorem EnW.alloc {w wr : World} (h : EnW w wr) (o : Obj) : EnW w (wr.alloc o) := h.next ((Below.refl _ _).alloc (Nat.le_refl _) o)
theorem EnW.drewN {w wr : World} (h : EnW w wr) (n : Nat) : EnW w (wr.drewN n) := h.next (below_drewN (Below.refl _ _) n)

theorem ftVal_none : ftVal Pl.Ft.none = .agg #[.int .i64 0, .int .i64 0, .string ⟨#[]⟩, .int .i64 0] := rfl
def enFirst : List UInt8 := [60, 112, 62, 123, 123, 97, 125, 125]
theorem enFirst_made : (Pl.makeV enFirst []).2 = Pl.Ft.none := Pl.make_of_fold (by decide +kernel) (by decide +kernel)

set_option maxRecDepth 100000 in
set_option maxHeartbeats 6400000 in
theorem Ended_odd (HC : CompileC) (s : ByteArray) (w : World) (ht : PTabs w) (hm : MaxLenAt w) (hs : s.size ≤ maxLen) (ho : s.data.toList.contains 61 = true) :
    Calls Tryz.prog 4 #[.string s] w fun e w' => e = .returned (.bool true) ∧ Below w.heap.size w w' := by
  have HW := (show Hid _ from EnW.refl ht hm)
  have h1 := fun w ht hm => compile_bare HC ⟨#[60, 112, 62, 123, 123, 97, 125, 125]⟩ Pl.Ft.none w ht hm (by decide) enFirst_made
  rw [ftVal_none] at h1
  have H1 := (show Hid _ from h1)
  have H2 := (show Hid _ from fun w => says_any s w hs)
  rw [ho] at H2
  have hs2 : (s.size : Int) ≤ 9223372036854775807 := by unfold maxLen at hs; omega
  clear ht hm ho HC hs h1
  go_enter Tryz.func4, Tryz.ntmps4
  go_wp2_with (first
    | (go_at_call 12; refine Calls.mono (H1.out _ HW.out.tabs HW.out.ml) ?_; rintro ed w1 ⟨⟨p, rfl, _, hp⟩, hb⟩
       obtain ⟨g, rfl⟩ := hp rfl
       have HW1 := (show Hid _ from HW.out.next hb)
       clear hb)
    | (go_at_call 13; refine Calls.mono (H2.out _) ?_; rintro ed w2 ⟨rfl, m, rfl⟩))
  go_ret
  exact ⟨rfl, (below_drewN (HW1.out.alloc _).below _)⟩

set_option maxRecDepth 100000 in
set_option maxHeartbeats 6400000 in
theorem Ended_long (HC : CompileC) (s : ByteArray) (w : World) (ht : PTabs w) (hm : MaxLenAt w) (hs : s.size ≤ maxLen) (ho : s.data.toList.contains 61 = false) (hl : 1900 < s.size) :
    Calls Tryz.prog 4 #[.string s] w fun e w' => e = .returned (.bool true) ∧ Below w.heap.size w w' := by
  have HW := (show Hid _ from EnW.refl ht hm)
  have h1 := fun w ht hm => compile_bare HC ⟨#[60, 112, 62, 123, 123, 97, 125, 125]⟩ Pl.Ft.none w ht hm (by decide) enFirst_made
  rw [ftVal_none] at h1
  have H1 := (show Hid _ from h1)
  have H2 := (show Hid _ from fun w => says_any s w hs)
  rw [ho] at H2
  have hs2 : (s.size : Int) ≤ 9223372036854775807 := by unfold maxLen at hs; omega
  have hl2 : (1900 : Int) < (s.size : Int) := by omega
  clear ht hm ho HC hs h1 hl
  go_enter Tryz.func4, Tryz.ntmps4
  go_wp2_with (first
    | (go_at_call 12; refine Calls.mono (H1.out _ HW.out.tabs HW.out.ml) ?_; rintro ed w1 ⟨⟨p, rfl, _, hp⟩, hb⟩
       obtain ⟨g, rfl⟩ := hp rfl
       have HW1 := (show Hid _ from HW.out.next hb)
       clear hb)
    | (go_at_call 13; refine Calls.mono (H2.out _) ?_; rintro ed w2 ⟨rfl, m, rfl⟩))
  go_ret
  exact ⟨rfl, (below_drewN (HW1.out.alloc _).below _)⟩

set_option maxRecDepth 100000 in
set_option maxHeartbeats 6400000 in
theorem Ended_brace (HC : CompileC) (s : ByteArray) (w : World) (ht : PTabs w) (hm : MaxLenAt w) (hs : s.size ≤ maxLen) (ho : s.data.toList.contains 61 = false) (hl : s.size ≤ 1900) (j : Nat) (hj : s.size = j + 1) (hb : s[j] = 123) :
    Calls Tryz.prog 4 #[.string s] w fun e w' => e = .returned (.bool true) ∧ Below w.heap.size w w' := by
  have HW := (show Hid _ from EnW.refl ht hm)
  have h1 := fun w ht hm => compile_bare HC ⟨#[60, 112, 62, 123, 123, 97, 125, 125]⟩ Pl.Ft.none w ht hm (by decide) enFirst_made
  rw [ftVal_none] at h1
  have H1 := (show Hid _ from h1)
  have H2 := (show Hid _ from fun w => says_any s w hs)
  rw [ho] at H2
  have hl2 : ¬ (1900 : Int) < (s.size : Int) := by omega
  have hl3 : (0 : Int) < (s.size : Int) := by omega
  have hl4 : (s.size : Int) - 1 = (j : Int) := by omega
  have hl5 : (j : Int) < (s.size : Int) := by omega
  have hl6 : j ≤ 1900 := by omega
  clear ht hm ho HC hs h1 hl
  go_enter Tryz.func4, Tryz.ntmps4
  go_wp2_with (first
    | (go_at_call 12; refine Calls.mono (H1.out _ HW.out.tabs HW.out.ml) ?_; rintro ed w1 ⟨⟨p, rfl, _, hp⟩, hb⟩
       obtain ⟨g, rfl⟩ := hp rfl
       have HW1 := (show Hid _ from HW.out.next hb)
       clear hb)
    | (go_at_call 13; refine Calls.mono (H2.out _) ?_; rintro ed w2 ⟨rfl, m, rfl⟩))
  go_ret
  exact ⟨rfl, (below_drewN (HW1.out.alloc _).below _)⟩

end Go.Proofs.YtfkhljmiehdgmaaGreatDoor

/-
  The walk of the statement Ended: a template that is not taken.
-/
namespace Go.Proofs.YtfkhljmiehdgmaaGreatDoor
open Go.RowKit

/-- that the texts that are left out are none -/
structure EnP (s : ByteArray) : Prop where
  eq : s.data.toList.contains 61 = false
  len : s.size ≤ 1900
  last : s.data.toList.getLast? ≠ some 123
theorem EnP.out {s : ByteArray} (h : EnP s) : s.size = 0 ∨ ∃ j, s.size = j + 1 ∧ ∃ hj : j < s.size, s[j] ≠ 123 := by
  rcases Nat.eq_zero_or_pos s.size with hz | hz
  · exact .inl hz
  · obtain ⟨j, hj⟩ : ∃ j, s.size = j + 1 := ⟨s.size - 1, by omega⟩
    refine .inr ⟨j, hj, by omega, fun e => h.last ?_⟩
    rw [List.getLast?_eq_getElem?, show s.data.toList.length - 1 = j by simp; omega, get_byte s j (by omega), e]

set_option maxRecDepth 100000 in
set_option maxHeartbeats 6400000 in
theorem Ended_bad (HC : CompileC) (s : ByteArray) (w : World) (ht : PTabs w) (hm : MaxLenAt w) (hp : EnP s) (hf : (Pl.makeV s.data.toList []).2.code ≠ 0) :
    Calls Tryz.prog 4 #[.string s] w fun e w' => e = .returned (.bool true) ∧ Below w.heap.size w w' := by
  have HW := (show Hid _ from EnW.refl ht hm)
  have h1 := fun w ht hm => compile_bare HC ⟨#[60, 112, 62, 123, 123, 97, 125, 125]⟩ Pl.Ft.none w ht hm (by decide) enFirst_made
  rw [ftVal_none] at h1
  have H1 := (show Hid _ from h1)
  have hs : s.size ≤ 100000000 := by have := hp.len; omega
  have H2 := (show Hid _ from fun w => says_any s w (by unfold maxLen; omega))
  rw [hp.eq] at H2
  have hn : (61 : UInt8) ∉ s.data.toList := fun q => by
    have := List.contains_iff_mem.2 q
    rw [hp.eq] at this; cases this
  obtain ⟨f, hF⟩ : ∃ f, f = (Pl.makeV s.data.toList []).2 := ⟨_, rfl⟩
  have h3 := fun w ht hm => compile_bare HC s f w ht hm hn hF.symm
  have hal := Pl.make_alone s.data.toList
  rw [← hF] at hal hf
  have hal : f.code ≠ 0 ∧ f.place = [] ∧ f.pos ≤ s.data.toList.length := by
    rcases hal with e | e
    · rw [e] at hf; exact absurd rfl hf
    · exact e
  obtain ⟨c, k, pl, q⟩ := f
  obtain ⟨hc, hpl, hq⟩ := hal
  simp only at hc hpl hq
  subst hpl
  have hfv : ftVal ⟨c, k, [], q⟩ = .agg #[.int .i64 c, .int .i64 k, .string ⟨#[]⟩, .int .i64 q] := rfl
  rw [hfv] at h3
  have H3 := (show Hid _ from h3)
  have hc2 : ((c : Int) != 0) = true := by rw [bne_iff_ne]; omega
  have hq2 : (0 : Int) ≤ (q : Int) := by omega
  have hq3 : (q : Int) ≤ (s.size : Int) := by simp at hq; omega
  have HCc := (show Hid _ from hc)
  have hl2 : ¬ (1900 : Int) < (s.size : Int) := by have := hp.len; omega
  have hout := hp.out
  clear ht hm HC hs h1 hF h3 hfv hp hf hn hc hq
  have hp0 : Hid (s.size = 0 ∨ ∃ j, s.size = j + 1 ∧ ∃ hj : j < s.size, s[j] ≠ 123) := hout
  clear hout
  rcases hp0.out with h0 | ⟨j, hj, hjl, hb⟩
  · have hl3 : ¬ (0 : Int) < (s.size : Int) := by omega
    clear hp0 h0
    go_enter Tryz.func4, Tryz.ntmps4
    go_wp2_with (first
      | (fail_if_success (have hq := HW1.out)
         go_at_call 12; refine Calls.mono (H1.out _ HW.out.tabs HW.out.ml) ?_; rintro ed w1 ⟨⟨p, rfl, _, hp⟩, hb⟩
         obtain ⟨g, rfl⟩ := hp rfl
         have HW1 := (show Hid _ from HW.out.next hb)
         clear hb)
      | (go_at_call 13; refine Calls.mono (H2.out _) ?_; rintro ed w2 ⟨rfl, m, hw2⟩; have HW2 : Hid (EnW w w2) := (by rw [hw2]; exact (HW1.out.alloc _).drewN m); clear hw2))
    refine Calls.mono (H3.out _ HW2.out.tabs HW2.out.ml) ?_; rintro ed w3 ⟨⟨p, rfl, hp, _⟩, hb⟩
    obtain rfl := hp HCc.out
    have HW3 := (show Hid _ from HW2.out.next hb)
    clear hb
    go_wp2_with fail
    go_ret
    exact ⟨rfl, (HW3.out.alloc _).below⟩
  · have hl3 : (0 : Int) < (s.size : Int) := by omega
    have hl4 : (s.size : Int) - 1 = (j : Int) := by omega
    have hl5 : (j : Int) < (s.size : Int) := by omega
    have hl6 : j ≤ 1900 := by omega
    have hb2 : ((s[j].toNat : Int) == 123) = false := by
      rw [beq_eq_false_iff_ne]
      intro q
      exact hb (UInt8.toNat_inj.1 (by have h61 : (123 : UInt8).toNat = 123 := rfl; omega))
    clear hp0 hj hb
    go_enter Tryz.func4, Tryz.ntmps4
    go_wp2_with (first
      | (fail_if_success (have hq := HW1.out)
         go_at_call 12; refine Calls.mono (H1.out _ HW.out.tabs HW.out.ml) ?_; rintro ed w1 ⟨⟨p, rfl, _, hp⟩, hb⟩
         obtain ⟨g, rfl⟩ := hp rfl
         have HW1 := (show Hid _ from HW.out.next hb)
         clear hb)
      | (go_at_call 13; refine Calls.mono (H2.out _) ?_; rintro ed w2 ⟨rfl, m, hw2⟩; have HW2 : Hid (EnW w w2) := (by rw [hw2]; exact (HW1.out.alloc _).drewN m); clear hw2))
    refine Calls.mono (H3.out _ HW2.out.tabs HW2.out.ml) ?_; rintro ed w3 ⟨⟨p, rfl, hp, _⟩, hb⟩
    obtain rfl := hp HCc.out
    have HW3 := (show Hid _ from HW2.out.next hb)
    clear hb
    go_wp2_with fail
    go_ret
    exact ⟨rfl, (HW3.out.alloc _).below⟩

end Go.Proofs.YtfkhljmiehdgmaaGreatDoor

/-
  The walk of the statement Ended: a template that is taken.
-/
namespace Go.Proofs.YtfkhljmiehdgmaaGreatDoor
open Go.RowKit

/-- the tags that are tried, and their slips, in memory -/
structure EnT (w wr : World) (gT gK : Nat) : Prop where
  w : EnW w wr
  tails : ∀ (k : Nat) (u : List UInt8), Pl.tails[k]? = some u → wr.cell? ⟨gT, k, none⟩ = some (.string ⟨u.toArray⟩)
  kinds : ∀ (k K : Nat), Pl.tailKinds[k]? = some K → wr.cell? ⟨gK, k, none⟩ = some (.int .i64 (K : Nat))
theorem EnT.next {w wr w' : World} {gT gK : Nat} (h : EnT w wr gT gK) (hb : Below wr.heap.size wr w') : EnT w w' gT gK :=
  ⟨h.w.next hb, fun k u hu => (hb.cell (p := ⟨gT, k, none⟩) (World.block_lt_of_cell? _ _ (h.tails k u hu))).trans (h.tails k u hu), fun k K hK => (hb.cell (p := ⟨gK, k, none⟩) (World.block_lt_of_cell? _ _ (h.kinds k K hK))).trans (h.kinds k K hK)⟩
theorem EnT.alloc {w wr : World} {gT gK : Nat} (h : EnT w wr gT gK) (o : Obj) : EnT w (wr.alloc o) gT gK := h.next ((Below.refl _ _).alloc (Nat.le_refl _) o)
theorem EnT.drewN {w wr : World} {gT gK : Nat} (h : EnT w wr gT gK) (n : Nat) : EnT w (wr.drewN n) gT gK := h.next (below_drewN (Below.refl _ _) n)
theorem tails_plain : ∀ u ∈ Pl.tails, (61 : UInt8) ∉ u := by decide
theorem own_plain : ∀ k ∈ List.range 10, (61 : UInt8) ∉ Pl.ownName k ∧ (Pl.ownName k).length = 4 := by decide +kernel
def enMore : ByteArray := ⟨#[123, 123, 33, 32, 109, 111, 114, 101, 32, 125, 125, 123, 123, 97, 46, 98, 125, 125, 123, 123, 35, 97, 125, 125, 123, 123, 46, 125, 125, 60, 105, 62, 123, 123, 47, 97, 125, 125]⟩
theorem enMore_plain : (61 : UInt8) ∉ enMore.data.toList := by decide +kernel
theorem notIn_append {a b : List UInt8} {x : UInt8} (h : x ∉ a) (k : x ∉ b) : x ∉ a ++ b := fun q => (List.mem_append.1 q).elim h k
theorem cat_list (a b : ByteArray) : (a ++ b).data.toList = a.data.toList ++ b.data.toList := by simp

set_option maxRecDepth 100000 in
set_option maxHeartbeats 12800000 in
theorem Ended_good (HC : CompileC) (s : ByteArray) (w : World) (ht : PTabs w) (hm : MaxLenAt w) (hp : EnP s) (hf : (Pl.makeV s.data.toList []).2.code = 0) :
    Calls Tryz.prog 4 #[.string s] w fun e w' => e = .returned (.bool true) ∧ Below w.heap.size w w' := by
  have HW := (show Hid _ from EnW.refl ht hm)
  have h1 := fun w ht hm => compile_bare HC ⟨#[60, 112, 62, 123, 123, 97, 125, 125]⟩ Pl.Ft.none w ht hm (by decide) enFirst_made
  rw [ftVal_none] at h1
  have H1 := (show Hid _ from h1)
  have hs : s.size ≤ 100000000 := by have := hp.len; omega
  have H2 := (show Hid _ from fun w => says_any s w (by unfold maxLen; omega))
  have H7 := (show Hid _ from fun w => unsaid_any s w hs)
  rw [hp.eq] at H2
  have hn : (61 : UInt8) ∉ s.data.toList := fun q => by
    have := List.contains_iff_mem.2 q
    rw [hp.eq] at this; cases this
  have hF : (Pl.makeV s.data.toList []).2 = Pl.Ft.none := by
    rcases Pl.make_alone s.data.toList with e | e
    · exact e
    · exact absurd hf e.1
  have h3 := fun w ht hm => compile_bare HC s Pl.Ft.none w ht hm hn hF
  rw [ftVal_none] at h3
  have H3 := (show Hid _ from h3)
  have hlen : s.data.toList.length ≤ 1900 := by have := hp.len; simpa using this
  have hsz : s.data.toList.length = s.size := by simp
  have H4 : Hid (∀ (i : Nat) (u : List UInt8) (K : Nat), Pl.tails[i]? = some u → Pl.tailKinds[i]? = some K → ∀ w', PTabs w' → MaxLenAt w' → Calls Tryz.prog 12 #[.string (s ++ ⟨u.toArray⟩), .slice none 0 0] w' fun ed w2 => (ed = .returned (.tuple #[.pointer none, .agg #[.int .i64 2, .int .i64 (K : Nat), .string ⟨#[]⟩, .int .i64 s.size]])) ∧ Below w'.heap.size w' w2) := fun i u K hu hK w' ht' hm' => by
    have := compile_bare HC (s ++ ⟨u.toArray⟩) ⟨2, K, [], s.size⟩ w' ht' hm' (by rw [cat_list]; exact notIn_append hn (tails_plain u (List.mem_of_getElem? hu))) (by rw [cat_list, ← hsz]; exact Pl.make_tail hn hp.last hlen hf i u K hu hK)
    refine this.mono ?_
    rintro ed w2 ⟨⟨p, rfl, hp, _⟩, hb⟩
    rw [hp (by simp)]
    exact ⟨rfl, hb⟩
  have H5 : Hid (∀ (i : Nat) (u : List UInt8) (K : Nat), Pl.tails[i]? = some u → Pl.tailKinds[i]? = some K → ∀ (b : Nat) w', PTabs w' → MaxLenAt w' → w'.cell? ⟨b, 0, none⟩ = some (.string ⟨#[112]⟩) → w'.cell? ⟨b, 1, none⟩ = some (.string (s ++ ⟨u.toArray⟩)) → Calls Tryz.prog 12 #[.string ⟨#[45]⟩, .slice (some ⟨b, 0, none⟩) 1 1] w' fun ed w2 => (ed = .returned (.tuple #[.pointer none, .agg #[.int .i64 2, .int .i64 (K : Nat), .string ⟨#[112]⟩, .int .i64 s.size]])) ∧ Below w'.heap.size w' w2) := fun i u K hu hK b w' ht' hm' c0 c1 => by
    have := compile_one HC ⟨#[45]⟩ ⟨#[112]⟩ (s ++ ⟨u.toArray⟩) ⟨2, K, [112], s.size⟩ b w' ht' hm' (by decide) (by rw [cat_list]; exact notIn_append hn (tails_plain u (List.mem_of_getElem? hu))) (by rw [cat_list, ← hsz]; exact Pl.make_part hn hp.last hlen hf i u K hu hK) c0 c1
    refine this.mono ?_
    rintro ed w2 ⟨⟨p, rfl, hp, _⟩, hb⟩
    rw [hp (by simp)]
    exact ⟨rfl, hb⟩
  have h6 := fun w ht hm => compile_bare HC (s ++ enMore) Pl.Ft.none w ht hm (by rw [cat_list]; exact notIn_append hn enMore_plain) (by rw [cat_list]; exact Pl.make_more hn hp.last hlen hf)
  rw [ftVal_none] at h6
  unfold enMore at h6
  have H6 := (show Hid _ from h6)
  have h8 : ∀ (k : Nat), k < 10 → ¬ Pl.ownName k <:+: s.data.toList → ∀ (b : Nat) w', PTabs w' → MaxLenAt w' → w'.cell? ⟨b, 0, none⟩ = some (.string ⟨(Pl.ownName k).toArray⟩) → w'.cell? ⟨b, 1, none⟩ = some (.string s) → Calls Tryz.prog 12 #[.string ((⟨#[123, 123, 62]⟩ ++ ⟨(Pl.ownName k).toArray⟩) ++ ⟨#[125, 125]⟩), .slice (some ⟨b, 0, none⟩) 1 1] w' fun ed w2 => (∃ g, ed = .returned (.tuple #[.pointer (some ⟨g, 0, none⟩), .agg #[.int .i64 0, .int .i64 0, .string ⟨#[]⟩, .int .i64 0]])) ∧ Below w'.heap.size w' w2 := fun k hk hno b w' ht' hm' c0 c1 => by
    have hop := (own_plain k (List.mem_range.2 hk)).1
    have := compile_one HC ((⟨#[123, 123, 62]⟩ ++ ⟨(Pl.ownName k).toArray⟩) ++ ⟨#[125, 125]⟩) ⟨(Pl.ownName k).toArray⟩ s Pl.Ft.none b w' ht' hm' (by rw [cat_list, cat_list]; exact notIn_append (notIn_append (by decide) hop) (by decide)) hn (by rw [cat_list, cat_list]; exact Pl.make_own k hk hno hf) c0 c1
    rw [ftVal_none] at this
    refine this.mono ?_
    rintro ed w2 ⟨⟨p, rfl, _, hp⟩, hb⟩
    obtain ⟨g, rfl⟩ := hp rfl
    exact ⟨⟨g, rfl⟩, hb⟩
  have H8 := (show Hid _ from h8)
  have hl2 : ¬ (1900 : Int) < (s.size : Int) := by have := hp.len; omega
  have hl9 : (s.size : Int) ≤ 1900 := by have := hp.len; omega
  have hout := hp.out
  clear ht hm HC hs h1 hF h3 hp hf hn h6 h8 hlen hsz
  have hp0 : Hid (s.size = 0 ∨ ∃ j, s.size = j + 1 ∧ ∃ hj : j < s.size, s[j] ≠ 123) := hout
  clear hout
  rcases hp0.out with h0 | ⟨j, hj, hjl, hb⟩
  · have hl3 : ¬ (0 : Int) < (s.size : Int) := by omega
    clear hp0 h0
    go_enter Tryz.func4, Tryz.ntmps4
    go_wp2_with (first
      | (fail_if_success (have hq := HW1.out)
         go_at_call 12; refine Calls.mono (H1.out _ HW.out.tabs HW.out.ml) ?_; rintro ed w1 ⟨⟨p, rfl, _, hp⟩, hb⟩
         obtain ⟨g, rfl⟩ := hp rfl
         have HW1 := (show Hid _ from HW.out.next hb)
         clear hb)
      | (go_at_call 13; refine Calls.mono (H2.out _) ?_; rintro ed w2 ⟨rfl, m, hw2⟩; have HW2 : Hid (EnW w w2) := (by rw [hw2]; exact (HW1.out.alloc _).drewN m); clear hw2))
    refine Calls.mono (H3.out _ HW2.out.tabs HW2.out.ml) ?_; rintro ed w3 ⟨⟨p, rfl, _, hp⟩, hb⟩
    obtain ⟨g3, rfl⟩ := hp rfl
    have HW3 := (show Hid _ from HW2.out.next hb)
    clear hb hp HW HW1 HW2 H1 H2 H3
    go_wp2_with fail
    go_loopw [11] (fun i wr => ∃ k : Nat, k ≤ 5 ∧ i = .int .i64 k ∧ Hid (EnT w wr (w3.heap.size + 1) (w3.heap.size + 1 + 1))) (fun i _ => 5 - (intOf i).toNat)
    case atStart =>
      refine ⟨0, by omega, rfl, ⟨((HW3.out.alloc _).alloc _).alloc _, fun k u hu => ?_, fun k K hK => ?_⟩⟩
      · refine cells_at_block ((heap_alloc_old _ _ (by simp)).trans (heap_new_at (w3.alloc _) _ _ (by simp))) k _ ?_
        show (Pl.tails.map fun u => Value.string ⟨u.toArray⟩)[k]? = _
        rw [List.getElem?_map, hu]; rfl
      · refine cells_at_block (heap_new_at ((w3.alloc _).alloc _) _ _ (by simp)) k _ ?_
        show (Pl.tailKinds.map fun K => Value.int .i64 (K : Nat))[k]? = _
        rw [List.getElem?_map, hK]; rfl
    case round =>
      obtain ⟨k, hk, rfl, HT⟩ := hrel
      generalize w3.heap.size + 1 + 1 = gK at *
      generalize w3.heap.size + 1 = gT at *
      by_cases hlt : k < 5
      · obtain ⟨u, hu⟩ : ∃ u, Pl.tails[k]? = some u := ⟨_, List.getElem?_eq_getElem hlt⟩
        obtain ⟨K, hK⟩ : ∃ K, Pl.tailKinds[k]? = some K := ⟨_, List.getElem?_eq_getElem hlt⟩
        have HU := (show Hid _ from hu)
        have HK := (show Hid _ from hK)
        have t1 := HT.out.tails k u hu
        have hlt2 : (k : Int) < 5 := by omega
        have hul : u.length ≤ 6 := by
          have : ∀ u ∈ Pl.tails, u.length ≤ 6 := by decide
          exact this u (List.mem_of_getElem? hu)
        have hul2 : ((⟨u.toArray⟩ : ByteArray).size : Int) ≤ 6 := by simp [ByteArray.size]; omega
        clear hu hK hlt hul
        go_wp2_with fail
        refine Calls.mono (H4.out k u K HU.out HK.out _ HT.out.w.tabs HT.out.w.ml) ?_; rintro ed w5 ⟨rfl, hb5⟩
        have HT5 := (show Hid _ from HT.out.next hb5)
        have t5 : ∀ o, (w5.alloc o).cell? ⟨gT, k, none⟩ = some (.string ⟨u.toArray⟩) := fun o => (HT5.out.alloc o).tails k u HU.out
        clear hb5 t1
        go_wp2_with fail
        refine Calls.mono (H5.out k u K HU.out HK.out _ _ ((HT5.out.alloc _).alloc _).w.tabs ((HT5.out.alloc _).alloc _).w.ml (cells_at_block (heap_new_at (w5.alloc _) _ _ (by simp)) 0 _ rfl) (cells_at_block (heap_new_at (w5.alloc _) _ _ (by simp)) 1 _ rfl)) ?_; rintro ed w6 ⟨rfl, hb6⟩
        have HT6 := (show Hid _ from ((HT5.out.alloc _).alloc _).next hb6)
        have hF1 : w6.heap[w5.heap.size]? = some (.cells #[.int .i64 2, .int .i64 (K : Nat), .string ⟨#[]⟩, .int .i64 s.size] 31 (0, 0)) := (hb6.block _ (by simp; omega)).trans ((heap_alloc_old _ _ (by simp)).trans (heap_alloc_new _ _))
        have hne : w5.heap.size < w6.heap.size := (Array.getElem?_eq_some_iff.1 hF1).1
        have f0 : ∀ o, (w6.alloc o).cell? ⟨w5.heap.size, 0, none⟩ = some (.int .i64 2) := fun o => cells_at_block ((heap_alloc_old w6 o hne).trans hF1) 0 _ rfl
        have f1 : ∀ o, (w6.alloc o).cell? ⟨w5.heap.size, 1, none⟩ = some (.int .i64 (K : Nat)) := fun o => cells_at_block ((heap_alloc_old w6 o hne).trans hF1) 1 _ rfl
        have f2 : ∀ o, (w6.alloc o).cell? ⟨w5.heap.size, 2, none⟩ = some (.string ⟨#[]⟩) := fun o => cells_at_block ((heap_alloc_old w6 o hne).trans hF1) 2 _ rfl
        have f3 : ∀ o, (w6.alloc o).cell? ⟨w5.heap.size, 3, none⟩ = some (.int .i64 s.size) := fun o => cells_at_block ((heap_alloc_old w6 o hne).trans hF1) 3 _ rfl
        have k1 : ∀ o, (w6.alloc o).cell? ⟨gK, k, none⟩ = some (.int .i64 (K : Nat)) := fun o => (HT6.out.alloc o).kinds k K HK.out
        clear hb6 t5 hF1 hne
        generalize w5.heap.size = E5 at *
        go_wp2_with fail
        go_quiet (fail)
        go_wp2_with fail
        go_roundw
        case rel => exact ⟨k + 1, by omega, by go_num, (HT6.out.alloc _).drewN _⟩
        case measure => simp [intOf]; omega
      · obtain rfl : k = 5 := by omega
        go_wp2_with fail
        refine Calls.mono (H6.out _ HT.out.w.tabs HT.out.w.ml) ?_; rintro ed w7 ⟨⟨p, rfl, _, hp⟩, hb⟩
        obtain ⟨g7, rfl⟩ := hp rfl
        have HT7 := (show Hid _ from HT.out.next hb)
        clear hb hp
        go_wp2_with (go_at_call 14; refine Calls.mono (H7.out _) ?_; rintro ed w8 ⟨hun, hb⟩; have HT8 := (show Hid _ from (HT7.out.alloc _).next hb); clear hb; rcases hun with ⟨k8, hk8, rfl, hno⟩ | rfl)
        · obtain ⟨N, hN⟩ : ∃ N : ByteArray, N = ⟨(Pl.ownName k8).toArray⟩ := ⟨_, rfl⟩
          have hN4 : (N.size : Int) = 4 := by rw [hN]; rfl
          have h8 := H8.out k8 hk8 hno
          rw [← hN] at h8 ⊢
          have H9 := (show Hid _ from h8)
          clear h8 hno hN H8
          go_wp2_with fail
          refine Calls.mono (H9.out _ _ (HT8.out.alloc _).w.tabs (HT8.out.alloc _).w.ml (cells_at_block (heap_alloc_new _ _) 0 _ rfl) (cells_at_block (heap_alloc_new _ _) 1 _ rfl)) ?_; rintro ed w9 ⟨⟨g9, rfl⟩, hb⟩
          have HT9 := (show Hid _ from (HT8.out.alloc _).next hb)
          clear hb
          go_wp2_with fail
          go_ret
          exact ⟨rfl, (HT9.out.alloc _).w.below⟩
        · go_wp2_with fail
          go_ret
          exact ⟨rfl, HT8.out.w.below⟩
  · have hl3 : (0 : Int) < (s.size : Int) := by omega
    have hl4 : (s.size : Int) - 1 = (j : Int) := by omega
    have hl5 : (j : Int) < (s.size : Int) := by omega
    have hl6 : j ≤ 1900 := by omega
    have hb2 : ((s[j].toNat : Int) == 123) = false := by
      rw [beq_eq_false_iff_ne]
      intro q
      exact hb (UInt8.toNat_inj.1 (by have h61 : (123 : UInt8).toNat = 123 := rfl; omega))
    clear hp0 hj hb
    go_enter Tryz.func4, Tryz.ntmps4
    go_wp2_with (first
      | (fail_if_success (have hq := HW1.out)
         go_at_call 12; refine Calls.mono (H1.out _ HW.out.tabs HW.out.ml) ?_; rintro ed w1 ⟨⟨p, rfl, _, hp⟩, hb⟩
         obtain ⟨g, rfl⟩ := hp rfl
         have HW1 := (show Hid _ from HW.out.next hb)
         clear hb)
      | (go_at_call 13; refine Calls.mono (H2.out _) ?_; rintro ed w2 ⟨rfl, m, hw2⟩; have HW2 : Hid (EnW w w2) := (by rw [hw2]; exact (HW1.out.alloc _).drewN m); clear hw2))
    refine Calls.mono (H3.out _ HW2.out.tabs HW2.out.ml) ?_; rintro ed w3 ⟨⟨p, rfl, _, hp⟩, hb⟩
    obtain ⟨g3, rfl⟩ := hp rfl
    have HW3 := (show Hid _ from HW2.out.next hb)
    clear hb hp HW HW1 HW2 H1 H2 H3
    go_wp2_with fail
    go_loopw [11] (fun i wr => ∃ k : Nat, k ≤ 5 ∧ i = .int .i64 k ∧ Hid (EnT w wr (w3.heap.size + 1) (w3.heap.size + 1 + 1))) (fun i _ => 5 - (intOf i).toNat)
    case atStart =>
      refine ⟨0, by omega, rfl, ⟨((HW3.out.alloc _).alloc _).alloc _, fun k u hu => ?_, fun k K hK => ?_⟩⟩
      · refine cells_at_block ((heap_alloc_old _ _ (by simp)).trans (heap_new_at (w3.alloc _) _ _ (by simp))) k _ ?_
        show (Pl.tails.map fun u => Value.string ⟨u.toArray⟩)[k]? = _
        rw [List.getElem?_map, hu]; rfl
      · refine cells_at_block (heap_new_at ((w3.alloc _).alloc _) _ _ (by simp)) k _ ?_
        show (Pl.tailKinds.map fun K => Value.int .i64 (K : Nat))[k]? = _
        rw [List.getElem?_map, hK]; rfl
    case round =>
      obtain ⟨k, hk, rfl, HT⟩ := hrel
      generalize w3.heap.size + 1 + 1 = gK at *
      generalize w3.heap.size + 1 = gT at *
      by_cases hlt : k < 5
      · obtain ⟨u, hu⟩ : ∃ u, Pl.tails[k]? = some u := ⟨_, List.getElem?_eq_getElem hlt⟩
        obtain ⟨K, hK⟩ : ∃ K, Pl.tailKinds[k]? = some K := ⟨_, List.getElem?_eq_getElem hlt⟩
        have HU := (show Hid _ from hu)
        have HK := (show Hid _ from hK)
        have t1 := HT.out.tails k u hu
        have hlt2 : (k : Int) < 5 := by omega
        have hul : u.length ≤ 6 := by
          have : ∀ u ∈ Pl.tails, u.length ≤ 6 := by decide
          exact this u (List.mem_of_getElem? hu)
        have hul2 : ((⟨u.toArray⟩ : ByteArray).size : Int) ≤ 6 := by simp [ByteArray.size]; omega
        clear hu hK hlt hul
        go_wp2_with fail
        refine Calls.mono (H4.out k u K HU.out HK.out _ HT.out.w.tabs HT.out.w.ml) ?_; rintro ed w5 ⟨rfl, hb5⟩
        have HT5 := (show Hid _ from HT.out.next hb5)
        have t5 : ∀ o, (w5.alloc o).cell? ⟨gT, k, none⟩ = some (.string ⟨u.toArray⟩) := fun o => (HT5.out.alloc o).tails k u HU.out
        clear hb5 t1
        go_wp2_with fail
        refine Calls.mono (H5.out k u K HU.out HK.out _ _ ((HT5.out.alloc _).alloc _).w.tabs ((HT5.out.alloc _).alloc _).w.ml (cells_at_block (heap_new_at (w5.alloc _) _ _ (by simp)) 0 _ rfl) (cells_at_block (heap_new_at (w5.alloc _) _ _ (by simp)) 1 _ rfl)) ?_; rintro ed w6 ⟨rfl, hb6⟩
        have HT6 := (show Hid _ from ((HT5.out.alloc _).alloc _).next hb6)
        have hF1 : w6.heap[w5.heap.size]? = some (.cells #[.int .i64 2, .int .i64 (K : Nat), .string ⟨#[]⟩, .int .i64 s.size] 31 (0, 0)) := (hb6.block _ (by simp; omega)).trans ((heap_alloc_old _ _ (by simp)).trans (heap_alloc_new _ _))
        have hne : w5.heap.size < w6.heap.size := (Array.getElem?_eq_some_iff.1 hF1).1
        have f0 : ∀ o, (w6.alloc o).cell? ⟨w5.heap.size, 0, none⟩ = some (.int .i64 2) := fun o => cells_at_block ((heap_alloc_old w6 o hne).trans hF1) 0 _ rfl
        have f1 : ∀ o, (w6.alloc o).cell? ⟨w5.heap.size, 1, none⟩ = some (.int .i64 (K : Nat)) := fun o => cells_at_block ((heap_alloc_old w6 o hne).trans hF1) 1 _ rfl
        have f2 : ∀ o, (w6.alloc o).cell? ⟨w5.heap.size, 2, none⟩ = some (.string ⟨#[]⟩) := fun o => cells_at_block ((heap_alloc_old w6 o hne).trans hF1) 2 _ rfl
        have f3 : ∀ o, (w6.alloc o).cell? ⟨w5.heap.size, 3, none⟩ = some (.int .i64 s.size) := fun o => cells_at_block ((heap_alloc_old w6 o hne).trans hF1) 3 _ rfl
        have k1 : ∀ o, (w6.alloc o).cell? ⟨gK, k, none⟩ = some (.int .i64 (K : Nat)) := fun o => (HT6.out.alloc o).kinds k K HK.out
        clear hb6 t5 hF1 hne
        generalize w5.heap.size = E5 at *
        go_wp2_with fail
        go_quiet (fail)
        go_wp2_with fail
        go_roundw
        case rel => exact ⟨k + 1, by omega, by go_num, (HT6.out.alloc _).drewN _⟩
        case measure => simp [intOf]; omega
      · obtain rfl : k = 5 := by omega
        go_wp2_with fail
        refine Calls.mono (H6.out _ HT.out.w.tabs HT.out.w.ml) ?_; rintro ed w7 ⟨⟨p, rfl, _, hp⟩, hb⟩
        obtain ⟨g7, rfl⟩ := hp rfl
        have HT7 := (show Hid _ from HT.out.next hb)
        clear hb hp
        go_wp2_with (go_at_call 14; refine Calls.mono (H7.out _) ?_; rintro ed w8 ⟨hun, hb⟩; have HT8 := (show Hid _ from (HT7.out.alloc _).next hb); clear hb; rcases hun with ⟨k8, hk8, rfl, hno⟩ | rfl)
        · obtain ⟨N, hN⟩ : ∃ N : ByteArray, N = ⟨(Pl.ownName k8).toArray⟩ := ⟨_, rfl⟩
          have hN4 : (N.size : Int) = 4 := by rw [hN]; rfl
          have h8 := H8.out k8 hk8 hno
          rw [← hN] at h8 ⊢
          have H9 := (show Hid _ from h8)
          clear h8 hno hN H8
          go_wp2_with fail
          refine Calls.mono (H9.out _ _ (HT8.out.alloc _).w.tabs (HT8.out.alloc _).w.ml (cells_at_block (heap_alloc_new _ _) 0 _ rfl) (cells_at_block (heap_alloc_new _ _) 1 _ rfl)) ?_; rintro ed w9 ⟨⟨g9, rfl⟩, hb⟩
          have HT9 := (show Hid _ from (HT8.out.alloc _).next hb)
          clear hb
          go_wp2_with fail
          go_ret
          exact ⟨rfl, (HT9.out.alloc _).w.below⟩
        · go_wp2_with fail
          go_ret
          exact ⟨rfl, HT8.out.w.below⟩

end Go.Proofs.YtfkhljmiehdgmaaGreatDoor

/-
  The walk of the statement Ended, whatever the text.
-/
namespace Go.Proofs.YtfkhljmiehdgmaaGreatDoor
open Go.RowKit

theorem Ended_any (HC : CompileC) (s : ByteArray) (w : World) (ht : PTabs w) (hm : MaxLenAt w) (hs : s.size ≤ maxLen) :
    Calls Tryz.prog 4 #[.string s] w fun e w' => e = .returned (.bool true) ∧ Below w.heap.size w w' := by
  by_cases h1 : s.data.toList.contains 61 = true
  · exact Ended_odd HC s w ht hm hs h1
  have h1 : s.data.toList.contains 61 = false := Bool.eq_false_iff.2 h1
  by_cases h2 : 1900 < s.size
  · exact Ended_long HC s w ht hm hs h1 h2
  by_cases h3 : s.data.toList.getLast? = some 123
  · have hz : s.data.toList.length = s.size := by simp
    have hpos : s.size ≠ 0 := fun q => by
      have : s.data.toList = [] := List.eq_nil_of_length_eq_zero (by rw [hz, q])
      rw [this] at h3; cases h3
    obtain ⟨j, hj⟩ : ∃ j, s.size = j + 1 := ⟨s.size - 1, by omega⟩
    have hb : s[j] = 123 := by
      rw [List.getLast?_eq_getElem?, hz, show s.size - 1 = j by omega, get_byte s j (by omega)] at h3
      exact Option.some.inj h3
    exact Ended_brace HC s w ht hm hs h1 (by omega) j hj hb
  have hp : EnP s := ⟨h1, by omega, h3⟩
  by_cases h4 : (Pl.makeV s.data.toList []).2.code = 0
  · exact Ended_good HC s w ht hm hp h4
  · exact Ended_bad HC s w ht hm hp h4

end Go.Proofs.YtfkhljmiehdgmaaGreatDoor

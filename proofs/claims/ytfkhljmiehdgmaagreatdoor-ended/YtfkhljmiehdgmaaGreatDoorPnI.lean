/-
  What is behind a partial: a new end.
-/
import Derived.Test.YtfkhljmiehdgmaaGreatDoorMhQ
import Derived.Deep.DeepCutAuto
namespace Go.Proofs.YtfkhljmiehdgmaaGreatDoor
open Go.RowKit

set_option maxRecDepth 100000 in
set_option maxHeartbeats 6400000 in
theorem behind_new (HB : BehindC) (S : List Pl.Src) (hS : SrcsOk S) (k : Nat) (HC : BehC S k) (w : World) (B : Nat) (F : Fix) (vv : Value) (s : Pl.Sr) (n : List UInt8) (x : Pl.Sx) (h : SeAt w B F S vv s) (ho : Pl.EndsOk S.length s.ends) (hx : Pl.SxFit x) (hn : n.length ≤ 2000) (hB : B ≤ w.heap.size) (ht : TabB B w) (h0 : Pl.placeOf S n ≠ 0) (hy : Pl.getKey s.ends (Pl.placeOf S n, x) = none) (hk : 257 ≤ s.ends.length + (k + 1)) (hf : ¬ s.ends.length = 256) (r : Pl.Sr × Pl.Sx) (hr : Pl.walkV (Pl.behV S k) (Pl.partsAt S (Pl.placeOf S n)) ((Pl.partsAt S (Pl.placeOf S n)).length + 1) 0 { s with ends := Pl.putKey s.ends (Pl.placeOf S n, x) Pl.Sx.none } x = r) :
    Calls Tryz.prog 156 #[.pointer (some ⟨F.g, 0, none⟩), .string ⟨n.toArray⟩, sxVal x] w fun ed w' => ed = .returned (sxVal r.2) ∧ SeAt w' B F S vv { r.1 with ends := Pl.putKey r.1.ends (Pl.placeOf S n, x) r.2 } ∧ Cue B F w w' := by
  have hpl := Pl.placeOf_lt S n h0
  have hlen : (Pl.putKey s.ends (Pl.placeOf S n, x) Pl.Sx.none).length = s.ends.length + 1 := by rw [Pl.putKey_new hy]; simp
  have ho1 : Pl.EndsOk S.length (Pl.putKey s.ends (Pl.placeOf S n, x) Pl.Sx.none) := Pl.endsOk_put ho ⟨hx, hpl⟩ Pl.none_end (by have := ho.few; omega)
  have hwk := Pl.walkV_ok (Pl.behV_ok S k (s.ends.length + 1) (by omega)) (Pl.partsAt S (Pl.placeOf S n)) ((Pl.partsAt S (Pl.placeOf S n)).length + 1) 0 { s with ends := Pl.putKey s.ends (Pl.placeOf S n, x) Pl.Sx.none } x ho1 (by show s.ends.length + 1 ≤ (Pl.putKey _ _ _).length; omega) (.inr hx)
  rw [hr] at hwk
  have HWalk := fun (w5 : World) (h5 : SeAt w5 B F S vv { s with ends := Pl.putKey s.ends (Pl.placeOf S n, x) Pl.Sx.none }) (hb5 : B ≤ w5.heap.size) (ht5 : TabB B w5) => walk_any HB S hS k HC w5 B F vv _ (Pl.placeOf S n, x) h5 ho1 (by show 257 ≤ (Pl.putKey _ _ _).length + k; omega) hx hpl.2 hb5 ht5
  simp only [hr] at HWalk
  have b1 : ∀ o o', ((w.alloc o).alloc o').cell? ⟨F.g, 1, none⟩ = some (.map (some F.bp)) := fun o o' => ((h.alloc o).alloc o').cell 1 _ rfl
  have b2 : ∀ o o' o'', (((w.alloc o).alloc o').alloc o'').cell? ⟨F.g, 1, none⟩ = some (.map (some F.bp)) := fun o o' o'' => (((h.alloc o).alloc o').alloc o'').cell 1 _ rfl
  have l1 := fun o o' => ((h.alloc o).alloc o').drew.place hS n (by omega)
  have l2 := fun o o' o'' => (((h.alloc o).alloc o').alloc o'').drew.place hS n (by omega)
  have hi6 : Pl.placeOf S n ≤ 6 := by have := Pl.placeOf_lt S n h0; have := hS.few; omega
  have HI := (show Hid _ from behind_begin (x := x) h hB ht (Pl.placeOf S n))
  generalize hi : Pl.placeOf S n = i at *
  have HO1 := (show Hid _ from ho1)
  have HWK := (show Hid _ from hwk)
  clear ho1 hwk hlen
  have i0 : ((i : Int) == 0) = false := by rw [beq_eq_false_iff_ne]; omega
  generalize (⟨n.toArray⟩ : ByteArray) = N at l1 l2 ⊢
  rw [none_cells'] at HI
  unfold enCells sxCells bs at HI
  simp only [enVal_cells] at HWalk
  unfold sxVal enCells sxCells bs at HWalk
  unfold sxVal sxCells bs
  have HW := (show Hid _ from HWalk)
  clear h HWalk hr
  have HY := (show Hid _ from hy)
  clear hy
  go_enter Tryz.func156, Tryz.ntmps156
  go_wp2_with fail
  go_region
  go_wp2_with fail
  clear b1 b2 l1 l2
  generalize World.drew _ = w3 at HI ⊢
  have l3 := HI.out.se.drew.look hS ho (i, x) hx hi6 true
  have l4 := fun o => (HI.out.se.alloc o).drew.look hS ho (i, x) hx hi6 true
  rw [HY.out] at l3 l4
  have b1 : w3.cell? ⟨F.g, 2, none⟩ = some (.map (some F.be)) := HI.out.se.cell 2 _ rfl
  have b2 : ∀ o, (w3.alloc o).cell? ⟨F.g, 2, none⟩ = some (.map (some F.be)) := fun o => (HI.out.se.alloc o).cell 2 _ rfl
  have he := ent_cell HI.out.ent
  have hg := fun o => ent_cell (HI.out.alloc o).ent
  unfold enCells bs at he hg
  have hq := fun o => (HI.out.alloc o).res
  have m0 := he 0 _ rfl
  have m1 := he 1 _ rfl
  have m2 := he 2 _ rfl
  have m3 := he 3 _ rfl
  have m4 := he 4 _ rfl
  have m5 := he 5 _ rfl
  have m6 := he 6 _ rfl
  have m7 := he 7 _ rfl
  have m8 := he 8 _ rfl
  have m9 := he 9 _ rfl
  have m10 := he 10 _ rfl
  have n0 := fun o => hg o 0 _ rfl
  have n1 := fun o => hg o 1 _ rfl
  have n2 := fun o => hg o 2 _ rfl
  have n3 := fun o => hg o 3 _ rfl
  have n4 := fun o => hg o 4 _ rfl
  have n5 := fun o => hg o 5 _ rfl
  have n6 := fun o => hg o 6 _ rfl
  have n7 := fun o => hg o 7 _ rfl
  have n8 := fun o => hg o 8 _ rfl
  have n9 := fun o => hg o 9 _ rfl
  have n10 := fun o => hg o 10 _ rfl
  clear he hg hq
  simp only [Option.getD_none, Option.isSome_none, if_true, enVal_cells] at l3 l4
  unfold sxVal enCells at l3 l4
  simp only [none_cells'] at l3 l4
  unfold bs at l3 l4
  go_region
  have H4 := (show Hid _ from (HI.out.alloc (.cells (sxCells Pl.Sx.none) 162)).drew)
  rw [none_cells'] at H4
  clear l3 l4 b1 b2 m0 m1 m2 m3 m4 m5 m6 m7 m8 m9 m10 n0 n1 n2 n3 n4 n5 n6 n7 n8 n9 n10
  generalize World.drew _ = w4 at H4 ⊢
  have hl := H4.out.se.len
  have hlf : ((s.ends.length : Int) == 256) = false := by rw [beq_eq_false_iff_ne]; omega
  generalize (s.ends.length : Int) = L at hl hlf
  have b1 : w4.cell? ⟨F.g, 2, none⟩ = some (.map (some F.be)) := H4.out.se.cell 2 _ rfl
  have he := ent_cell H4.out.ent
  obtain ⟨w5, hrun5, hse5, hcu5, _⟩ := H4.out.se.drew.store hS ho (i, x) hx hi6 Pl.Sx.none
  simp only [enVal_cells] at hrun5
  unfold sxVal enCells at hrun5
  rw [none_cells'] at hrun5
  unfold enCells bs at he
  unfold bs at hrun5
  simp only at hrun5
  have m0 := he 0 _ rfl
  have m1 := he 1 _ rfl
  have m2 := he 2 _ rfl
  have m3 := he 3 _ rfl
  have m4 := he 4 _ rfl
  have m5 := he 5 _ rfl
  have m6 := he 6 _ rfl
  have m7 := he 7 _ rfl
  have m8 := he 8 _ rfl
  have m9 := he 9 _ rfl
  have m10 := he 10 _ rfl
  clear he
  have H5 := (show Hid _ from H4.out.drew.turn hse5 hcu5)
  clear hse5 hcu5
  go_wp2_with fail
  go_region
  clear hrun5 b1 m0 m1 m2 m3 m4 m5 m6 m7 m8 m9 m10 hl hlf
  have b1 : w5.cell? ⟨F.g, 2, none⟩ = some (.map (some F.be)) := H5.out.se.cell 2 _ rfl
  have he := ent_cell H5.out.ent
  unfold enCells bs at he
  have m0 := he 0 _ rfl
  have m1 := he 1 _ rfl
  have m2 := he 2 _ rfl
  have m3 := he 3 _ rfl
  have m4 := he 4 _ rfl
  have m5 := he 5 _ rfl
  have m6 := he 6 _ rfl
  have m7 := he 7 _ rfl
  have m8 := he 8 _ rfl
  have m9 := he 9 _ rfl
  have m10 := he 10 _ rfl
  clear he
  go_wp2_with fail
  have H6 := (show Hid _ from fun (w6 : World) (hse : SeAt w6 B F S vv r.1) (hcu : Cue B F w5.drew w6) => (H5.out.drew).turn hse hcu)
  go_cut [] (fun wx => Hid (Bhi w wx B F S vv { r.1 with ends := Pl.putKey r.1.ends (i, x) r.2 } (w.heap.size + 1 + 1) (w.heap.size + 1) (i, x) Pl.Sx.none))
  case first =>
    go_region_with (first
      | (go_at_call 112; refine (HW.out _ H5.out.drew.se (Nat.le_trans H5.out.old.2 H5.out.drew.cue.below.size) H5.out.drew.tabs).mono ?_; rintro e w6 ⟨rfl, hse6, hcu6⟩
         have HH6 := (show Hid _ from H6.out w6 hse6 hcu6)
         obtain ⟨w7, hrun7, hse7, hcu7, _⟩ := hse6.store hS HWK.out.1.ok (i, x) hx hi6 r.2
         have HH7 := (show Hid _ from HH6.out.turn hse7 hcu7)
         simp only [enVal_cells] at hrun7
         unfold sxVal enCells sxCells bs at hrun7
         simp only at hrun7
         have b2 : w6.cell? ⟨F.g, 2, none⟩ = some (.map (some F.be)) := HH6.out.se.cell 2 _ rfl
         have he := ent_cell HH6.out.ent
         unfold enCells bs at he
         have n0 := he 0 _ rfl
         have n1 := he 1 _ rfl
         have n2 := he 2 _ rfl
         have n3 := he 3 _ rfl
         have n4 := he 4 _ rfl
         have n5 := he 5 _ rfl
         have n6 := he 6 _ rfl
         have n7 := he 7 _ rfl
         have n8 := he 8 _ rfl
         have n9 := he 9 _ rfl
         have n10 := he 10 _ rfl
         clear he hse6 hcu6 hse7 hcu7))
    all_goals
      go_wp2_with fail
      go_meet
      case rel => exact HH7.out
  case rest =>
    have HC0 := hcut
    clear hcut
    have hget : Pl.getKey (Pl.putKey r.1.ends (i, x) r.2) (i, x) = some r.2 := by rw [Pl.getKey_put, if_pos rfl]
    have hhas : Pl.getKey r.1.ends (i, x) ≠ none := HWK.out.1.has _ (by show Pl.getKey (Pl.putKey _ _ _) _ ≠ _; rw [Pl.getKey_put, if_pos rfl]; simp)
    have ho2 : Pl.EndsOk S.length (Pl.putKey r.1.ends (i, x) r.2) := Pl.endsOk_put HWK.out.1.ok ⟨hx, hpl⟩ HWK.out.2 (by rw [Pl.putKey_len, if_neg hhas]; exact HWK.out.1.ok.few)
    have l5 := HC0.out.se.drew.look hS ho2 (i, x) hx hi6 false
    simp only [hget, Option.getD_some, Bool.false_eq_true, if_false, enVal_cells] at l5
    unfold sxVal enCells sxCells bs at l5
    simp only at l5
    have b2 : wc.cell? ⟨F.g, 2, none⟩ = some (.map (some F.be)) := HC0.out.se.cell 2 _ rfl
    have he := ent_cell HC0.out.ent
    unfold enCells bs at he
    have hr := HC0.out.res
    have n0 := he 0 _ rfl
    have n1 := he 1 _ rfl
    have n2 := he 2 _ rfl
    have n3 := he 3 _ rfl
    have n4 := he 4 _ rfl
    have n5 := he 5 _ rfl
    have n6 := he 6 _ rfl
    have n7 := he 7 _ rfl
    have n8 := he 8 _ rfl
    have n9 := he 9 _ rfl
    have n10 := he 10 _ rfl
    have r0 := hr.at'.mode
    have r1 := hr.at'.name
    have r2 := hr.at'.elem
    have r3 := hr.at'.kind
    have r4 := hr.at'.read
    have r5 := hr.at'.ref
    have r6 := hr.at'.esc
    have r7 := hr.at'.hex
    have r8 := hr.at'.pct
    have r9 := hr.at'.far
    have f0 := hr.slot.thaw 0
    have f1 := hr.slot.thaw 1
    have f2 := hr.slot.thaw 2
    have f3 := hr.slot.thaw 3
    have f4 := hr.slot.thaw 4
    have f5 := hr.slot.thaw 5
    have f6 := hr.slot.thaw 6
    have f7 := hr.slot.thaw 7
    have f8 := hr.slot.thaw 8
    have f9 := hr.slot.thaw 9
    have HF := (show Hid _ from (HC0.out.set r.2).drew)
    unfold set10 at HF
    clear he hr hget hhas ho2
    go_wp2_with fail
    go_region
    go_wp2_with fail
    refine HF.out.post ?_ ?_
    · rfl
    · rfl

end Go.Proofs.YtfkhljmiehdgmaaGreatDoor

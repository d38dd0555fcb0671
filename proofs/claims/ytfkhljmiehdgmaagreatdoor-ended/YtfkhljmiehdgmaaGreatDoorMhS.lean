/-
  Several texts laid together: each opens with its own remark.
-/
import Derived.Test.YtfkhljmiehdgmaaGreatDoorMhL
import Derived.Test.YtfkhljmiehdgmaaGreatDoorMhE
import Derived.Test.YtfkhljmiehdgmaaGreatDoorPgTabs
import Derived.Test.YtfkhljmiehdgmaaGreatDoorWalkA
import Derived.RegionTactic
import Derived.BigRegion
import Derived.Deep.RegionWith
import Derived.BigQuiet
import Derived.Deep.QuietTactic
import Derived.Test.YtfkhljmiehdgmaaGreatDoorMhF
import Derived.Test.YtfkhljmiehdgmaaGreatDoorMhQ
import Derived.Test.YtfkhljmiehdgmaaGreatDoorMhN
import Derived.Test.YtfkhljmiehdgmaaGreatDoorMhM

/-
  The walks of package plan: whether partials may be handed in.
-/
namespace Go.Proofs.YtfkhljmiehdgmaaGreatDoor
open Go.RowKit

namespace Pl
theorem argsOk_iff : ∀ N : List (List UInt8), argsOk N = true ↔ ∀ (i : Nat) (x : List UInt8), N[i]? = some x → isIdent x = true ∧ ∀ j : Nat, j < i → N[j]? ≠ some x
  | [] => by simp [argsOk]
  | n :: l => by
    unfold argsOk
    simp only [Bool.and_eq_true, Bool.not_eq_true', argsOk_iff l]
    constructor
    · rintro ⟨h1, h2, h3⟩ i x hx
      cases i with
      | zero =>
        simp only [List.getElem?_cons_zero, Option.some.injEq] at hx
        subst hx
        exact ⟨h1, fun j hj => absurd hj (Nat.not_lt_zero _)⟩
      | succ i =>
        simp only [List.getElem?_cons_succ] at hx
        refine ⟨(h3 i x hx).1, fun j hj => ?_⟩
        cases j with
        | zero =>
          simp only [List.getElem?_cons_zero, ne_eq, Option.some.injEq]
          rintro rfl
          have : l.contains n = true := List.contains_iff_mem.2 (List.mem_of_getElem? hx)
          rw [this] at h2; cases h2
        | succ j =>
          simp only [List.getElem?_cons_succ]
          exact (h3 i x hx).2 j (by omega)
    · intro h
      refine ⟨(h 0 n rfl).1, ?_, fun i x hx => ⟨(h (i + 1) x (by simpa using hx)).1, fun j hj => ?_⟩⟩
      · rw [Bool.eq_false_iff]
        intro q
        obtain ⟨i, hi⟩ := List.getElem?_of_mem (List.contains_iff_mem.1 q)
        exact (h (i + 1) n (by simpa using hi)).2 0 (by omega) rfl
      · have := (h (i + 1) x (by simpa using hx)).2 (j + 1) (by omega)
        simpa using this
end Pl

/-- partials in memory -/
structure PsAt (w : World) (b : Nat) (L : List (ByteArray × ByteArray)) : Prop where
  name : ∀ k x, L[k]? = some x → w.cell? ⟨b, k * 2, none⟩ = some (.string x.1)
  text : ∀ k x, L[k]? = some x → w.cell? ⟨b, k * 2 + 1, none⟩ = some (.string x.2)
def namesOf (L : List (ByteArray × ByteArray)) : List (List UInt8) := L.map fun x => x.1.data.toList

theorem bytes_ne {a b : ByteArray} (h : a ≠ b) : (a.toList == b.toList) = false := by
  rw [beq_eq_false_iff_ne, ByteArray.toList_eq, ByteArray.toList_eq]
  exact fun q => h (ByteArray.ext (Array.toList_inj.1 q))
theorem namesOf_at {L : List (ByteArray × ByteArray)} {k : Nat} {x : List UInt8} (h : (namesOf L)[k]? = some x) : ∃ y, L[k]? = some y ∧ y.1.data.toList = x := by
  unfold namesOf at h
  rw [List.getElem?_map] at h
  obtain ⟨y, h1, h2⟩ := Option.map_eq_some_iff.1 h
  exact ⟨y, h1, h2⟩

set_option maxRecDepth 100000 in
set_option maxHeartbeats 3200000 in
theorem areArgs_none (ao : Option Addr) (cap : Nat) (w : World) :
    Calls Tryz.prog 43 #[.slice ao 0 cap] w fun e w' => e = .returned (.bool true) ∧ w = w' := by
  go_enter Tryz.func43, Tryz.ntmps43
  go_wp2_with fail
  go_loop [10] (fun i => i = .int .i64 0) (fun _ => 0)
  case atStart => rfl
  case round =>
    obtain rfl := hrel
    go_wp2
    go_ret
    exact ⟨rfl, rfl⟩

set_option maxRecDepth 100000 in
set_option maxHeartbeats 3200000 in
theorem areArgs_many (ao : Option Addr) (n cap : Nat) (w : World) (hn : 6 < n) :
    Calls Tryz.prog 43 #[.slice ao n cap] w fun e w' => e = .returned (.bool false) ∧ w = w' := by
  have c1 : (6 : Int) < (n : Int) := by omega
  clear hn
  go_enter Tryz.func43, Tryz.ntmps43
  go_wp2_with fail
  go_ret
  exact ⟨rfl, rfl⟩

set_option maxRecDepth 100000 in
set_option maxHeartbeats 3200000 in
theorem areArgs_some (b cap : Nat) (L : List (ByteArray × ByteArray)) (w : World) (h : PsAt w b L) (hn : L.length ≤ 6) :
    Calls Tryz.prog 43 #[.slice (some ⟨b, 0, none⟩) L.length cap] w fun e w' => e = .returned (.bool (Pl.argsOk (namesOf L))) ∧ ∃ m, w' = w.drewN m := by
  have HA := (show Hid (PsAt w b L) from h)
  have c1 : ¬ (6 : Int) < (L.length : Int) := by omega
  clear h
  go_enter Tryz.func43, Tryz.ntmps43
  go_wp2_with fail
  clear c1
  go_loopw [10] (fun i wr => ∃ k : Nat, k ≤ L.length ∧ i = .int .i64 k ∧ Hid (∀ i x, i < k → (namesOf L)[i]? = some x → Pl.isIdent x = true ∧ ∀ j, j < i → (namesOf L)[j]? ≠ some x) ∧ ∃ m, wr = w.drewN m) (fun i _ => L.length - (intOf i).toNat)
  case atStart => exact ⟨0, Nat.zero_le _, rfl, fun i x hi => absurd hi (Nat.not_lt_zero _), 0, rfl⟩
  case round =>
    obtain ⟨k, hk, rfl, HN, m, rfl⟩ := hrel
    by_cases hlt : k < L.length
    rotate_left
    · have HT : Hid (Pl.argsOk (namesOf L) = true) := (Pl.argsOk_iff _).2 fun i x hx => HN.out i x (by
        have := (List.getElem?_eq_some_iff.1 hx).1
        unfold namesOf at this
        simp at this
        omega) hx
      clear HN HA
      go_wp2
      go_ret
      exact ⟨ret_bool HT.out.symm, m, rfl⟩
    have hx : L[k]? = some L[k] := List.getElem?_eq_getElem hlt
    have HX := (show Hid (L[k]? = some L[k]) from hx)
    have q0 : w.cell? ⟨b, k * 2, none⟩ = some (.string L[k].1) := HA.out.name k _ hx
    have hNx : (namesOf L)[k]? = some L[k].1.data.toList := by unfold namesOf; simp [hx]
    have HNX := (show Hid _ from hNx)
    clear hx hNx
    generalize L[k] = X at q0 HX HNX
    by_cases hi : Pl.isIdent X.1.data.toList = true
    rotate_left
    · have hi := Bool.eq_false_iff.2 hi
      have HT : Hid (Pl.argsOk (namesOf L) = false) := by
        show _ = _
        rw [Bool.eq_false_iff]
        intro q
        have := ((Pl.argsOk_iff _).1 q k _ HNX.out).1
        rw [hi] at this; cases this
      clear HN HA HX HNX
      go_wp2_with (go_at_call 72; refine (isIdentifier_any X.1 _).mono ?_; rintro e w' ⟨rfl, rfl⟩; rw [hi])
      go_ret
      exact ⟨ret_bool HT.out.symm, m, rfl⟩
    have HI := (show Hid _ from hi)
    go_wp2_with (go_at_call 72; refine (isIdentifier_any X.1 _).mono ?_; rintro e w' ⟨rfl, rfl⟩; rw [hi])
    clear hi q0
    go_hide hQ
    have HQ := (show Hid _ from hQ)
    clear hQ
    go_loopw [21] (fun i wr => ∃ j : Nat, j ≤ k ∧ i = .int .i64 j ∧ Hid (∀ j', j' < j → (namesOf L)[j']? ≠ some X.1.data.toList) ∧ Hid (∃ m', wr = w.drewN m')) (fun i _ => k - (intOf i).toNat)
    case atStart => exact ⟨0, Nat.zero_le _, rfl, fun j' hj => absurd hj (Nat.not_lt_zero _), m, rfl⟩
    case round =>
      obtain ⟨j, hj, rfl, HJ, HW⟩ := hrel
      obtain ⟨m', rfl⟩ := HW.out
      clear HW
      by_cases hjl : j < k
      · have hjL : j < L.length := by omega
        have hy : L[j]? = some L[j] := List.getElem?_eq_getElem hjL
        have HY := (show Hid (L[j]? = some L[j]) from hy)
        have p0 : w.cell? ⟨b, j * 2, none⟩ = some (.string L[j].1) := HA.out.name j _ hy
        have p1 : w.cell? ⟨b, k * 2, none⟩ = some (.string X.1) := HA.out.name k _ HX.out
        clear hy
        generalize L[j] = Y at p0 HY
        have d1 : (j : Int) < (L.length : Int) := by omega
        have d2 : (k : Int) < (L.length : Int) := by omega
        by_cases e0 : Y.1 = X.1
        · have HT : Hid (Pl.argsOk (namesOf L) = false) := by
            show _ = _
            rw [Bool.eq_false_iff]
            intro q
            refine ((Pl.argsOk_iff _).1 q k _ HNX.out).2 j hjl ?_
            show (namesOf L)[j]? = some X.1.data.toList
            unfold namesOf
            rw [List.getElem?_map, HY.out, ← e0]; rfl
          rw [e0] at p0
          clear HN HA HX HNX HJ HY e0
          go_wp2_with fail
          go_quiet (fail)
          go_wp2_with fail
          rw [← HQ.out]
          go_wp2_with fail
          go_ret
          exact ⟨ret_bool HT.out.symm, m' + nq, by rw [World.drewN_drewN]⟩
        · have t0 := bytes_ne e0
          have HJ2 : Hid (∀ j', j' < j + 1 → (namesOf L)[j']? ≠ some X.1.data.toList) := by
            intro j' hj'
            by_cases hjj : j' = j
            · subst hjj
              intro q
              obtain ⟨y, h1, h2⟩ := namesOf_at q
              rw [HY.out] at h1
              obtain rfl := Option.some.inj h1
              exact e0 (ByteArray.ext (Array.toList_inj.1 h2))
            · exact HJ.out j' (by omega)
          clear HN HX HNX HJ HY e0
          go_wp2_with fail
          go_quiet (fail)
          go_wp2_with fail
          go_roundw
          case rel => exact ⟨j + 1, by omega, by go_num, HJ2, ⟨m' + nq, by simp [World.drewN]⟩⟩
          case measure => simp [intOf]; omega
      · have hjk : j = k := by omega
        subst hjk
        have HN2 : Hid (∀ i x, i < j + 1 → (namesOf L)[i]? = some x → Pl.isIdent x = true ∧ ∀ j', j' < i → (namesOf L)[j']? ≠ some x) := by
          intro i x hi' hx
          by_cases hij : i = j
          · subst hij
            rw [HNX.out] at hx
            obtain rfl := Option.some.inj hx
            exact ⟨HI.out, HJ.out⟩
          · exact HN.out i x (by omega) hx
        clear HN HX HNX HJ HA
        go_wp2_with fail
        rw [← HQ.out]
        go_wp2_with fail
        go_roundw
        case rel => exact ⟨j + 1, by omega, by go_num, HN2, m', rfl⟩
        case measure => simp [intOf]; omega

end Go.Proofs.YtfkhljmiehdgmaaGreatDoor

/-
  The walk of the statement Ended: whether a text has a byte.
-/
namespace Go.Proofs.YtfkhljmiehdgmaaGreatDoor
open Go.RowKit

theorem get_byte (s : ByteArray) (k : Nat) (h : k < s.size) : s.data.toList[k]? = some s[k] := by
  rw [List.getElem?_eq_getElem (by simpa using h)]
  rfl

set_option maxRecDepth 100000 in
set_option maxHeartbeats 3200000 in
theorem says_any (s : ByteArray) (w : World) (hs : s.size ≤ maxLen) :
    Calls Tryz.prog 13 #[.string s, .string ⟨#[61]⟩] w fun e w' => e = .returned (.bool (s.data.toList.contains 61)) ∧ ∃ m, w' = w.drewN m := by
  obtain ⟨D, hD⟩ : ∃ D : ByteArray, D = ⟨#[61]⟩ := ⟨_, rfl⟩
  rw [← hD]
  have hDs : D.size = 1 := by rw [hD]; rfl
  have hD0 : ∀ h : 0 < D.size, D[0]'h = 61 := fun h => by subst hD; rfl
  have hs2 : s.size ≤ 9223372036854775807 := by unfold maxLen at hs; omega
  clear hD hs
  go_enter Tryz.func13, Tryz.ntmps13
  go_wp2_with fail
  go_loopw [5] (fun i wr => ∃ k : Nat, k ≤ s.size ∧ i = .int .i64 k ∧ Hid (∀ j b, j < k → s.data.toList[j]? = some b → b ≠ 61) ∧ ∃ m, wr = w.drewN m) (fun i _ => s.size - (intOf i).toNat)
  case atStart => exact ⟨0, Nat.zero_le _, rfl, fun j b hj => absurd hj (Nat.not_lt_zero _), 0, rfl⟩
  case round =>
    obtain ⟨k, hk, rfl, HN, m, rfl⟩ := hrel
    by_cases hlt : k < s.size
    rotate_left
    · have hT : Hid (s.data.toList.contains 61 = false) := by
        show _ = _
        rw [Bool.eq_false_iff]
        intro q
        obtain ⟨i, hi⟩ := List.getElem?_of_mem (List.contains_iff_mem.1 q)
        have h2 := (List.getElem?_eq_some_iff.1 hi).1
        simp at h2
        exact HN.out i 61 (by omega) hi rfl
      have hlt' : decide ((k : Int) < (s.size : Int)) = false := by rw [decide_eq_false_iff_not]; omega
      clear HN
      go_wp2
      go_ret
      exact ⟨ret_bool hT.out.symm, m, rfl⟩
    have hlt' : (k : Int) < (s.size : Int) := by omega
    by_cases he : s[k] = 61
    · have hT : Hid (s.data.toList.contains 61 = true) := by
        show _ = _
        refine List.contains_iff_mem.2 (List.mem_of_getElem? (i := k) ?_)
        rw [get_byte s k hlt, he]
      clear HN
      go_wp2_with fail
      go_hide hQ
      have HQ := (show Hid _ from hQ)
      clear hQ
      go_loopw [6] (fun i wr => i = .int .i64 0 ∧ wr = w.drewN m) (fun i _ => 0)
      case atStart => exact ⟨rfl, rfl⟩
      case round =>
        obtain ⟨rfl, rfl⟩ := hrel
        have hd0 := hD0 (by omega)
        have hd1 : (0 : Int) < (D.size : Int) := by omega
        go_wp2_with fail
        go_quiet (fail)
        go_wp2_with fail
        rw [← HQ.out]
        go_wp2_with fail
        go_ret
        exact ⟨ret_bool hT.out.symm, m + nq, by rw [World.drewN_drewN]⟩
    · have HN2 : Hid (∀ j b, j < k + 1 → s.data.toList[j]? = some b → b ≠ 61) := by
        intro j b hj hb
        by_cases hjk : j = k
        · subst hjk
          rw [get_byte s j hlt] at hb
          obtain rfl := Option.some.inj hb
          exact he
        · exact HN.out j b (by omega) hb
      have he2 : ((s[k].toNat : Int) == 61) = false := by
        rw [beq_eq_false_iff_ne]
        intro q
        exact he (UInt8.toNat_inj.1 (by have h61 : (61 : UInt8).toNat = 61 := rfl; omega))
      clear HN
      go_wp2_with fail
      go_hide hQ
      have HQ := (show Hid _ from hQ)
      clear hQ
      go_loopw [6] (fun i wr => ∃ j : Nat, j ≤ 1 ∧ i = .int .i64 j ∧ Hid (∃ m', wr = w.drewN m')) (fun i _ => 1 - (intOf i).toNat)
      case atStart => exact ⟨0, by omega, rfl, m, rfl⟩
      case round =>
        obtain ⟨j, hj, rfl, HW⟩ := hrel
        obtain ⟨m', rfl⟩ := HW.out
        clear HW
        rcases (show j = 0 ∨ j = 1 by omega) with rfl | rfl
        · have hd0 := hD0 (by omega)
          have hd1 : (0 : Int) < (D.size : Int) := by omega
          go_wp2_with fail
          go_quiet (fail)
          go_wp2_with fail
          go_roundw
          case rel => exact ⟨1, by omega, rfl, ⟨m' + nq, by simp [World.drewN]⟩⟩
          case measure => simp [intOf]
        · clear hD0
          go_wp2_with fail
          rw [← HQ.out]
          go_wp2_with fail
          go_roundw
          case rel => exact ⟨k + 1, by omega, by go_num, HN2, m', rfl⟩
          case measure => simp [intOf]; omega

end Go.Proofs.YtfkhljmiehdgmaaGreatDoor

/-
  The walk of the statement Ended: an identifier that does not stand in a text.
-/
namespace Go.Proofs.YtfkhljmiehdgmaaGreatDoor
open Go.RowKit

theorem en_conv (w : World) (x : UInt8) : (convert 82 9 (.slice (some ⟨w.heap.size, 0, none⟩) 1 1)).run Tryz.prog (w.alloc (.cells #[.int .u8 x.toNat] 5)) = .ok (.string ⟨[x].toArray⟩) (w.alloc (.cells #[.int .u8 x.toNat] 5)) := by
  refine run_convert_bytes_back _ 82 9 5 ⟨w.heap.size, 0, none⟩ 1 [x] Tryz.underlying82 Tryz.underlying5 Tryz.underlying9 ?_
  intro j hj
  match j, hj with
  | 0, _ => simp [Addr.add]
theorem en_num (k : Nat) (h : k < 10) : ((UInt8.ofNat (48 + k)).toNat : Int) = 48 + (k : Int) := by
  rw [UInt8.toNat_ofNat']
  omega
theorem en_bytes {a b : ByteArray} (h : a ≠ b) : (a.toList == b.toList) = false := by
  rw [beq_eq_false_iff_ne, ByteArray.toList_eq, ByteArray.toList_eq]
  exact fun q => h (ByteArray.ext (Array.toList_inj.1 q))
/-- a word that stands nowhere -/
theorem infix_extract {s : ByteArray} {n : List UInt8} (h : n <:+: s.data.toList) (hl : n.length = 4) : ∃ j, j + 4 ≤ s.size ∧ (s.extract j (j + 4)).data.toList = n := by
  obtain ⟨a, b, e⟩ := h
  have hz : s.data.toList.length = s.size := by simp
  refine ⟨a.length, ?_, ?_⟩
  · rw [← hz, ← e]; simp; omega
  · rw [ByteArray.data_extract, Array.toList_extract, List.extract_eq_take_drop, ← e, List.append_assoc, List.drop_left]
    rw [show a.length + 4 - a.length = n.length by omega, List.take_left]

set_option maxRecDepth 100000 in
set_option maxHeartbeats 6400000 in
theorem unsaid_any (s : ByteArray) (w : World) (hs : s.size ≤ 100000000) :
    Calls Tryz.prog 14 #[.string s] w fun e w' => ((∃ k : Nat, k < 10 ∧ e = .returned (.tuple #[.string ⟨(Pl.ownName k).toArray⟩, .bool true]) ∧ ¬ Pl.ownName k <:+: s.data.toList) ∨ e = .returned (.tuple #[.string ⟨#[]⟩, .bool false])) ∧ Below w.heap.size w w' := by
  have hs2 : s.size ≤ 100000000 := hs
  clear hs
  go_enter Tryz.func14, Tryz.ntmps14
  go_wp2_with fail
  go_loopw [4] (fun i wr => ∃ k : Nat, k ≤ 10 ∧ i = .int .i64 k ∧ Hid (Below w.heap.size w wr)) (fun i _ => 10 - (intOf i).toNat)
  case atStart => exact ⟨0, by omega, rfl, Below.refl _ _⟩
  case round =>
    obtain ⟨k, hk, rfl, HB⟩ := hrel
    by_cases hlt : k < 10
    rotate_left
    · obtain rfl : k = 10 := by omega
      go_wp2_with fail
      go_ret2
      exact ⟨.inr rfl, HB.out⟩
    obtain ⟨c, hc⟩ : ∃ c : UInt8, c = UInt8.ofNat (48 + k) := ⟨_, rfl⟩
    have hcn : (c.toNat : Int) = 48 + (k : Int) := by rw [hc]; exact en_num k hlt
    have hcv := en_conv wr c
    rw [hcn] at hcv
    have hwr : IntKind.u8.wrap (48 + (k : Int)) = 48 + (k : Int) := by
      have e : IntKind.u8.wrap (48 + (k : Int)) = (48 + (k : Int)) % 256 := rfl
      rw [e]; omega
    obtain ⟨n, hn⟩ : ∃ n : ByteArray, n = ⟨(Pl.ownName k).toArray⟩ := ⟨_, rfl⟩
    have hns : n.size = 4 := by rw [hn]; rfl
    have hcat : (⟨#[111, 119, 110]⟩ ++ ⟨#[c]⟩ : ByteArray) = n := by rw [hn, hc]; rfl
    have hnl : n.data.toList = Pl.ownName k := by rw [hn]
    have HN := (show Hid _ from hn)
    clear hn hc hcn
    go_wp2_with fail
    have HB2 := (show Hid _ from HB.out.alloc HB.out.size (.cells #[.int .u8 (48 + (k : Int))] 5))
    try rw [hcat]
    have hns2 : (n.size : Int) = 4 := by omega
    clear hcv hwr hcat hns
    generalize World.alloc wr _ = w1 at HB2 ⊢
    go_hide hQ
    have HQ := (show Hid _ from hQ)
    clear hQ
    go_loopw [6, 7] (fun t i w2 => ∃ (j : Nat) (th : Bool), j ≤ s.size ∧ i = .int .i64 j ∧ t = .bool th ∧ w2 = w1 ∧ Hid (th = false → ∀ q, q < j → q + 4 ≤ s.size → (s.extract q (q + 4)) ≠ n)) (fun _ i _ => s.size - (intOf i).toNat)
    case atStart => exact ⟨0, false, Nat.zero_le _, rfl, rfl, rfl, fun _ q hq => absurd hq (Nat.not_lt_zero _)⟩
    case round =>
      obtain ⟨j, th, hj, rfl, rfl, rfl, HJ⟩ := hrel
      by_cases hjl : j + 4 ≤ s.size
      · have c1 : (j : Int) + 4 ≤ (s.size : Int) := by omega
        cases th with
        | true =>
          go_wp2_with fail
          go_roundw
          case rel => exact ⟨j + 1, true, by omega, by go_num, by first | rfl | trivial, by first | rfl | trivial, fun h => by cases h⟩
          case measure => simp [intOf]; omega
        | false =>
          have hex : (s.extract j (j + 4)).size = 4 := by rw [ByteArray.size_extract]; omega
          by_cases hnm : s.extract j (j + 4) = n
          · have t0 : ((s.extract j (j + 4)).toList == n.toList) = true := by rw [hnm]; simp
            clear HJ
            go_wp2_with fail
            go_roundw
            case rel => exact ⟨j + 1, true, by omega, by go_num, by first | rfl | trivial, by first | rfl | trivial, fun h => by cases h⟩
            case measure => simp [intOf]; omega
          · have t0 := en_bytes hnm
            have HJ2 : Hid (false = false → ∀ q, q < j + 1 → q + 4 ≤ s.size → (s.extract q (q + 4)) ≠ n) := fun _ q hq hq4 => by
              by_cases hqj : q = j
              · subst hqj; exact hnm
              · exact HJ.out rfl q (by omega) hq4
            clear HJ
            go_wp2_with fail
            go_roundw
            case rel => exact ⟨j + 1, false, by omega, by go_num, by first | rfl | trivial, by first | rfl | trivial, HJ2.out⟩
            case measure => simp [intOf]; omega
      · have c1 : ¬ (j : Int) + 4 ≤ (s.size : Int) := by omega
        cases th with
        | true =>
          clear HJ
          go_wp2_with fail
          rw [← HQ.out]
          go_wp2_with fail
          go_roundw
          case rel => exact ⟨k + 1, by omega, by go_num, HB2⟩
          case measure => simp [intOf]; omega
        | false =>
          have HT : Hid (¬ Pl.ownName k <:+: s.data.toList) := fun h => by
            obtain ⟨q, h1, h2⟩ := infix_extract h rfl
            refine HJ.out rfl q (by omega) h1 (ByteArray.ext (Array.toList_inj.1 ?_))
            rw [h2, HN.out]
          clear HJ
          go_wp2_with fail
          rw [← HQ.out]
          go_wp2_with fail
          go_ret2
          exact ⟨.inl ⟨k, hlt, by rw [HN.out]; rfl, HT.out⟩, HB2.out⟩

end Go.Proofs.YtfkhljmiehdgmaaGreatDoor

/-
  What is asked of Compile, by itself; and what the statement Ended asks of it.
-/
namespace Go.Proofs.YtfkhljmiehdgmaaGreatDoor
open Go.RowKit

def ftVal (f : Pl.Ft) : Value := .agg #[.int .i64 f.code, .int .i64 f.kind, bs f.place, .int .i64 f.pos]
def pairsOf (L : List (ByteArray × ByteArray)) : List (List UInt8 × List UInt8) := L.map fun x => (x.1.data.toList, x.2.data.toList)
/-- partials that are handed in -/
def ArgAt (w : World) (v : Value) (L : List (ByteArray × ByteArray)) : Prop := ∃ ao cap, v = .slice ao L.length cap ∧ L.length ≤ cap ∧ cap ≤ maxLen ∧ (L ≠ [] → ∃ b, ao = some ⟨b, 0, none⟩ ∧ PsAt w b L)
/-- a template in memory -/
def TplAt (w : World) (B : Nat) (p : Value) (r : List (Nat × List Int) × List Pl.Src) : Prop := ∃ g F vv M s B', p = .pointer (some ⟨g, 0, none⟩) ∧ w.heap[g]? = some (.cells #[vv] 81 (0, 0)) ∧ B ≤ B' ∧ SvAt w B' F r.2 vv M s ∧ s.vis = r.1
def CompileC : Prop := ∀ (T : ByteArray) (v : Value) (L : List (ByteArray × ByteArray)) (w : World), ArgAt w v L → PTabs w → MaxLenAt w → Readable T.data.toList → (∀ p ∈ L, Readable p.2.data.toList) →
    Calls Tryz.prog 12 #[.string T, v] w fun ed w' => (∃ p, ed = .returned (.tuple #[p, ftVal (Pl.makeV T.data.toList (pairsOf L)).2]) ∧ ((Pl.makeV T.data.toList (pairsOf L)).2.code ≠ 0 → p = .pointer none) ∧ ((Pl.makeV T.data.toList (pairsOf L)).2.code = 0 → TplAt w' w.heap.size p (Pl.makeV T.data.toList (pairsOf L)).1)) ∧ Below w.heap.size w w'

/-- texts without the byte = may be read -/
theorem readable_plain {t : List UInt8} (h : (61 : UInt8) ∉ t) : Readable t := by
  intro L w hL hm hw
  refine read_plain ⟨L.toArray⟩ w (by rw [size_is]; omega) hw (fun h8 => ?_)
  unfold Pl.kindOfTag at h8
  split at h8
  · omega
  · rename_i b l hl
    have hb : b ≠ 61 := fun e => by
      subst e
      exact h (hm 61 (by have : L = _ := hl; rw [this]; simp))
    repeat' split at h8
    all_goals first | omega | (rename_i q; exact hb (by simpa using q)) | skip

/-- Compile without partials -/
theorem compile_bare (HC : CompileC) (T : ByteArray) (f : Pl.Ft) (w : World) (ht : PTabs w) (hm : MaxLenAt w) (hR : (61 : UInt8) ∉ T.data.toList) (hf : (Pl.makeV T.data.toList []).2 = f) :
    Calls Tryz.prog 12 #[.string T, .slice none 0 0] w fun ed w' => (∃ p, ed = .returned (.tuple #[p, ftVal f]) ∧ (f.code ≠ 0 → p = .pointer none) ∧ (f.code = 0 → ∃ g, p = .pointer (some ⟨g, 0, none⟩))) ∧ Below w.heap.size w w' := by
  have := HC T (.slice none 0 0) [] w ⟨none, 0, rfl, Nat.le_refl _, Nat.zero_le _, fun h => absurd rfl h⟩ ht hm (readable_plain hR) (fun p hp => by cases hp)
  refine this.mono ?_
  rintro ed w' ⟨⟨p, h1, h2, h3⟩, hb⟩
  have e : pairsOf [] = [] := rfl
  rw [e, hf] at h1 h2 h3
  refine ⟨⟨p, h1, h2, fun h => ?_⟩, hb⟩
  obtain ⟨g, _, _, _, _, _, h4, _⟩ := h3 h
  exact ⟨g, h4⟩
/-- Compile with one partial -/
theorem compile_one (HC : CompileC) (T N U : ByteArray) (f : Pl.Ft) (b : Nat) (w : World) (ht : PTabs w) (hm : MaxLenAt w) (hR : (61 : UInt8) ∉ T.data.toList) (hU : (61 : UInt8) ∉ U.data.toList) (hf : (Pl.makeV T.data.toList [(N.data.toList, U.data.toList)]).2 = f)
    (h0 : w.cell? ⟨b, 0, none⟩ = some (.string N)) (h1 : w.cell? ⟨b, 1, none⟩ = some (.string U)) :
    Calls Tryz.prog 12 #[.string T, .slice (some ⟨b, 0, none⟩) 1 1] w fun ed w' => (∃ p, ed = .returned (.tuple #[p, ftVal f]) ∧ (f.code ≠ 0 → p = .pointer none) ∧ (f.code = 0 → ∃ g, p = .pointer (some ⟨g, 0, none⟩))) ∧ Below w.heap.size w w' := by
  have := HC T (.slice (some ⟨b, 0, none⟩) 1 1) [(N, U)] w ⟨_, 1, rfl, Nat.le_refl _, by unfold maxLen; omega, fun _ => ⟨b, rfl, fun k x hx => ?_, fun k x hx => ?_⟩⟩ ht hm (readable_plain hR) (fun p hp => by simp at hp; subst hp; exact readable_plain hU)
  · refine this.mono ?_
    rintro ed w' ⟨⟨p, h1, h2, h3⟩, hb⟩
    have e : pairsOf [(N, U)] = [(N.data.toList, U.data.toList)] := rfl
    rw [e, hf] at h1 h2 h3
    refine ⟨⟨p, h1, h2, fun h => ?_⟩, hb⟩
    obtain ⟨g, _, _, _, _, _, h4, _⟩ := h3 h
    exact ⟨g, h4⟩
  · cases k with
    | zero => simp at hx; subst hx; exact h0
    | succ k => simp at hx
  · cases k with
    | zero => simp at hx; subst hx; exact h1
    | succ k => simp at hx

end Go.Proofs.YtfkhljmiehdgmaaGreatDoor

/-
  Several texts laid together: each opens with its own remark.
-/
import Derived.Test.YtfkhljmiehdgmaaDoorMgC
import Derived.Test.YtfkhljmiehdgmaaDoorWalkA
import Derived.RegionTactic
import Derived.BigRegion
import Derived.Deep.RegionWith
import Derived.BigQuiet
import Derived.Deep.QuietTactic
import Derived.Deep.AppendLies
import Derived.Deep.Onto
import Derived.Test.YtfkhljmiehdgmaaDoorPgCon
import Derived.Test.YtfkhljmiehdgmaaDoorMgG

/-
  The walk of the statement Pages: two lists held against each other; the book's cells.
-/
namespace Go.Proofs.YtfkhljmiehdgmaaDoor
open Go.RowKit

set_option maxRecDepth 100000 in
set_option maxHeartbeats 800000 in
theorem sameInts_nil (g c : Nat) (w : World) : Calls Tryd.prog 27 #[.slice (some ⟨g, 0, none⟩) 0 c, .slice none 0 0] w fun e w' => e = .returned (.bool true) ∧ ∃ m, w' = w.drewN m := by
  go_enter Tryd.func27, Tryd.ntmps27
  go_wp2
  go_loopw [5] (fun i wr => i = .int .i64 0 ∧ ∃ m, wr = w.drewN m) (fun _ _ => 0)
  case atStart => exact ⟨rfl, 0, rfl⟩
  case round =>
    obtain ⟨rfl, m, rfl⟩ := hrel
    go_wp2
    go_ret
    exact ⟨rfl, m, rfl⟩

set_option maxRecDepth 100000 in
set_option maxHeartbeats 800000 in
theorem sameInts_yes (n g c g2 c2 : Nat) (f : Nat → Int) (w : World) (hn : n ≤ 20000000) (ha : ∀ j, j < n → w.cell? ⟨g, j, none⟩ = some (.int .i64 (f j))) (hb : ∀ j, j < n → w.cell? ⟨g2, j, none⟩ = some (.int .i64 (f j))) :
    Calls Tryd.prog 27 #[.slice (some ⟨g, 0, none⟩) n c, .slice (some ⟨g2, 0, none⟩) n c2] w fun e w' => e = .returned (.bool true) ∧ ∃ m, w' = w.drewN m := by
  have HA := (show Hid _ from ha)
  have HB := (show Hid _ from hb)
  clear ha hb
  go_enter Tryd.func27, Tryd.ntmps27
  go_wp2
  go_loopw [5] (fun i wr => ∃ k : Nat, k ≤ n ∧ i = .int .i64 k ∧ ∃ m, wr = w.drewN m) (fun i _ => n - (intOf i).toNat)
  case atStart => exact ⟨0, Nat.zero_le _, rfl, 0, rfl⟩
  case round =>
    obtain ⟨k, hk, rfl, m, rfl⟩ := hrel
    by_cases hlt : k < n
    · have c1 := HA.out k hlt
      have c2 := HB.out k hlt
      generalize f k = x at c1 c2
      have t0 : ((x : Int) != (x : Int)) = false := by simp
      go_wp2_with fail
      go_quiet (fail)
      go_wp2
      go_roundw
      case rel => exact ⟨k + 1, by omega, by go_num, m + nq, by simp [World.drewN]⟩
      case measure => simp [intOf]; omega
    · go_wp2
      go_ret
      exact ⟨rfl, m, rfl⟩

end Go.Proofs.YtfkhljmiehdgmaaDoor

/-
  The walk of the statement Pages: what the book says, as the world turns: each list that came out reads as its owner wrote it. An append onto a slice leaves what the slice itself reads.
-/
namespace Go.Proofs.YtfkhljmiehdgmaaDoor
open Go.RowKit

section
variable {P : Program} (w : World)
/-- append onto a slice that is not nil: in place, or in a block of its own: then every old block is as it was -/
theorem run_append_keeps (base : Nat) (t ty : TypeId) (e : TypeId) (i : TypeInfo) (z : Value) (size bytes : Nat) (ht : P.underlying t = some (.slice e)) (hi : P.info? e = some i) (hz : i.zero = some z)
    (hsize : i.size = size) (hby : i.bytes = bytes) (hzs : z.cells.size = size) (hsz : 0 < size)
    (g n cap : Nat) (xs : List Value) (hown : w.ownsRow base e size (.slice (some ⟨g, 0, none⟩) n cap) n xs)
    (a : Addr) (m c : Nat) (news : List Value) (hl : news.length = m * size) (hnews : ∀ j u, news[j]? = some u → w.cell? (a.add j) = some u) (h1 : ∀ u ∈ news, u.oneCell' = true)
    (h63 : n + m ≤ maxLen) (hbytes : (n + m) * bytes ≤ 140737488355328) (hbase : base ≤ w.heap.size) :
    ∃ g' cap' w', (Builtin.append_ #[t, t] ty #[.slice (some ⟨g, 0, none⟩) n cap, .slice (some a) m c]).run P w = .ok (.slice (some ⟨g', 0, none⟩) (n + m) cap') w' ∧ w'.ownsRow base e size (.slice (some ⟨g', 0, none⟩) (n + m) cap') (n + m) (xs ++ news) ∧
      w.grownBy w' (some g) ∧ (g' = g ∨ (g' = w.heap.size ∧ w.grownBy w' none)) := by
  by_cases hroom : n + m ≤ cap
  · obtain ⟨w', hr, h2, h3⟩ := run_append_fits (P := P) w base t ty e i size ht hi hsize g n cap xs hown a m c news hl hnews h1 hroom
    exact ⟨g, cap, w', hr, h2, h3, .inl rfl⟩
  · obtain ⟨v', w', hr, h2, h3, _, h5⟩ := run_append_own_at (P := P) w base t ty e i z size bytes ht hi hz hsize hby hzs hsz _ n xs hown a m c news hl hnews h1 h63 hbytes hbase
    have hx : xs.length = n * i.size := by rw [hsize]; exact hown.1
    have hr2 := run_append_grow (P := P) w t ty e i z ht hi hz ⟨g, 0, none⟩ n cap xs hx (hown.cells (g := g) rfl) a m c news (by rw [hsize]; exact hl) hnews (by omega) (by simp only [maxLen] at h63; omega) (growslice_fits (by omega) (by rw [hby]; exact hbytes))
    rw [hr] at hr2
    simp only [Result.ok.injEq] at hr2
    obtain ⟨rfl, rfl⟩ := hr2
    exact ⟨_, _, _, hr, h2, h3, .inr ⟨rfl, ⟨rfl, rfl, rfl, by simp, fun k hk _ => heap_alloc_old w.drew _ hk⟩⟩⟩
theorem wpList_append_keeps {ops : Array Oper} {rest : List Oper} {o : Oper} {a : Act} {Q : Exit → Act → World → Prop} (hgd : o.guard = none) (s x : Operand) (t : TypeId)
    (ho : o.op = .call { callee := .builtin .append, args := #[s, x], argTypes := #[t, t] })
    (base : Nat) (e : TypeId) (i : TypeInfo) (z : Value) (size bytes : Nat) (ht : P.underlying t = some (.slice e)) (hi : P.info? e = some i) (hz : i.zero = some z)
    (hsize : i.size = size) (hby : i.bytes = bytes) (hzs : z.cells.size = size) (hsz : 0 < size)
    (g n cap : Nat) (xs : List Value) (hs : a.eval s = .slice (some ⟨g, 0, none⟩) n cap) (hown : w.ownsRow base e size (.slice (some ⟨g, 0, none⟩) n cap) n xs)
    (ad : Addr) (m c : Nat) (news : List Value) (hx : a.eval x = .slice (some ad) m c) (hl : news.length = m * size) (hnews : ∀ j u, news[j]? = some u → w.cell? (ad.add j) = some u) (h1 : ∀ u ∈ news, u.oneCell' = true)
    (h63 : n + m ≤ maxLen) (hbytes : (n + m) * bytes ≤ 140737488355328) (hbase : base ≤ w.heap.size)
    (h : ∀ g' cap' w', w'.ownsRow base e size (.slice (some ⟨g', 0, none⟩) (n + m) cap') (n + m) (xs ++ news) → w.grownBy w' (some g) → (g' = g ∨ (g' = w.heap.size ∧ w.grownBy w' none)) → wpList P ops Q rest (a.put o.dst (.slice (some ⟨g', 0, none⟩) (n + m) cap')) w') :
    wpList P ops Q (o :: rest) a w := by
  refine wpList_plain hgd fun K hK => ?_
  obtain ⟨g', cap', w', hr, h2, h3, h4⟩ := run_append_keeps (P := P) w base t o.type e i z size bytes ht hi hz hsize hby hzs hsz g n cap xs hown ad m c news hl hnews h1 h63 hbytes hbase
  unfold Oper.wp execOp
  simp only [ho, resolve, invoke, builtin, Sem.run_bind, Sem.run_pure, Result.andThen_ok, List.map_toArray, List.map_cons, List.map_nil, hs, hx, hr]
  exact hK _ _ (h g' cap' w' h2 h3 h4)
end

/-- one list that came out: the slice, how long, which number -/
structure Out where
  blk : Nat
  len : Nat
  cap : Nat
  num : Int
def Out.val (x : Out) : Value := .slice (some ⟨x.blk, 0, none⟩) x.len x.cap
def outCells (L : List Out) : List Value := L.flatMap fun x => [x.val, .int .i64 x.num]
theorem outCells_len (L : List Out) : (outCells L).length = L.length * 2 := by
  induction L with
  | nil => rfl
  | cons x L ih => show (outCells L).length + 2 = _; rw [ih, List.length_cons]; omega
theorem outCells_snoc (L : List Out) (x : Out) : outCells (L ++ [x]) = outCells L ++ [x.val, .int .i64 x.num] := by simp [outCells]
theorem outCells_at : ∀ (L : List Out) (k : Nat) (x : Out), L[k]? = some x → (outCells L)[2 * k]? = some x.val ∧ (outCells L)[2 * k + 1]? = some (.int .i64 x.num)
  | [], k, x, e => by simp at e
  | y :: L, 0, x, e => by
    simp only [List.getElem?_cons_zero, Option.some.injEq] at e
    subst e
    exact ⟨rfl, rfl⟩
  | y :: L, k + 1, x, e => by
    have := outCells_at L k x (by simpa using e)
    unfold outCells at this ⊢
    simp only [List.flatMap_cons, show 2 * (k + 1) = 2 * k + 2 by omega]
    exact this
/-- it reads as its owner wrote it -/
def OutOk (w : World) (gb : Nat) (x : Out) : Prop := gb < x.blk ∧ ∃ cur fz, w.heap[x.blk]? = some (.cells cur 3 fz) ∧ ∀ j, j < x.len → cur[j]? = some (.int .i64 x.num)
theorem OutOk.kept {w w' : World} {gb : Nat} {x : Out} (h : OutOk w gb x) (hh : w'.heap[x.blk]? = w.heap[x.blk]?) : OutOk w' gb x := by
  obtain ⟨a, cur, fz, b, c⟩ := h
  exact ⟨a, cur, fz, hh.trans b, c⟩
theorem OutOk.cell {w : World} {gb : Nat} {x : Out} (h : OutOk w gb x) (j : Nat) (hj : j < x.len) : w.cell? ⟨x.blk, j, none⟩ = some (.int .i64 x.num) := by
  obtain ⟨_, cur, fz, b, c⟩ := h
  rw [cell_of_row w x.blk j cur _ fz b]
  exact c j hj
theorem OutOk.lt {w : World} {gb : Nat} {x : Out} (h : OutOk w gb x) : x.blk < w.heap.size := by
  obtain ⟨_, cur, fz, b, _⟩ := h
  exact (Array.getElem?_eq_some_iff.1 b).1
/-- the book: its block, the row of lists that came out -/
structure Book (w : World) (gb : Nat) (c : Int) (v : Value) (L : List Out) : Prop where
  blk : w.heap[gb]? = some (.cells #[.int .i64 c, v, .slice none 0 0] 34 (0, 0))
  row : w.ownsRow (gb + 1) 45 2 v L.length (outCells L)
  outs : ∀ x ∈ L, OutOk w gb x
theorem Book.lt {w : World} {gb : Nat} {c : Int} {v : Value} {L : List Out} (h : Book w gb c v L) : gb < w.heap.size := (Array.getElem?_eq_some_iff.1 h.blk).1
theorem ownsRow_type {w : World} {B n : Nat} {e : TypeId} {k : Nat} {v : Value} {xs : List Value} (h : w.ownsRow B e k v n xs) (g : Nat) (hg : v.ownBlock = some g) : ∃ cur, w.heap[g]? = some (.cells cur e (0, 0)) := by
  rcases h.2 with ⟨rfl, _⟩ | ⟨g', cap, cur, rfl, _, hh, _⟩
  · simp [Value.ownBlock] at hg
  · simp [Value.ownBlock] at hg
    subst hg
    exact ⟨cur, hh⟩
/-- all blocks but one of numbers are as they were, and none of the lists lies in that one -/
theorem Book.other {w w' : World} {gb : Nat} {c : Int} {v : Value} {L : List Out} (h : Book w gb c v L) (G : Nat) (hG : gb < G) (hty : ∀ cur fz, w.heap[G]? ≠ some (.cells cur 45 fz)) (hn : ∀ x ∈ L, x.blk ≠ G) (hh : ∀ g, g < w.heap.size → g ≠ G → w'.heap[g]? = w.heap[g]?) : Book w' gb c v L := by
  refine ⟨(hh gb h.lt (by omega)).trans h.blk, ?_, fun x hx => (h.outs x hx).kept (hh _ (h.outs x hx).lt (hn x hx))⟩
  refine ⟨h.row.1, ?_⟩
  rcases h.row.2 with hq | ⟨g, cap, cur, hv, hb, hg, rest⟩
  · exact .inl hq
  · refine .inr ⟨g, cap, cur, hv, hb, (hh g (Array.getElem?_eq_some_iff.1 hg).1 ?_).trans hg, rest⟩
    rintro rfl
    exact hty _ _ hg
theorem Book.kept {w w' : World} {gb : Nat} {c : Int} {v : Value} {L : List Out} (h : Book w gb c v L) (hh : ∀ g, g < w.heap.size → w'.heap[g]? = w.heap[g]?) : Book w' gb c v L := by
  refine ⟨(hh gb h.lt).trans h.blk, ?_, fun x hx => (h.outs x hx).kept (hh _ (h.outs x hx).lt)⟩
  refine ⟨h.row.1, ?_⟩
  rcases h.row.2 with hq | ⟨g, cap, cur, hv, hb, hg, rest⟩
  · exact .inl hq
  · exact .inr ⟨g, cap, cur, hv, hb, (hh g (Array.getElem?_eq_some_iff.1 hg).1).trans hg, rest⟩

/-- while a list is taken: the book, and what append answered last -/
structure Tk (w0 w : World) (gb Bl : Nat) (c n : Int) (v : Value) (g k cap : Nat) (L : List Out) : Prop where
  book : Book w gb c v L
  row : w.ownsRow Bl 3 1 (.slice (some ⟨g, 0, none⟩) k cap) k (List.replicate k (.int .i64 n))
  gt : gb < Bl
  own : ∀ x ∈ L, x.blk = g → x.num = n ∧ x.len ≤ k
  below : Below gb w0 w
theorem Tk.big {w0 w : World} {gb Bl : Nat} {c n : Int} {v : Value} {g k cap : Nat} {L : List Out} (h : Tk w0 w gb Bl c n v g k cap L) : Bl ≤ g ∧ g < w.heap.size := h.row.lt g rfl
theorem ty_ne : (3 : TypeId) ≠ 45 := by decide
theorem out_of_row {w : World} {gb B g n cap : Nat} {x : Int} (h : w.ownsRow B 3 1 (.slice (some ⟨g, 0, none⟩) n cap) n (List.replicate n (.int .i64 x))) (hg : gb < g) (k cap' : Nat) (hk : k ≤ n) : OutOk w gb ⟨g, k, cap', x⟩ := by
  rcases h.2 with ⟨hq, _⟩ | ⟨g', cap, cur, hq, hb, hh, _, _, _, ht⟩
  · cases hq
  · simp only [Value.slice.injEq, Option.some.injEq, Addr.mk.injEq, and_true, true_and] at hq
    obtain ⟨rfl, rfl⟩ := hq
    refine ⟨hg, cur, (0, 0), hh, fun j hj => ?_⟩
    have e : (cur.toList.take (n * 1))[j]? = some (.int .i64 x) := by rw [ht, List.getElem?_replicate, if_pos (by simp only at hj; omega)]
    rw [List.getElem?_take, if_pos (by simp only at hj; omega)] at e
    simpa using e
/-- one more number is put behind the list -/
theorem Tk.more {w0 w w3 : World} {gb Bl : Nat} {c n : Int} {v : Value} {g k cap g' cap' : Nat} {L : List Out} (h : Tk w0 w gb Bl c n v g k cap L) (o : Obj)
    (hown : w3.ownsRow Bl 3 1 (.slice (some ⟨g', 0, none⟩) (k + 1) cap') (k + 1) (List.replicate k (.int .i64 n) ++ [.int .i64 n])) (hgr : (w.alloc o).grownBy w3 (some g)) (hat : g' = g ∨ (g' = w.heap.size + 1 ∧ (w.alloc o).grownBy w3 none)) :
    Tk w0 w3 gb Bl c n v g' (k + 1) cap' L := by
  have hown' : w3.ownsRow Bl 3 1 (.slice (some ⟨g', 0, none⟩) (k + 1) cap') (k + 1) (List.replicate (k + 1) (.int .i64 n)) := by rw [List.replicate_succ']; exact hown
  have hbig := h.big
  have hsz : (w.alloc o).heap.size = w.heap.size + 1 := by simp
  have hgt := h.gt
  have hbel : Below gb w0 w3 := by
    refine (h.below.alloc (Nat.le_of_lt h.book.lt) o).grown hgr (by omega) (fun q hq => by simp only [Option.some.injEq] at hq; omega)
  rcases hat with rfl | ⟨hg', hgn⟩
  · -- in place
    have hh : ∀ q, q < w.heap.size → q ≠ g' → w3.heap[q]? = w.heap[q]? := fun q hq hne => (hgr.block q (by omega) (by simpa using hne)).trans (heap_alloc_old w o hq)
    have hb : ∃ L1, L1 = L := ⟨L, rfl⟩
    refine ⟨⟨(hh gb h.book.lt (by omega)).trans h.book.blk, ?_, fun x hx => ?_⟩, hown', h.gt, fun x hx e => ?_, hbel⟩
    · refine ⟨h.book.row.1, ?_⟩
      rcases h.book.row.2 with hq | ⟨gv, capv, cur, hv, hb, hg, rest⟩
      · exact .inl hq
      · refine .inr ⟨gv, capv, cur, hv, hb, (hh gv (Array.getElem?_eq_some_iff.1 hg).1 ?_).trans hg, rest⟩
        rintro rfl
        obtain ⟨cur2, h2⟩ := ownsRow_type h.row gv rfl
        rw [h2] at hg
        simp only [Option.some.injEq, Obj.cells.injEq] at hg
        exact ty_ne hg.2.1
    · by_cases e : x.blk = g'
      · obtain ⟨e1, e2⟩ := h.own x hx e
        obtain ⟨b, l, cp, m⟩ := x
        simp only at e e1 e2
        subst e e1
        exact out_of_row hown' (by omega) l cp (by omega)
      · exact (h.book.outs x hx).kept (hh _ (h.book.outs x hx).lt e)
    · have := h.own x hx e
      exact ⟨this.1, by omega⟩
  · -- in a block of its own
    have hh : ∀ q, q < w.heap.size → w3.heap[q]? = w.heap[q]? := fun q hq => (hgn.block q (by omega) (by simp)).trans (heap_alloc_old w o hq)
    refine ⟨h.book.kept hh, hown', h.gt, fun x hx e => ?_, hbel⟩
    have := (h.book.outs x hx).lt
    omega
/-- what append answered is written down -/
theorem Tk.wrote {w0 w w3 : World} {gb Bl : Nat} {c n : Int} {v : Value} {g k cap gv capv : Nat} {L : List Out} (h : Tk w0 w gb Bl c n v g k cap L) (o : Obj)
    (hown : w3.ownsRow (gb + 1) 45 2 (.slice (some ⟨gv, 0, none⟩) (L.length + 1) capv) (L.length + 1) (outCells L ++ [.slice (some ⟨g, 0, none⟩) k cap, .int .i64 n])) (hgr : (w.alloc o).grownBy w3 v.ownBlock) (hat : v.ownBlock = some gv ∨ gv = w.heap.size + 1) :
    Tk w0 (w3.setCell ⟨gb, 1, none⟩ (.slice (some ⟨gv, 0, none⟩) (L.length + 1) capv)) gb Bl c n (.slice (some ⟨gv, 0, none⟩) (L.length + 1) capv) g k cap (L ++ [⟨g, k, cap, n⟩]) := by
  have hbig := h.big
  have hsz : (w.alloc o).heap.size = w.heap.size + 1 := by simp
  have hgt := h.gt
  have hvty : ∀ q cur fz, w.heap[q]? = some (.cells cur 3 fz) → v.ownBlock ≠ some q := by
    intro q cur fz hq e
    obtain ⟨cur2, h2⟩ := ownsRow_type h.book.row q e
    rw [h2] at hq
    simp only [Option.some.injEq, Obj.cells.injEq] at hq
    exact ty_ne hq.2.1.symm
  have hvb : ∀ q, v.ownBlock = some q → gb < q := fun q hq => by have := (h.book.row.lt q hq).1; omega
  have h3 : ∀ q, q < w.heap.size → v.ownBlock ≠ some q → w3.heap[q]? = w.heap[q]? := fun q hq hne => (hgr.block q (by omega) (fun e => hne e.symm)).trans (heap_alloc_old w o hq)
  have hgv : gv ≠ gb := by
    rcases hat with e | e
    · have := hvb gv e; omega
    · have := h.book.lt; omega
  have hset : ∀ q, q ≠ gb → (w3.setCell ⟨gb, 1, none⟩ (.slice (some ⟨gv, 0, none⟩) (L.length + 1) capv)).heap[q]? = w3.heap[q]? := fun q hq => Below.heap_setCell _ _ _ _ hq
  have hint : ∀ q cur fz, gb < q → w.heap[q]? = some (.cells cur 3 fz) → (w3.setCell ⟨gb, 1, none⟩ (.slice (some ⟨gv, 0, none⟩) (L.length + 1) capv)).heap[q]? = w.heap[q]? := fun q cur fz hq hc =>
    (hset q (by omega)).trans (h3 q (Array.getElem?_eq_some_iff.1 hc).1 (hvty q cur fz hc))
  obtain ⟨curg, hcg⟩ := ownsRow_type h.row g rfl
  have hrow : (w3.setCell ⟨gb, 1, none⟩ (.slice (some ⟨gv, 0, none⟩) (L.length + 1) capv)).ownsRow Bl 3 1 (.slice (some ⟨g, 0, none⟩) k cap) k (List.replicate k (.int .i64 n)) :=
    ownsRow_block h.row (hint g curg _ (by omega) hcg)
  refine ⟨⟨?_, ?_, fun x hx => ?_⟩, hrow, h.gt, fun x hx e => ?_, ?_⟩
  · have h3b := (h3 gb h.book.lt (fun e => by have := hvb gb e; omega)).trans h.book.blk
    show (w3.heap.modify gb _)[gb]? = _
    rw [Array.getElem?_modify, if_pos rfl, h3b]
    rfl
  · rw [List.length_append, List.length_singleton, outCells_snoc]
    refine ⟨hown.1, ?_⟩
    rcases hown.2 with ⟨hq, _⟩ | ⟨g2, cap2, cur, hv, hb, hg, rest⟩
    · cases hq
    · refine .inr ⟨g2, cap2, cur, hv, hb, (hset g2 ?_).trans hg, rest⟩
      simp only [Value.slice.injEq, Option.some.injEq, Addr.mk.injEq, and_true, true_and] at hv
      rw [← hv.1]
      exact hgv
  · rw [List.mem_append, List.mem_singleton] at hx
    rcases hx with hx | rfl
    · obtain ⟨a, cur, fz, b, d⟩ := h.book.outs x hx
      exact (h.book.outs x hx).kept (hint x.blk cur fz a b)
    · exact out_of_row hrow (by omega) k cap (Nat.le_refl _)
  · rw [List.mem_append, List.mem_singleton] at hx
    rcases hx with hx | rfl
    · exact h.own x hx e
    · exact ⟨rfl, Nat.le_refl _⟩
  · have hb3 : Below gb w0 w3 := by
      refine (h.below.alloc (Nat.le_of_lt h.book.lt) o).grown hgr (Nat.le_trans (Nat.le_of_lt h.book.lt) (by omega)) (fun q hq => Nat.le_of_lt (hvb q hq))
    exact hb3.setCell (p := ⟨gb, 1, none⟩) (Nat.le_refl _) _

end Go.Proofs.YtfkhljmiehdgmaaDoor

/-
  The walk of the statement Pages: does every list that came out read as its owner wrote it?
-/
namespace Go.Proofs.YtfkhljmiehdgmaaDoor
open Go.RowKit

theorem Book.cells {w : World} {gb : Nat} {c : Int} {v : Value} {L : List Out} (h : Book w gb c v L) : w.cell? ⟨gb, 0, none⟩ = some (.int .i64 c) ∧ w.cell? ⟨gb, 1, none⟩ = some v ∧ w.cell? ⟨gb, 2, none⟩ = some (.slice none 0 0) ∧ ∀ j, w.frozen? ⟨gb, j, none⟩ = false :=
  ⟨cells_at_block h.blk 0 _ rfl, cells_at_block h.blk 1 _ rfl, cells_at_block h.blk 2 _ rfl, fun j => by simp [World.frozen?, h.blk]⟩
theorem Book.pair {w : World} {gb : Nat} {c : Int} {gv n cap : Nat} {L : List Out} (h : Book w gb c (.slice (some ⟨gv, 0, none⟩) n cap) L) (hn : n = L.length) (k : Nat) (x : Out) (hk : L[k]? = some x) :
    w.cell? ⟨gv, k * 2, none⟩ = some x.val ∧ w.cell? ⟨gv, k * 2 + 1, none⟩ = some (.int .i64 x.num) := by
  subst hn
  have hlt := (List.getElem?_eq_some_iff.1 hk).1
  obtain ⟨a, b⟩ := outCells_at L k x hk
  rw [Nat.mul_comm k 2]
  exact ⟨(h.row.cellAt (2 * k) (by omega)).trans a, (h.row.cellAt (2 * k + 1) (by omega)).trans b⟩

set_option maxRecDepth 100000 in
set_option maxHeartbeats 1600000 in
theorem looks_any (gb gv cap : Nat) (c : Int) (L : List Out) (w : World) (h : Book w gb c (.slice (some ⟨gv, 0, none⟩) L.length cap) L) (hL : L.length ≤ 1000) (hlen : ∀ x ∈ L, x.len ≤ 20000000) :
    Calls Tryd.prog 14 #[.pointer (some ⟨gb, 0, none⟩)] w fun e w' => e = .returned (.bool true) ∧ ∃ m, w' = w.drewN m := by
  obtain ⟨q0, q1, q2, qf⟩ := h.cells
  have HP := (show Hid _ from fun k x hk => h.pair rfl k x hk)
  have HO := (show Hid _ from h.outs)
  have HL := (show Hid _ from hlen)
  generalize hN : L.length = N at q1 hL ⊢
  have HN := (show Hid _ from hN)
  clear h hlen qf q0 hN
  go_enter Tryd.func14, Tryd.ntmps14
  go_wp2
  go_loopw [3, 4] (fun i _ wr => ∃ k : Nat, k ≤ N ∧ i = .int .i64 k ∧ ∃ m, wr = w.drewN m) (fun i _ _ => N - (intOf i).toNat)
  case atStart => exact ⟨0, Nat.zero_le _, rfl, 0, rfl⟩
  case round =>
    obtain ⟨k, hk, rfl, m, rfl⟩ := hrel
    by_cases hlt : k < N
    · have hlt0 : k < L.length := by have := HN.out; omega
      have hx := HP.out k L[k] (List.getElem?_eq_getElem hlt0)
      have ho := HO.out L[k] (List.getElem_mem hlt0)
      have hl := HL.out L[k] (List.getElem_mem hlt0)
      generalize L[k] = x at hx ho hl
      obtain ⟨xb, xl, xc, xn⟩ := x
      obtain ⟨p0, p1⟩ := hx
      have HC := (show Hid _ from fun j hj => ho.cell j hj)
      unfold Out.val at p0
      simp only at p0 p1 HC hl
      clear ho hlt0
      go_wp2_with fail
      go_hide hQ
      have HQ := (show Hid _ from hQ)
      clear hQ
      go_loopw [4] (fun i wr => ∃ j : Nat, j ≤ xl ∧ i = .int .i64 j ∧ Hid (∃ m', wr = w.drewN m')) (fun i _ => xl - (intOf i).toNat)
      case atStart => exact ⟨0, Nat.zero_le _, rfl, ⟨m, rfl⟩⟩
      case round =>
        obtain ⟨j, hj, rfl, HW⟩ := hrel
        obtain ⟨m', rfl⟩ := HW.out
        by_cases hjl : j < xl
        · have c1 := HC.out j hjl
          have t0 : ((xn : Int) != (xn : Int)) = false := by simp
          go_wp2_with fail
          go_quiet (fail)
          go_wp2
          go_roundw
          case rel => exact ⟨j + 1, by omega, by go_num, ⟨m' + nq, by simp [World.drewN]⟩⟩
          case measure => simp [intOf]; omega
        · go_wp2_with fail
          rw [← HQ.out]
          go_wp2_with fail
          go_roundw
          case rel => exact ⟨k + 1, by omega, by go_num, m', rfl⟩
          case measure => simp [intOf]; omega
    · go_wp2_with fail
      go_loopw [5, 6] (fun i _ wr => i = .int .i64 0 ∧ ∃ m, wr = w.drewN m) (fun _ _ _ => 0)
      case atStart => exact ⟨rfl, m, rfl⟩
      case round =>
        obtain ⟨rfl, m, rfl⟩ := hrel
        go_wp2
        go_ret
        exact ⟨rfl, m, rfl⟩

end Go.Proofs.YtfkhljmiehdgmaaDoor

/-
  The walk of the statement Pages: a list that came out is its owner's.
-/
namespace Go.Proofs.YtfkhljmiehdgmaaDoor
open Go.RowKit

/-- while the list is written full -/
structure Fill (w0 w1 wr : World) (gb Bl g N cap : Nat) (n : Int) (xs : List Value) (k : Nat) : Prop where
  row : wr.ownsRow Bl 3 1 (.slice (some ⟨g, 0, none⟩) N cap) N (List.replicate k (.int .i64 n) ++ xs.drop k)
  other : ∀ q, q ≠ g → wr.heap[q]? = w1.heap[q]?
  below : Below gb w0 wr
theorem set_fill (xs : List Value) (y : Value) (k : Nat) (hk : k < xs.length) : (List.replicate k y ++ xs.drop k).set k y = List.replicate (k + 1) y ++ xs.drop (k + 1) := by
  rw [List.drop_eq_getElem_cons hk, List.set_append_right _ _ (by simp), List.length_replicate, Nat.sub_self, List.set_cons_zero, List.replicate_succ', List.append_assoc]
  rfl
theorem Fill.next {w0 w1 wr : World} {gb Bl g N cap : Nat} {n : Int} {xs : List Value} {k : Nat} (h : Fill w0 w1 wr gb Bl g N cap n xs k) (hb : gb ≤ g) (hx : xs.length = N) (hk : k < N) : Fill w0 w1 (wr.setCell ⟨g, k, none⟩ (.int .i64 n)) gb Bl g N cap n xs (k + 1) := by
  have hs := h.row.stored k (.int .i64 n)
  rw [set_fill xs _ k (by omega)] at hs
  exact ⟨hs.1, fun q hq => (Below.heap_setCell _ _ _ _ hq).trans (h.other q hq), h.below.setCell (p := ⟨g, k, none⟩) hb _⟩
theorem Fill.cell {w0 w1 wr : World} {gb Bl g N cap : Nat} {n : Int} {xs : List Value} {k : Nat} (h : Fill w0 w1 wr gb Bl g N cap n xs k) (hx : xs.length = N) (hk : k < N) : ∃ u, wr.cell? ⟨g, k, none⟩ = some u := by
  refine ⟨xs[k], ?_⟩
  rw [h.row.cellAt k (by omega), List.getElem?_append_right (by simp), List.length_replicate, Nat.sub_self, List.getElem?_drop, Nat.add_zero, List.getElem?_eq_getElem (by omega)]

theorem info_nums : (Tryd.prog.info? 45).map (fun i => (i.zero, i.size, i.bytes)) = some (some (.agg #[.slice none 0 0, .int .i64 0]), 2, 32) := by kernel_rfl
theorem nums_cells : (Value.agg #[.slice none 0 0, .int .i64 0]).cells.size = 2 := by decide

/-- the book's count is one more -/
theorem Book.counted {w : World} {gb : Nat} {c : Int} {v : Value} {L : List Out} (h : Book w gb c v L) (d : Int) : Book (w.setCell ⟨gb, 0, none⟩ (.int .i64 d)) gb d v L := by
  have hset : ∀ q, q ≠ gb → (w.setCell ⟨gb, 0, none⟩ (.int .i64 d)).heap[q]? = w.heap[q]? := fun q hq => Below.heap_setCell _ _ _ _ hq
  refine ⟨?_, ?_, fun x hx => (h.outs x hx).kept (hset _ (by have := (h.outs x hx).1; omega))⟩
  · show (w.heap.modify gb _)[gb]? = _
    rw [Array.getElem?_modify, if_pos rfl, h.blk]
    rfl
  · refine ⟨h.row.1, ?_⟩
    rcases h.row.2 with hq | ⟨g2, cap2, cur, hv, hb, hg, rest⟩
    · exact .inl hq
    · exact .inr ⟨g2, cap2, cur, hv, hb, (hset g2 (by omega)).trans hg, rest⟩
theorem tk_of_fill {w0 w1 wr : World} {gb Bl g N cap : Nat} {c n : Int} {v : Value} {L : List Out} {xs : List Value} (h : Fill w0 w1 wr gb Bl g N cap n xs N) (hx : xs.length = N) (hr1 : w1.ownsRow Bl 3 1 (.slice (some ⟨g, 0, none⟩) N cap) N xs) (hb : Book w1 gb c v L) (hgb : gb < Bl) (hL : ∀ x ∈ L, x.blk < Bl) : Tk w0 wr gb Bl c n v g N cap L := by
  have hg := (h.row.lt g rfl).1
  have hrow : wr.ownsRow Bl 3 1 (.slice (some ⟨g, 0, none⟩) N cap) N (List.replicate N (.int .i64 n)) := by
    have := h.row
    rw [List.drop_eq_nil_of_le (by omega), List.append_nil] at this
    exact this
  refine ⟨⟨(h.other gb (by omega)).trans hb.blk, ?_, fun x hx => (hb.outs x hx).kept (h.other _ (by have := hL x hx; omega))⟩, hrow, hgb, fun x hx e => by have := hL x hx; omega, h.below⟩
  refine ⟨hb.row.1, ?_⟩
  rcases hb.row.2 with hq | ⟨g2, cap2, cur, hv, hb2, hg2, rest⟩
  · exact .inl hq
  · refine .inr ⟨g2, cap2, cur, hv, hb2, ?_, rest⟩
    by_cases e : g2 = g
    · exfalso
      subst e
      obtain ⟨cur2, h2⟩ := ownsRow_type hr1 g2 rfl
      rw [h2] at hg2
      simp only [Option.some.injEq, Obj.cells.injEq] at hg2
      exact ty_ne hg2.2.1
    · exact (h.other g2 e).trans hg2

/-- what is left when a list was taken -/
def Taken (w0 w : World) (gb : Nat) (c : Int) (n0 : Nat) : Prop := ∃ gv cap L, L.length = n0 ∧ Book w gb c (.slice (some ⟨gv, 0, none⟩) L.length cap) L ∧ (∀ x ∈ L, x.len ≤ 20000000) ∧ Below gb w0 w

theorem book_slot {w w3 : World} {gb : Nat} {c : Int} {v : Value} {L : List Out} {o : Obj} (h : Book w gb c v L) (hgr : (w.alloc o).grownBy w3 v.ownBlock) : w3.cell? ⟨gb, 1, none⟩ = some v ∧ w3.frozen? ⟨gb, 1, none⟩ = false := by
  have hb : w3.heap[gb]? = some (.cells #[.int .i64 c, v, .slice none 0 0] 34 (0, 0)) := by
    refine (hgr.block gb (by have := h.lt; simp; omega) ?_).trans ((heap_alloc_old w o h.lt).trans h.blk)
    intro e
    have := (h.row.lt gb e.symm).1
    omega
  exact ⟨cells_at_block hb 1 _ rfl, by simp [World.frozen?, hb]⟩
/-- ahead of each of the three appends -/
def TkAt (w0 wr : World) (gb Bl : Nat) (c n : Int) (g k cap m : Nat) : Prop := ∃ gv capv L, L.length = m ∧ Tk w0 wr gb Bl c n (.slice (some ⟨gv, 0, none⟩) m capv) g k cap L ∧ ∀ x ∈ L, x.len ≤ 20000000

set_option maxRecDepth 100000 in
set_option maxHeartbeats 3200000 in
theorem takeInts_any (gb Bl g N cap c : Nat) (v : Value) (xs : List Value) (L : List Out) (w : World) (h : Book w gb (c : Int) v L) (hr : w.ownsRow Bl 3 1 (.slice (some ⟨g, 0, none⟩) N cap) N xs) (hgb : gb < Bl) (hLb : ∀ x ∈ L, x.blk < Bl)
    (hN : N ≤ 2000000) (hc : c ≤ 1000) (hL : L.length ≤ 1000) (hlen : ∀ x ∈ L, x.len ≤ 20000000) :
    Calls Tryd.prog 28 #[.pointer (some ⟨gb, 0, none⟩), .slice (some ⟨g, 0, none⟩) N cap] w fun e w' => (∃ r, e = .returned r) ∧ Taken w w' gb ((c + 1 : Nat) : Int) (L.length + 4) := by
  obtain ⟨i0, hi, hz0, hz1, hz2⟩ := info_parts info_int
  obtain ⟨i1, hj, hy0, hy1, hy2⟩ := info_parts info_nums
  have hx : xs.length = N := by have := hr.1; omega
  have hgB := (hr.lt g rfl).1
  obtain ⟨q0, q1, q2, qf⟩ := h.cells
  have f0 := qf 0
  have hb1 := h.counted ((c : Int) + 1)
  have hs1 : ∀ q, q ≠ gb → (w.setCell ⟨gb, 0, none⟩ (.int .i64 ((c : Int) + 1))).heap[q]? = w.heap[q]? := fun q hq => Below.heap_setCell _ _ _ _ hq
  have hr1 : (w.setCell ⟨gb, 0, none⟩ (.int .i64 ((c : Int) + 1))).ownsRow Bl 3 1 (.slice (some ⟨g, 0, none⟩) N cap) N xs := ownsRow_block hr (hs1 g (by omega))
  have HT := (show Hid _ from fun wr (hf : Fill w (w.setCell ⟨gb, 0, none⟩ (.int .i64 ((c : Int) + 1))) wr gb Bl g N cap (-((c : Int) + 1)) xs N) => tk_of_fill hf hx hr1 hb1 hgb hLb)
  have HF0 : Hid (Fill w (w.setCell ⟨gb, 0, none⟩ (.int .i64 ((c : Int) + 1))) (w.setCell ⟨gb, 0, none⟩ (.int .i64 ((c : Int) + 1))) gb Bl g N cap (-((c : Int) + 1)) xs 0) :=
    ⟨by simpa using hr1, fun _ _ => rfl, (Below.refl _ _).setCell (p := ⟨gb, 0, none⟩) (Nat.le_refl _) _⟩
  have HX := (show Hid _ from hx)
  have HGB := (show Hid _ from hgB)
  have HG := (show Hid _ from hgb)
  have HLEN := (show Hid _ from hlen)
  have p0 : (w.setCell ⟨gb, 0, none⟩ (.int .i64 ((c : Int) + 1))).cell? ⟨gb, 0, none⟩ = some (.int .i64 ((c : Int) + 1)) := World.cell?_setCell_same _ _ _ q0
  clear h hr hLb hlen q1 q2 qf hb1 hs1 hr1 hx hgB hgb
  go_enter Tryd.func28, Tryd.ntmps28
  go_wp2_with fail
  generalize (w.setCell ⟨gb, 0, none⟩ (.int .i64 ((c : Int) + 1))) = w1 at HT HF0 p0 ⊢
  clear q0 f0 p0
  go_loopw [5] (fun i wr => ∃ k : Nat, k ≤ N ∧ i = .int .i64 k ∧ Hid (Fill w w1 wr gb Bl g N cap (-((c : Int) + 1)) xs k)) (fun i _ => N - (intOf i).toNat)
  case atStart => exact ⟨0, Nat.zero_le _, rfl, HF0⟩
  case round =>
    obtain ⟨k, hk, rfl, HF⟩ := hrel
    clear HF0
    by_cases hlt : k < N
    · obtain ⟨u, hu⟩ := HF.out.cell HX.out hlt
      have hfz := HF.out.row.frozenAt k
      have HN : Hid _ := HF.out.next (by have := HG.out; have := HGB.out; omega) HX.out hlt
      go_wp2_with fail
      go_roundw
      case rel => exact ⟨k + 1, by omega, by go_num, HN⟩
      case measure => simp [intOf]; omega
    · obtain rfl : k = N := by omega
      have HK := (show Hid _ from HT.out wr HF.out)
      clear HT HF hlt
      generalize hm : (-((c : Int) + 1)) = n at HK ⊢
      have hgl := HG.out
      have b1 := HK.out.book.cells.2.1
      have bf := HK.out.book.cells.2.2.2 1
      go_wp2_with (at_builtin; refine wpList_append_lies _ rfl _ _ 31 rfl (gb + 1) 45 i1 (.agg #[.slice none 0 0, .int .i64 0]) 2 32 Tryd.underlying31 hj hy0 hy1 hy2 nums_cells (by decide) _ _ _ rfl (World.ownsRow.alloc HK.out.book.row _) ⟨_, 0, none⟩ 1 1 [.slice (some ⟨g, 0, none⟩) k cap, .int .i64 n] rfl rfl ?c1 ?c2 (by decide) ?c3 ?c4 ?c5 _ rfl ?_)
      case c1 =>
        intro j u hj
        match j, hj with
        | 0, hj => simp at hj; subst hj; simp [Addr.add]
        | 1, hj => simp at hj; subst hj; simp [Addr.add]
      case c2 => intro u hu; simp at hu; rcases hu with rfl | rfl <;> rfl
      case c3 => unfold maxLen; omega
      case c4 => omega
      case c5 => have := HK.out.book.lt; simp; omega
      · intro gv capv w3 hown hgr hat hlt3
        obtain ⟨b3, f3⟩ := book_slot HK.out.book hgr
        have hW := HK.out.wrote _ hown hgr hat
        have HA : Hid (TkAt w (w3.setCell ⟨gb, 1, none⟩ (.slice (some ⟨gv, 0, none⟩) (L.length + 1) capv)) gb Bl ((c : Int) + 1) n g k cap (L.length + 1)) := by
          refine ⟨gv, capv, L ++ [⟨g, k, cap, n⟩], by simp, hW, fun x hx => ?_⟩
          rw [List.mem_append, List.mem_singleton] at hx
          rcases hx with hx | rfl
          · exact HLEN.out x hx
          · show k ≤ 20000000; omega
        clear hown hgr hat hlt3 hW b1 bf HK
        go_wp2_with fail
        generalize (w3.setCell ⟨gb, 1, none⟩ (.slice (some ⟨gv, 0, none⟩) (L.length + 1) capv)) = w4 at HA ⊢
        clear b3 f3 HX
        go_loopw [6, 7] (fun gval kk wr => ∃ i : Nat, i ≤ 3 ∧ kk = .int .i64 i ∧ ∃ g' cap', gval = .slice (some ⟨g', 0, none⟩) (k + i) cap' ∧ Hid (TkAt w wr gb Bl ((c : Int) + 1) n g' (k + i) cap' (L.length + 1 + i))) (fun _ kk _ => 3 - (intOf kk).toNat)
        case atStart => exact ⟨0, by omega, rfl, g, cap, rfl, HA⟩
        case round =>
          obtain ⟨i, hi3, rfl, g', cap', rfl, HB⟩ := hrel
          clear HA
          by_cases hlt : i < 3
          · obtain ⟨gv', capv', L', hL', htk, hlen'⟩ := HB.out
            have HTK := (show Hid _ from htk)
            have HLN := (show Hid _ from hlen')
            have HLL := (show Hid _ from hL')
            have hlt' : (i : Int) < 3 := by omega
            clear htk hlen' hL' HB
            go_wp2_with (at_builtin; refine wpList_append_keeps _ rfl _ _ 36 rfl Bl 3 i0 (.int .i64 0) 1 8 Tryd.underlying36 hi hz0 hz1 hz2 rfl (by decide) g' (k + i) cap' _ rfl (World.ownsRow.alloc HTK.out.row _) ⟨_, 0, none⟩ 1 1 [.int .i64 n] rfl rfl ?c1 ?c2 ?c3 ?c4 ?c5 ?_)
            case c1 =>
              intro j u hj
              match j, hj with
              | 0, hj => simp at hj; subst hj; simp [Addr.add]
            case c2 => intro u hu; simp at hu; subst hu; rfl
            case c3 => unfold maxLen; omega
            case c4 => omega
            case c5 => have := HTK.out.big; simp; omega
            · intro g2 cap2 w5 hown hgr hat
              have HK := (show Hid _ from HTK.out.more _ hown hgr hat)
              have b1 := HK.out.book.cells.2.1
              have bf := HK.out.book.cells.2.2.2 1
              clear hown hgr hat HTK
              have hrow := HK.out.book.row
              rw [HLL.out] at hrow
              have HROW := (show Hid _ from hrow)
              clear hrow
              go_wp2_with (at_builtin; refine wpList_append_lies _ rfl _ _ 31 rfl (gb + 1) 45 i1 (.agg #[.slice none 0 0, .int .i64 0]) 2 32 Tryd.underlying31 hj hy0 hy1 hy2 nums_cells (by decide) _ _ _ rfl (World.ownsRow.alloc HROW.out _) ⟨_, 0, none⟩ 1 1 [.slice (some ⟨g2, 0, none⟩) (k + i + 1) cap2, .int .i64 n] rfl rfl ?d1 ?d2 (by decide) ?d3 ?d4 ?d5 _ rfl ?_)
              case d1 =>
                intro j u hj
                match j, hj with
                | 0, hj => simp at hj; subst hj; simp [Addr.add]
                | 1, hj => simp at hj; subst hj; simp [Addr.add]
              case d2 => intro u hu; simp at hu; rcases hu with rfl | rfl <;> rfl
              case d3 => unfold maxLen; omega
              case d4 => omega
              case d5 => have := HK.out.book.lt; simp; omega
              · intro gv2 capv2 w6 hown hgr hat hlt3
                obtain ⟨b3, f3⟩ := book_slot HK.out.book hgr
                rw [← HLL.out] at hown
                have hW := HK.out.wrote _ hown hgr hat
                rw [HLL.out] at hW
                have HA : Hid (TkAt w (w6.setCell ⟨gb, 1, none⟩ (.slice (some ⟨gv2, 0, none⟩) (L.length + 1 + i + 1) capv2)) gb Bl ((c : Int) + 1) n g2 (k + i + 1) cap2 (L.length + 1 + i + 1)) := by
                  refine ⟨gv2, capv2, L' ++ [⟨g2, k + i + 1, cap2, n⟩], by simp [HLL.out], hW, fun x hx => ?_⟩
                  rw [List.mem_append, List.mem_singleton] at hx
                  rcases hx with hx | rfl
                  · exact HLN.out x hx
                  · show k + i + 1 ≤ 20000000; omega
                clear hown hgr hat hlt3 hW b1 bf HK HROW HLN
                go_wp2_with fail
                go_roundw
                case rel => exact ⟨i + 1, by omega, by go_num, g2, cap2, rfl, HA⟩
                case measure => simp [intOf]; omega
          · obtain rfl : i = 3 := by omega
            have HB' := HB
            go_wp2_with fail
            refine bodyPost_end (results_none Tryd.results28 _ _ _) rfl ?_
            obtain ⟨gv', capv', L', hL', htk, hlen'⟩ := HB'.out
            refine ⟨⟨_, rfl⟩, gv', capv', L', by omega, ?_, hlen', htk.below⟩
            have := htk.book
            rw [hL']
            simpa using this

end Go.Proofs.YtfkhljmiehdgmaaDoor

/-
  The walk of the statement Pages: one page; the whole.
-/
namespace Go.Proofs.YtfkhljmiehdgmaaDoor
open Go.RowKit

theorem ints_at (l : List Nat) (j : Nat) (hj : j < l.length) : (intCells l)[j]? = some (.int .i64 ((l.getD j 0 : Nat) : Int)) := by
  simp [intCells, List.getElem?_map, List.getElem?_eq_getElem hj, List.getD_eq_getElem?_getD]
theorem vals_at (l : List Nat) (j : Nat) (hj : j < l.length) : (intVals (l.map fun (m : Nat) => (m : Int)))[j]? = some (.int .i64 ((l.getD j 0 : Nat) : Int)) := by
  simp [intVals, List.getElem?_map, List.getElem?_eq_getElem hj, List.getD_eq_getElem?_getD]
theorem Book.below {w w' : World} {gb : Nat} {c : Int} {v : Value} {L : List Out} (h : Book w gb c v L) (hb : Below w.heap.size w w') : Book w' gb c v L := h.kept fun g hg => hb.block g hg
/-- the two lists that the two Modes answer are held against each other -/
theorem same_any (s : ByteArray) (w : World) (B g : Nat) (v2 : Value) (hs : s.size ≤ 2000000) (B1 : Nat)
    (h1 : w.ownsRow B 3 1 (.slice (some ⟨g, 0, none⟩) s.size s.size) s.size (intCells (Pl.modes s.data.toList)))
    (h2 : w.ownsRow B1 3 1 v2 s.size (intVals (Pl.spModes Pl.Sp.start s.data.toList))) :
    Calls Tryd.prog 27 #[.slice (some ⟨g, 0, none⟩) s.size s.size, v2] w fun e w' => e = .returned (.bool true) ∧ ∃ m, w' = w.drewN m := by
  rw [Pl.modes_same] at h2
  have hl : (Pl.modes s.data.toList).length = s.size := by rw [Pl.modes_len]; rfl
  rcases h2.2 with ⟨rfl, h0⟩ | ⟨g2, cap2, cur, rfl, _⟩
  · rw [h0]; exact sameInts_nil g 0 w
  · refine sameInts_yes s.size g s.size g2 cap2 (fun j => (((Pl.modes s.data.toList).getD j 0 : Nat) : Int)) w (by omega) (fun j hj => ?_) (fun j hj => ?_)
    · rw [h1.cellAt j (by omega)]; exact ints_at _ j (by omega)
    · rw [h2.cellAt j (by omega)]; exact vals_at _ j (by omega)

set_option maxRecDepth 100000 in
set_option maxHeartbeats 1600000 in
theorem page_any (HM : ModesC) (gb c : Nat) (v : Value) (L : List Out) (s : ByteArray) (w : World) (h : Book w gb (c : Int) v L) (ht : PTabs w) (hs : s.size ≤ 2000000) (hc : c ≤ 1000) (hL : L.length ≤ 1000) (hlen : ∀ x ∈ L, x.len ≤ 20000000) :
    Calls Tryd.prog 13 #[.pointer (some ⟨gb, 0, none⟩), .string s] w fun e w' => e = .returned (.bool true) ∧ Taken w w' gb ((c + 1 : Nat) : Int) (L.length + 4) := by
  have H1 := HM s w ht (by omega)
  have hlt := h.lt
  have hLb : ∀ x ∈ L, x.blk < w.heap.size := fun x hx => (h.outs x hx).lt
  have HB := (show Hid _ from h)
  have HLB := (show Hid _ from hLb)
  have HLEN := (show Hid _ from hlen)
  have H1 := (show Hid _ from H1)
  have HR := (show Hid _ from fun w => refModes s w hs)
  have HS := (show Hid _ from same_any s)
  clear h ht hLb hlen HM
  go_enter Tryd.func13, Tryd.ntmps13
  go_wp2_with fail
  refine (Calls.mono H1.out) ?_
  rintro e w1 ⟨rfl, hr1, hb1⟩
  have hk1 := HB.out.below hb1
  have hz1 := hb1.size
  clear H1
  go_wp2_with fail
  refine (HR.out _).mono ?_
  rintro e w2 ⟨v2, rfl, hr2, hb2⟩
  have hk2 := hk1.below hb2
  have hr12 := own_far hr1 (w' := w2) (fun g _ hg => hb2.block g hg)
  have hb12 := hb1.trans (hb2.mono hz1)
  clear hr1 hk1 HR hb1 hb2
  go_wp2_with fail
  refine (HS.out w2 _ _ v2 hs _ hr12 hr2).mono ?_
  rintro e w3 ⟨rfl, m, rfl⟩
  have hk3 : Book (w2.drewN m) gb (c : Int) v L := hk2.kept fun _ _ => rfl
  have hr3 : (w2.drewN m).ownsRow w.heap.size 3 1 _ s.size _ := own_far hr12 (w' := w2.drewN m) (fun _ _ _ => rfl)
  have hb3 := below_drewN hb12 m
  clear hk2 hr12 hr2 HS hb12
  generalize w2.drewN m = w4 at hk3 hr3 hb3 ⊢
  go_wp2_with fail
  refine (takeInts_any gb w.heap.size _ _ _ c v _ L w4 hk3 hr3 hlt HLB.out hs hc hL HLEN.out).mono ?_
  rintro e w5 ⟨⟨r, rfl⟩, gv, cap, L', hl', hbk, hlen', hbl⟩
  have hT : Taken w w5 gb ((c + 1 : Nat) : Int) (L.length + 4) := ⟨gv, cap, L', hl', hbk, hlen', (hb3.mono (Nat.le_of_lt hlt)).trans hbl⟩
  clear hbk hl' hlen' hbl hb3 hr3 hk3
  go_wp2_with fail
  go_ret
  exact ⟨rfl, hT⟩

set_option maxRecDepth 100000 in
set_option maxHeartbeats 1600000 in
theorem Pages_any (HM : ModesC) (s : ByteArray) (w : World) (ht : PTabs w) (hs : s.size ≤ 2000000) :
    Calls Tryd.prog 5 #[.string s] w fun e w' => e = .returned (.bool true) ∧ Below w.heap.size w w' := by
  have hb0 : Below w.heap.size w (w.alloc (.cells #[.int .i64 ((0 : Nat) : Int), .slice none 0 0, .slice none 0 0] 34)) := (Below.refl _ _).alloc (Nat.le_refl _) _
  have hk0 : Book (w.alloc (.cells #[.int .i64 ((0 : Nat) : Int), .slice none 0 0, .slice none 0 0] 34)) w.heap.size ((0 : Nat) : Int) (.slice none 0 0) [] :=
    ⟨heap_alloc_new w _, World.ownsRow_nil _ _ _ _, fun x hx => by cases hx⟩
  have HP := (show Hid _ from page_any HM w.heap.size)
  have HK0 := (show Hid _ from hk0)
  have HB0 := (show Hid _ from hb0)
  clear hk0 hb0 HM
  go_enter Tryd.func5, Tryd.ntmps5
  go_wp2_with fail
  generalize (w.alloc (.cells #[.int .i64 ((0 : Nat) : Int), .slice none 0 0, .slice none 0 0] 34)) = w0 at HK0 HB0 ⊢
  refine (HP.out 0 _ [] _ w0 HK0.out (ht.kept HB0.out) (by decide) (by omega) (by simp) (fun x hx => by cases hx)).mono ?_
  rintro e w1 ⟨rfl, gv1, cap1, L1, hl1, hk1, hn1, hb1⟩
  have HK1 := (show Hid _ from hk1)
  have HN1 := (show Hid _ from hn1)
  have HB1 := (show Hid _ from HB0.out.trans hb1)
  have HL1 : L1.length = 4 := hl1
  clear hk1 hn1 hb1 hl1 HB0 HK0
  go_wp2_with fail
  refine (HP.out 1 _ L1 s w1 HK1.out (ht.kept HB1.out) hs (by omega) (by omega) HN1.out).mono ?_
  rintro e w2 ⟨rfl, gv2, cap2, L2, hl2, hk2, hn2, hb2⟩
  have HK2 := (show Hid _ from hk2)
  have HN2 := (show Hid _ from hn2)
  have HB2 := (show Hid _ from HB1.out.trans hb2)
  have HL2 : L2.length = 8 := by omega
  clear hk2 hn2 hb2 hl2 HB1 HK1 HN1 HL1
  go_wp2_with fail
  refine (HP.out 2 _ L2 _ w2 HK2.out (ht.kept HB2.out) (by decide) (by omega) (by omega) HN2.out).mono ?_
  rintro e w3 ⟨rfl, gv3, cap3, L3, hl3, hk3, hn3, hb3⟩
  have HK3 := (show Hid _ from hk3)
  have HN3 := (show Hid _ from hn3)
  have HB3 := (show Hid _ from HB2.out.trans hb3)
  have HL3 : L3.length = 12 := by omega
  clear hk3 hn3 hb3 hl3 HB2 HK2 HN2 HL2
  go_wp2_with fail
  refine (HP.out 3 _ L3 s w3 HK3.out (ht.kept HB3.out) hs (by omega) (by omega) HN3.out).mono ?_
  rintro e w4 ⟨rfl, gv4, cap4, L4, hl4, hk4, hn4, hb4⟩
  have HK4 := (show Hid _ from hk4)
  have HN4 := (show Hid _ from hn4)
  have HB4 := (show Hid _ from HB3.out.trans hb4)
  have HL4 : L4.length ≤ 1000 := by omega
  clear hk4 hn4 hb4 hl4 HB3 HK3 HN3 HL3
  go_wp2_with fail
  refine (looks_any w.heap.size gv4 cap4 _ L4 w4 HK4.out HL4 HN4.out).mono ?_
  rintro e w5 ⟨rfl, m, rfl⟩
  go_wp2_with fail
  go_ret
  exact ⟨rfl, below_drewN HB4.out m⟩

end Go.Proofs.YtfkhljmiehdgmaaDoor

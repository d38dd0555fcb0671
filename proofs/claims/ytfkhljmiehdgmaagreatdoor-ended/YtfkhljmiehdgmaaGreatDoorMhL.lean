/-
  Several texts laid together: each opens with its own remark.
-/
import Derived.Test.YtfkhljmiehdgmaaGreatDoorMhE
import Derived.Test.YtfkhljmiehdgmaaGreatDoorPgTabs
import Derived.Test.YtfkhljmiehdgmaaGreatDoorMhC
import Derived.Maps.AppendAt
import Derived.Deep.RegionLaw
import Derived.BigRegion
import Derived.Test.YtfkhljmiehdgmaaGreatDoorWalkA
import Derived.Test.YtfkhljmiehdgmaaGreatDoorPgWA
import Derived.Test.YtfkhljmiehdgmaaGreatDoorPgWS
import Derived.Test.YtfkhljmiehdgmaaGreatDoorShelf
import Derived.Lib.SplitLaws

/-
  A text that is being cut, in memory; an append as a step of a region.
-/
namespace Go.Proofs.YtfkhljmiehdgmaaGreatDoor
open Go.RowKit

def ptCells1 (p : Pl.Pt) : List Value := [.int .i64 p.kind, .int .i64 p.pos, bs p.text, .int .i64 p.mate]
def ptCells (L : List Pl.Pt) : List Value := L.flatMap ptCells1
theorem ptCells_len (L : List Pl.Pt) : (ptCells L).length = L.length * 4 := by
  induction L with
  | nil => rfl
  | cons p L ih => show (ptCells L).length + 4 = _; rw [ih, List.length_cons]; omega
theorem ptCells_snoc (L : List Pl.Pt) (p : Pl.Pt) : ptCells (L ++ [p]) = ptCells L ++ ptCells1 p := by simp [ptCells]
theorem ptCells_at : ∀ (L : List Pl.Pt) (k : Nat) (p : Pl.Pt), L[k]? = some p → ∀ (j : Nat) (v : Value), (ptCells1 p)[j]? = some v → (ptCells L)[k * 4 + j]? = some v
  | [], k, p, e => by simp at e
  | q :: L, 0, p, e => by
    simp only [List.getElem?_cons_zero, Option.some.injEq] at e
    subst e
    intro j v hv
    show (ptCells1 q ++ ptCells L)[0 * 4 + j]? = some v
    rw [Nat.zero_mul, Nat.zero_add, List.getElem?_append_left (List.getElem?_eq_some_iff.1 hv).1]
    exact hv
  | q :: L, k + 1, p, e => by
    intro j v hv
    have := ptCells_at L k p (by simpa using e) j v hv
    show (ptCells1 q ++ ptCells L)[(k + 1) * 4 + j]? = some v
    rw [List.getElem?_append_right (by simp [ptCells1]; omega)]
    have e : (k + 1) * 4 + j - (ptCells1 q).length = k * 4 + j := by simp [ptCells1]; omega
    rw [e]
    exact this
theorem ptCells_mate : ∀ (L : List Pl.Pt) (m n : Nat), m < L.length → (ptCells L).set (m * 4 + 3) (.int .i64 n) = ptCells (Pl.setMate L m n)
  | [], m, n, h => by simp at h
  | q :: L, 0, n, _ => rfl
  | q :: L, m + 1, n, h => by
    have ih := ptCells_mate L m n (by simpa using h)
    have e : Pl.setMate (q :: L) (m + 1) n = q :: Pl.setMate L m n := by simp [Pl.setMate]
    rw [e]
    show (ptCells1 q ++ ptCells L).set ((m + 1) * 4 + 3) _ = ptCells1 q ++ ptCells (Pl.setMate L m n)
    rw [List.set_append_right _ _ (by simp [ptCells1]; omega)]
    have e2 : (m + 1) * 4 + 3 - (ptCells1 q).length = m * 4 + 3 := by simp [ptCells1]; omega
    rw [e2, ih]
def natCells (L : List Nat) : List Value := L.map fun (n : Nat) => Value.int .i64 (n : Int)

theorem ownsRow_same {w w' : World} {B n k : Nat} {e : TypeId} {v : Value} {xs : List Value} (h : w.ownsRow B e k v n xs) (hb : ∀ g, v.ownBlock = some g → w'.heap[g]? = w.heap[g]?) : w'.ownsRow B e k v n xs := by
  refine ⟨h.1, ?_⟩
  rcases h.2 with h0 | ⟨g, cap, cur, hv, hle, hg, rest⟩
  · exact .inl h0
  · exact .inr ⟨g, cap, cur, hv, hle, (hb g (by rw [hv]; rfl)).trans hg, rest⟩
theorem ownsRow_ty {w : World} {B n k : Nat} {e : TypeId} {v : Value} {xs : List Value} (h : w.ownsRow B e k v n xs) (g : Nat) (hg : v.ownBlock = some g) : ∃ cur, w.heap[g]? = some (.cells cur e (0, 0)) := by
  rcases h.2 with ⟨rfl, _⟩ | ⟨g', cap, cur, rfl, _, hh, _⟩
  · simp [Value.ownBlock] at hg
  · simp [Value.ownBlock] at hg
    subst hg
    exact ⟨cur, hh⟩
theorem ownsRow_form {w : World} {B n k : Nat} {e : TypeId} {v : Value} {xs : List Value} (h : w.ownsRow B e k v n xs) (hn : 0 < n) : ∃ g cap, v = .slice (some ⟨g, 0, none⟩) n cap ∧ B ≤ g ∧ g < w.heap.size := by
  rcases h.2 with ⟨_, h0⟩ | ⟨g, cap, cur, hv, hle, hg, rest⟩
  · omega
  · exact ⟨g, cap, hv, hle, (Array.getElem?_eq_some_iff.1 hg).1⟩
/-- a row's beginning is a row -/
theorem ownsRow_take {w : World} {B n k : Nat} {e : TypeId} {g cap : Nat} {xs : List Value} (h : w.ownsRow B e k (.slice (some ⟨g, 0, none⟩) n cap) n xs) (m : Nat) (hm : m ≤ n) : w.ownsRow B e k (.slice (some ⟨g, 0, none⟩) m cap) m (xs.take (m * k)) := by
  have hmk : m * k ≤ n * k := Nat.mul_le_mul_right k hm
  refine ⟨by rw [List.length_take, h.1]; omega, ?_⟩
  rcases h.2 with ⟨h0, _⟩ | ⟨g', cap', cur, hv, hle, hg, h1, h2, h3, h4⟩
  · cases h0
  · injection hv with e1 e2 e3
    injection e1 with e1
    injection e1 with e1
    subst e1 e3
    exact .inr ⟨g, cap, cur, rfl, hle, hg, by omega, h2, h3, by rw [← h4, List.take_take, Nat.min_eq_left hmk]⟩

/-- the cutter in memory -/
structure CtAt (w : World) (B g : Nat) (t : List UInt8) (c : Pl.Ct) (vp vo : Value) : Prop where
  blk : w.heap[g]? = some (.cells #[bs t, bs c.op, bs c.cl, vp, vo] 222 (0, 0))
  parts : w.ownsRow B 229 4 vp c.parts.length (ptCells c.parts)
  opened : w.ownsRow B 3 1 vo c.opened.length (natCells c.opened)
  le : B ≤ g
/-- how the world may turn while a text is cut -/
structure Cur (B g : Nat) (w w' : World) : Prop where
  below : Below B w w'
  keep : ∀ k cs t fz, w.heap[k]? = some (.cells cs t fz) → k ≠ g → t ≠ 229 → t ≠ 3 → w'.heap[k]? = w.heap[k]?
theorem Cur.refl (B g : Nat) (w : World) : Cur B g w w := ⟨Below.refl _ _, fun _ _ _ _ _ _ _ _ => rfl⟩
theorem Cur.trans {B g : Nat} {a b c : World} (h : Cur B g a b) (k : Cur B g b c) : Cur B g a c :=
  ⟨h.below.trans k.below, fun i cs t fz hi h1 h2 h3 => (k.keep i cs t fz ((h.keep i cs t fz hi h1 h2 h3).trans hi) h1 h2 h3).trans (h.keep i cs t fz hi h1 h2 h3)⟩
theorem Cur.of_below {B g : Nat} {w w' : World} (h : Below w.heap.size w w') (hB : B ≤ w.heap.size) : Cur B g w w' :=
  ⟨h.mono hB, fun k _ _ _ hk _ _ _ => h.block k (Array.getElem?_eq_some_iff.1 hk).1⟩
theorem CtAt.lt {w : World} {B g : Nat} {t : List UInt8} {c : Pl.Ct} {vp vo : Value} (h : CtAt w B g t c vp vo) : g < w.heap.size := (Array.getElem?_eq_some_iff.1 h.blk).1
theorem CtAt.kept {w w' : World} {B g : Nat} {t : List UInt8} {c : Pl.Ct} {vp vo : Value} (h : CtAt w B g t c vp vo) (hb : ∀ k, k < w.heap.size → w'.heap[k]? = w.heap[k]?) : CtAt w' B g t c vp vo :=
  ⟨(hb g h.lt).trans h.blk, ownsRow_same h.parts fun k hk => hb k (h.parts.lt k hk).2, ownsRow_same h.opened fun k hk => hb k (h.opened.lt k hk).2, h.le⟩
theorem CtAt.below {w w' : World} {B g : Nat} {t : List UInt8} {c : Pl.Ct} {vp vo : Value} (h : CtAt w B g t c vp vo) (hb : Below w.heap.size w w') : CtAt w' B g t c vp vo := h.kept hb.block
theorem CtAt.alloc {w : World} {B g : Nat} {t : List UInt8} {c : Pl.Ct} {vp vo : Value} (h : CtAt w B g t c vp vo) (o : Obj) : CtAt (w.alloc o) B g t c vp vo := h.kept fun _ hk => heap_alloc_old w o hk
theorem CtAt.cell {w : World} {B g : Nat} {t : List UInt8} {c : Pl.Ct} {vp vo : Value} (h : CtAt w B g t c vp vo) : ∀ (j : Nat) (v : Value), [bs t, bs c.op, bs c.cl, vp, vo][j]? = some v → w.cell? ⟨g, j, none⟩ = some v := fun j v hv => cells_at_block h.blk j v hv
theorem CtAt.thaw {w : World} {B g : Nat} {t : List UInt8} {c : Pl.Ct} {vp vo : Value} (h : CtAt w B g t c vp vo) (j : Nat) : w.frozen? ⟨g, j, none⟩ = false := by simp [World.frozen?, h.blk]

theorem ty_ct_part : (222 : TypeId) ≠ 229 := by decide
theorem ty_ct_int : (222 : TypeId) ≠ 3 := by decide
theorem ty_part_int : (229 : TypeId) ≠ 3 := by decide
theorem ty_apart {w : World} {k l : Nat} {cs cs' : Array Value} {t t' : TypeId} {fz fz' : Nat × Nat} (h : w.heap[k]? = some (.cells cs t fz)) (h' : w.heap[l]? = some (.cells cs' t' fz')) (hne : t ≠ t') : k ≠ l := by
  rintro rfl
  rw [h] at h'
  simp only [Option.some.injEq, Obj.cells.injEq] at h'
  exact hne h'.2.1

/-- behind the append onto the parts, ahead of the store -/
theorem CtAt.more {w w' : World} {B g : Nat} {t : List UInt8} {c : Pl.Ct} {vp vo vp' : Value} (h : CtAt w B g t c vp vo) (p : Pl.Pt) (hown : w'.ownsRow B 229 4 vp' (c.parts.length + 1) (ptCells c.parts ++ ptCells1 p)) (hgr : w.grownBy w' vp.ownBlock) :
    CtAt (w'.setCell ⟨g, 3, none⟩ vp') B g t { c with parts := c.parts ++ [p] } vp' vo ∧ Cur B g w (w'.setCell ⟨g, 3, none⟩ vp') := by
  have hgb : ∀ k, vp.ownBlock = some k → g ≠ k := fun k hk => by
    obtain ⟨cur, hc⟩ := ownsRow_ty h.parts k hk
    exact ty_apart h.blk hc ty_ct_part
  have hob : ∀ k l, vo.ownBlock = some k → vp.ownBlock = some l → k ≠ l := fun k l hk hl => by
    obtain ⟨cur, hc⟩ := ownsRow_ty h.opened k hk
    obtain ⟨cur', hc'⟩ := ownsRow_ty h.parts l hl
    exact fun e => ty_apart hc' hc ty_part_int e.symm
  have hg' : w'.heap[g]? = some (.cells #[bs t, bs c.op, bs c.cl, vp, vo] 222 (0, 0)) := (hgr.block g h.lt (fun e => hgb g e.symm rfl)).trans h.blk
  have hset : ∀ k, k ≠ g → (w'.setCell ⟨g, 3, none⟩ vp').heap[k]? = w'.heap[k]? := fun k hk => Below.heap_setCell _ _ _ _ hk
  have hvg : ∀ k, vp'.ownBlock = some k → k ≠ g := fun k hk => by
    obtain ⟨cur, hc⟩ := ownsRow_ty hown k hk
    exact fun e => ty_apart hg' hc ty_ct_part e.symm
  refine ⟨⟨?_, ?_, ?_, h.le⟩, ⟨?_, ?_⟩⟩
  · rw [heap_setCell_same _ _ _ _ _ _ hg']; rfl
  · have e : ({ c with parts := c.parts ++ [p] } : Pl.Ct).parts.length = c.parts.length + 1 := by simp
    rw [e]
    show World.ownsRow _ _ _ _ _ _ (ptCells (c.parts ++ [p]))
    rw [ptCells_snoc]
    exact ownsRow_same hown fun k hk => hset k (hvg k hk)
  · refine ownsRow_same h.opened fun k hk => ?_
    have hkl := (h.opened.lt k hk).2
    obtain ⟨cur, hc⟩ := ownsRow_ty h.opened k hk
    refine (hset k (fun e => ty_apart h.blk hc ty_ct_int e.symm)).trans (hgr.block k hkl (fun e => hob k k hk e.symm rfl))
  · refine Below.trans ⟨hgr.os, hgr.tape, hgr.output, hgr.size, fun k hk => hgr.block k (by have := h.lt; have := h.le; omega) (fun e => by have := (h.parts.lt k e.symm).1; omega)⟩ ((Below.refl _ _).setCell (p := ⟨g, 3, none⟩) h.le _)
  · intro k cs ty fz hk h1 h2 h3
    refine (hset k h1).trans (hgr.block k (Array.getElem?_eq_some_iff.1 hk).1 (fun e => ?_))
    obtain ⟨cur, hc⟩ := ownsRow_ty h.parts k e.symm
    exact ty_apart hk hc h2 rfl
/-- behind the append onto the places, ahead of the store -/
theorem CtAt.push {w w' : World} {B g : Nat} {t : List UInt8} {c : Pl.Ct} {vp vo vo' : Value} (h : CtAt w B g t c vp vo) (n : Nat) (hown : w'.ownsRow B 3 1 vo' (c.opened.length + 1) (natCells c.opened ++ [.int .i64 n])) (hgr : w.grownBy w' vo.ownBlock) :
    CtAt (w'.setCell ⟨g, 4, none⟩ vo') B g t { c with opened := c.opened ++ [n] } vp vo' ∧ Cur B g w (w'.setCell ⟨g, 4, none⟩ vo') := by
  have hgb : ∀ k, vo.ownBlock = some k → g ≠ k := fun k hk => by
    obtain ⟨cur, hc⟩ := ownsRow_ty h.opened k hk
    exact ty_apart h.blk hc ty_ct_int
  have hob : ∀ k l, vp.ownBlock = some k → vo.ownBlock = some l → k ≠ l := fun k l hk hl => by
    obtain ⟨cur, hc⟩ := ownsRow_ty h.parts k hk
    obtain ⟨cur', hc'⟩ := ownsRow_ty h.opened l hl
    exact ty_apart hc hc' ty_part_int
  have hg' : w'.heap[g]? = some (.cells #[bs t, bs c.op, bs c.cl, vp, vo] 222 (0, 0)) := (hgr.block g h.lt (fun e => hgb g e.symm rfl)).trans h.blk
  have hset : ∀ k, k ≠ g → (w'.setCell ⟨g, 4, none⟩ vo').heap[k]? = w'.heap[k]? := fun k hk => Below.heap_setCell _ _ _ _ hk
  have hvg : ∀ k, vo'.ownBlock = some k → k ≠ g := fun k hk => by
    obtain ⟨cur, hc⟩ := ownsRow_ty hown k hk
    exact fun e => ty_apart hg' hc ty_ct_int e.symm
  refine ⟨⟨?_, ?_, ?_, h.le⟩, ⟨?_, ?_⟩⟩
  · rw [heap_setCell_same _ _ _ _ _ _ hg']; rfl
  · refine ownsRow_same h.parts fun k hk => ?_
    have hkl := (h.parts.lt k hk).2
    obtain ⟨cur, hc⟩ := ownsRow_ty h.parts k hk
    refine (hset k (fun e => ty_apart h.blk hc ty_ct_part e.symm)).trans (hgr.block k hkl (fun e => hob k k hk e.symm rfl))
  · have e : ({ c with opened := c.opened ++ [n] } : Pl.Ct).opened.length = c.opened.length + 1 := by simp
    rw [e]
    have e2 : natCells ({ c with opened := c.opened ++ [n] } : Pl.Ct).opened = natCells c.opened ++ [.int .i64 n] := by simp [natCells]
    rw [e2]
    exact ownsRow_same hown fun k hk => hset k (hvg k hk)
  · refine Below.trans ⟨hgr.os, hgr.tape, hgr.output, hgr.size, fun k hk => hgr.block k (by have := h.lt; have := h.le; omega) (fun e => by have := (h.opened.lt k e.symm).1; omega)⟩ ((Below.refl _ _).setCell (p := ⟨g, 4, none⟩) h.le _)
  · intro k cs ty fz hk h1 h2 h3
    refine (hset k h1).trans (hgr.block k (Array.getElem?_eq_some_iff.1 hk).1 (fun e => ?_))
    obtain ⟨cur, hc⟩ := ownsRow_ty h.opened k e.symm
    exact ty_apart hk hc h3 rfl

/-- the cutter behind a call -/
structure CtTo (w w' : World) (B g : Nat) (t : List UInt8) (c : Pl.Ct) : Prop where
  ex : ∃ vp vo, CtAt w' B g t c vp vo
  cur : Cur B g w w'
theorem news_at (w : World) (cs : List Value) (t : TypeId) : ∀ (j : Nat) (u : Value), cs[j]? = some u → (w.alloc (.cells cs.toArray t)).cell? ((⟨w.heap.size, 0, none⟩ : Addr).add j) = some u := by
  intro j u hj
  have : (⟨w.heap.size, 0, none⟩ : Addr).add j = ⟨w.heap.size, j, none⟩ := by simp only [Addr.add, Nat.zero_add]; split <;> simp_all
  rw [this]
  exact cells_at_block (heap_alloc_new w _) j u (by simpa using hj)
theorem CtAt.ahead {w w0 w' : World} {B g : Nat} {t : List UInt8} {c : Pl.Ct} {vp vo : Value} (h : CtAt w B g t c vp vo) (hb0 : Below w.heap.size w w0) {row : Option Nat} (hrow : row = vp.ownBlock ∨ row = vo.ownBlock) (hgr : w0.grownBy w' row) (j : Nat) (v : Value) (hv : [bs t, bs c.op, bs c.cl, vp, vo][j]? = some v) : w'.cell? ⟨g, j, none⟩ = some v ∧ w'.frozen? ⟨g, j, none⟩ = false := by
  have hne : some g ≠ row := by
    rintro rfl
    rcases hrow with e | e
    · obtain ⟨cur, hc⟩ := ownsRow_ty h.parts g e.symm
      exact ty_apart h.blk hc ty_ct_part rfl
    · obtain ⟨cur, hc⟩ := ownsRow_ty h.opened g e.symm
      exact ty_apart h.blk hc ty_ct_int rfl
  have hb : w'.heap[g]? = some (.cells #[bs t, bs c.op, bs c.cl, vp, vo] 222 (0, 0)) := (hgr.block g (Nat.lt_of_lt_of_le h.lt hb0.size) hne).trans ((hb0.block g h.lt).trans h.blk)
  exact ⟨cells_at_block hb j v hv, by simp [World.frozen?, hb]⟩
theorem CtAt.moreTo {w w0 w' : World} {B g : Nat} {t : List UInt8} {c : Pl.Ct} {vp vo vp' : Value} (h : CtAt w B g t c vp vo) (hb0 : Below w.heap.size w w0) (p : Pl.Pt) (hown : w'.ownsRow B 229 4 vp' (c.parts.length + 1) (ptCells c.parts ++ ptCells1 p)) (hgr : w0.grownBy w' vp.ownBlock) :
    CtTo w (w'.setCell ⟨g, 3, none⟩ vp') B g t { c with parts := c.parts ++ [p] } := by
  obtain ⟨h1, h2⟩ := (h.below hb0).more p hown hgr
  exact ⟨⟨_, _, h1⟩, (Cur.of_below hb0 (Nat.le_trans h.le (Nat.le_of_lt h.lt))).trans h2⟩
theorem CtAt.pushTo {w w0 w' : World} {B g : Nat} {t : List UInt8} {c : Pl.Ct} {vp vo vo' : Value} (h : CtAt w B g t c vp vo) (hb0 : Below w.heap.size w w0) (n : Nat) (hown : w'.ownsRow B 3 1 vo' (c.opened.length + 1) (natCells c.opened ++ [.int .i64 n])) (hgr : w0.grownBy w' vo.ownBlock) :
    CtTo w (w'.setCell ⟨g, 4, none⟩ vo') B g t { c with opened := c.opened ++ [n] } := by
  obtain ⟨h1, h2⟩ := (h.below hb0).push n hown hgr
  exact ⟨⟨_, _, h1⟩, (Cur.of_below hb0 (Nat.le_trans h.le (Nat.le_of_lt h.lt))).trans h2⟩
theorem ownsRow_drew {w : World} {B n k : Nat} {e : TypeId} {v : Value} {xs : List Value} (h : w.ownsRow B e k v n xs) : w.drew.ownsRow B e k v n xs := h

/-- an append onto an owned row, as one step of a region that draws its order -/
theorem step_append_own {P : Program} {ops : Array Oper} {o : Oper} {a : Act} {w : World} {K : Act → World → Prop} {Q : Exit → Act → World → Prop} {E : Prop}
    (hg : o.guard = none) (s x : Operand) (t : TypeId) (hop : o.op = Op.call { callee := Callee.builtin Builtin.append, args := #[s, x], argTypes := #[t, t] })
    (base : Nat) (e : TypeId) (i : TypeInfo) (z : Value) (size bytes : Nat) (ht : P.underlying t = some (.slice e)) (hi : P.info? e = some i) (hz : i.zero = some z)
    (hsize : i.size = size) (hby : i.bytes = bytes) (hzs : z.cells.size = size) (hsz : 0 < size)
    (v : Value) (n : Nat) (xs : List Value) (hs : a.eval s = v) (hown : w.ownsRow base e size v n xs)
    (ad : Addr) (m c : Nat) (news : List Value) (hx : a.eval x = .slice (some ad) m c) (hl : news.length = m * size) (hnews : ∀ j u, news[j]? = some u → w.cell? (ad.add j) = some u) (h1 : ∀ u ∈ news, u.oneCell' = true)
    (h63 : n + m ≤ maxLen) (hbytes : (n + m) * bytes ≤ 140737488355328) (hbase : base ≤ w.heap.size)
    (hK : ∀ v' w', w'.ownsRow base e size v' (n + m) (xs ++ news) → w.grownBy w' v.ownBlock → (v'.ownBlock = v.ownBlock ∨ v'.ownBlock = some w.heap.size) → K (a.put o.dst v') w') :
    if Region.wanted o (yielded ops a.tmps) = true then Oper.wp P o a w K Q else E := by
  have hw : Region.wanted o (yielded ops a.tmps) = true := by simp [Region.wanted, hg]
  rw [if_pos hw]
  obtain ⟨v', w', hr, h2, h3, h4, h5⟩ := run_append_own_at (P := P) w base t o.type e i z size bytes ht hi hz hsize hby hzs hsz v n xs hown ad m c news hl hnews h1 h63 hbytes hbase
  unfold Oper.wp
  simp [execOp, hop, resolve, invoke, builtin, hs, hx, hr, Result.andThen]
  exact hK v' w' h2 h3 h5

end Go.Proofs.YtfkhljmiehdgmaaGreatDoor

/-
  The walks of package tags: identifiers, the kind of a tag, what may open and close.
-/
namespace Go.Proofs.YtfkhljmiehdgmaaGreatDoor
open Go.RowKit

namespace Pl
theorem identByte_eq (b : UInt8) : identByte b = (b == 95 || (isDigit b || (decide (97 ≤ b.toNat) && decide (b.toNat ≤ 122)))) := rfl
theorem all_snoc (f : UInt8 → Bool) (s : ByteArray) (k : Nat) (h : k < s.size) (h0 : (s.data.toList.take k).all f = true) (h1 : f s[k] = true) : (s.data.toList.take (k + 1)).all f = true := by
  rw [take_snoc s k h, List.all_append, h0]; simp [h1]
theorem all_no (f : UInt8 → Bool) (s : ByteArray) (k : Nat) (h : k < s.size) (h1 : f s[k] = false) : s.data.toList.all f = false := by
  rw [split_at s k h, List.all_append]; simp [h1]
theorem all_end (f : UInt8 → Bool) (s : ByteArray) (k : Nat) (h : ¬ k < s.size) (h0 : (s.data.toList.take k).all f = true) : s.data.toList.all f = true := by
  rw [← take_all s k (by omega)]; exact h0
theorem isIdent_is (s : ByteArray) (h1 : s.size ≠ 0) (h2 : s.size ≤ 8) : isIdent s.data.toList = s.data.toList.all identByte := by
  unfold isIdent
  have e1 : s.data.toList.isEmpty = false := by
    rw [List.isEmpty_eq_false_iff]
    intro q
    apply h1
    have := congrArg List.length q
    simpa using this
  have e2 : decide (s.data.toList.length ≤ 8) = true := decide_eq_true (by simpa using h2)
  rw [e1, e2]; rfl
theorem isIdent_long (s : ByteArray) (h2 : ¬ s.size ≤ 8) : isIdent s.data.toList = false := by
  unfold isIdent
  have e2 : decide (s.data.toList.length ≤ 8) = false := decide_eq_false (by simpa using h2)
  rw [e2]; simp
end Pl

set_option maxRecDepth 100000 in
set_option maxHeartbeats 1600000 in
theorem isIdentifier_any (s : ByteArray) (w : World) :
    Calls Tryz.prog 72 #[.string s] w fun e w' => e = .returned (.bool (Pl.isIdent s.data.toList)) ∧ w = w' := by
  by_cases h0 : s.size = 0
  · obtain rfl : s = ⟨#[]⟩ := ByteArray.ext (Array.eq_empty_of_size_eq_zero h0)
    go_enter Tryz.func72, Tryz.ntmps72
    go_wp2_with fail
    go_ret
    exact ⟨rfl, rfl⟩
  have HE : Hid ((s.toList.isEmpty) = false) := by
    show _ = _
    rw [Lib.toList_data, List.isEmpty_eq_false_iff]
    intro q
    apply h0
    have := congrArg List.length q
    simpa using this
  have c0 := HE.out
  by_cases h8 : s.size ≤ 8
  rotate_left
  · have HV := (show Hid _ from Pl.isIdent_long s h8)
    have c8 : (8 : Int) < (s.size : Int) := by omega
    clear h8
    go_enter Tryz.func72, Tryz.ntmps72
    go_wp2_with fail
    go_ret
    exact ⟨ret_bool HV.out.symm, rfl⟩
  have HV := (show Hid _ from Pl.isIdent_is s h0 h8)
  have c8 : ¬ (8 : Int) < (s.size : Int) := by omega
  go_enter Tryz.func72, Tryz.ntmps72
  go_wp2_with fail
  clear c0 c8
  go_loop [14] (fun i => ∃ k : Nat, k ≤ s.size ∧ i = .int .i64 k ∧ Hid ((s.data.toList.take k).all Pl.identByte = true)) (fun i => s.size - (intOf i).toNat)
  case atStart => exact ⟨0, Nat.zero_le _, rfl, rfl⟩
  case round =>
    obtain ⟨k, hk, rfl, HN⟩ := hrel
    by_cases hlt : k < s.size
    · have HB : Hid (∀ x, Pl.identByte s[k] = x → (x = true → (s.data.toList.take (k + 1)).all Pl.identByte = true) ∧ (x = false → s.data.toList.all Pl.identByte = false)) := by
        rintro x rfl
        exact ⟨fun q => Pl.all_snoc _ s k hlt HN.out q, fun q => Pl.all_no _ s k hlt q⟩
      have HI := (show Hid _ from Pl.identByte_eq s[k])
      by_cases d1 : s[k] = 95
      · have HT := (show Hid _ from (HB.out true (by rw [HI.out, d1]; rfl)).1 rfl)
        have e1 : (s[k].toNat : Int) = 95 := by rw [d1]; rfl
        clear HB HI HN d1
        go_wp2_with (go_at_call 102; refine (digit_any s[k] _).mono ?_; rintro e w' ⟨rfl, rfl⟩)
        go_round
        case rel => exact ⟨k + 1, by omega, by go_num, HT⟩
        case measure => simp [intOf]; omega
      · have e1 : ¬ (s[k].toNat : Int) = 95 := fun q => d1 (UInt8.toNat_inj.1 (show s[k].toNat = 95 by omega))
        by_cases d2 : Pl.isDigit s[k] = true
        · have HT := (show Hid _ from (HB.out true (by rw [HI.out, d2]; simp)).1 rfl)
          clear HB HI HN d1
          go_wp2_with (go_at_call 102; refine (digit_any s[k] _).mono ?_; rintro e w' ⟨rfl, rfl⟩; rw [d2])
          go_round
          case rel => exact ⟨k + 1, by omega, by go_num, HT⟩
          case measure => simp [intOf]; omega
        · have d2 := Bool.eq_false_iff.2 d2
          by_cases d3 : 97 ≤ s[k].toNat
          · by_cases d4 : s[k].toNat ≤ 122
            · have HT := (show Hid _ from (HB.out true (by rw [HI.out, d2]; simp [d3, d4])).1 rfl)
              have e3 : ¬ (s[k].toNat : Int) < 97 := by omega
              have e4 : ¬ (122 : Int) < (s[k].toNat : Int) := by omega
              clear HB HI HN d1 d3 d4
              go_wp2_with (go_at_call 102; refine (digit_any s[k] _).mono ?_; rintro e w' ⟨rfl, rfl⟩; rw [d2])
              go_round
              case rel => exact ⟨k + 1, by omega, by go_num, HT⟩
              case measure => simp [intOf]; omega
            · have HT := (show Hid _ from (HB.out false (by rw [HI.out, d2]; have : decide (s[k].toNat ≤ 122) = false := decide_eq_false d4; rw [this]; simp [d1])).2 rfl)
              have e3 : ¬ (s[k].toNat : Int) < 97 := by omega
              have e4 : (122 : Int) < (s[k].toNat : Int) := by omega
              clear HB HI HN d1 d3 d4
              go_wp2_with (go_at_call 102; refine (digit_any s[k] _).mono ?_; rintro e w' ⟨rfl, rfl⟩; rw [d2])
              go_ret
              exact ⟨ret_bool (by rw [HV.out, HT.out]), rfl⟩
          · have HT := (show Hid _ from (HB.out false (by rw [HI.out, d2]; have : decide (97 ≤ s[k].toNat) = false := decide_eq_false d3; rw [this]; simp [d1])).2 rfl)
            have e3 : (s[k].toNat : Int) < 97 := by omega
            clear HB HI HN d1 d3
            go_wp2_with (go_at_call 102; refine (digit_any s[k] _).mono ?_; rintro e w' ⟨rfl, rfl⟩; rw [d2])
            go_ret
            exact ⟨ret_bool (by rw [HV.out, HT.out]), rfl⟩
    · have HT := (show Hid _ from Pl.all_end Pl.identByte s k hlt HN.out)
      clear HN
      go_wp2
      go_ret
      exact ⟨ret_bool (by rw [HV.out, HT.out]), rfl⟩

set_option maxRecDepth 100000 in
set_option maxHeartbeats 1600000 in
theorem isDelim_any (s : ByteArray) (w : World) :
    Calls Tryz.prog 229 #[.string s] w fun e w' => e = .returned (.bool (Pl.isDelim s.data.toList)) ∧ w = w' := by
  have HV : Hid (Pl.isDelim s.data.toList = (decide (s.size ≤ 3) && !(Pl.among 61 s.data.toList))) := by
    show _ = _
    unfold Pl.isDelim
    congr 2
  by_cases h3 : s.size ≤ 3
  · have c3 : (s.size : Int) ≤ 3 := by omega
    by_cases ha : Pl.among 61 s.data.toList = true
    · have HV : Hid (Pl.isDelim s.data.toList = false) := by show _ = _; rw [HV.out, ha]; simp
      have HC := (show Hid _ from fun w => pgIndexByte_yes 61 s _ w rfl ha)
      clear ha
      go_enter Tryz.func229, Tryz.ntmps229
      go_wp2_with (go_at_call 130; refine (HC.out _).mono ?_; rintro e w' ⟨x, hx, rfl, rfl⟩)
      go_ret
      refine ⟨ret_bool ?_, rfl⟩
      rw [HV.out]
      simp; omega
    · have ha := Bool.eq_false_iff.2 ha
      have HV : Hid (Pl.isDelim s.data.toList = true) := by show _ = _; rw [HV.out, ha]; simp [h3]
      have HC := (show Hid _ from fun w => pgIndexByte_no 61 s _ w rfl ha)
      clear ha
      go_enter Tryz.func229, Tryz.ntmps229
      go_wp2_with (go_at_call 130; refine (HC.out _).mono ?_; rintro e w' ⟨rfl, rfl⟩)
      go_ret
      exact ⟨ret_bool HV.out.symm, rfl⟩
  · have c3 : ¬ (s.size : Int) ≤ 3 := by omega
    have HV : Hid (Pl.isDelim s.data.toList = false) := by show _ = _; rw [HV.out]; simp [h3]
    clear h3
    go_enter Tryz.func229, Tryz.ntmps229
    go_wp2_with fail
    go_ret
    exact ⟨ret_bool HV.out.symm, rfl⟩

end Go.Proofs.YtfkhljmiehdgmaaGreatDoor

/-
  The walks of package tags: the kind of a tag, names.
-/
namespace Go.Proofs.YtfkhljmiehdgmaaGreatDoor
open Go.RowKit

/-- a tag as a value -/
def tgVal (o : Pl.Tg) : Value := .agg #[.int .i64 o.kind, .int .i64 o.slip, bs o.name, bs o.op, bs o.cl]
def tgCells (o : Pl.Tg) : Array Value := #[.int .i64 o.kind, .int .i64 o.slip, bs o.name, bs o.op, bs o.cl]

theorem bytes_cons (s : ByteArray) (h : 0 < s.size) : ∃ b l, s.data.toList = b :: l ∧ b = s[0] := by
  have := Pl.split_at s 0 h
  exact ⟨s[0], s.data.toList.drop 1, by simpa using this, rfl⟩

set_option maxRecDepth 100000 in
set_option maxHeartbeats 1600000 in
theorem tagKindOf_any (s : ByteArray) (w : World) :
    Calls Tryz.prog 193 #[.string s] w fun e w' => e = .returned (.int .i64 (Pl.kindOfTag s.data.toList)) ∧ w = w' := by
  by_cases h0 : s.size = 0
  · obtain rfl : s = ⟨#[]⟩ := ByteArray.ext (Array.eq_empty_of_size_eq_zero h0)
    go_enter Tryz.func193, Tryz.ntmps193
    go_wp2_with fail
    go_ret
    exact ⟨rfl, rfl⟩
  have c0 : (s.toList.isEmpty) = false := by
    rw [Lib.toList_data, List.isEmpty_eq_false_iff]
    intro q
    apply h0
    have := congrArg List.length q
    simpa using this
  obtain ⟨b, l, hl, hb⟩ := bytes_cons s (by omega)
  have c1 : (0 : Int) < (s.size : Int) := by omega
  have HV : Hid (Pl.kindOfTag s.data.toList = if s[0] = 33 then 7 else if s[0] = 61 then 8 else if s[0] = 35 then 3 else if s[0] = 94 then 4 else if s[0] = 47 then 5 else if s[0] = 62 then 6 else 2) := by
    show _ = _
    rw [hl]
    unfold Pl.kindOfTag
    rw [hb]
  have ne : ∀ n : UInt8, s[0] ≠ n → ∀ z : Int, z = n.toNat → ¬ (s[0].toNat : Int) = z := fun n hne z hz q => hne (UInt8.toNat_inj.1 (by omega))
  clear hl hb h0
  by_cases d1 : s[0] = 33
  · have e1 : (s[0].toNat : Int) = 33 := by rw [d1]; rfl
    have HT : Hid (Pl.kindOfTag s.data.toList = 7) := by show _ = _; rw [HV.out, d1]; rfl
    clear HV d1 ne
    go_enter Tryz.func193, Tryz.ntmps193
    go_wp2_with fail
    go_ret
    exact ⟨ret_int (by rw [HT.out]; rfl), rfl⟩
  have e1 := ne 33 d1 33 rfl
  by_cases d2 : s[0] = 61
  · have e2 : (s[0].toNat : Int) = 61 := by rw [d2]; rfl
    have HT : Hid (Pl.kindOfTag s.data.toList = 8) := by show _ = _; rw [HV.out, d2]; rfl
    clear HV d1 d2 ne
    go_enter Tryz.func193, Tryz.ntmps193
    go_wp2_with fail
    go_ret
    exact ⟨ret_int (by rw [HT.out]; rfl), rfl⟩
  have e2 := ne 61 d2 61 rfl
  by_cases d3 : s[0] = 35
  · have e3 : (s[0].toNat : Int) = 35 := by rw [d3]; rfl
    have HT : Hid (Pl.kindOfTag s.data.toList = 3) := by show _ = _; rw [HV.out, d3]; rfl
    clear HV d1 d2 d3 ne
    go_enter Tryz.func193, Tryz.ntmps193
    go_wp2_with fail
    go_ret
    exact ⟨ret_int (by rw [HT.out]; rfl), rfl⟩
  have e3 := ne 35 d3 35 rfl
  by_cases d4 : s[0] = 94
  · have e4 : (s[0].toNat : Int) = 94 := by rw [d4]; rfl
    have HT : Hid (Pl.kindOfTag s.data.toList = 4) := by show _ = _; rw [HV.out, d4]; rfl
    clear HV d1 d2 d3 d4 ne
    go_enter Tryz.func193, Tryz.ntmps193
    go_wp2_with fail
    go_ret
    exact ⟨ret_int (by rw [HT.out]; rfl), rfl⟩
  have e4 := ne 94 d4 94 rfl
  by_cases d5 : s[0] = 47
  · have e5 : (s[0].toNat : Int) = 47 := by rw [d5]; rfl
    have HT : Hid (Pl.kindOfTag s.data.toList = 5) := by show _ = _; rw [HV.out, d5]; rfl
    clear HV d1 d2 d3 d4 d5 ne
    go_enter Tryz.func193, Tryz.ntmps193
    go_wp2_with fail
    go_ret
    exact ⟨ret_int (by rw [HT.out]; rfl), rfl⟩
  have e5 := ne 47 d5 47 rfl
  by_cases d6 : s[0] = 62
  · have e6 : (s[0].toNat : Int) = 62 := by rw [d6]; rfl
    have HT : Hid (Pl.kindOfTag s.data.toList = 6) := by show _ = _; rw [HV.out, d6]; rfl
    clear HV d1 d2 d3 d4 d5 d6 ne
    go_enter Tryz.func193, Tryz.ntmps193
    go_wp2_with fail
    go_ret
    exact ⟨ret_int (by rw [HT.out]; rfl), rfl⟩
  have e6 := ne 62 d6 62 rfl
  have HT : Hid (Pl.kindOfTag s.data.toList = 2) := by show _ = _; rw [HV.out, if_neg d1, if_neg d2, if_neg d3, if_neg d4, if_neg d5, if_neg d6]
  clear HV d1 d2 d3 d4 d5 d6 ne
  go_enter Tryz.func193, Tryz.ntmps193
  go_wp2_with fail
  go_ret
  exact ⟨ret_int (by rw [HT.out]; rfl), rfl⟩

/-- the package variable that the library's search looks at -/
def MaxLenAt (w : World) : Prop := ∃ m : Int, w.cell? ⟨11, 0, none⟩ = some (.int .i64 m)
theorem MaxLenAt.below {w w' : World} (h : MaxLenAt w) (hb : Below w.heap.size w w') : MaxLenAt w' := by
  obtain ⟨m, hm⟩ := h
  exact ⟨m, (World.cell?_of_block (hb.block _ (World.block_lt_of_cell? _ _ hm))).trans hm⟩

theorem isNm_dot : Pl.isNm [46] = true := by decide
theorem isNm_not (l : List UInt8) (h : l ≠ [46]) : Pl.isNm l = (decide ((Lib.split l [46]).length ≤ 4) && (Lib.split l [46]).all Pl.isIdent) := by
  unfold Pl.isNm
  rw [beq_eq_false_iff_ne.2 h]; rfl

set_option maxRecDepth 100000 in
set_option maxHeartbeats 1600000 in
theorem isName_any (s : ByteArray) (w : World) (hs : s.size ≤ 100000) (hm : MaxLenAt w) :
    Calls Tryz.prog 230 #[.string s] w fun e w' => e = .returned (.bool (Pl.isNm s.data.toList)) ∧ Below w.heap.size w w' := by
  obtain ⟨m, hm⟩ := hm
  by_cases h0 : s.data.toList = [46]
  · obtain rfl : s = ⟨#[46]⟩ := ByteArray.ext (Array.toList_inj.1 h0)
    clear hm
    go_enter Tryz.func230, Tryz.ntmps230
    go_wp2_with fail
    go_ret
    exact ⟨rfl, Below.refl _ _⟩
  have c0 : (s.toList == [46]) = false := by rw [Lib.toList_data]; exact beq_eq_false_iff_ne.2 h0
  have HV := (show Hid _ from isNm_not _ h0)
  have HS := (show Hid _ from Tryz.strings_Split s ⟨#[46]⟩ m w (by omega) hm (by decide))
  have hlen : (Lib.splitB ⟨#[46]⟩ 0 (Lib.countB s ⟨#[46]⟩) s).length = Lib.countB s ⟨#[46]⟩ + 1 := Lib.splitB_all ⟨#[46]⟩ (by decide) 0 _ s rfl
  have hdat : (Lib.splitB ⟨#[46]⟩ 0 (Lib.countB s ⟨#[46]⟩) s).map (·.data.toList) = Lib.split s.data.toList [46] := Lib.splitB_data ⟨#[46]⟩ 0 _ s
  have hcb : Lib.countB s ⟨#[46]⟩ ≤ s.size := Lib.countB_le ⟨#[46]⟩ (by decide) _ s (Nat.le_refl _)
  clear hm h0
  generalize Lib.countB s ⟨#[46]⟩ = c at HS hlen hdat hcb
  generalize Lib.splitB ⟨#[46]⟩ 0 c s = L at HS hlen hdat
  have HC : Hid (∀ (k : Nat) (x : ByteArray), L[k]? = some x → (w.alloc (.cells (L.map Value.string).toArray 9)).cell? ⟨w.heap.size, k, none⟩ = some (.string x)) := by
    intro k x hx
    refine cells_at_block (heap_alloc_new w _) k _ ?_
    simp [hx]
  have HB : Hid (Below w.heap.size w (w.alloc (.cells (L.map Value.string).toArray 9))) := (Below.refl _ _).alloc (Nat.le_refl _) _
  have hl2 : (Lib.split s.data.toList [46]).length = c + 1 := by rw [← hdat]; simpa using hlen
  have HA : Hid ((Lib.split s.data.toList [46]).all Pl.isIdent = L.all (fun x => Pl.isIdent x.data.toList)) := by show _ = _; rw [← hdat, List.all_map]; rfl
  rw [hl2] at HV
  have HL := (show Hid _ from hlen)
  clear hlen hdat hl2
  by_cases h4 : c + 1 ≤ 4
  rotate_left
  · have HT : Hid (Pl.isNm s.data.toList = false) := by show _ = _; rw [HV.out, decide_eq_false h4]; rfl
    have c4 : (4 : Int) < ((c + 1 : Nat) : Int) := by omega
    clear HV HA HC h4 HL
    go_enter Tryz.func230, Tryz.ntmps230
    go_wp2_with (go_at_call 242; refine Calls.mono HS.out ?_; rintro e w' ⟨rfl, rfl⟩)
    go_ret
    exact ⟨ret_bool HT.out.symm, HB.out⟩
  have HT : Hid (Pl.isNm s.data.toList = L.all (fun x => Pl.isIdent x.data.toList)) := by show _ = _; rw [HV.out, HA.out, decide_eq_true h4]; rfl
  have c4 : ¬ (4 : Int) < ((c + 1 : Nat) : Int) := by omega
  clear HV HA
  go_enter Tryz.func230, Tryz.ntmps230
  go_wp2_with (go_at_call 242; refine Calls.mono HS.out ?_; rintro e w' ⟨rfl, rfl⟩)
  generalize w.alloc (.cells (L.map Value.string).toArray 9) = W at HC HB ⊢
  clear HS c0
  go_loopw [15] (fun i wr => ∃ k : Nat, k ≤ c + 1 ∧ i = .int .i64 k ∧ Hid ((L.take k).all (fun x => Pl.isIdent x.data.toList) = true) ∧ wr = W) (fun i _ => c + 1 - (intOf i).toNat)
  case atStart => exact ⟨0, Nat.zero_le _, rfl, rfl, rfl⟩
  case round =>
    obtain ⟨k, hk, rfl, HN, rfl⟩ := hrel
    by_cases hlt : k < c + 1
    · have hkl : k < L.length := by have := HL.out; omega
      have hx : L[k]? = some L[k] := List.getElem?_eq_getElem hkl
      have q0 := HC.out k _ hx
      have HX := (show Hid _ from hx)
      clear hx
      generalize L[k] = X at q0 HX
      by_cases hi : Pl.isIdent X.data.toList = true
      · have HT2 : Hid ((L.take (k + 1)).all (fun x => Pl.isIdent x.data.toList) = true) := by
          show _ = _
          rw [List.take_add_one, HX.out, List.all_append, HN.out]; simp [hi]
        clear HN HX
        go_wp2_with (go_at_call 72; refine (isIdentifier_any X _).mono ?_; rintro e w' ⟨rfl, rfl⟩; rw [hi])
        go_roundw
        case rel => exact ⟨k + 1, by omega, by go_num, HT2, trivial⟩
        case measure => simp [intOf]; omega
      · have hi := Bool.eq_false_iff.2 hi
        have HT2 : Hid (L.all (fun x => Pl.isIdent x.data.toList) = false) := by
          show _ = _
          rw [List.all_eq_false]
          exact ⟨X, List.mem_of_getElem? HX.out, by rw [hi]; decide⟩
        clear HN HX
        go_wp2_with (go_at_call 72; refine (isIdentifier_any X _).mono ?_; rintro e w' ⟨rfl, rfl⟩; rw [hi])
        go_ret
        exact ⟨ret_bool (by rw [HT.out, HT2.out]), HB.out⟩
    · have HT2 : Hid (L.all (fun x => Pl.isIdent x.data.toList) = true) := by
        show _ = _
        have h1 := HN.out
        rw [List.take_of_length_le (by have := HL.out; omega)] at h1
        exact h1
      clear HN
      go_wp2
      go_ret
      exact ⟨ret_bool (by rw [HT.out, HT2.out]), HB.out⟩

end Go.Proofs.YtfkhljmiehdgmaaGreatDoor

/-
  For every text the statement Ended returns true, and its argument reads as before: what may stand behind a template that is taken is taken or a slip as the document says, in the text and in a partial. Condition: the ten package-level tables that the row lists hold what their texts lay (tied by the card).
-/
import Derived.Test.YtfkhljmiehdgmaaGreatDoorEnBase
import Derived.Test.YtfkhljmiehdgmaaGreatDoorMhT
import Derived.Test.YtfkhljmiehdgmaaGreatDoorMhV
import Derived.Test.YtfkhljmiehdgmaaGreatDoorPgWX
namespace Go.Proofs.YtfkhljmiehdgmaaGreatDoor.fnEnded
open Go.ChangeShapes Go.WideShapes Go.ChangeAt Go.RowKit Go.WideMaps Go.WideElems
open Go.ChangeMaps (setBlock shut_map_nil open_string shut_string keptBut_setBlock frozen?_setBlock heap_setBlock_same)

set_option maxRecDepth 100000 in
theorem contract (H : Type) (enc : TypeId × Value → H) (W : World) (base : Nat) (args : Array Value) (ds gs : List (DataW H)) (before : List MemPlace)
    (hval : ∀ (j : Nat) t v, Tryz.f4.params[j]? = some t → args[j]? = some v → Value.okWide Tryz.prog W .any base t v)
    (hW : DataW.Whole enc Tryz.prog Tryz.f4.params.toList Rows.endedSpec.vars false W args.toList ds gs before) (hL : laidMetH Tryz.prog Rows.endedRow.laid W) (hsh : W.ShapedOpen Tryz.prog) :
    Calls Tryz.prog 4 args W fun e W' => ∃ v, e = .returned v ∧ Rows.endedSpec.post enc Tryz.prog Tryz.f4 false true false false W args v W' := by
  have hW' := hW
  obtain ⟨p, q, hA0, hV, rfl, hfz, hnd⟩ := hW
  have hA : DataW.TrodAll enc Tryz.prog W 0 (fun _ => true) true Tryz.f4.params.toList args.toList ds p := hA0
  rw [Tryz.params4] at hA hval
  obtain ⟨v0, vs0, d0, ds0, p0, q0, hargs, rfl, rfl, h0, r0⟩ := trodAll_cons hA
  obtain ⟨rfl, rfl, rfl⟩ := trodAll_nil r0
  obtain rfl : args = #[v0] := by cases args; simp_all
  obtain ⟨rfl, rfl⟩ := trodVars_none hV
  obtain ⟨s, rfl, rfl, rfl, hs⟩ := open_string Tryz.underlying9 (hval 0 9 v0 rfl rfl) h0
  clear hA0
  simp only [List.append_nil] at hW'
  refine (Ended_any (compile_any behind_any) s W (ptabs_of hL) (maxlen_of hsh) hs).mono fun e W' ⟨he, hb⟩ => ?_
  subst he
  refine ⟨_, rfl, _, _, _, [], [], [], hW', ?_, ?_, ?_, hb.frame _, fun h => by cases h⟩
  · exact trodAll_cons_mk (shut_bool Tryz.underlying4 _) trodAll_mk0
  · exact trodAll_cons_mk (shut_string Tryz.underlying9 hs) trodAll_mk0
  · exact rfl

theorem laid_met (os : Os) : laidMet Tryz.prog Rows.endedRow.laid (({ World.holding Tryz.prog os ⟨#[], #[], []⟩ with heap := ((((((((((World.holding Tryz.prog os ⟨#[], #[], []⟩).heap.modify 13 (layCells (cellsD 4 (Rows.laid_unicode_utf8_acceptRanges (H := Unit))))).modify 12 (layCells (cellsD 4 Rows.laid_unicode_utf8_first))).modify 4 (layCells (stepCells Pl.markupTab))).modify 5 (layCells (stepCells Pl.contentTab))).modify 1 (layCells (modeCells Pl.readInTab))).modify 2 (layCells (modeCells Pl.othersTab))).modify 0 (layCells (boolCells Pl.escapesTab))).modify 3 (layCells longCells)).modify 6 (layCells elemCells)).modify 10 (layCells attrCells) } : World).forCall (fun _ _ => 0) ⟨#[], #[.string .empty], []⟩).memory :=
  laidMet_of_run' 8 (by kernel_rfl) (by kernel_rfl)
theorem reads (os : Os) {H : Type} (enc : TypeId × Value → H) : ∃ places, DataW.whole enc Tryz.prog (({ World.holding Tryz.prog os ⟨#[], #[], []⟩ with heap := ((((((((((World.holding Tryz.prog os ⟨#[], #[], []⟩).heap.modify 13 (layCells (cellsD 4 (Rows.laid_unicode_utf8_acceptRanges (H := Unit))))).modify 12 (layCells (cellsD 4 Rows.laid_unicode_utf8_first))).modify 4 (layCells (stepCells Pl.markupTab))).modify 5 (layCells (stepCells Pl.contentTab))).modify 1 (layCells (modeCells Pl.readInTab))).modify 2 (layCells (modeCells Pl.othersTab))).modify 0 (layCells (boolCells Pl.escapesTab))).modify 3 (layCells longCells)).modify 6 (layCells elemCells)).modify 10 (layCells attrCells) } : World).forCall (fun _ _ => 0) ⟨#[], #[.string .empty], []⟩).memory Tryz.f4.params.toList Rows.endedSpec.vars false #[Value.string .empty].toList 8 = some ([.lit (.string [])], [], places) :=
  ⟨[], by kernel_rfl⟩

set_option maxRecDepth 100000 in
theorem lifted (os : Os) (started : os.Started) (H : Type) (enc : TypeId × Value → H) (F : Stop.Interp) :
    ReturnsInHanded {} Tryz.checked os 4 .any ((OpenSpec.ofChange Rows.endedSpec).preRow enc Tryz.prog Tryz.f4 Rows.endedRow.domain false Rows.endedRow.laid) (((OpenSpec.ofChange Rows.endedSpec).at F).post enc Tryz.prog Tryz.f4 false true false false) := by
  obtain ⟨places, hx⟩ := reads os enc
  refine returnsInHanded_of_row (C := Tryz.checked) (s := OpenSpec.ofChange Rows.endedSpec) enOwn started (by kernel_rfl) Tryz.func4
    (witness_row_at (enc := enc) (C := Tryz.checked) false ({ World.holding Tryz.prog os ⟨#[], #[], []⟩ with heap := ((((((((((World.holding Tryz.prog os ⟨#[], #[], []⟩).heap.modify 13 (layCells (cellsD 4 (Rows.laid_unicode_utf8_acceptRanges (H := Unit))))).modify 12 (layCells (cellsD 4 Rows.laid_unicode_utf8_first))).modify 4 (layCells (stepCells Pl.markupTab))).modify 5 (layCells (stepCells Pl.contentTab))).modify 1 (layCells (modeCells Pl.readInTab))).modify 2 (layCells (modeCells Pl.othersTab))).modify 0 (layCells (boolCells Pl.escapesTab))).modify 3 (layCells longCells)).modify 6 (layCells elemCells)).modify 10 (layCells attrCells) } : World) #[.string .empty] rfl (by kernel_rfl) (by kernel_rfl) (by kernel_rfl)
      (OpenSpec.preRow_of_cond 8 hx (by kernel_rfl) (fun k hk => by cases hk) (by kernel_rfl) (laid_met os))) ?_
  intro W base args ds gs before hval hW _ _ _ hL hsh _
  exact contract H enc W base args ds gs before hval hW hL hsh

theorem said : Rows.EndedSaid :=
  OpenClaim.holds_of_cond 4 Tryz.f4 rfl rfl rfl rfl rfl rfl rfl ⟨rfl, rfl, rfl, rfl, rfl⟩ rfl rfl rfl rfl rfl (by kernel_rfl) Tryz.func4 (by kernel_rfl)
    (of_decide_eq_true (by kernel_rfl)) (by unfold Func.isWrapper; first | (rw [if_pos (by decide +kernel)]; kernel_rfl) | (rw [if_neg (by decide +kernel)]; exact ⟨rfl, rfl⟩))
    (fun os started H enc _ F => by rw [OpenClaim.pre_eq_preRow]; exact lifted os started H enc F)

theorem plain (f : FuncId) (fn : Func) (hf : Tryz.pinned.checked.prog.funcNamed "stencil/stencilkeep.Ended" = some f) (hfn : Tryz.pinned.checked.prog.funcs[f]? = some fn) :
    false = Tryz.pinned.checked.prog.looks [] ∧ ∀ (j : Nat) t, fn.params[j]? = some t → Tryz.pinned.checked.prog.wantsStandIn t = false := by
  obtain rfl : f = 4 := Option.some.inj ((show Tryz.prog.funcNamed "stencil/stencilkeep.Ended" = some 4 by kernel_rfl).symm.trans hf) |>.symm
  obtain rfl : fn = Tryz.f4 := (Option.some.inj (Tryz.func4.symm.trans hfn)).symm
  refine ⟨by kernel_rfl, fun j t ht => ?_⟩
  rw [Tryz.params4] at ht
  have hm : t = 9 := by simpa using Array.mem_of_getElem? ht
  subst hm
  exact (show Tryz.prog.wantsStandIn 9 = false by kernel_rfl)

theorem card : Rows.EndedCardSaid :=
  Claim7.holds_tied_plain_at .later [] _ _ _ _ said (fun _ h => by cases h) (by kernel_rfl) (fun _ h => by cases h) ended_row_tie rfl ⟨rfl, rfl⟩ (by kernel_rfl) rfl plain (by kernel_rfl)

end Go.Proofs.YtfkhljmiehdgmaaGreatDoor.fnEnded

/- The map of those that have been come to. -/
import Derived.Test.YtjnkcomedcbenaaGMore
import Derived.Test.YtjnkcomedcbenaaPDfs
import Derived.Maps.OwnSet
import Derived.Maps.OwnOps
namespace Go.Proofs.Ytjnkcomedcbenaa
open Go.RowKit Go.Maps
set_option linter.unusedVariables false

abbrev uB : DataW Unit := .lit (.bool true)
abbrev setV (V : List Int) : DataW Unit := setOf uB (V.map (Lit.int .i64))
/-- Block M is a map of just these. -/
def SeenM (w : World) (M : Nat) (V : List Int) : Prop := w.ownsMap Try.prog 3 (plainElem (H := Unit) Try.prog 4) M V.length (setV V)
theorem SeenM.own {w : World} {M : Nat} {V : List Int} (h : SeenM w M V) : w.ownsMap Try.prog 3 (plainElem (H := Unit) Try.prog 4) M V.length (setV V) := h
theorem lawI : Keyed Try.prog 3 := int_keyed Try.underlying3
theorem zero4 (w : World) : (zeroValue 4).run Try.prog w = .ok (.bool false) w := by kernel_rfl
theorem seen_made (w : World) : SeenM (w.alloc (.map #[] 0)) w.heap.size [] := World.ownsMap_made _ _ _ _
theorem SeenM.kept {w w' : World} {M : Nat} {V : List Int} {r : Option Nat} (h : SeenM w M V) (hg : w.grownBy w' r) (hne : some M ≠ r) : SeenM w' M V := World.ownsMap.kept h hg hne
theorem SeenM.lt {w : World} {M : Nat} {V : List Int} (h : SeenM w M V) : M < w.heap.size := World.ownsMap.lt h
theorem grown_below {w w' : World} (h : Below w.heap.size w w') (r : Option Nat) : w.grownBy w' r := ⟨h.os, h.tape, h.output, h.size, fun k hk _ => h.block k hk⟩
theorem SeenM.below {w w' : World} {M : Nat} {V : List Int} (h : SeenM w M V) (hb : Below w.heap.size w w') : SeenM w' M V := h.kept (grown_below hb none) (by simp)
theorem SeenM.set {w : World} {M : Nat} {V : List Int} (h : SeenM w M V) {a : Addr} (ha : M ≠ a.block) (u : Value) : SeenM (w.setCell a u) M V := World.ownsMap.setCell h ha u
theorem key_lit (x : Int) : WideAt.IsKeyLit (.int .i64 x) := by unfold WideAt.IsKeyLit; first | trivial | simp
theorem atKey_fold (x : Int) (z : DataW Unit) : ∀ (acc : List Int) (m : DataW Unit), IsMap m → ((acc.map (Lit.int .i64)).foldl (fun m x => m.put x uB) m).atKey (.int .i64 x) z = if x ∈ acc then uB else m.atKey (.int .i64 x) z
  | [], m, _ => by simp
  | y :: t, m, hm => by
    rw [List.map_cons, List.foldl_cons, atKey_fold x z t _ (hm.put _ _)]
    by_cases e : x = y
    · subst e
      rw [atKey_put_same hm (key_lit x)]
      simp
    · rw [atKey_put_other (fun h => e (by injection h))]
      simp [e]
theorem seen_at (V : List Int) (x : Int) : (setV V).atKey (.int .i64 x) (.lit (.bool false)) = .lit (.bool (decide (x ∈ V))) := by
  have h := atKey_fold x (.lit (.bool false)) V (.map []) isMap_empty
  unfold setV setOf
  rw [h]
  by_cases e : x ∈ V
  · simp [e]
  · simp only [e, if_false, decide_false]
    exact atKey_of_not_has rfl _
theorem plain_bool_inv {v : Value} {z : DataW Unit × List MemPlace} (h : plainElem Try.prog 4 v = some z) : ∃ b, v = .bool b ∧ z.1 = .lit (.bool b) := by
  cases v <;> simp [plainElem, Try.underlying4] at h
  all_goals first | exact ⟨_, rfl, by rw [← h]⟩ | (rename_i b; exact ⟨b, rfl, by rw [← h]⟩) | skip
theorem SeenM.look {w : World} {M : Nat} {V : List Int} (h : SeenM w M V) {x : Int} (h0 : 0 ≤ x) (h1 : x ≤ 1000000) : (Instr.lookup 68 (.map (some M)) (.int .i64 x) false).run Try.prog w = .ok (.bool (decide (x ∈ V))) w := by
  obtain ⟨v, ps, hr, hv⟩ := World.ownsMap.lookup h lawI (t := 68) (e := 4) (by kernel_rfl) (zero4 w) (plainElem_bool Try.underlying4 false) (keyOf_int_mk Try.underlying3 (WalkArith.wf_i64 (n := x) (by omega)))
  obtain ⟨b, rfl, hb⟩ := plain_bool_inv hv
  rw [hr]
  simp only at hb
  rw [seen_at] at hb
  simp at hb
  rw [hb]
theorem SeenM.perm {w : World} {M : Nat} {V ss : List Int} (h : SeenM w M V) (hn : V.Nodup) (hs : ss.Perm (intKeys (setV V))) : ss.Perm V := by
  have hc : CollectedI (setV V) (fun _ => false) V := ⟨hn, fun x => by
    have e := has_setOf uB (.int .i64 x) (V.map (Lit.int .i64)) (fun y hy => by obtain ⟨z, _, rfl⟩ := List.mem_map.1 hy; exact key_lit z)
    rw [e]
    simp [Lit.sameKey, List.any_map]⟩
  exact hs.trans (hc.perm h lawI Try.underlying3 fun _ => rfl).symm
theorem SeenM.size {w : World} {M : Nat} {V : List Int} (h : SeenM w M V) : Maps.size (setV V) ≤ V.length := World.ownsMap.size_le h
theorem seen_step {w : World} {M : Nat} {V : List Int} {x : Int} (h : w.ownsMap Try.prog 3 (plainElem (H := Unit) Try.prog 4) M (V.length + 1) ((setV V).put (.int .i64 x) uB)) : SeenM w M (V ++ [x]) := by
  unfold SeenM setV
  rw [List.map_append, List.map_cons, List.map_nil, setOf_snoc, List.length_append]
  exact h
end Go.Proofs.Ytjnkcomedcbenaa

/- A map's keys, collected and sorted. -/
import Derived.Test.YtjnkcomedcbenaaPSeen
import Derived.Test.YtjnkcomedcbenaaShelf
namespace Go.Proofs.Ytjnkcomedcbenaa
open Go.RowKit Go.Maps Go.Sort Go.Shelf
set_option linter.unusedVariables false

theorem sortsA (m : Nat) : AnyZI.SortsIn Try.prog Try.sortedA_ren Fence.wide m :=
  ⟨fun blk off cap ss W hH hblk hsz => callsIn_wide.2 (AnyM.slices_Sort_int Try.sortA blk off cap ss W hH hblk hsz),
   fun p cap W => callsIn_wide.2 (AnyM.slices_Sort_int_none Try.sortA p cap W)⟩
theorem keys_any (M : Nat) (W : World) : Calls Try.prog 40 #[.map (some M)] W fun e w' => e = .returned (.func (.func 52) #[] #[.pointer (some ⟨W.heap.size, 0, none⟩)]) ∧ w' = W.alloc (.cells #[.map (some M)] 68) :=
  (callsIn_wide (n := 6)).1 (AnyZI.keys_in Try.keysA Fence.wide 6 trivial rfl (some M) W)
/-- What is sorted: those that have been come to. -/
theorem sorted_any (M : Nat) (V : List Int) (w : World) (h : SeenM w M V) (hn : V.Nodup) (hl : V.length ≤ 1000) (B : Nat) (hB : B = w.heap.size) : Calls Try.prog 39 #[.func (.func 52) #[] #[.pointer (some ⟨B, 0, none⟩)]] (w.alloc (.cells #[.map (some M)] 68)) fun e w' =>
    ∃ v, e = .returned v ∧ (∃ ss : List Int, ss.Perm V ∧ OwnV 3 (w.alloc (.cells #[.map (some M)] 68)).heap.size (w.alloc (.cells #[.map (some M)] 68)) w' v ((ss.mergeSort (fun x y => decide (x ≤ y))).map (Value.int .i64))) := by
  subst hB
  have hsz := h.size
  have hseq : SeqGives Fence.wide 3 Try.prog 52 #[.pointer (some ⟨w.heap.size, 0, none⟩)] encZ (fun ss => ss.Perm (intKeys (setV V))) (Maps.size (setV V)) (w.alloc (.cells #[.map (some M)] 68)) :=
    AnyZI.keys_gives (ρ := Try.keysA_ren) { Try.keysA with } Fence.wide _ trivial rfl (by omega) w.heap.size M V.length (setV V) _ (by simp) (by simp) (World.ownsMap.alloc h _)
  refine ((callsIn_wide (n := 6)).1 (AnyZI.sorted_in Try.sortedA Fence.wide 6 trivial trivial trivial trivial rfl (by omega) (sortsA _) (enters_of Try.func51 (by kernel_rfl) rfl) 52 #[.pointer (some ⟨w.heap.size, 0, none⟩)] trivial (enters_of Try.func52 (by kernel_rfl) rfl) _ _ (by unfold maxLen; omega) (by omega) _ hseq)).mono ?_
  rintro e w' ⟨v, ss, rfl, hS, hrow, hnil, hb⟩
  refine ⟨v, rfl, ss, h.perm hn hS, ?_, hb⟩
  have e2 : ((ss.mergeSort (fun x y => decide (x ≤ y))).map (Value.int .i64)).length = ss.length := by simp
  rw [e2]
  exact hrow
end Go.Proofs.Ytjnkcomedcbenaa

/- The document's example: awake, walked. -/
import Derived.Test.YtkbfdcfgpmohkaaAt
import Derived.Test.YtkbfdcfgpmohkaaNew
import Derived.Test.YtkbfdcfgpmohkaaChk
namespace Go.Proofs.Ytkbfdcfgpmohkaa
open Go.RowKit
set_option linter.unusedVariables false

theorem new_no {c : Cfg} (h : ¬ OkC c) (w : World) : Calls Try.prog 13 #[cfgV c] w fun r w' => r = .returned (.tuple #[.pointer none, .int .i64 21]) ∧ Below w.heap.size w w' := by
  have H := Lib.hid h; clear h
  have HK := Lib.hid (KC.start c 24 w w (Below.refl _ _))
  go_enter Try.func13, Try.ntmps13
  go_wp2_with (first
    | (go_at_call 14; (with_reducible refine (check_no H.out _).mono ?_); rintro r w1 ⟨rfl, hb1⟩; have hk1 := HK.out.step hb1)
    | fail)
  go_ret2
  exact ⟨rfl, hk1.bel⟩

def exC : Cfg := ⟨1, 0, 0, 0, 0, 1, 1, 2, 1, 1, 1, 1⟩
theorem ok_ex : OkC exC := ⟨by decide, by decide, by decide, by decide, by decide, by decide, by decide, by decide, by decide, by decide, by decide, by decide, by decide, by decide, by decide, by decide, by decide, by decide, by decide, by decide, by decide, by decide, by decide, by decide, by decide⟩
theorem new_ex (w : World) : Calls Try.prog 13 #[.agg #[.int .i64 1, .int .i64 0, .int .i64 0, .int .i64 0, .int .i64 0, .int .i64 1, .int .i64 1, .int .i64 2, .int .i64 1, .int .i64 1, .int .i64 1, .int .i64 1]] w fun r w' => ∃ N, r = .returned (.tuple #[mapP N, .int .i64 0]) ∧ IsMap w' N exC ∧ Below w.heap.size w w' := new_yes ok_ex w
theorem int_at {P : World → Prop} {f : Nat} {args : Array Value} {w : World} {a b : Int} (h : Calls Try.prog f args w fun e w' => e = .returned (.int .i64 a) ∧ Below w.heap.size w w') (hab : a = b) : Calls Try.prog f args w fun e w' => e = .returned (.int .i64 b) ∧ Below w.heap.size w w' := by
  subst hab; exact h
theorem ex_ack (N : Nat) (w : World) (hm : IsMap w N exC) : Calls Try.prog 39 #[mapP N, .int .i64 0] w fun e w' => e = .returned (.int .i64 6) ∧ Below w.heap.size w w' := int_at (P := fun _ => True) (ack_m ok_ex N 0 (by decide) w hm) (by decide +kernel)
theorem ex_head (N : Nat) (w : World) (hm : IsMap w N exC) : Calls Try.prog 33 #[mapP N, .int .i64 0] w fun e w' => e = .returned (.int .i64 7) ∧ Below w.heap.size w w' := int_at (P := fun _ => True) (head_m ok_ex N 0 (by decide) w hm) (by decide +kernel)
theorem ex_top (N : Nat) (w : World) (hm : IsMap w N exC) : Calls Try.prog 40 #[mapP N, .int .i64 0] w fun e w' => e = .returned (.int .i64 12) ∧ Below w.heap.size w w' := int_at (P := fun _ => True) (top_m ok_ex N 0 (by decide) w hm) (by decide +kernel)
theorem ex_entry (N : Nat) (w : World) (hm : IsMap w N exC) : Calls Try.prog 41 #[mapP N, .int .i64 0, .int .i64 1] w fun e w' => e = .returned (.int .i64 15) ∧ Below w.heap.size w w' := int_at (P := fun _ => True) (entry_m ok_ex N 0 1 (by decide) w hm) (by decide +kernel)
theorem ex_many (N : Nat) (w : World) (hm : IsMap w N exC) : Calls Try.prog 42 #[mapP N, .int .i64 1] w fun e w' => e = .returned (.int .i64 16) ∧ Below w.heap.size w w' := int_at (P := fun _ => True) (many_m ok_ex N 1 (by decide) w hm) (by decide +kernel)
theorem ex_packets (N : Nat) (w : World) (hm : IsMap w N exC) : Calls Try.prog 25 #[mapP N] w fun e w' => e = .returned (.int .i64 5) ∧ Below w.heap.size w w' := int_at (P := fun _ => True) (packets_m N w hm) (by decide +kernel)
theorem ex_header (N : Nat) (w : World) (hm : IsMap w N exC) : Calls Try.prog 38 #[mapP N, .int .i64 1] w fun e w' => e = .returned (.int .i64 46) ∧ Below w.heap.size w w' := int_at (P := fun _ => True) (header_m ok_ex N 1 (by decide) w hm) (by decide +kernel)
theorem ex_len (N : Nat) (w : World) (hm : IsMap w N exC) : Calls Try.prog 17 #[mapP N] w fun e w' => e = .returned (.int .i64 51) ∧ Below w.heap.size w w' := int_at (P := fun _ => True) (len_m ok_ex N w hm) (by decide +kernel)

set_option maxHeartbeats 2000000 in
set_option maxRecDepth 100000 in
theorem awake_any (w : World) : Calls Try.prog 10 #[] w fun e w' => e = .returned (.bool true) ∧ Below w.heap.size w w' := by
  go_enter Try.func10, Try.ntmps10
  go_wp2_with (first
    | (go_at_call 13; (with_reducible refine (new_ex _).mono ?_); rintro r w1 ⟨N, rfl, hm, HB⟩; have HM := Lib.hid hm; clear hm)
    | (go_at_call 39; (with_reducible refine (ex_ack _ _ HM.out).mono ?_); rintro r w2 ⟨rfl, hb2⟩; have HM := Lib.hid (HM.out.below hb2); have HB := below_then HB hb2; clear hb2)
    | (go_at_call 33; (with_reducible refine (ex_head _ _ HM.out).mono ?_); rintro r w2 ⟨rfl, hb2⟩; have HM := Lib.hid (HM.out.below hb2); have HB := below_then HB hb2; clear hb2)
    | (go_at_call 40; (with_reducible refine (ex_top _ _ HM.out).mono ?_); rintro r w2 ⟨rfl, hb2⟩; have HM := Lib.hid (HM.out.below hb2); have HB := below_then HB hb2; clear hb2)
    | (go_at_call 41; (with_reducible refine (ex_entry _ _ HM.out).mono ?_); rintro r w2 ⟨rfl, hb2⟩; have HM := Lib.hid (HM.out.below hb2); have HB := below_then HB hb2; clear hb2)
    | (go_at_call 42; (with_reducible refine (ex_many _ _ HM.out).mono ?_); rintro r w2 ⟨rfl, hb2⟩; have HM := Lib.hid (HM.out.below hb2); have HB := below_then HB hb2; clear hb2)
    | (go_at_call 25; (with_reducible refine (ex_packets _ _ HM.out).mono ?_); rintro r w2 ⟨rfl, hb2⟩; have HM := Lib.hid (HM.out.below hb2); have HB := below_then HB hb2; clear hb2)
    | (go_at_call 38; (with_reducible refine (ex_header _ _ HM.out).mono ?_); rintro r w2 ⟨rfl, hb2⟩; have HM := Lib.hid (HM.out.below hb2); have HB := below_then HB hb2; clear hb2)
    | (go_at_call 17; (with_reducible refine (ex_len _ _ HM.out).mono ?_); rintro r w2 ⟨rfl, hb2⟩; have HM := Lib.hid (HM.out.below hb2); have HB := below_then HB hb2; clear hb2))
  go_ret
  exact ⟨rfl, HB⟩
end Go.Proofs.Ytkbfdcfgpmohkaa

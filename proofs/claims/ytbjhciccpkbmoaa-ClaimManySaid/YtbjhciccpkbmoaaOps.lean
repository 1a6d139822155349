/- A store's accesses, walked. -/
import Derived.Test.YtbjhciccpkbmoaaStore
namespace Go.Proofs.Ytbjhciccpkbmoaa
open Go.RowKit
set_option linter.unusedVariables false

theorem in_nat {L : List Int} {i : Nat} (h : i < L.length) : inB L i = true := by simp [inB]; exact h
theorem left_set {S D : Nat} {L : List Int} {c : Int} {w w1 : World} (h : Left S D L c w w1) (i : Nat) (v : Int) : Left S D (L.set i v) c w (w1.setCell ⟨D, i, none⟩ (.int .u64 v)) :=
  ⟨h.1.set i v, h.2.setD i _⟩

set_option maxHeartbeats 1000000 in
theorem load_any {S D : Nat} {L : List Int} {c : Int} (at' : Int) (w : World) (h : St w S D L c) (h0 : 0 ≤ c) (h1 : c ≤ 1000000000) :
    Calls Try.prog 26 #[ptr S, .int .i64 at'] w fun e w' => e = .returned (.int .u64 (ldv L at')) ∧ Left S D L (c + 1) w w' := by
  obtain ⟨b, hb⟩ : ∃ b, b = inB L at' := ⟨_, rfl⟩
  have H := Lib.hid h; clear h
  cases b
  · have e : ldv L at' = 0 := by unfold ldv; rw [if_neg (by rw [← hb]; simp)]
    rw [e]
    have HB := Lib.hid hb; clear hb e
    go_enter Try.func26, Try.ntmps26
    go_wp2_with (first
      | (go_at_call 52; (with_reducible refine (reaches_any _ _ H.out h0 h1).mono ?_); rintro r w1 ⟨rfl, hk⟩; rw [← HB.out])
      | fail)
    go_ret
    exact ⟨rfl, hk⟩
  · have hi := in_yes hb.symm
    obtain ⟨i, rfl⟩ : ∃ i : Nat, at' = (i : Int) := ⟨at'.toNat, by omega⟩
    have hil : i < L.length := by omega
    have e : ldv L i = L.getD i 0 := by unfold ldv; rw [if_pos hb.symm]; simp
    rw [e]
    obtain ⟨n, hn⟩ : ∃ n, n = L.length := ⟨_, rfl⟩
    rw [← hn] at hi hil
    have HN := Lib.hid hn
    have HB := Lib.hid hb
    have HI := Lib.hid hil
    obtain ⟨z, hz⟩ : ∃ z, z = L.getD i 0 := ⟨_, rfl⟩
    rw [← hz]
    have HZ := Lib.hid hz
    have hi0 : (0 : Int) ≤ (i : Int) := by omega
    have hi1 : (i : Int) < (n : Int) := by omega
    clear hb e hn hz hi hil
    go_enter Try.func26, Try.ntmps26
    go_wp2_with (first
      | (go_at_call 52; (with_reducible refine (reaches_any _ _ H.out h0 h1).mono ?_); rintro r w1 ⟨rfl, hk⟩; rw [← HB.out]; have hd := hk.1.head; rw [← HN.out] at hd; have hcl := hk.1.row.cell i (by have := HN.out; have := HI.out; omega); rw [← HZ.out] at hcl)
      | fail)
    go_ret
    exact ⟨rfl, hk⟩

set_option maxHeartbeats 1000000 in
theorem put_any {S D : Nat} {L : List Int} {c : Int} (at' v : Int) (w : World) (h : St w S D L c) (h0 : 0 ≤ c) (h1 : c ≤ 1000000000) :
    Calls Try.prog 19 #[ptr S, .int .i64 at', .int .u64 v] w fun e w' => e = .returned (.tuple #[]) ∧ Left S D (ptv L at' v) (c + 1) w w' := by
  obtain ⟨b, hb⟩ : ∃ b, b = inB L at' := ⟨_, rfl⟩
  have H := Lib.hid h; clear h
  cases b
  · have e : ptv L at' v = L := by unfold ptv; rw [if_neg (by rw [← hb]; simp)]
    rw [e]
    have HB := Lib.hid hb; clear hb e
    go_enter Try.func19, Try.ntmps19
    go_wp2_with (first
      | (go_at_call 52; (with_reducible refine (reaches_any _ _ H.out h0 h1).mono ?_); rintro r w1 ⟨rfl, hk⟩; rw [← HB.out])
      | fail)
    go_returns
    exact ⟨rfl, hk⟩
  · have hi := in_yes hb.symm
    obtain ⟨i, rfl⟩ : ∃ i : Nat, at' = (i : Int) := ⟨at'.toNat, by omega⟩
    have hil : i < L.length := by omega
    have e : ptv L i v = L.set i v := by unfold ptv; rw [if_pos hb.symm]; simp
    rw [e]
    obtain ⟨n, hn⟩ : ∃ n, n = L.length := ⟨_, rfl⟩
    rw [← hn] at hi hil
    have HN := Lib.hid hn
    have HB := Lib.hid hb
    have HI := Lib.hid hil
    have hi0 : (0 : Int) ≤ (i : Int) := by omega
    have hi1 : (i : Int) < (n : Int) := by omega
    clear hb e hn hi hil
    go_enter Try.func19, Try.ntmps19
    go_wp2_with (first
      | (go_at_call 52; (with_reducible refine (reaches_any _ _ H.out h0 h1).mono ?_); rintro r w1 ⟨rfl, hk⟩; rw [← HB.out]; have hd := hk.1.head; rw [← HN.out] at hd; have hcl := hk.1.row.cell i (by have := HN.out; have := HI.out; omega); have hfr := hk.1.row.frozen i; have HK := Lib.hid (left_set hk i v); clear hk)
      | fail)
    go_returns
    exact ⟨rfl, HK.out⟩

set_option maxHeartbeats 1000000 in
theorem swap_any {S D : Nat} {L : List Int} {c : Int} (at' o v : Int) (w : World) (h : St w S D L c) (h0 : 0 ≤ c) (h1 : c ≤ 1000000000) :
    Calls Try.prog 79 #[ptr S, .int .i64 at', .int .u64 o, .int .u64 v] w fun e w' => e = .returned (.bool (swB L at' o)) ∧ Left S D (swv L at' o v) (c + 1) w w' := by
  obtain ⟨b, hb⟩ : ∃ b, b = inB L at' := ⟨_, rfl⟩
  have H := Lib.hid h; clear h
  cases b
  · have e : swB L at' o = false := by unfold swB; rw [← hb]; rfl
    have e2 : swv L at' o v = L := by unfold swv; rw [e]; simp
    rw [e, e2]
    have HB := Lib.hid hb; clear hb e e2
    go_enter Try.func79, Try.ntmps79
    go_wp2_with (first
      | (go_at_call 52; (with_reducible refine (reaches_any _ _ H.out h0 h1).mono ?_); rintro r w1 ⟨rfl, hk⟩; rw [← HB.out])
      | fail)
    go_ret
    exact ⟨rfl, hk⟩
  · have hi := in_yes hb.symm
    obtain ⟨i, rfl⟩ : ∃ i : Nat, at' = (i : Int) := ⟨at'.toNat, by omega⟩
    have hil : i < L.length := by omega
    obtain ⟨n, hn⟩ : ∃ n, n = L.length := ⟨_, rfl⟩
    obtain ⟨z, hz⟩ : ∃ z, z = L.getD i 0 := ⟨_, rfl⟩
    have e0 : swB L i o = decide (z = o) := by unfold swB; rw [← hb, hz]; simp
    rw [← hn] at hi hil
    have hi0 : (0 : Int) ≤ (i : Int) := by omega
    have hi1 : (i : Int) < (n : Int) := by omega
    by_cases hzo : z = o
    · have e : swB L i o = true := by rw [e0]; simpa using hzo
      have e2 : swv L i o v = L.set i v := by unfold swv; rw [e]; simp
      rw [e, e2]
      have ht : (z != o) = false := by simp [hzo]
      have HN := Lib.hid hn
      have HB := Lib.hid hb
      have HI := Lib.hid hil
      have HZ := Lib.hid hz
      clear hb e e2 e0 hn hz hi hil hzo
      go_enter Try.func79, Try.ntmps79
      go_wp2_with (first
        | (go_at_call 52; (with_reducible refine (reaches_any _ _ H.out h0 h1).mono ?_); rintro r w1 ⟨rfl, hk⟩; rw [← HB.out]; have hd := hk.1.head; rw [← HN.out] at hd; have hcl := hk.1.row.cell i (by have := HN.out; have := HI.out; omega); rw [← HZ.out] at hcl; have hfr := hk.1.row.frozen i; have HK := Lib.hid (left_set hk i v); clear hk)
        | fail)
      go_ret
      exact ⟨rfl, HK.out⟩
    · have e : swB L i o = false := by rw [e0]; simpa using hzo
      have e2 : swv L i o v = L := by unfold swv; rw [e]; simp
      rw [e, e2]
      have ht : (z != o) = true := by simp [hzo]
      have HN := Lib.hid hn
      have HB := Lib.hid hb
      have HI := Lib.hid hil
      have HZ := Lib.hid hz
      clear hb e e2 e0 hn hz hi hil hzo
      go_enter Try.func79, Try.ntmps79
      go_wp2_with (first
        | (go_at_call 52; (with_reducible refine (reaches_any _ _ H.out h0 h1).mono ?_); rintro r w1 ⟨rfl, hk⟩; rw [← HB.out]; have hd := hk.1.head; rw [← HN.out] at hd; have hcl := hk.1.row.cell i (by have := HN.out; have := HI.out; omega); rw [← HZ.out] at hcl)
        | fail)
      go_ret
      exact ⟨rfl, hk⟩

end Go.Proofs.Ytbjhciccpkbmoaa

/- Words that are added to, by the program and by the document; how many accesses there were; walked. -/
import Derived.Test.YtbjhciccpkbmoaaTwo
import Derived.Test.YtbjhciccpkbmoaaRef
namespace Go.Proofs.Ytbjhciccpkbmoaa
open Go.RowKit
set_option linter.unusedVariables false

set_option maxHeartbeats 1000000 in
theorem add_any {S D : Nat} {L : List Int} {c : Int} (at' v : Int) (w : World) (h : St w S D L c) (h0 : 0 ≤ c) (h1 : c ≤ 1000000000) :
    Calls Try.prog 77 #[ptr S, .int .i64 at', .int .u64 v] w fun e w' => e = .returned (.int .u64 (ldv L at')) ∧ Left S D (adv L at' v) (c + 1) w w' := by
  obtain ⟨b, hb⟩ : ∃ b, b = inB L at' := ⟨_, rfl⟩
  have H := Lib.hid h; clear h
  cases b
  · have e : ldv L at' = 0 := by unfold ldv; rw [if_neg (by rw [← hb]; simp)]
    have e2 : adv L at' v = L := by unfold adv ptv; rw [if_neg (by rw [← hb]; simp)]
    rw [e, e2]
    have HB := Lib.hid hb; clear hb e e2
    go_enter Try.func77, Try.ntmps77
    go_wp2_with (first
      | (go_at_call 52; (with_reducible refine (reaches_any _ _ H.out h0 h1).mono ?_); rintro r w1 ⟨rfl, hk⟩; rw [← HB.out])
      | fail)
    go_ret
    exact ⟨rfl, hk⟩
  · have hi := in_yes hb.symm
    obtain ⟨i, rfl⟩ : ∃ i : Nat, at' = (i : Int) := ⟨at'.toNat, by omega⟩
    have hil : i < L.length := by omega
    have e : ldv L i = L.getD i 0 := by unfold ldv; rw [if_pos hb.symm]; simp
    have e2 : adv L i v = L.set i (IntKind.u64.wrap (L.getD i 0 + v)) := by unfold adv ptv; rw [if_pos hb.symm, e]; simp
    rw [e, e2]
    obtain ⟨n, hn⟩ : ∃ n, n = L.length := ⟨_, rfl⟩
    rw [← hn] at hi hil
    have HN := Lib.hid hn
    have HB := Lib.hid hb
    have HI := Lib.hid hil
    obtain ⟨z, hz⟩ : ∃ z, z = L.getD i 0 := ⟨_, rfl⟩
    rw [← hz]
    obtain ⟨y, hy⟩ : ∃ y, y = IntKind.u64.wrap (z + v) := ⟨_, rfl⟩
    rw [← hy]
    have HZ := Lib.hid hz
    have hi0 : (0 : Int) ≤ (i : Int) := by omega
    have hi1 : (i : Int) < (n : Int) := by omega
    have hy' := hy.symm
    clear hb e e2 hn hz hi hil hy
    go_enter Try.func77, Try.ntmps77
    go_wp2_with (first
      | (go_at_call 52; (with_reducible refine (reaches_any _ _ H.out h0 h1).mono ?_); rintro r w1 ⟨rfl, hk⟩; rw [← HB.out]; have hd := hk.1.head; rw [← HN.out] at hd; have hcl := hk.1.row.cell i (by have := HN.out; have := HI.out; omega); rw [← HZ.out] at hcl; have hfr := hk.1.row.frozen i; have HK := Lib.hid (left_set hk i y); clear hk)
      | fail)
    go_ret
    exact ⟨rfl, HK.out⟩


def SomeSlI (P : Nat → Prop) (w : World) (n : Nat) (zs : List Int) (x : Int) (e : Ending) (w' : World) : Prop :=
  ∃ A cap, e = .returned (.tuple #[.slice A n cap, .int .u64 x]) ∧ ReadsW P w' A zs ∧ Below w.heap.size w w'

set_option maxHeartbeats 2000000 in
theorem radd_any (P : Nat → Prop) (A : Option Addr) (n cap : Nat) (zs : List Int) (at' v : Int) (w : World) (hn : n = zs.length) (hl : n ≤ 1000000) (h : ReadsW P w A zs) (hP : ∀ b, w.heap.size ≤ b → P b) :
    Calls Try.prog 55 #[.slice A n cap, .int .i64 at', .int .u64 v] w (SomeSlI P w n (adv zs at' v) (ldv zs at')) := by
  obtain ⟨z, hz⟩ : ∃ z, z = ldv zs at' := ⟨_, rfl⟩
  have he : adv zs at' v = ptv zs at' (IntKind.u64.wrap (z + v)) := by rw [hz]; rfl
  obtain ⟨y, hy⟩ : ∃ y, y = IntKind.u64.wrap (z + v) := ⟨_, rfl⟩
  rw [← hy] at he
  rw [he, ← hz]
  have H := Lib.hid h; have HN := Lib.hid hn; have HZ := Lib.hid hz
  have hy' := hy.symm
  clear h hn hz he hy
  go_enter Try.func55, Try.ntmps55
  go_wp2_with (first
    | (go_at_call 54; (with_reducible refine (rload_any A n cap zs _ _ HN.out H.out.reads).mono ?_); rintro r w1 ⟨rfl, rfl⟩; rw [← HZ.out])
    | (go_at_call 20; (with_reducible refine (rput_any P A n cap zs _ _ _ HN.out hl H.out hP).mono ?_); rintro r w1 ⟨A2, cap2, rfl, hk⟩; have HK := Lib.hid hk; clear hk)
    | fail)
  go_ret2
  exact ⟨A2, cap2, rfl, HK.out⟩


/-- How many accesses there were. -/
theorem cnt_any {S D : Nat} {L : List Int} {c : Int} (w : World) (h : St w S D L c) : Calls Try.prog 21 #[ptr S] w fun a w' => a = .returned (.int .i64 c) ∧ w = w' := by
  have hc := h.many
  clear h
  go_enter Try.func21, Try.ntmps21
  go_wp2
  go_ret
  exact ⟨rfl, rfl⟩


end Go.Proofs.Ytbjhciccpkbmoaa

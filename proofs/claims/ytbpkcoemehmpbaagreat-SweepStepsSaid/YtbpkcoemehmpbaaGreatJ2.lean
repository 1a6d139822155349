/- A store and its methods, walked. A store's accesses, walked. -/
import Derived.Test.YtbpkcoemehmpbaaGreatJ1
namespace Go.Proofs.YtbpkcoemehmpbaaGreat
open Go.RowKit
set_option linter.unusedVariables false

abbrev ptr (S : Nat) : Value := .pointer (some ⟨S, 0, none⟩)
/-- Is there a word at a place? -/
def inB (L : List Int) (at' : Int) : Bool := decide (0 ≤ at' ∧ at' < L.length)
theorem in_yes {L : List Int} {at' : Int} (h : inB L at' = true) : 0 ≤ at' ∧ at' < L.length := by simpa [inB] using h
theorem in_no {L : List Int} {at' : Int} (h : inB L at' = false) : ¬ (0 ≤ at' ∧ at' < L.length) := by
  intro h2
  have : inB L at' = true := by simp only [inB]; exact decide_eq_true h2
  rw [h] at this; cases this
/-- What a load is, what words there are behind a put, behind a swap, behind an addition. -/
def ldv (L : List Int) (at' : Int) : Int := if inB L at' = true then L.getD at'.toNat 0 else 0
def ptv (L : List Int) (at' v : Int) : List Int := if inB L at' = true then L.set at'.toNat v else L
def swB (L : List Int) (at' o : Int) : Bool := inB L at' && decide (L.getD at'.toNat 0 = o)
def swv (L : List Int) (at' o v : Int) : List Int := if swB L at' o = true then L.set at'.toNat v else L
def adv (L : List Int) (at' n : Int) : List Int := ptv L at' (IntKind.u64.wrap (ldv L at' + n))
theorem ptv_len (L : List Int) (at' v : Int) : (ptv L at' v).length = L.length := by unfold ptv; split <;> simp
theorem swv_len (L : List Int) (at' o v : Int) : (swv L at' o v).length = L.length := by unfold swv; split <;> simp
theorem adv_len (L : List Int) (at' n : Int) : (adv L at' n).length = L.length := ptv_len ..

/-- What a method leaves: the store with other words, and an access more; all else as it was. -/
def Left (S D : Nat) (L : List Int) (c : Int) (w w' : World) : Prop := St w' S D L c ∧ Upd S D w w'

set_option maxHeartbeats 1000000 in
theorem count_any {S D : Nat} {L : List Int} {c : Int} (w : World) (h : St w S D L c) (h0 : 0 ≤ c) (h1 : c ≤ 1000000000) :
    Calls Tryz.prog 76 #[ptr S] w fun e w' => e = .returned (.tuple #[]) ∧ Left S D L (c + 1) w w' := by
  have HL : Hid (Left S D L (c + 1) w (w.setCell ⟨S, 1, none⟩ (.int .i64 (c + 1)))) := Lib.hid ⟨h.count _, (Upd.refl _ _ _).setS _ _⟩
  have hc := h.many
  have hf := h.fro 1
  clear h
  go_enter Tryz.func76, Tryz.ntmps76
  go_wp2
  go_returns
  exact ⟨rfl, HL.out⟩

set_option maxHeartbeats 1000000 in
theorem counted_any {S D : Nat} {L : List Int} {c : Int} (n : Nat) (at' : Int) (w : World) (hn : n = L.length) (h : St w S D L c) (h0 : 0 ≤ c) (h1 : c ≤ 1000000000) :
    Calls Tryz.prog 75 #[.func (.func 76) #[ptr S] #[], .int .i64 (n : Int), .int .i64 at'] w fun e w' => e = .returned (.bool (inB L at')) ∧ Left S D L (c + 1) w w' := by
  obtain ⟨b, hb⟩ : ∃ b, b = inB L at' := ⟨_, rfl⟩
  rw [← hb]
  have H := Lib.hid h; clear h
  cases b
  · have hno := in_no hb.symm
    have HB := Lib.hid hb; clear hb
    by_cases hz : 0 ≤ at'
    · have hlt : decide (at' < (n : Int)) = false := by simp; omega
      clear hn hno
      go_enter Tryz.func75, Tryz.ntmps75
      go_wp2_with (first
        | (go_at_call 76; (with_reducible refine (count_any _ H.out h0 h1).mono ?_); rintro r w1 ⟨rfl, hk⟩)
        | fail)
      go_ret
      exact ⟨rfl, hk⟩
    · have hlt : decide (0 ≤ at') = false := by simp; omega
      clear hn hno
      go_enter Tryz.func75, Tryz.ntmps75
      go_wp2_with (first
        | (go_at_call 76; (with_reducible refine (count_any _ H.out h0 h1).mono ?_); rintro r w1 ⟨rfl, hk⟩)
        | fail)
      go_ret
      exact ⟨rfl, hk⟩
  · have hyes := in_yes hb.symm
    have HB := Lib.hid hb; clear hb
    have hlt : decide (at' < (n : Int)) = true := by simp; omega
    have hz : 0 ≤ at' := hyes.1
    clear hn hyes
    go_enter Tryz.func75, Tryz.ntmps75
    go_wp2_with (first
      | (go_at_call 76; (with_reducible refine (count_any _ H.out h0 h1).mono ?_); rintro r w1 ⟨rfl, hk⟩)
      | fail)
    go_ret
    exact ⟨rfl, hk⟩

set_option maxHeartbeats 1000000 in
theorem reaches_any {S D : Nat} {L : List Int} {c : Int} (at' : Int) (w : World) (h : St w S D L c) (h0 : 0 ≤ c) (h1 : c ≤ 1000000000) :
    Calls Tryz.prog 40 #[ptr S, .int .i64 at'] w fun e w' => e = .returned (.bool (inB L at')) ∧ Left S D L (c + 1) w w' := by
  have hmf : ∀ (fn : Fn) (first cap : Array Value) (w : World), (Instr.makeFunc fn first cap).run Tryz.prog w = .ok (.func fn first cap) w := fun _ _ _ _ => rfl
  have hc := h.head
  obtain ⟨n, hn⟩ : ∃ n, n = L.length := ⟨_, rfl⟩
  rw [← hn] at hc
  have HN := Lib.hid hn; clear hn
  have H := Lib.hid h; clear h
  go_enter Tryz.func40, Tryz.ntmps40
  go_wp2_with (first
    | (go_at_call 75; (with_reducible refine (counted_any (S := S) _ _ _ HN.out H.out h0 h1).mono ?_); rintro r w1 ⟨rfl, hk⟩)
    | fail)
  go_ret
  exact ⟨rfl, hk⟩
end Go.Proofs.YtbpkcoemehmpbaaGreat

namespace Go.Proofs.YtbpkcoemehmpbaaGreat
open Go.RowKit
set_option linter.unusedVariables false

theorem in_nat {L : List Int} {i : Nat} (h : i < L.length) : inB L i = true := by simp [inB]; exact h
theorem left_set {S D : Nat} {L : List Int} {c : Int} {w w1 : World} (h : Left S D L c w w1) (i : Nat) (v : Int) : Left S D (L.set i v) c w (w1.setCell ⟨D, i, none⟩ (.int .u64 v)) :=
  ⟨h.1.set i v, h.2.setD i _⟩

set_option maxHeartbeats 1000000 in
theorem load_any {S D : Nat} {L : List Int} {c : Int} (at' : Int) (w : World) (h : St w S D L c) (h0 : 0 ≤ c) (h1 : c ≤ 1000000000) :
    Calls Tryz.prog 27 #[ptr S, .int .i64 at'] w fun e w' => e = .returned (.int .u64 (ldv L at')) ∧ Left S D L (c + 1) w w' := by
  obtain ⟨b, hb⟩ : ∃ b, b = inB L at' := ⟨_, rfl⟩
  have H := Lib.hid h; clear h
  cases b
  · have e : ldv L at' = 0 := by unfold ldv; rw [if_neg (by rw [← hb]; simp)]
    rw [e]
    have HB := Lib.hid hb; clear hb e
    go_enter Tryz.func27, Tryz.ntmps27
    go_wp2_with (first
      | (go_at_call 40; (with_reducible refine (reaches_any _ _ H.out h0 h1).mono ?_); rintro r w1 ⟨rfl, hk⟩; rw [← HB.out])
      | fail)
    go_ret
    exact ⟨rfl, hk⟩
  · have hi := in_yes hb.symm
    obtain ⟨i, rfl⟩ : ∃ i : Nat, at' = (i : Int) := ⟨at'.toNat, by omega⟩
    have hil : i < L.length := by omega
    have e : ldv L i = L.getD i 0 := by unfold ldv; rw [if_pos hb.symm]; simp
    rw [e]
    obtain ⟨n, hn⟩ : ∃ n, n = L.length := ⟨_, rfl⟩
    rw [← hn] at hi hil
    have HN := Lib.hid hn
    have HB := Lib.hid hb
    have HI := Lib.hid hil
    obtain ⟨z, hz⟩ : ∃ z, z = L.getD i 0 := ⟨_, rfl⟩
    rw [← hz]
    have HZ := Lib.hid hz
    have hi0 : (0 : Int) ≤ (i : Int) := by omega
    have hi1 : (i : Int) < (n : Int) := by omega
    clear hb e hn hz hi hil
    go_enter Tryz.func27, Tryz.ntmps27
    go_wp2_with (first
      | (go_at_call 40; (with_reducible refine (reaches_any _ _ H.out h0 h1).mono ?_); rintro r w1 ⟨rfl, hk⟩; rw [← HB.out]; have hd := hk.1.head; rw [← HN.out] at hd; have hcl := hk.1.row.cell i (by have := HN.out; have := HI.out; omega); rw [← HZ.out] at hcl)
      | fail)
    go_ret
    exact ⟨rfl, hk⟩

set_option maxHeartbeats 1000000 in
theorem put_any {S D : Nat} {L : List Int} {c : Int} (at' v : Int) (w : World) (h : St w S D L c) (h0 : 0 ≤ c) (h1 : c ≤ 1000000000) :
    Calls Tryz.prog 13 #[ptr S, .int .i64 at', .int .u64 v] w fun e w' => e = .returned (.tuple #[]) ∧ Left S D (ptv L at' v) (c + 1) w w' := by
  obtain ⟨b, hb⟩ : ∃ b, b = inB L at' := ⟨_, rfl⟩
  have H := Lib.hid h; clear h
  cases b
  · have e : ptv L at' v = L := by unfold ptv; rw [if_neg (by rw [← hb]; simp)]
    rw [e]
    have HB := Lib.hid hb; clear hb e
    go_enter Tryz.func13, Tryz.ntmps13
    go_wp2_with (first
      | (go_at_call 40; (with_reducible refine (reaches_any _ _ H.out h0 h1).mono ?_); rintro r w1 ⟨rfl, hk⟩; rw [← HB.out])
      | fail)
    go_returns
    exact ⟨rfl, hk⟩
  · have hi := in_yes hb.symm
    obtain ⟨i, rfl⟩ : ∃ i : Nat, at' = (i : Int) := ⟨at'.toNat, by omega⟩
    have hil : i < L.length := by omega
    have e : ptv L i v = L.set i v := by unfold ptv; rw [if_pos hb.symm]; simp
    rw [e]
    obtain ⟨n, hn⟩ : ∃ n, n = L.length := ⟨_, rfl⟩
    rw [← hn] at hi hil
    have HN := Lib.hid hn
    have HB := Lib.hid hb
    have HI := Lib.hid hil
    have hi0 : (0 : Int) ≤ (i : Int) := by omega
    have hi1 : (i : Int) < (n : Int) := by omega
    clear hb e hn hi hil
    go_enter Tryz.func13, Tryz.ntmps13
    go_wp2_with (first
      | (go_at_call 40; (with_reducible refine (reaches_any _ _ H.out h0 h1).mono ?_); rintro r w1 ⟨rfl, hk⟩; rw [← HB.out]; have hd := hk.1.head; rw [← HN.out] at hd; have hcl := hk.1.row.cell i (by have := HN.out; have := HI.out; omega); have hfr := hk.1.row.frozen i; have HK := Lib.hid (left_set hk i v); clear hk)
      | fail)
    go_returns
    exact ⟨rfl, HK.out⟩

set_option maxHeartbeats 1000000 in
theorem swap_any {S D : Nat} {L : List Int} {c : Int} (at' o v : Int) (w : World) (h : St w S D L c) (h0 : 0 ≤ c) (h1 : c ≤ 1000000000) :
    Calls Tryz.prog 88 #[ptr S, .int .i64 at', .int .u64 o, .int .u64 v] w fun e w' => e = .returned (.bool (swB L at' o)) ∧ Left S D (swv L at' o v) (c + 1) w w' := by
  obtain ⟨b, hb⟩ : ∃ b, b = inB L at' := ⟨_, rfl⟩
  have H := Lib.hid h; clear h
  cases b
  · have e : swB L at' o = false := by unfold swB; rw [← hb]; rfl
    have e2 : swv L at' o v = L := by unfold swv; rw [e]; simp
    rw [e, e2]
    have HB := Lib.hid hb; clear hb e e2
    go_enter Tryz.func88, Tryz.ntmps88
    go_wp2_with (first
      | (go_at_call 40; (with_reducible refine (reaches_any _ _ H.out h0 h1).mono ?_); rintro r w1 ⟨rfl, hk⟩; rw [← HB.out])
      | fail)
    go_ret
    exact ⟨rfl, hk⟩
  · have hi := in_yes hb.symm
    obtain ⟨i, rfl⟩ : ∃ i : Nat, at' = (i : Int) := ⟨at'.toNat, by omega⟩
    have hil : i < L.length := by omega
    obtain ⟨n, hn⟩ : ∃ n, n = L.length := ⟨_, rfl⟩
    obtain ⟨z, hz⟩ : ∃ z, z = L.getD i 0 := ⟨_, rfl⟩
    have e0 : swB L i o = decide (z = o) := by unfold swB; rw [← hb, hz]; simp
    rw [← hn] at hi hil
    have hi0 : (0 : Int) ≤ (i : Int) := by omega
    have hi1 : (i : Int) < (n : Int) := by omega
    by_cases hzo : z = o
    · have e : swB L i o = true := by rw [e0]; simpa using hzo
      have e2 : swv L i o v = L.set i v := by unfold swv; rw [e]; simp
      rw [e, e2]
      have ht : (z != o) = false := by simp [hzo]
      have HN := Lib.hid hn
      have HB := Lib.hid hb
      have HI := Lib.hid hil
      have HZ := Lib.hid hz
      clear hb e e2 e0 hn hz hi hil hzo
      go_enter Tryz.func88, Tryz.ntmps88
      go_wp2_with (first
        | (go_at_call 40; (with_reducible refine (reaches_any _ _ H.out h0 h1).mono ?_); rintro r w1 ⟨rfl, hk⟩; rw [← HB.out]; have hd := hk.1.head; rw [← HN.out] at hd; have hcl := hk.1.row.cell i (by have := HN.out; have := HI.out; omega); rw [← HZ.out] at hcl; have hfr := hk.1.row.frozen i; have HK := Lib.hid (left_set hk i v); clear hk)
        | fail)
      go_ret
      exact ⟨rfl, HK.out⟩
    · have e : swB L i o = false := by rw [e0]; simpa using hzo
      have e2 : swv L i o v = L := by unfold swv; rw [e]; simp
      rw [e, e2]
      have ht : (z != o) = true := by simp [hzo]
      have HN := Lib.hid hn
      have HB := Lib.hid hb
      have HI := Lib.hid hil
      have HZ := Lib.hid hz
      clear hb e e2 e0 hn hz hi hil hzo
      go_enter Tryz.func88, Tryz.ntmps88
      go_wp2_with (first
        | (go_at_call 40; (with_reducible refine (reaches_any _ _ H.out h0 h1).mono ?_); rintro r w1 ⟨rfl, hk⟩; rw [← HB.out]; have hd := hk.1.head; rw [← HN.out] at hd; have hcl := hk.1.row.cell i (by have := HN.out; have := HI.out; omega); rw [← HZ.out] at hcl)
        | fail)
      go_ret
      exact ⟨rfl, hk⟩

end Go.Proofs.YtbpkcoemehmpbaaGreat

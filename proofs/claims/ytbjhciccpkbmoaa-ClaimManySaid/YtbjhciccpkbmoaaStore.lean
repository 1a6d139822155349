/- A store and its methods, walked. -/
import Derived.Test.YtbjhciccpkbmoaaBase
namespace Go.Proofs.Ytbjhciccpkbmoaa
open Go.RowKit
set_option linter.unusedVariables false

abbrev ptr (S : Nat) : Value := .pointer (some ⟨S, 0, none⟩)
/-- Is there a word at a place? -/
def inB (L : List Int) (at' : Int) : Bool := decide (0 ≤ at' ∧ at' < L.length)
theorem in_yes {L : List Int} {at' : Int} (h : inB L at' = true) : 0 ≤ at' ∧ at' < L.length := by simpa [inB] using h
theorem in_no {L : List Int} {at' : Int} (h : inB L at' = false) : ¬ (0 ≤ at' ∧ at' < L.length) := by
  intro h2
  have : inB L at' = true := by simp only [inB]; exact decide_eq_true h2
  rw [h] at this; cases this
/-- What a load is, what words there are behind a put, behind a swap, behind an addition. -/
def ldv (L : List Int) (at' : Int) : Int := if inB L at' = true then L.getD at'.toNat 0 else 0
def ptv (L : List Int) (at' v : Int) : List Int := if inB L at' = true then L.set at'.toNat v else L
def swB (L : List Int) (at' o : Int) : Bool := inB L at' && decide (L.getD at'.toNat 0 = o)
def swv (L : List Int) (at' o v : Int) : List Int := if swB L at' o = true then L.set at'.toNat v else L
def adv (L : List Int) (at' n : Int) : List Int := ptv L at' (IntKind.u64.wrap (ldv L at' + n))
theorem ptv_len (L : List Int) (at' v : Int) : (ptv L at' v).length = L.length := by unfold ptv; split <;> simp
theorem swv_len (L : List Int) (at' o v : Int) : (swv L at' o v).length = L.length := by unfold swv; split <;> simp
theorem adv_len (L : List Int) (at' n : Int) : (adv L at' n).length = L.length := ptv_len ..

/-- What a method leaves: the store with other words, and an access more; all else as it was. -/
def Left (S D : Nat) (L : List Int) (c : Int) (w w' : World) : Prop := St w' S D L c ∧ Upd S D w w'

set_option maxHeartbeats 1000000 in
theorem count_any {S D : Nat} {L : List Int} {c : Int} (w : World) (h : St w S D L c) (h0 : 0 ≤ c) (h1 : c ≤ 1000000000) :
    Calls Try.prog 70 #[ptr S] w fun e w' => e = .returned (.tuple #[]) ∧ Left S D L (c + 1) w w' := by
  have HL : Hid (Left S D L (c + 1) w (w.setCell ⟨S, 1, none⟩ (.int .i64 (c + 1)))) := Lib.hid ⟨h.count _, (Upd.refl _ _ _).setS _ _⟩
  have hc := h.many
  have hf := h.fro 1
  clear h
  go_enter Try.func70, Try.ntmps70
  go_wp2
  go_returns
  exact ⟨rfl, HL.out⟩

set_option maxHeartbeats 1000000 in
theorem counted_any {S D : Nat} {L : List Int} {c : Int} (n : Nat) (at' : Int) (w : World) (hn : n = L.length) (h : St w S D L c) (h0 : 0 ≤ c) (h1 : c ≤ 1000000000) :
    Calls Try.prog 69 #[.func (.func 70) #[ptr S] #[], .int .i64 (n : Int), .int .i64 at'] w fun e w' => e = .returned (.bool (inB L at')) ∧ Left S D L (c + 1) w w' := by
  obtain ⟨b, hb⟩ : ∃ b, b = inB L at' := ⟨_, rfl⟩
  rw [← hb]
  have H := Lib.hid h; clear h
  cases b
  · have hno := in_no hb.symm
    have HB := Lib.hid hb; clear hb
    by_cases hz : 0 ≤ at'
    · have hlt : decide (at' < (n : Int)) = false := by simp; omega
      clear hn hno
      go_enter Try.func69, Try.ntmps69
      go_wp2_with (first
        | (go_at_call 70; (with_reducible refine (count_any _ H.out h0 h1).mono ?_); rintro r w1 ⟨rfl, hk⟩)
        | fail)
      go_ret
      exact ⟨rfl, hk⟩
    · have hlt : decide (0 ≤ at') = false := by simp; omega
      clear hn hno
      go_enter Try.func69, Try.ntmps69
      go_wp2_with (first
        | (go_at_call 70; (with_reducible refine (count_any _ H.out h0 h1).mono ?_); rintro r w1 ⟨rfl, hk⟩)
        | fail)
      go_ret
      exact ⟨rfl, hk⟩
  · have hyes := in_yes hb.symm
    have HB := Lib.hid hb; clear hb
    have hlt : decide (at' < (n : Int)) = true := by simp; omega
    have hz : 0 ≤ at' := hyes.1
    clear hn hyes
    go_enter Try.func69, Try.ntmps69
    go_wp2_with (first
      | (go_at_call 70; (with_reducible refine (count_any _ H.out h0 h1).mono ?_); rintro r w1 ⟨rfl, hk⟩)
      | fail)
    go_ret
    exact ⟨rfl, hk⟩

set_option maxHeartbeats 1000000 in
theorem reaches_any {S D : Nat} {L : List Int} {c : Int} (at' : Int) (w : World) (h : St w S D L c) (h0 : 0 ≤ c) (h1 : c ≤ 1000000000) :
    Calls Try.prog 52 #[ptr S, .int .i64 at'] w fun e w' => e = .returned (.bool (inB L at')) ∧ Left S D L (c + 1) w w' := by
  have hmf : ∀ (fn : Fn) (first cap : Array Value) (w : World), (Instr.makeFunc fn first cap).run Try.prog w = .ok (.func fn first cap) w := fun _ _ _ _ => rfl
  have hc := h.head
  obtain ⟨n, hn⟩ : ∃ n, n = L.length := ⟨_, rfl⟩
  rw [← hn] at hc
  have HN := Lib.hid hn; clear hn
  have H := Lib.hid h; clear h
  go_enter Try.func52, Try.ntmps52
  go_wp2_with (first
    | (go_at_call 69; (with_reducible refine (counted_any (S := S) _ _ _ HN.out H.out h0 h1).mono ?_); rintro r w1 ⟨rfl, hk⟩)
    | fail)
  go_ret
  exact ⟨rfl, hk⟩
end Go.Proofs.Ytbjhciccpkbmoaa

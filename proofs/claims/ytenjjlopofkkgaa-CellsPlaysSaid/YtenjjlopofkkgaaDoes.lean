/- An access by its kind: what it tells, what words there are behind it; walked. -/
import Derived.Test.YtenjjlopofkkgaaAwake
namespace Go.Proofs.Ytenjjlopofkkgaa
open Go.RowKit
set_option linter.unusedVariables false

/-- An access: its kind, its place, and two words. -/
structure Ac where
  d : Int
  p : Int
  o : Int
  v : Int
abbrev acV (x : Ac) : Value := .agg #[.int .u8 x.d, .int .i64 x.p, .int .u64 x.o, .int .u64 x.v]
def dov (L : List Int) (x : Ac) : Int := if x.d = 0 then ldv L x.p else if x.d = 1 then 0 else if x.d = 2 then (if swB L x.p x.o = true then 1 else 0) else ldv L x.p
def doL (L : List Int) (x : Ac) : List Int := if x.d = 0 then L else if x.d = 1 then ptv L x.p x.v else if x.d = 2 then swv L x.p x.o x.v else adv L x.p x.v
theorem doL_len (L : List Int) (x : Ac) : (doL L x).length = L.length := by
  unfold doL
  by_cases h0 : x.d = 0
  · rw [if_pos h0]
  · by_cases h1 : x.d = 1
    · rw [if_neg h0, if_pos h1]; exact ptv_len ..
    · by_cases h2 : x.d = 2
      · rw [if_neg h0, if_neg h1, if_pos h2]; exact swv_len ..
      · rw [if_neg h0, if_neg h1, if_neg h2]; exact adv_len ..

/-! Two of two places in either order. -/
def nw (z : Int) (x : Ac) : Int := if x.d = 0 then z else if x.d = 1 then x.v else if x.d = 2 then (if z = x.o then x.v else z) else IntKind.u64.wrap (z + x.v)
def ow (z : Int) (x : Ac) : Int := if x.d = 0 then z else if x.d = 1 then 0 else if x.d = 2 then (if z = x.o then 1 else 0) else z
theorem set_self (L : List Int) (i : Nat) : L.set i (L.getD i 0) = L := by
  apply List.ext_getElem?
  intro j
  rw [List.getElem?_set]
  by_cases e : i = j
  · subst e
    by_cases h : i < L.length
    · simp [List.getD, h]
    · simp [h]
  · simp [e]
theorem doL_eq (L : List Int) (x : Ac) : doL L x = if inB L x.p = true then L.set x.p.toNat (nw (L.getD x.p.toNat 0) x) else L := by
  cases hb : inB L x.p
  · unfold doL ptv swv adv swB ptv
    rw [hb]; simp
  · have hs := set_self L x.p.toNat
    obtain ⟨z, hz⟩ : ∃ z, z = L.getD x.p.toNat 0 := ⟨_, rfl⟩
    rw [← hz] at hs ⊢
    rw [if_pos rfl]
    unfold doL nw
    by_cases h0 : x.d = 0
    · rw [if_pos h0, if_pos h0, hs]
    · by_cases h1 : x.d = 1
      · rw [if_neg h0, if_neg h0, if_pos h1, if_pos h1]; unfold ptv; rw [if_pos hb]
      · by_cases h2 : x.d = 2
        · rw [if_neg h0, if_neg h0, if_neg h1, if_neg h1, if_pos h2, if_pos h2]
          have hw : swB L x.p x.o = decide (z = x.o) := by unfold swB; rw [hb, hz]; rfl
          unfold swv
          rw [hw]
          by_cases hzo : z = x.o
          · rw [if_pos (by simpa using hzo), if_pos hzo]
          · rw [if_neg (by simpa using hzo), if_neg hzo, hs]
        · rw [if_neg h0, if_neg h0, if_neg h1, if_neg h1, if_neg h2, if_neg h2]
          unfold adv ptv ldv
          rw [if_pos hb, if_pos hb, ← hz]
theorem dov_eq (L : List Int) (x : Ac) : dov L x = if inB L x.p = true then ow (L.getD x.p.toNat 0) x else 0 := by
  cases hb : inB L x.p
  · unfold dov ldv swB
    rw [hb]; simp
  · unfold dov ow
    by_cases h0 : x.d = 0
    · simp [h0, ldv, hb]
    · by_cases h1 : x.d = 1
      · simp [h1]
      · by_cases h2 : x.d = 2
        · simp [h2, swB, hb]
        · simp [h0, h1, h2, ldv, hb]
theorem in_doL (L : List Int) (x : Ac) (q : Int) : inB (doL L x) q = inB L q := by unfold inB; rw [doL_len]
theorem get_doL (L : List Int) (x : Ac) (q : Int) (hq : inB L q = true) (h : x.p ≠ q) : (doL L x).getD q.toNat 0 = L.getD q.toNat 0 := by
  rw [doL_eq]
  cases hb : inB L x.p
  · simp
  · have h1 := in_yes hq
    have h2 := in_yes hb
    have : x.p.toNat ≠ q.toNat := by omega
    simp [List.getD, this]
theorem dov_turn (L : List Int) (x y : Ac) (h : x.p ≠ y.p) : dov (doL L x) y = dov L y := by
  rw [dov_eq, dov_eq, in_doL]
  cases hb : inB L y.p
  · rfl
  · rw [get_doL L x y.p hb h]
theorem doL_turn (L : List Int) (x y : Ac) (h : x.p ≠ y.p) : doL (doL L x) y = doL (doL L y) x := by
  rw [doL_eq (doL L x) y, doL_eq (doL L y) x, in_doL, in_doL]
  cases hx : inB L x.p
  · cases hy : inB L y.p
    · rw [doL_eq L x, doL_eq L y, hx, hy]; simp
    · rw [get_doL L x y.p hy h, doL_eq L x, doL_eq L y, hx, hy]; simp
  · cases hy : inB L y.p
    · rw [get_doL L y x.p hx (Ne.symm h), doL_eq L x, doL_eq L y, hx, hy]; simp
    · rw [get_doL L x y.p hy h, get_doL L y x.p hx (Ne.symm h), doL_eq L x, doL_eq L y, hx, hy]
      simp only [if_true]
      have h1 := in_yes hx
      have h2 := in_yes hy
      exact List.set_comm _ _ (by omega)

theorem left_alloc {S D : Nat} {L M : List Int} {c d : Int} {w w' : World} (o : Obj) (k : Left S D M d (w.alloc o) w') : Left S D M d w w' :=
  ⟨k.1, (Upd.of_below (below_alloc0 (Below.refl _ _) o)).trans k.2⟩

set_option maxHeartbeats 2000000 in
theorem does_any {S D : Nat} {L : List Int} {c : Int} (x : Ac) (w : World) (h : St w S D L c) (h0 : 0 ≤ c) (h1 : c ≤ 1000000000) :
    Calls Try.prog 24 #[ptr S, acV x] w fun e w' => e = .returned (.int .u64 (dov L x)) ∧ Left S D (doL L x) (c + 1) w w' := by
  obtain ⟨d, p, o, v⟩ := x
  have H := Lib.hid (h.below (below_alloc0 (Below.refl _ _) (.cells #[.int .u8 d, .int .i64 p, .int .u64 o, .int .u64 v] 29)))
  clear h
  by_cases d0 : d = 0
  · subst d0
    show Calls Try.prog 24 #[ptr S, .agg #[.int .u8 0, .int .i64 p, .int .u64 o, .int .u64 v]] w fun e w' => e = .returned (.int .u64 (ldv L p)) ∧ Left S D L (c + 1) w w'
    go_enter Try.func24, Try.ntmps24
    go_wp2_with (first
      | (go_at_call 11; (with_reducible refine (load_any p _ H.out h0 h1).mono ?_); rintro r w1 ⟨rfl, hk⟩; have HK := Lib.hid (left_alloc (L := L) (c := c) _ hk); clear hk)
      | fail)
    go_ret
    exact ⟨rfl, HK.out⟩
  by_cases d1 : d = 1
  · subst d1
    show Calls Try.prog 24 #[ptr S, .agg #[.int .u8 1, .int .i64 p, .int .u64 o, .int .u64 v]] w fun e w' => e = .returned (.int .u64 0) ∧ Left S D (ptv L p v) (c + 1) w w'
    clear d0
    go_enter Try.func24, Try.ntmps24
    go_wp2_with (first
      | (go_at_call 13; (with_reducible refine (put_any p v _ H.out h0 h1).mono ?_); rintro r w1 ⟨rfl, hk⟩; have HK := Lib.hid (left_alloc (L := L) (c := c) _ hk); clear hk)
      | fail)
    go_ret
    exact ⟨rfl, HK.out⟩
  by_cases d2 : d = 2
  · subst d2
    show Calls Try.prog 24 #[ptr S, .agg #[.int .u8 2, .int .i64 p, .int .u64 o, .int .u64 v]] w fun e w' => e = .returned (.int .u64 (if swB L p o = true then 1 else 0)) ∧ Left S D (swv L p o v) (c + 1) w w'
    clear d0 d1
    obtain ⟨b, hb⟩ : ∃ b, b = swB L p o := ⟨_, rfl⟩
    rw [← hb]
    have HB := Lib.hid hb; clear hb
    cases b
    · go_enter Try.func24, Try.ntmps24
      go_wp2_with (first
        | (go_at_call 16; (with_reducible refine (swap_any p o v _ H.out h0 h1).mono ?_); rintro r w1 ⟨rfl, hk⟩; rw [← HB.out]; have HK := Lib.hid (left_alloc (L := L) (c := c) _ hk); clear hk)
        | fail)
      go_ret
      exact ⟨rfl, HK.out⟩
    · go_enter Try.func24, Try.ntmps24
      go_wp2_with (first
        | (go_at_call 16; (with_reducible refine (swap_any p o v _ H.out h0 h1).mono ?_); rintro r w1 ⟨rfl, hk⟩; rw [← HB.out]; have HK := Lib.hid (left_alloc (L := L) (c := c) _ hk); clear hk)
        | fail)
      go_ret
      exact ⟨rfl, HK.out⟩
  have e1 : dov L ⟨d, p, o, v⟩ = ldv L p := by simp only [dov]; rw [if_neg d0, if_neg d1, if_neg d2]
  have e2 : doL L ⟨d, p, o, v⟩ = adv L p v := by simp only [doL]; rw [if_neg d0, if_neg d1, if_neg d2]
  rw [e1, e2]
  have t0 : (d == 0) = false := by simpa using d0
  have t1 : (d == 1) = false := by simpa using d1
  have t2 : (d == 2) = false := by simpa using d2
  clear e1 e2 d0 d1 d2
  go_enter Try.func24, Try.ntmps24
  go_wp2_with (first
    | (go_at_call 18; (with_reducible refine (add_any p v _ H.out h0 h1).mono ?_); rintro r w1 ⟨rfl, hk⟩; have HK := Lib.hid (left_alloc (L := L) (c := c) _ hk); clear hk)
    | fail)
  go_ret
  exact ⟨rfl, HK.out⟩
end Go.Proofs.Ytenjjlopofkkgaa

/- The document's own places and walk. -/
import Derived.Test.YtgnnhjadmepipaaArgs
import Derived.Test.YtgnnhjadmepipaaSameI
namespace Go.Proofs.Ytgnnhjadmepipaa
open Go.RowKit
set_option linter.unusedVariables false
set_option linter.unusedSimpArgs false

abbrev kval (h : Int) (A : Option Addr) (n cap : Nat) : Value := .agg #[.int .i64 h, .slice A n cap]

set_option maxHeartbeats 1000000 in
theorem refAt_any (h : Int) (A : Option Addr) (n cap : Nat) (zs : List Int) (x : Int) (w : World) (hn : n = zs.length) (hR : Reads .i64 w A zs) (hl : n ≤ 1000000) (x0 : 0 ≤ x) (x1 : x ≤ 4294967295) :
    Calls Try.prog 38 #[kval h A n cap, .int .u32 x] w fun e w' => e = .returned (.int .i64 (atOf zs x)) ∧ Below w.heap.size w w' := by
  by_cases h1 : x < 1
  · have e : atOf zs x = -1 := by unfold atOf; rw [if_neg (by omega)]
    rw [e]
    have d1 : decide (x < 1) = true := by simpa using h1
    clear hR hl e hn
    go_enter Try.func38, Try.ntmps38
    go_wp2_with (fail)
    go_ret
    exact ⟨rfl, below_alloc0 (Below.refl _ _) _⟩
  · have d1 : decide (x < 1) = false := by simpa using h1
    by_cases h2 : (n : Int) < x
    · have e : atOf zs x = -1 := by unfold atOf; rw [if_neg (by omega)]
      rw [e]
      have d2 : decide (x > (n : Int)) = true := by simpa using h2
      clear hR hl e hn
      go_enter Try.func38, Try.ntmps38
      go_wp2_with (fail)
      go_ret
      exact ⟨rfl, below_alloc0 (Below.refl _ _) _⟩
    · have d2 : decide (x > (n : Int)) = false := by simpa using h2
      obtain ⟨i, hi⟩ : ∃ i : Nat, x - 1 = (i : Int) := ⟨(x - 1).toNat, by omega⟩
      have hi1 : i < n := by omega
      have e : atOf zs x = zs.getD i 0 := by unfold atOf; rw [if_pos (by omega), hi]; rfl
      rw [e]
      obtain ⟨b, off, rfl, hbl, hc2⟩ := hR (by omega)
      have c1 := hc2 i (by omega)
      have hi0 : (0 : Int) ≤ (i : Int) := by omega
      have hi2 : (i : Int) < (n : Int) := by omega
      obtain ⟨z, hzz⟩ : ∃ z, z = zs.getD i 0 := ⟨_, rfl⟩
      rw [← hzz] at c1 ⊢
      have c2 : (w.alloc (.cells #[.int .i64 h, .slice (some ⟨b, off, none⟩) n cap] 25)).cell? ⟨b, off + i, none⟩ = some (.int .i64 z) := ((below_alloc0 (Below.refl _ _) _).cell (p := ⟨b, off + i, none⟩) hbl).trans c1
      clear hR hc2 hl e hn hzz
      go_enter Try.func38, Try.ntmps38
      go_wp2_with (fail)
      go_ret
      exact ⟨rfl, below_alloc0 (Below.refl _ _) _⟩

def lenV : Value → Nat
  | .slice _ n _ => n
  | _ => 0
/-- Two cells of a box. -/
theorem box_kv {w : World} {h : Int} {A : Option Addr} {n cap : Nat} {w' : World} (hb : Below (w.heap.size + 1) (w.alloc (.cells #[.int .i64 h, .slice A n cap] 25)) w') :
    w'.cell? ⟨w.heap.size, 0, none⟩ = some (.int .i64 h) ∧ w'.cell? ⟨w.heap.size, 1, none⟩ = some (.slice A n cap) := by
  constructor
  · rw [hb.cell (p := ⟨w.heap.size, 0, none⟩) (by simp), World.cell?_alloc_at _ _ _ _ rfl]; rfl
  · rw [hb.cell (p := ⟨w.heap.size, 1, none⟩) (by simp), World.cell?_alloc_at _ _ _ _ rfl]; rfl

set_option maxHeartbeats 8000000 in
theorem refWalk_any (B : Option Addr) (m capB : Nat) (L : List Int) (h : Int) (A : Option Addr) (n cap : Nat) (zs : List Int) (most : Int) (w : World) (hm : m = L.length) (hL : Reads .u64 w B L) (ww : WW L) (hn : n = zs.length) (hR : Reads .i64 w A zs) (hl : n ≤ 1000000) (hmo : most ≤ 1000) :
    Calls Try.prog 27 #[.slice B m capB, kval h A n cap, .int .i64 most] w fun e w' => ∃ v, e = .returned v ∧ OwnI .i64 3 (w.heap.size + 1) (w.alloc (.cells #[.int .i64 h, .slice A n cap] 25)) w' v (walkQ L ⟨h, zs⟩ most.toNat h) := by
  obtain ⟨W, hW⟩ : ∃ W, W = walkQ L ⟨h, zs⟩ most.toNat h := ⟨_, rfl⟩
  obtain ⟨w1, hw1⟩ : ∃ w1, w1 = w.alloc (.cells #[.int .i64 h, .slice A n cap] 25) := ⟨_, rfl⟩
  rw [← hW, ← hw1]
  have hb0 : w1.heap.size = w.heap.size + 1 := by rw [hw1]; simp
  have HW1 := Lib.hid hw1
  have HM := Lib.hid hm; have HN := Lib.hid hn; have HW := Lib.hid hW; have WW' := Lib.hid ww
  have HBel : Hid (Below w.heap.size w w1) := Lib.hid (by rw [hw1]; exact below_alloc0 (Below.refl _ _) _)
  have HL := Lib.hid hL; have HR := Lib.hid hR
  have hkc := fun (w' : World) (hb : Below (w.heap.size + 1) w1 w') => box_kv (h := h) (A := A) (n := n) (cap := cap) (by rw [← hw1]; exact hb)
  have HKC := Lib.hid hkc
  have hB0 : w.heap.size + 1 ≤ w1.heap.size := by omega
  have HB0 := Lib.hid hB0
  obtain ⟨k0, k1⟩ := hkc w1 (Below.refl _ _)
  clear hm hn hW ww hL hR hkc hB0 hb0
  go_enter Try.func27, Try.ntmps27
  go_wp2
  rw [← hw1]
  clear hw1
  go_loopw [7, 8] (fun v p wr => ∃ (Q0 : List Int) (f : Nat) (a : Int), p = .int .i64 a ∧ OwnI .i64 3 (w.heap.size + 1) w1 wr v Q0 ∧ Q0.length + f = most.toNat ∧ Q0 ++ walkQ L ⟨h, zs⟩ f a = W) (fun v _ _ => most.toNat - lenV v)
  case atStart => exact ⟨[], most.toNat, h, rfl, OwnI.nil (Below.refl _ _), by simp, by rw [HW.out]; rfl⟩
  case round =>
    obtain ⟨Q0, f, a, rfl, hO, hf, hres⟩ := hrel
    obtain ⟨A', c', rfl, _⟩ := hO.reads
    obtain ⟨C, hC⟩ : ∃ C, C = Q0.length := ⟨_, rfl⟩
    rw [← hC] at hf
    have hv : ∀ c'', Value.slice A' Q0.length c'' = Value.slice A' C c'' := fun _ => by rw [hC]
    rw [hv] at hO ⊢
    clear hv
    have HC := Lib.hid hC
    obtain ⟨z0, z1⟩ := HKC.out wr hO.bel
    obtain ⟨x, hx⟩ : ∃ x, x = low (ldq L a) := ⟨_, rfl⟩
    have HX := Lib.hid hx
    have ho : f = 0 ∨ x = 0 → OwnI .i64 3 (w.heap.size + 1) w1 wr (.slice A' C c') W := by
      intro h0
      have e : walkQ L ⟨h, zs⟩ f a = [] := by
        rw [walk_wlk, ← hx]
        cases f with
        | zero => rfl
        | succ f => rcases h0 with h0 | h0
                    · omega
                    · rw [h0]; unfold wlk; simp
      rw [← hres, e, List.append_nil]; exact hO
    by_cases hf0 : f = 0
    · have HE := Lib.hid (ho (.inl hf0))
      have d1 : decide ((C : Int) < most) = false := by simp; omega
      clear hO hres hC hx ho
      go_wp2_with (fail)
      go_ret
      exact ⟨_, rfl, HE.out⟩
    have d1 : decide ((C : Int) < most) = true := by simp; omega
    by_cases ha0 : a < 0
    · have HE := Lib.hid (ho (.inr (by rw [hx]; unfold ldq; rw [if_neg (by omega)]; rfl)))
      have d2 : decide (a ≥ 0) = false := by simp; omega
      clear hO hres hC hx ho
      go_wp2_with (fail)
      go_ret
      exact ⟨_, rfl, HE.out⟩
    have d2 : decide (a ≥ 0) = true := by simp; omega
    by_cases ha1 : (m : Int) ≤ a
    · have HE := Lib.hid (ho (.inr (by have := HM.out; rw [hx]; unfold ldq; rw [if_neg (by omega)]; rfl)))
      have d3 : decide (a < (m : Int)) = false := by simp; omega
      clear hO hres hC hx ho
      go_wp2_with (fail)
      go_ret
      exact ⟨_, rfl, HE.out⟩
    have d3 : decide (a < (m : Int)) = true := by simp; omega
    obtain ⟨i, rfl⟩ : ∃ i : Nat, a = (i : Int) := ⟨a.toNat, by omega⟩
    obtain ⟨g, hg⟩ : ∃ g, g = ldq L (i : Int) := ⟨_, rfl⟩
    have hgr := WW'.out.ldq (i : Int)
    rw [← hg] at hgr
    obtain ⟨g0, g1⟩ := hgr
    have hxg : x = g % 4294967296 := by rw [hx, ← hg]; rfl
    have HXG := Lib.hid hxg
    obtain ⟨b, off, rfl, hbl, hcL⟩ := HL.out (by have := HM.out; omega)
    have hgL : L.getD i 0 = g := by rw [hg]; unfold ldq; rw [if_pos (by have := HM.out; omega)]; simp
    have cg := hcL i (by have := HM.out; omega)
    rw [hgL] at cg
    have hw1 := HBel.out
    have hwr : Below w.heap.size w wr := hw1.trans (hO.bel.mono (Nat.le_succ _))
    have cw := (hwr.cell (p := ⟨b, off + i, none⟩) hbl).trans cg
    have hi0 : (0 : Int) ≤ (i : Int) := by omega
    have hi1 : (i : Int) < (m : Int) := by omega
    have x0 : 0 ≤ x := by omega
    have x1 : x ≤ 4294967295 := by omega
    by_cases hz : x = 0
    · have HE := Lib.hid (ho (.inr hz))
      have d4 : decide (x > 0) = false := by simp; omega
      clear hO hres hC hx ho hg hxg hgL hcL cg hw1 hwr
      subst hz
      go_wp2_with (first
        | (go_at_call 37; (with_reducible refine (refLow_any _ g0 g1 _).mono ?_); rintro r w5 ⟨rfl, hw⟩; cases hw; rw [← HXG.out])
        | fail)
      go_ret
      exact ⟨_, rfl, HE.out⟩
    have d4 : decide (x > 0) = true := by simp; omega
    have hq : Q0.length ≤ 100000 := by omega
    have HO := Lib.hid hO; have HQ := Lib.hid hq; have HRS := Lib.hid hres; have HZ := Lib.hid hz; have HF := Lib.hid hf
    have HWR := Lib.hid hwr
    have HF0 := Lib.hid hf0
    have HBl := Lib.hid hbl; have CG := Lib.hid cg
    clear hO hq hres hC hx ho hg hxg hgL hcL cg hw1 hwr hf hf0
    go_wp2_with (first
      | (go_at_call 37; (with_reducible refine (refLow_any _ g0 g1 _).mono ?_); rintro r w5 ⟨rfl, hw⟩; cases hw; rw [← HXG.out])
      | (at_builtin; refine append_int rfl _ _ 23 3 rfl Try.underlying23 info3 _ _ _ _ rfl HO.out rfl ?_ ?_ ?_; (exact HQ.out); (exact HB0.out); intro v' w5 HO5; obtain ⟨A2, c2, hv', _⟩ := HO5.reads; rw [List.length_append, ← HC.out] at hv'; subst hv'; have HP := Lib.hid HO5; clear HO5)
      | fail)
    have hall : ∀ w', Below (w.heap.size + 1) w1 w' → (w'.cell? ⟨w.heap.size, 0, none⟩ = some (.int .i64 h) ∧ w'.cell? ⟨w.heap.size, 1, none⟩ = some (.slice A n cap) ∧ w'.cell? ⟨b, off + i, none⟩ = some (.int .u64 g)) := fun w' hb => by
      obtain ⟨p0, p1⟩ := HKC.out w' hb
      have hb2 : Below w.heap.size w w' := HBel.out.trans (hb.mono (Nat.le_succ _))
      exact ⟨p0, p1, (hb2.cell (p := ⟨b, off + i, none⟩) hbl).trans CG.out⟩
    have HS := Lib.hid hall
    have HPD := Lib.hid (HP.out.step HB0.out (Below.refl _ _).drew)
    have HRD := Lib.hid (HR.out.below (HBel.out.trans (HPD.out.bel.mono (Nat.le_succ _))) (Nat.le_refl _))
    obtain ⟨y0, y1, y2⟩ := hall w5 HP.out.bel
    clear hall z0 z1 cw k0 k1
    go_region_held3 (fun w' => w'.cell? ⟨w.heap.size, 0, none⟩ = some (.int .i64 h) ∧ w'.cell? ⟨w.heap.size, 1, none⟩ = some (.slice A n cap) ∧ w'.cell? ⟨b, off + i, none⟩ = some (.int .u64 g))
      (first | with_reducible exact HS.out _ HP2.out.bel | with_reducible exact HS.out _ HPD.out.bel | go_keep)
      (first
        | (go_at_call 37; (with_reducible refine (refLow_any _ g0 g1 _).mono ?_); rintro r w6 ⟨rfl, hw⟩; cases hw; rw [← HXG.out])
        | (go_at_call 38; (with_reducible refine (refAt_any h A n cap zs x _ HN.out HRD.out hl x0 x1).mono ?_); rintro r w7 ⟨rfl, hb⟩; have HP2 := Lib.hid (HPD.out.step HB0.out hb); clear hb)
        | fail)
    go_roundw
    case rel =>
      iterate apply Exists.intro
      refine And.intro ?_ rfl
      obtain ⟨f', hf'⟩ : ∃ f', f = f' + 1 := ⟨f - 1, by have := HF0.out; omega⟩
      refine ⟨Q0 ++ [x], f', _, rfl, HP2.out, ?_, ?_⟩
      · have := HF.out; have := HC.out; simp; omega
      · rw [← HRS.out, hf', walk_wlk, walk_wlk L ⟨h, zs⟩ (f' + 1), ← HX.out]
        conv => rhs; unfold wlk
        rw [if_neg HZ.out]; simp
    case measure =>
      have := HF.out; have := HF0.out
      show most.toNat - (C + 1) < most.toNat - C
      omega
end Go.Proofs.Ytgnnhjadmepipaa

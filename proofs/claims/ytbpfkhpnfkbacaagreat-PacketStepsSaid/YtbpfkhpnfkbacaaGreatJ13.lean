/- A stack's things in a list of words, walked. The document's own places and walk. The document's own machine, begun, and what it tells; walked. -/
import Derived.Test.YtbpfkhpnfkbacaaGreatJ12
import Derived.Test.YtbpfkhpnfkbacaaGreatJ7
import Derived.ScopeJumps
import Derived.WalkMore
import Derived.Test.YtbpfkhpnfkbacaaGreatRef
namespace Go.Proofs.YtbpfkhpnfkbacaaGreat
open Go.RowKit
set_option linter.unusedVariables false
set_option linter.unusedSimpArgs false

/-- From a thing on. -/
def wlk (L : List Int) (k : Sk) : Nat → Int → List Int
  | 0, _ => []
  | f + 1, x => if x = 0 then [] else x :: wlk L k f (low (ldq L (atOf k.links x)))
theorem low_ldq (L : List Int) (p : Int) : 0 < low (ldq L p) ↔ ((0 ≤ p ∧ p < L.length) ∧ 0 < low (L.getD p.toNat 0)) := by
  unfold ldq; split
  · rename_i h; exact ⟨fun h2 => ⟨h, h2⟩, fun h2 => h2.2⟩
  · rename_i h; exact ⟨fun h2 => by simp [low] at h2, fun h2 => absurd h2.1 h⟩
theorem walk_wlk (L : List Int) (k : Sk) : ∀ (f : Nat) (p : Int), walkQ L k f p = wlk L k f (low (ldq L p))
  | 0, p => rfl
  | f + 1, p => by
    have h := low_ldq L p
    have h0 := (low_rng (ldq L p)).1
    unfold walkQ wlk
    by_cases hc : (0 ≤ p ∧ p < L.length) ∧ 0 < low (L.getD p.toNat 0)
    · have e : ldq L p = L.getD p.toNat 0 := by unfold ldq; rw [if_pos hc.1]
      rw [if_pos hc, e, if_neg (by omega), walk_wlk L k f]
    · have h2 : low (ldq L p) = 0 := by
        have : ¬ 0 < low (ldq L p) := fun h3 => hc (h.1 h3)
        omega
      rw [if_neg hc, if_pos h2]

set_option maxHeartbeats 1000000 in
theorem told_any (A : Option Addr) (n cap : Nat) (L : List Int) (p : Int) (w : World) (hn : n = L.length) (h : Reads .u64 w A L) (ww : WW L) :
    Calls Tryz.prog 88 #[.slice A n cap, .int .i64 p] w fun e w' => e = .returned (.int .u32 (low (ldq L p))) ∧ Below w.heap.size w w' := by
  by_cases h1 : p < 0
  · have e : low (ldq L p) = 0 := by unfold ldq; rw [if_neg (by omega)]; rfl
    rw [e]
    have d1 : decide (p < 0) = true := by simpa using h1
    clear h e hn ww
    go_enter Tryz.func88, Tryz.ntmps88
    go_wp2_with (fail)
    go_ret
    exact ⟨rfl, Below.refl _ _⟩
  · have d1 : decide (p < 0) = false := by simpa using h1
    by_cases h2 : (n : Int) ≤ p
    · have e : low (ldq L p) = 0 := by unfold ldq; rw [if_neg (by omega)]; rfl
      rw [e]
      have d2 : decide (p ≥ (n : Int)) = true := by simpa using h2
      clear h e hn ww
      go_enter Tryz.func88, Tryz.ntmps88
      go_wp2_with (fail)
      go_ret
      exact ⟨rfl, Below.refl _ _⟩
    · have d2 : decide (p ≥ (n : Int)) = false := by simp; omega
      obtain ⟨i, rfl⟩ : ∃ i : Nat, p = (i : Int) := ⟨p.toNat, by omega⟩
      have hi : i < n := by omega
      obtain ⟨y, hy⟩ : ∃ y, y = ldq L (i : Int) := ⟨_, rfl⟩
      have hb := ww.ldq (i : Int)
      rw [← hy] at hb ⊢
      obtain ⟨y0, y1⟩ := hb
      obtain ⟨b, off, rfl, _, hc⟩ := h (by omega)
      have c1 := hc i (by omega)
      have e : L.getD i 0 = y := by rw [hy]; unfold ldq; rw [if_pos (by omega)]; simp
      rw [e] at c1
      have hi0 : (0 : Int) ≤ (i : Int) := by omega
      have hi1 : (i : Int) < (n : Int) := by omega
      clear h hc hn hy ww e
      go_enter Tryz.func88, Tryz.ntmps88
      go_wp2_with (first
        | (go_at_call 104; (with_reducible refine (low_any _ y0 y1 _).mono ?_); rintro r w2 ⟨rfl, hb⟩)
        | fail)
      go_ret
      exact ⟨rfl, hb⟩

theorem OwnI.bel {k : IntKind} {e : TypeId} {B : Nat} {w0 wr : World} {v : Value} {l : List Int} (h : OwnI k e B w0 wr v l) : Below B w0 wr := h.2
theorem wp_scope_once {P : Program} {a : Act} {w : World} {Q : Exit → Act → World → Prop} {c X : Code} (l : Nat) (J : Act → World → Prop) (μ : Act → World → Nat) (hf : findLabel c l = some (Code.skip.seq X))
    (pass : ∀ a w, J a w → ∀ JJ : Act → World → Prop, (∀ a' w', J a' w' → μ a' w' < μ a w → JJ a' w') → X.wp P (Exit.jump l JJ Q) a w)
    (first : ∀ JJ : Act → World → Prop, (∀ a w, J a w → X.wp P (Exit.jump l JJ Q) a w) → c.wp P (Exit.jump l JJ Q) a w) : (Code.scope c).wp P Q a w :=
  wp_scope_jumps l J μ hf (first J fun a w h => pass a w h J fun _ _ h _ => h) fun a w h => wp_seq (wp_skip (pass a w h _ fun _ _ h h2 => ⟨h, h2⟩))

set_option maxRecDepth 100000 in
set_option maxHeartbeats 4000000 in
theorem walk_any (A : Option Addr) (n cap Ab : Nat) (lv : Value) (L : List Int) (k : Sk) (most : Int) (w : World) (hn : n = L.length) (h : Reads .u64 w A L) (ww : WW L) (hl : Lk w lv Ab k.links) (hm : most ≤ 1000) :
    Calls Tryz.prog 60 #[.slice A n cap, .int .i64 k.head, lv, .int .i64 most] w fun e w' => ∃ v, e = .returned v ∧ OwnI .i64 3 w.heap.size w w' v (walkQ L k most.toNat k.head) := by
  by_cases h0 : most < 1
  · have e : walkQ L k most.toNat k.head = [] := by rw [show most.toNat = 0 by omega]; rfl
    rw [e]
    have d : decide (most < 1) = true := by simpa using h0
    clear h hl ww hn e
    go_enter Tryz.func60, Tryz.ntmps60
    go_wp2_with (fail)
    go_step3
    go_wp2_with (fail)
    rw [Exit.noGoto_ret]
    go_ret
    exact ⟨_, rfl, OwnI.nil (Below.refl _ _)⟩
  · have d : decide (most < 1) = false := by simpa using h0
    obtain ⟨W, hW⟩ : ∃ W, W = walkQ L k most.toNat k.head := ⟨_, rfl⟩
    rw [← hW]
    rw [walk_wlk] at hW
    have HR := Lib.hid h; have HL := Lib.hid hl; have HN := Lib.hid hn; have HW := Lib.hid ww; have HWW := Lib.hid hW
    have H0 := Lib.hid h0
    clear h hl hn ww hW h0
    go_enter Tryz.func60, Tryz.ntmps60
    go_wp2_with (fail)
    refine wp_scope_once 0 (fun a' wr => ∃ (v : Value) (Q0 : List Int) (x : Int) (f : Nat) (u8 u11 u12 u13 u14 u15 u16 u17 u18 u19 u20 u21 u22 u23 u24 u25 u26 u27 u28 u29 u30 u31 u32 u33 : Value), a' = { tmps := #[.slice A n cap, .int .i64 k.head, lv, .int .i64 most, undef, undef, undef, undef, u8, v, .int .u32 x, u11, u12, u13, u14, u15, u16, u17, u18, u19, u20, u21, u22, u23, u24, u25, u26, u27, u28, u29, u30, u31, u32, u33], defers := [] } ∧ OwnI .i64 3 w.heap.size w wr v Q0 ∧ (Q0.length : Int) + f + 1 = most ∧ 0 ≤ x ∧ x ≤ 4294967295 ∧ Q0 ++ wlk L k (f + 1) x = W) (fun a' _ => most.toNat - (match a'.tmps.getD 9 undef with | .slice _ n _ => n | _ => 0)) rfl ?_ ?_
    · rintro a' wr ⟨v, Q0, x, f, u8, u11, u12, u13, u14, u15, u16, u17, u18, u19, u20, u21, u22, u23, u24, u25, u26, u27, u28, u29, u30, u31, u32, u33, rfl, hO, hf, hx0, hx1, hres⟩ JJ hJJ
      have HJ := Lib.hid hJJ; clear hJJ
      obtain ⟨C, hC⟩ : ∃ C, C = Q0.length := ⟨_, rfl⟩
      rw [← hC] at hf
      have HC := Lib.hid hC
      by_cases hz : x = 0
      · subst hz
        have e : Q0 = W := by rw [← hres]; simp [wlk]
        rw [e] at hO
        have HO := Lib.hid hO
        clear hres hO hC e hx0 hx1
        go_wp2_with (fail)
        simp only [Exit.jump]
        go_ret
        exact ⟨_, rfl, HO.out⟩
      · have hz2 : (x == 0) = false := by simpa using hz
        have hq : Q0.length ≤ 100000 := by omega
        have HO := Lib.hid hO; have HQ := Lib.hid hq; have HRS := Lib.hid hres; have HX := Lib.hid hz
        have hvn : ∃ A c, v = .slice A C c := by obtain ⟨A, c, e, _⟩ := hO.reads; exact ⟨A, c, by rw [e, hC]⟩
        have HV := Lib.hid hvn
        have hf' : (C : Int) ≤ 1000 := by omega
        clear hO hq hres hC hvn hz
        by_cases hf0 : f = 0
        · subst hf0
          have hlt : decide ((C : Int) + 1 < most) = false := by simp; omega
          have hlt2 : ¬ (C : Int) + 1 < most := by omega
          go_wp2_with (first
            | (at_builtin; refine append_int rfl _ _ 46 3 rfl Tryz.underlying46 info3 _ _ _ _ rfl HO.out rfl ?_ ?_ ?_; (exact HQ.out); (exact Nat.le_refl _); intro v' w5 HO5; obtain ⟨A', c', hv', _⟩ := HO5.reads; rw [List.length_append, ← HC.out] at hv'; subst hv'; have HP := Lib.hid HO5; clear HO5)
            | fail)
          simp only [Exit.jump]
          go_ret
          refine ⟨_, rfl, ?_⟩
          have hE : Q0 ++ [x] = W := by rw [← HRS.out]; unfold wlk; rw [if_neg HX.out]; rfl
          rw [← hE]; exact HP.out
        · obtain ⟨g, rfl⟩ : ∃ g, f = g + 1 := ⟨f - 1, by omega⟩
          have hlt : decide ((C : Int) + 1 < most) = true := by simp; omega
          have hlt2 : (C : Int) + 1 < most := by omega
          have HH := Lib.hid hf
          clear hf
          go_wp2_with (first
            | (at_builtin; refine append_int rfl _ _ 46 3 rfl Tryz.underlying46 info3 _ _ _ _ rfl HO.out rfl ?_ ?_ ?_; (exact HQ.out); (exact Nat.le_refl _); intro v' w5 HO5; obtain ⟨A', c', hv', _⟩ := HO5.reads; rw [List.length_append, ← HC.out] at hv'; subst hv'; have HP := Lib.hid HO5; clear HO5)
            | (go_at_call 89; (with_reducible refine (place_any _ _ (HL.out.below HP.out.bel) hx0 hx1).mono ?_); rintro r w6 ⟨rfl, hb⟩; have HP2 := Lib.hid (HP.out.step (Nat.le_refl _) hb); clear hb)
            | (go_at_call 88; (with_reducible refine (told_any A n cap L _ _ HN.out (HR.out.below HP2.out.bel (Nat.le_refl _)) HW.out).mono ?_); rintro r w7 ⟨rfl, hb⟩; have HP3 := Lib.hid (HP2.out.step (Nat.le_refl _) hb); clear hb)
            | fail)
          go_step3
          have hlr := low_rng (ldq L (atOf k.links x))
          refine ⟨rfl, HJ.out _ _ ⟨_, Q0 ++ [x], _, g, _, _, _, _, _, _, _, _, _, _, _, _, _, _, _, _, _, _, _, _, _, _, _, _, rfl, HP3.out, ?_, hlr.1, hlr.2, ?_⟩ ?_⟩
          · have := HH.out; have := HC.out; simp; omega
          · rw [← HRS.out]
            conv => rhs; unfold wlk
            rw [if_neg HX.out]; simp
          · obtain ⟨A2, c2, hv⟩ := HV.out
            subst hv
            have := HH.out
            show most.toNat - (C + 1) < most.toNat - C
            omega
    · intro JJ hrest
      go_wp2_with (first
        | (go_at_call 88; (with_reducible refine (told_any A n cap L k.head _ HN.out HR.out HW.out).mono ?_); rintro r w1 ⟨rfl, hb⟩)
        | fail)
      have hlr := low_rng (ldq L k.head)
      go_step3
      apply_assumption
      refine hrest _ _ ⟨_, [], _, most.toNat - 1, _, _, _, _, _, _, _, _, _, _, _, _, _, _, _, _, _, _, _, _, _, _, _, _, rfl, OwnI.nil hb, ?_, hlr.1, hlr.2, ?_⟩
      · have := H0.out; simp; omega
      · have := H0.out; rw [HWW.out, show most.toNat - 1 + 1 = most.toNat by omega]; rfl
end Go.Proofs.YtbpfkhpnfkbacaaGreat

namespace Go.Proofs.YtbpfkhpnfkbacaaGreat
open Go.RowKit
set_option linter.unusedVariables false
set_option linter.unusedSimpArgs false

abbrev kval (h : Int) (A : Option Addr) (n cap : Nat) : Value := .agg #[.int .i64 h, .slice A n cap]

set_option maxHeartbeats 1000000 in
theorem refAt_any (h : Int) (A : Option Addr) (n cap : Nat) (zs : List Int) (x : Int) (w : World) (hn : n = zs.length) (hR : Reads .i64 w A zs) (hl : n ≤ 1000000) (x0 : 0 ≤ x) (x1 : x ≤ 4294967295) :
    Calls Tryz.prog 83 #[kval h A n cap, .int .u32 x] w fun e w' => e = .returned (.int .i64 (atOf zs x)) ∧ Below w.heap.size w w' := by
  by_cases h1 : x < 1
  · have e : atOf zs x = -1 := by unfold atOf; rw [if_neg (by omega)]
    rw [e]
    have d1 : decide (x < 1) = true := by simpa using h1
    clear hR hl e hn
    go_enter Tryz.func83, Tryz.ntmps83
    go_wp2_with (fail)
    go_ret
    exact ⟨rfl, below_alloc0 (Below.refl _ _) _⟩
  · have d1 : decide (x < 1) = false := by simpa using h1
    by_cases h2 : (n : Int) < x
    · have e : atOf zs x = -1 := by unfold atOf; rw [if_neg (by omega)]
      rw [e]
      have d2 : decide (x > (n : Int)) = true := by simpa using h2
      clear hR hl e hn
      go_enter Tryz.func83, Tryz.ntmps83
      go_wp2_with (fail)
      go_ret
      exact ⟨rfl, below_alloc0 (Below.refl _ _) _⟩
    · have d2 : decide (x > (n : Int)) = false := by simpa using h2
      obtain ⟨i, hi⟩ : ∃ i : Nat, x - 1 = (i : Int) := ⟨(x - 1).toNat, by omega⟩
      have hi1 : i < n := by omega
      have e : atOf zs x = zs.getD i 0 := by unfold atOf; rw [if_pos (by omega), hi]; rfl
      rw [e]
      obtain ⟨b, off, rfl, hbl, hc2⟩ := hR (by omega)
      have c1 := hc2 i (by omega)
      have hi0 : (0 : Int) ≤ (i : Int) := by omega
      have hi2 : (i : Int) < (n : Int) := by omega
      obtain ⟨z, hzz⟩ : ∃ z, z = zs.getD i 0 := ⟨_, rfl⟩
      rw [← hzz] at c1 ⊢
      have c2 : (w.alloc (.cells #[.int .i64 h, .slice (some ⟨b, off, none⟩) n cap] 48)).cell? ⟨b, off + i, none⟩ = some (.int .i64 z) := ((below_alloc0 (Below.refl _ _) _).cell (p := ⟨b, off + i, none⟩) hbl).trans c1
      clear hR hc2 hl e hn hzz
      go_enter Tryz.func83, Tryz.ntmps83
      go_wp2_with (fail)
      go_ret
      exact ⟨rfl, below_alloc0 (Below.refl _ _) _⟩

def lenV : Value → Nat
  | .slice _ n _ => n
  | _ => 0
/-- Two cells of a box. -/
theorem box_kv {w : World} {h : Int} {A : Option Addr} {n cap : Nat} {w' : World} (hb : Below (w.heap.size + 1) (w.alloc (.cells #[.int .i64 h, .slice A n cap] 48)) w') :
    w'.cell? ⟨w.heap.size, 0, none⟩ = some (.int .i64 h) ∧ w'.cell? ⟨w.heap.size, 1, none⟩ = some (.slice A n cap) := by
  constructor
  · rw [hb.cell (p := ⟨w.heap.size, 0, none⟩) (by simp), World.cell?_alloc_at _ _ _ _ rfl]; rfl
  · rw [hb.cell (p := ⟨w.heap.size, 1, none⟩) (by simp), World.cell?_alloc_at _ _ _ _ rfl]; rfl

end Go.Proofs.YtbpfkhpnfkbacaaGreat

namespace Go.Proofs.YtbpfkhpnfkbacaaGreat
open Go.RowKit
set_option linter.unusedVariables false
set_option linter.unusedSimpArgs false

/-- The document's own machine, as a value: its links are a slice. -/
abbrev mV (kd pc hd : Int) (A : Option Addr) (n cap : Nat) (it h li tr : Int) : Value := .agg #[.int .i64 kd, .int .i64 pc, .int .i64 hd, .slice A n cap, .int .u32 it, .int .u64 h, .int .u32 li, .int .i64 tr]
/-- It stands for one over words. -/
abbrev smV (m : Sm) (A : Option Addr) (n cap : Nat) : Value := mV m.kind m.pc m.k.head A n cap m.item m.h m.link m.tries

set_option maxHeartbeats 2000000 in
theorem rpush_any (hd : Int) (A : Option Addr) (n cap : Nat) (x : Int) (w : World) (hx : -9223372036854775808 ≤ x ∧ x ≤ 9223372036854775807) : Calls Tryz.prog 56 #[kval hd A n cap, .int .i64 x] w fun a w' => a = .returned (mV 1 1 hd A n cap (itemOf x) 0 0 0) ∧ Below w.heap.size w w' := by
  by_cases h1 : x < 0
  · have e : itemOf x = 0 := by unfold itemOf; rw [if_pos (.inl (by omega))]
    have d1 : decide (x < 0) = true := by simpa using h1
    rw [e]; clear e
    go_enter Tryz.func56, Tryz.ntmps56
    go_wp2_with (fail)
    exact bodyPost_ret (v := mV 1 1 hd A n cap 0 0 0 0) (by simp [results, Tryz.results56, go_sem]) rfl ⟨rfl, below_alloc0 (below_alloc0 (Below.refl _ _) _) _⟩
  have d1 : decide (x < 0) = false := by simpa using h1
  by_cases h2 : x > 4294967295
  · have e : itemOf x = 0 := by unfold itemOf; rw [if_pos (.inr (by omega))]
    have d2 : decide (x > 4294967295) = true := by simpa using h2
    rw [e]; clear e
    go_enter Tryz.func56, Tryz.ntmps56
    go_wp2_with (fail)
    exact bodyPost_ret (v := mV 1 1 hd A n cap 0 0 0 0) (by simp [results, Tryz.results56, go_sem]) rfl ⟨rfl, below_alloc0 (below_alloc0 (Below.refl _ _) _) _⟩
  have d2 : decide (x > 4294967295) = false := by simpa using h2
  have e : itemOf x = x := by unfold itemOf; split <;> omega
  rw [e]; clear e
  go_enter Tryz.func56, Tryz.ntmps56
  go_wp2_with (fail)
  exact bodyPost_ret (v := mV 1 1 hd A n cap x 0 0 0) (by simp [results, Tryz.results56, go_sem]) rfl ⟨rfl, below_alloc0 (below_alloc0 (Below.refl _ _) _) _⟩
set_option maxHeartbeats 2000000 in
theorem rpop_any (hd : Int) (A : Option Addr) (n cap : Nat) (w : World) : Calls Tryz.prog 50 #[kval hd A n cap] w fun a w' => a = .returned (mV 2 1 hd A n cap 0 0 0 0) ∧ Below w.heap.size w w' := by
  go_enter Tryz.func50, Tryz.ntmps50
  go_wp2_with (fail)
  exact bodyPost_ret (v := mV 2 1 hd A n cap 0 0 0 0) (by simp [results, Tryz.results50, go_sem]) rfl ⟨rfl, below_alloc0 (below_alloc0 (Below.refl _ _) _) _⟩
set_option maxHeartbeats 2000000 in
theorem rstep0_any (R : Option Addr) (n' capR : Nat) (kd hd : Int) (A : Option Addr) (n cap : Nat) (it h li tr : Int) (w : World) :
    Calls Tryz.prog 57 #[.slice R n' capR, mV kd 0 hd A n cap it h li tr] w fun a w' => a = .returned (.tuple #[.slice R n' capR, mV kd 0 hd A n cap it h li tr]) ∧ Below w.heap.size w w' := by
  go_enter Tryz.func57, Tryz.ntmps57
  go_wp2_with (fail)
  go_region_with (fail)
  go_wp2
  exact bodyPost_ret (v := .tuple #[.slice R n' capR, mV kd 0 hd A n cap it h li tr]) (by simp [results, Tryz.results57, go_sem]) rfl ⟨rfl, (below_alloc0 (below_alloc0 (Below.refl _ _) _) _).drew⟩

/-- Two blocks that have just been made. -/
theorem below_two (w : World) (o o' : Obj) : Below w.heap.size w ((w.alloc o).alloc o') := below_alloc0 (below_alloc0 (Below.refl _ _) _) _

set_option maxHeartbeats 4000000 in
theorem rstep1_push (R : Option Addr) (n' capR : Nat) (L : List Int) (hd : Int) (A : Option Addr) (n cap : Nat) (it h li tr : Int) (w : World) (hn : n' = L.length) (hR : Reads .u64 w R L) (ww : WW L) (t0 : 0 ≤ tr) (t1 : tr ≤ 1000000000) :
    Calls Tryz.prog 57 #[.slice R n' capR, mV 1 1 hd A n cap it h li tr] w fun a w' => a = .returned (.tuple #[.slice R n' capR, mV 1 2 hd A n cap it (ldq L hd) (low (ldq L hd)) (tr + 1)]) ∧ Below w.heap.size w w' := by
  obtain ⟨g, hg⟩ : ∃ g, g = ldq L hd := ⟨_, rfl⟩
  have hgr := ww.ldq hd
  rw [← hg] at hgr
  obtain ⟨g0, g1⟩ := hgr
  have hg2 : g = ldv L hd := by rw [hg, ldv_eq]
  rw [← hg]
  obtain ⟨x, hx⟩ : ∃ x, x = low g := ⟨_, rfl⟩
  rw [← hx]
  have hx2 : x = g % 4294967296 := hx
  have HG := Lib.hid hg2; have HX := Lib.hid hx2; have HN := Lib.hid hn; have HR := Lib.hid hR
  clear hg hx hg2 hx2 hn hR ww
  go_enter Tryz.func57, Tryz.ntmps57
  go_wp2_with (first
    | (go_at_call 81; (with_reducible refine (rload_any R n' capR L hd _ HN.out (HR.out.below (below_two _ _ _) (Nat.le_refl _))).mono ?_); rintro r w1 ⟨rfl, hw⟩; cases hw; rw [← HG.out])
    | (go_at_call 82; (with_reducible refine (refLow_any g g0 g1 _).mono ?_); rintro r w1 ⟨rfl, hw⟩; cases hw; rw [← HX.out])
    | fail)
  go_region
  go_wp2
  exact bodyPost_ret (v := .tuple #[.slice R n' capR, mV 1 2 hd A n cap it g x (tr + 1)]) (by simp [results, Tryz.results57, go_sem]) rfl ⟨rfl, (below_two _ _ _).drew⟩
end Go.Proofs.YtbpfkhpnfkbacaaGreat

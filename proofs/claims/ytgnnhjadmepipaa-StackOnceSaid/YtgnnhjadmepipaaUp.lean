/- The document's example, walked. -/
import Derived.Test.YtgnnhjadmepipaaWalk
namespace Go.Proofs.Ytgnnhjadmepipaa
open Go.RowKit
set_option linter.unusedVariables false
set_option linter.unusedSimpArgs false

/-! Stacks whose head is word 0, and whose links are the words behind it. -/
theorem pushS {Bx : Nat} (n : Nat) (x : Int) (w : World) (hx : -9223372036854775808 ≤ x ∧ x ≤ 9223372036854775807) : Calls Try.prog 12 #[.int .i64 0, lkV Bx, .int .i64 x] w (NewM w Bx (mPush (sk n) x)) := push_any (sk n) x w hx
theorem popS {Bx : Nat} (n : Nat) (w : World) : Calls Try.prog 10 #[.int .i64 0, lkV Bx] w (NewM w Bx (mPop (sk n))) := pop_any (sk n) w
theorem walkS (A : Option Addr) (n cap Bx Ab m : Nat) (L : List Int) (most : Int) (w : World) (hn : n = L.length) (h : Reads .u64 w A L) (ww : WW L) (hl : Lk w Bx Ab (upto m)) (hm : most ≤ 1000) :
    Calls Try.prog 26 #[.slice A n cap, .int .i64 0, lkV Bx, .int .i64 most] w fun e w' => ∃ v, e = .returned v ∧ OwnI .i64 3 w.heap.size w w' v (walkQ L (sk m) most.toNat 0) :=
  walk_any A n cap Bx Ab L (sk m) most w hn h ww hl hm
theorem rowS (n : Nat) (x : Int) (w : World) (hx : x = (n : Int)) (hn : n ≤ 1000) : Calls Try.prog 28 #[.int .i64 x] w fun e w' => ∃ v, e = .returned v ∧ OwnI .i64 3 w.heap.size w w' v (upto n) := by
  subst hx; exact row_any n w hn
theorem upto_blk {w w' : World} {v : Value} {n : Nat} (h : OwnI .i64 3 w.heap.size w w' v (upto n)) (hn : n ≤ 1000) : ∃ A cap, v = .slice A n cap ∧ n = (upto n).length ∧ w.heap.size ≤ w'.heap.size ∧ Below w.heap.size w w' ∧
    (0 < (upto n).length → ∃ b off, A = some ⟨b, off, none⟩ ∧ w.heap.size ≤ b ∧ b < w'.heap.size ∧ ∀ j, j < (upto n).length → w'.cell? ⟨b, off + j, none⟩ = some (.int .i64 ((upto n).getD j 0))) := by
  obtain ⟨A, cap, hv, hb⟩ := h.blk
  rw [upto_len] at hv
  exact ⟨A, cap, hv, (upto_len n).symm, h.2.size, h.2, hb⟩
/-- The document's links, of a new row. -/
theorem linksS {w w1 : World} {A : Option Addr} {cap n : Nat} (hn : n ≤ 1000) (hl : n = (upto n).length) (hs : w.heap.size ≤ w1.heap.size)
    (h : 0 < (upto n).length → ∃ b off, A = some ⟨b, off, none⟩ ∧ w.heap.size ≤ b ∧ b < w1.heap.size ∧ ∀ j, j < (upto n).length → w1.cell? ⟨b, off + j, none⟩ = some (.int .i64 ((upto n).getD j 0))) :
    Calls Try.prog 9 #[.slice A n cap] w1 (NewLk w1 w.heap.size (upto n)) :=
  links_any A n cap w.heap.size (upto n) w1 hl (by omega) hs h

theorem reads_lit4 (w : World) (x y z u : Int) : Reads .u64 (w.alloc (.cells #[.int .u64 x, .int .u64 y, .int .u64 z, .int .u64 u] 34)) (some ⟨w.heap.size, 0, none⟩) [x, y, z, u] := fun _ =>
  ⟨w.heap.size, 0, rfl, by simp, fun j hj => by
    rw [Nat.zero_add, World.cell?_alloc_at _ _ _ _ rfl]
    match j, hj with
    | 0, _ => rfl
    | 1, _ => rfl
    | 2, _ => rfl
    | 3, _ => rfl⟩
theorem ww_lit (L : List Int) (h : L.all (fun x => decide (0 ≤ x ∧ x ≤ 18446744073709551615)) = true) : WW L := fun x hx => by
  have := List.all_eq_true.1 h x hx
  simpa using this

/-- A machine that goes on, of these words. -/
structure Go1 (B S D Bx Ab M n : Nat) (w0 w : World) (L : List Int) (m : Sm) (k : Int) : Prop where
  ok : Ok B S D Bx Ab w0 w (upto n) L k
  mm : MM w M Bx m
  ap : Ap B S D Bx Ab M
  wm : Wm k m
  lk : m.k.links = upto n
section
variable {B S D Bx Ab M K n : Nat} {w0 w w' : World} {L : List Int} {m j : Sm} {k : Int}
theorem Go1.of_new (h : Ok B S D Bx Ab w0 w (upto n) L k) (hM : w.heap.size ≤ M) (hm : MM w' M Bx m) (hb : Below w.heap.size w w') (h0 : 0 ≤ k) (wm : Wm 0 m) (lk : m.k.links = upto n) : Go1 B S D Bx Ab M n w0 w' L m k :=
  ⟨h.step hb, hm, h.new hM, wm.mono h0, lk⟩
theorem go1_u (h : Go1 B S D Bx Ab M n w0 w L m k) (hk : k ≤ 900000000) (L' : List Int) (m' : Sm) (he : sstp L m = (L', m')) (b : Bool) (hb : decide (m'.pc = 0) = b) :
    Calls Try.prog 16 #[ptr M, ptr S] w fun a w' => a = .returned (.bool b) ∧ Go1 B S D Bx Ab M n w0 w' L' m' (k + 1) ∧ U3 M S D w w' := by
  refine (step_ok h.ok h.mm h.ap h.lk h.wm hk hk).mono ?_
  have hw := h.wm.step h.ok.ww
  have hk := sstp_k L m
  rw [he] at hw hk ⊢
  rintro a w1 ⟨rfl, h1, h2, h3⟩
  exact ⟨by rw [← hb], ⟨h1, h2, h.ap, hw, by rw [hk]; exact h.lk⟩, h3⟩
/-- What came of the ones that are finished. -/
structure Past (M Bx : Nat) (m : Sm) (S D K : Nat) (w : World) : Prop where
  mm : MM w M Bx m
  s : M ≠ S
  d : M ≠ D
  k : M ≠ K
  wm : ∃ t, Wm t m
theorem Past.u (h : Past M Bx m S D K w) (u : U3 K S D w w') : Past M Bx m S D K w' := ⟨h.mm.u3 u h.k h.s h.d, h.s, h.d, h.k, h.wm⟩
theorem Past.next {K' : Nat} (h : Past M Bx m S D K w) (hb : Below w.heap.size w w') (hK : w.heap.size ≤ K') : Past M Bx m S D K' w' := ⟨h.mm.below hb, h.s, h.d, by have := h.mm.lt; omega, h.wm⟩
theorem Go1.past (h : Go1 B S D Bx Ab M n w0 w L m k) (hb : Below w.heap.size w w') (hK : w.heap.size ≤ K) : Past M Bx m S D K w' := ⟨h.mm.below hb, h.ap.2.1, h.ap.2.2.1, by have := h.mm.lt; omega, _, h.wm⟩
theorem Past.item (h : Past M Bx m S D K w) {x : Int} (hx : sItem m = x) : Calls Try.prog 18 #[ptr M] w fun a w' => a = .returned (.int .i64 x) ∧ w = w' := by
  obtain ⟨t, wm⟩ := h.wm
  rw [← hx]; exact item_any w h.mm wm
end

set_option maxHeartbeats 8000000 in
theorem awake_any (w : World) : Calls Try.prog 8 #[] w fun a w' => a = .returned (.bool true) ∧ Below w.heap.size w w' := by
  have Pa0 := Lib.hid (show sstp [0, 0, 0, 0] ⟨1, 1, sk 3, 3, 0, 0, 0⟩ = ([0, 0, 0, 0], ⟨1, 2, sk 3, 3, 0, 0, 1⟩) from rfl)
  have Pa1 := Lib.hid (show sstp [0, 0, 0, 0] ⟨1, 2, sk 3, 3, 0, 0, 1⟩ = ([0, 0, 0, 0], ⟨1, 3, sk 3, 3, 0, 0, 1⟩) from rfl)
  have Pa2 := Lib.hid (show sstp [0, 0, 0, 0] ⟨1, 3, sk 3, 3, 0, 0, 1⟩ = ([4294967299, 0, 0, 0], ⟨1, 0, sk 3, 3, 0, 0, 1⟩) from rfl)
  have Pb0 := Lib.hid (show sstp [4294967299, 0, 0, 0] ⟨2, 1, sk 3, 0, 0, 0, 0⟩ = ([4294967299, 0, 0, 0], ⟨2, 2, sk 3, 3, 4294967299, 0, 1⟩) from rfl)
  have Pb1 := Lib.hid (show sstp [4294967299, 0, 0, 0] ⟨2, 2, sk 3, 3, 4294967299, 0, 1⟩ = ([4294967299, 0, 0, 0], ⟨2, 3, sk 3, 3, 4294967299, 0, 1⟩) from rfl)
  have Pb2 := Lib.hid (show sstp [4294967299, 0, 0, 0] ⟨2, 3, sk 3, 3, 4294967299, 0, 1⟩ = ([8589934592, 0, 0, 0], ⟨2, 0, sk 3, 3, 4294967299, 0, 1⟩) from rfl)
  have Pc0 := Lib.hid (show sstp [8589934592, 0, 0, 0] ⟨2, 1, sk 3, 0, 0, 0, 0⟩ = ([8589934592, 0, 0, 0], ⟨2, 0, sk 3, 0, 8589934592, 0, 1⟩) from rfl)
  have hr := reads_lit4 w 0 0 0 0
  have HR := Lib.hid hr
  have HB := Lib.hid (below_alloc0 (Below.refl _ w) (.cells #[.int .u64 0, .int .u64 0, .int .u64 0, .int .u64 0] 34))
  clear hr
  go_enter Try.func8, Try.ntmps8
  go_wp2_with (first
    | (go_at_call 14; (with_reducible refine (new_any _ 4 4 [0, 0, 0, 0] _ rfl HR.out (by decide)).mono ?_); intro a w1 hk; obtain ⟨S, D, rfl, hS, hD, hs, hb'⟩ := hk; have HOwn := Lib.hid (Own.of_new HB.out (Nat.le_refl _) hS hD hs hb'); clear hS hD hs hb')
    | (go_at_call 28; (with_reducible refine (rowS 3 3 _ (by decide) (by decide)).mono ?_); rintro a w2 ⟨v, rfl, hO⟩; obtain ⟨A, cap, rfl, hl, hsz, hb, hcells⟩ := upto_blk hO (by decide); have HO2 := Lib.hid (HOwn.out.step hb); have HL := Lib.hid hl; have HSZ := Lib.hid hsz; have HC := Lib.hid hcells; have hS1 := HOwn.out.st.ltS; have hD1 := HOwn.out.st.row.lt; clear hO hl hb hcells)
    | (go_at_call 9; (with_reducible refine (linksS (by decide) HL.out HSZ.out HC.out).mono ?_); intro a w3 hk; obtain ⟨Bx, Ab, rfl, hk2⟩ := Ok.start2 HO2.out (Int.le_refl 0) (v := .nilFunc) ⟨hS1, hD1⟩ (ww_lit _ rfl) HSZ.out hk; have HK := Lib.hid hk2; clear hk hk2)
    | (go_at_call 12; (with_reducible refine (pushS 3 3 _ (by decide)).mono ?_); intro a w4 hk; obtain ⟨M, rfl, hM, hm, hb⟩ := hk; have HA := Lib.hid (Go1.of_new (m := ⟨1, 1, sk 3, 3, 0, 0, 0⟩) HK.out hM hm hb (Int.le_refl _) (wm_push (sk 3) 3) rfl); clear hM hm hb)
    | fail)
  refine wp_loop_rounds 3 ?_
  iterate 3
    rw [rounds_succ]
    go_wp2_with (first
      | (go_at_call 16; (with_reducible refine (go1_u HA.out (by decide) [0, 0, 0, 0] ⟨1, 2, sk 3, 3, 0, 0, 1⟩ Pa0.out false rfl).mono ?_); rintro a w3 ⟨rfl, hg, hu⟩; have HA := Lib.hid hg; clear hg hu)
      | (go_at_call 16; (with_reducible refine (go1_u HA.out (by decide) [0, 0, 0, 0] ⟨1, 3, sk 3, 3, 0, 0, 1⟩ Pa1.out false rfl).mono ?_); rintro a w3 ⟨rfl, hg, hu⟩; have HA := Lib.hid hg; clear hg hu)
      | (go_at_call 16; (with_reducible refine (go1_u HA.out (by decide) [4294967299, 0, 0, 0] ⟨1, 0, sk 3, 3, 0, 0, 1⟩ Pa2.out true rfl).mono ?_); rintro a w3 ⟨rfl, hg, hu⟩; have HA := Lib.hid hg; clear hg hu)
      | (go_at_call 10; (with_reducible refine (popS 3 _).mono ?_); intro a w2 hk; obtain ⟨M2, rfl, hM, hm, hb⟩ := hk; have HB := Lib.hid (Go1.of_new (m := ⟨2, 1, sk 3, 0, 0, 0, 0⟩) HA.out.ok hM hm hb (by decide) (wm_pop (sk 3)) rfl); have HPA := Lib.hid (HA.out.past hb hM); clear hM hm hb)
      | fail)
  refine wp_loop_rounds 3 ?_
  iterate 3
    rw [rounds_succ]
    go_wp2_with (first
      | (go_at_call 16; (with_reducible refine (go1_u HB.out (by decide) [4294967299, 0, 0, 0] ⟨2, 2, sk 3, 3, 4294967299, 0, 1⟩ Pb0.out false rfl).mono ?_); rintro a w3 ⟨rfl, hg, hu⟩; have HPA := Lib.hid (HPA.out.u hu); have HB := Lib.hid hg; clear hg hu)
      | (go_at_call 16; (with_reducible refine (go1_u HB.out (by decide) [4294967299, 0, 0, 0] ⟨2, 3, sk 3, 3, 4294967299, 0, 1⟩ Pb1.out false rfl).mono ?_); rintro a w3 ⟨rfl, hg, hu⟩; have HPA := Lib.hid (HPA.out.u hu); have HB := Lib.hid hg; clear hg hu)
      | (go_at_call 16; (with_reducible refine (go1_u HB.out (by decide) [8589934592, 0, 0, 0] ⟨2, 0, sk 3, 3, 4294967299, 0, 1⟩ Pb2.out true rfl).mono ?_); rintro a w3 ⟨rfl, hg, hu⟩; have HPA := Lib.hid (HPA.out.u hu); have HB := Lib.hid hg; clear hg hu)
      | (go_at_call 10; (with_reducible refine (popS 3 _).mono ?_); intro a w2 hk; obtain ⟨M3, rfl, hM, hm, hb⟩ := hk; have HC := Lib.hid (Go1.of_new (m := ⟨2, 1, sk 3, 0, 0, 0, 0⟩) HB.out.ok hM hm hb (by decide) (wm_pop (sk 3)) rfl); have HPB := Lib.hid (HB.out.past hb hM); have HPA := Lib.hid (HPA.out.next hb hM); clear hM hm hb)
      | (go_at_call 16; (with_reducible refine (go1_u HC.out (by decide) [8589934592, 0, 0, 0] ⟨2, 0, sk 3, 0, 8589934592, 0, 1⟩ Pc0.out true rfl).mono ?_); rintro a w3 ⟨rfl, hg, hu⟩; have HPA := Lib.hid (HPA.out.u hu); have HPB := Lib.hid (HPB.out.u hu); have HC := Lib.hid hg; clear hg hu)
      | (go_at_call 18; (with_reducible refine (HPA.out.item (x := 3) (by decide)).mono ?_); rintro a w4 ⟨rfl, hw⟩; cases hw)
      | (go_at_call 18; (with_reducible refine (HPB.out.item (x := 3) (by decide)).mono ?_); rintro a w4 ⟨rfl, hw⟩; cases hw)
      | (go_at_call 18; (with_reducible refine (item_any _ HC.out.mm HC.out.wm).mono ?_); rintro a w4 ⟨rfl, hw⟩; cases hw)
      | (go_at_call 20; (with_reducible refine (tries_any _ HC.out.mm).mono ?_); rintro a w4 ⟨rfl, hw⟩; cases hw)
      | (go_at_call 26; (with_reducible refine (walkS _ 4 4 _ _ 3 [2, 0, 3, 0] 9 _ rfl (reads_lit4 _ 2 0 3 0) (ww_lit _ rfl) (HC.out.ok.lk.below (below_alloc0 (Below.refl _ _) _)) (by decide)).mono ?_); rintro a w5 ⟨v, rfl, hO⟩; obtain ⟨A, cap, rfl, _⟩ := hO.reads; have HW := Lib.hid (below_step HC.out.ok.bel (Nat.le_trans (Nat.le_refl _) HC.out.ok.bel.size) (below_alloc0 (Below.refl _ _) (.cells #[.int .u64 2, .int .u64 0, .int .u64 3, .int .u64 0] 34))); have HO := Lib.hid hO.bel; clear hO)
      | fail)
  go_ret
  refine ⟨?_, below_step HW.out (Nat.le_trans HC.out.ok.bel.size (below_alloc0 (Below.refl _ _) _).size) HO.out⟩
  rfl
end Go.Proofs.Ytgnnhjadmepipaa

/- The law of a push, a pop, alone in any memory, walked. -/
import Derived.Test.YtgnnhjadmepipaaArgs
namespace Go.Proofs.Ytgnnhjadmepipaa
open Go.RowKit
set_option linter.unusedVariables false
set_option linter.unusedSimpArgs false
attribute [local irreducible] sruns

theorem ww_row {w : World} {a : Option Addr} {len cap : Nat} {z : List Int} (h : IsRow .u64 w a len cap z) : WW (z.take len) := fun x hx => by
  have := (reads_row h).2.2.2.2.2 x hx
  simp [Lit.wf, IntKind.min, IntKind.max, IntKind.bits, IntKind.signed] at this
  omega
theorem blk_lit3 (w : World) : 0 < (upto 3).length → ∃ b off, (some ⟨w.heap.size, 0, none⟩ : Option Addr) = some ⟨b, off, none⟩ ∧ 0 ≤ b ∧ b < (w.alloc (.cells #[.int .i64 1, .int .i64 2, .int .i64 3] 3)).heap.size ∧ ∀ j, j < (upto 3).length → (w.alloc (.cells #[.int .i64 1, .int .i64 2, .int .i64 3] 3)).cell? ⟨b, off + j, none⟩ = some (.int .i64 ((upto 3).getD j 0)) := fun _ =>
  ⟨w.heap.size, 0, rfl, Nat.zero_le _, by simp, fun j hj => by
    rw [Nat.zero_add, World.cell?_alloc_at _ _ _ _ rfl]
    match j, hj with
    | 0, _ => rfl
    | 1, _ => rfl
    | 2, _ => rfl⟩
theorem links3 (w : World) : Calls Try.prog 9 #[.slice (some ⟨w.heap.size, 0, none⟩) 3 3] (w.alloc (.cells #[.int .i64 1, .int .i64 2, .int .i64 3] 3)) (NewLk (w.alloc (.cells #[.int .i64 1, .int .i64 2, .int .i64 3] 3)) 0 (upto 3)) :=
  links_any _ 3 3 0 (upto 3) _ rfl (by decide) (Nat.zero_le _) (blk_lit3 w)
theorem NewLk.lk {w w' : World} {lo : Nat} {zs : List Int} {e : Ending} (h : NewLk w lo zs e w') : ∃ Bx Ab, e = .returned (lkV Bx) ∧ Lk w' Bx Ab zs ∧ Below w.heap.size w w' := by
  obtain ⟨Bx, Ab, h1, h2, _, _, h3⟩ := h; exact ⟨Bx, Ab, h1, h2, h3⟩

theorem ptq_len (L : List Int) (a v : Int) : (ptq L a v).length = L.length := by unfold ptq; split <;> simp
theorem ldq_same {L : List Int} {a v : Int} (h0 : 0 ≤ a) (h1 : a < L.length) : ldq (ptq L a v) a = v := by
  have e : ptq L a v = L.set a.toNat v := by unfold ptq; rw [if_pos ⟨h0, h1⟩]
  have hl : a.toNat < L.length := by omega
  rw [e]; unfold ldq
  rw [if_pos (by simp; omega)]
  simp [List.getD, hl]
theorem ldq_other {L : List Int} {a b v : Int} (h : a ≠ b) (hb : 0 ≤ b) : ldq (ptq L a v) b = ldq L b := by
  unfold ptq; split
  · rename_i ha
    unfold ldq; rw [List.length_set]
    split
    · simp only [List.getD, List.getElem?_set]; rw [if_neg (by omega)]
    · rfl
  · rfl
theorem upto_sk (n : Nat) {x : Int} : (mPush (sk n) x).k.links = upto n := rfl
theorem upto_sk2 (n : Nat) : (mPop (sk n)).k.links = upto n := rfl
theorem sItem_push (k : Sk) (x w l t : Int) (kd : Nat) : sItem ⟨kd, 0, k, x, w, l, t⟩ = x := rfl
theorem pc_push (k : Sk) (x w l t : Int) (kd : Nat) : (⟨kd, 0, k, x, w, l, t⟩ : Sm).pc = 0 := rfl
set_option maxHeartbeats 8000000 in
theorem walkFirst (a0 : Option Addr) (len0 cap0 : Nat) (z0 : List Int) (a1 : Int) (a2 : Bool) (w : World) (h0 : IsRow .u64 w a0 len0 cap0 z0) (w1 : (Lit.int .u32 a1).wf = true) :
    Calls Try.prog 7 #[.slice a0 len0 cap0, .int .u32 a1, .bool a2] w fun e w' => e = .returned (.bool true) ∧ Below w.heap.size w w' := by
  have ww := ww_row h0
  obtain ⟨hR, hlen, hlc, hcm, hnil, hwf⟩ := reads_row h0
  obtain ⟨L, hL⟩ : ∃ L, L = z0.take len0 := ⟨_, rfl⟩
  rw [← hL] at hR hlen ww
  clear h0 hL hwf
  have b0 : 0 ≤ a1 ∧ a1 ≤ 4294967295 := by
    simp [Lit.wf, IntKind.min, IntKind.max, IntKind.bits, IntKind.signed] at w1; omega
  obtain ⟨b0, b1⟩ := b0
  clear w1
  have HR := Lib.hid hR; have HLen := Lib.hid hlen.symm; have WW' := Lib.hid ww
  by_cases hbig : (len0 : Int) > 40
  · have d1 : decide ((len0 : Int) > 40) = true := by simpa using hbig
    clear hR hlen ww
    go_enter Try.func7, Try.ntmps7
    go_wp2_with (first
      | (go_at_call 8; (with_reducible refine (awake_any _).mono ?_); rintro r w1 ⟨rfl, hb⟩; have HB := Lib.hid hb; clear hb)
      | fail)
    go_ret
    exact ⟨rfl, HB.out⟩
  have d1 : decide ((len0 : Int) > 40) = false := by simpa using hbig
  by_cases hsm : (len0 : Int) < 4
  · have d2 : decide ((len0 : Int) < 4) = true := by simpa using hsm
    clear hR hlen ww
    go_enter Try.func7, Try.ntmps7
    go_wp2_with (first
      | (go_at_call 8; (with_reducible refine (awake_any _).mono ?_); rintro r w1 ⟨rfl, hb⟩; have HB := Lib.hid hb; clear hb)
      | fail)
    go_ret
    exact ⟨rfl, HB.out⟩
  have d2 : decide ((len0 : Int) < 4) = false := by simpa using hsm
  have hn1 : len0 ≤ 1000000 := by omega
  obtain ⟨b, off, rfl, hbl, hc⟩ := hR (by omega)
  obtain ⟨v, hv⟩ : ∃ v, v = L.getD 0 0 := ⟨_, rfl⟩
  have hv0 : 0 ≤ v ∧ v ≤ 18446744073709551615 := by have := ww.ldq 0; unfold ldq at this; rw [if_pos (by omega)] at this; rw [hv]; exact this
  obtain ⟨v0, v1⟩ := hv0
  have c0 := hc 0 (by omega)
  rw [← hv, Nat.add_zero] at c0
  have hLp : 0 < L.length := by omega
  obtain ⟨f, hf⟩ : ∃ f, f = low v := ⟨_, rfl⟩
  have hfr := low_rng v
  rw [← hf] at hfr
  obtain ⟨f0, f1⟩ := hfr
  have hvf : v % 4294967296 = f := by rw [hf]; rfl
  have HV := Lib.hid hv; have HF := Lib.hid hf; have HC := Lib.hid hc; have HLP := Lib.hid hLp
  clear hR hlen ww hv hf hc hLp
  cases a2
  · by_cases hz : f = 0
    · subst hz
      have hla : ldq L 0 = v := by have := HLP.out; unfold ldq; rw [if_pos (by omega)]; exact HV.out.symm
      have hfin := pop_any4 (L := L) (k := sk 3) (w := v) HLP.out rfl HV.out.symm HF.out.symm 3
      have HFin := Lib.hid hfin; have HLA := Lib.hid hla
      clear hfin hla
      go_enter Try.func7, Try.ntmps7
      go_wp2_with (first
        | (go_at_call 8; (with_reducible refine (awake_any _).mono ?_); rintro r w1 ⟨rfl, hb⟩; have HB := Lib.hid (below_alloc0 hb (.cells #[.int .i64 1, .int .i64 2, .int .i64 3] 3)); clear hb)
        | (go_at_call 9; (with_reducible refine (links3 _).mono ?_); intro r w2 hk; obtain ⟨Bx, Ab, rfl, hl, hb⟩ := hk.lk; have HLk := Lib.hid hl; have HB2 := Lib.hid (below_then HB.out hb); have e0 := (HB2.out.cell (p := ⟨b, off, none⟩) hbl).trans c0; clear hk hl hb)
        | (go_at_call 14; (with_reducible refine (new_any _ len0 cap0 L _ HLen.out (HR.out.below HB2.out (Nat.le_refl _)) hn1).mono ?_); intro r w3 hk; obtain ⟨S, D, rfl, hk2, _, _⟩ := Ok.start HB2.out (Nat.le_refl _) HLk.out WW'.out hk; have HK := Lib.hid hk2; have e1 := (HK.out.bel.cell (p := ⟨b, off, none⟩) hbl).trans c0; clear hk hk2)
        | (go_at_call 10; (with_reducible refine (popS 3 _).mono ?_); intro r w4 hk; obtain ⟨M, rfl, hM, hm, hb⟩ := hk; have HAp := Lib.hid (HK.out.new hM); have HK3 := Lib.hid (HK.out.step hb); have e3 := (HK3.out.bel.cell (p := ⟨b, off, none⟩) hbl).trans c0; have HM := Lib.hid hm; clear hM hm hb)
        | (go_at_call 29; (with_reducible refine (whole_is HK3.out HM.out HAp.out (upto_sk2 3) (wm_pop _) (by decide) (by decide) _ _ HFin.out 0 (sItem_push _ _ _ _ _ _)).mono ?_); rintro r w6 ⟨rfl, hok, hm, hwm, hu⟩; have HK4 := Lib.hid hok; have HM4 := Lib.hid hm; have e4 := (HK4.out.bel.cell (p := ⟨b, off, none⟩) hbl).trans c0; clear hok hm hwm hu)
        | (go_at_call 20; (with_reducible refine (tries_any _ HM4.out).mono ?_); rintro r w7 ⟨rfl, hw⟩; cases hw)
        | (go_at_call 16; (with_reducible refine (step_end HM4.out (pc_push _ _ _ _ _ _) _).mono ?_); rintro r w7 ⟨rfl, hw⟩; cases hw)
        | (go_at_call 30; (with_reducible refine (load_ok HK4.out 0 (by decide)).mono ?_); rintro r w8 ⟨rfl, hok, hu⟩; rw [HLA.out]; have HK5 := Lib.hid hok; have e5 := (HK5.out.bel.cell (p := ⟨b, off, none⟩) hbl).trans c0; clear hok hu)
        | fail)
      go_ret
      exact ⟨rfl, HK5.out.bel⟩
    · have hz2 : (f == 0) = false := by simpa using hz
      obtain ⟨q, hq⟩ : ∃ q, q = low (ldq L (atOf (sk 3).links f)) := ⟨_, rfl⟩
      obtain ⟨N, hN⟩ : ∃ N, N = turnw v q := ⟨_, rfl⟩
      have hqr := low_rng (ldq L (atOf (sk 3).links f))
      rw [← hq] at hqr
      have hN0 := turnw_rng (x := v) (n := q) hqr
      have hnow : turnw v q % 4294967296 = q := by unfold turnw; omega
      have hla : ldq (ptq L 0 N) 0 = N := ldq_same (by omega) (by have := HLP.out; omega)
      have hfin := pop_some4 (L := L) (k := sk 3) (w := v) (p := atOf (sk 3).links f) HLP.out rfl HV.out.symm (by rw [← HF.out]; exact hz) (by rw [← HF.out]) 1
      rw [← HF.out, ← hq, ← hN] at hfin
      rw [← hN] at hN0 hnow
      obtain ⟨n0, n1⟩ := hN0
      obtain ⟨q0, q1⟩ := hqr
      have HFin := Lib.hid hfin; have HLA := Lib.hid hla; have HZ := Lib.hid hz
      by_cases h3 : f ≤ 3
      · have d3 : decide (f ≤ 3) = true := by simpa using h3
        obtain ⟨i, hi⟩ : ∃ i : Nat, f = (i : Int) := ⟨f.toNat, by omega⟩
        have hat : atOf (sk 3).links f = f := at_sk (by omega) (by omega)
        have hil : i < L.length := by have := HLen.out; omega
        obtain ⟨g, hg⟩ : ∃ g, g = L.getD i 0 := ⟨_, rfl⟩
        have hgl : ldq L f = g := by unfold ldq; rw [if_pos (by omega), hi, hg]; rfl
        have hgr := WW'.out.ldq f
        rw [hgl] at hgr
        obtain ⟨g0, g1⟩ := hgr
        have hgq : g % 4294967296 = q := by rw [hq, hat, hgl]; rfl
        have ci := HC.out i hil
        rw [← hg] at ci
        have hi0 : (0 : Int) ≤ (i : Int) := by omega
        have hi1 : (i : Int) < (len0 : Int) := by have := HLen.out; omega
        subst hi
        clear hfin hla hN hq hat hil hg hgl hz
        go_enter Try.func7, Try.ntmps7
        go_wp2_with (first
          | (go_at_call 8; (with_reducible refine (awake_any _).mono ?_); rintro r w1 ⟨rfl, hb⟩; have HB := Lib.hid (below_alloc0 hb (.cells #[.int .i64 1, .int .i64 2, .int .i64 3] 3)); clear hb)
          | (go_at_call 9; (with_reducible refine (links3 _).mono ?_); intro r w2 hk; obtain ⟨Bx, Ab, rfl, hl, hb⟩ := hk.lk; have HLk := Lib.hid hl; have HB2 := Lib.hid (below_then HB.out hb); have e0 := (HB2.out.cell (p := ⟨b, off, none⟩) hbl).trans c0; clear hk hl hb)
          | (go_at_call 14; (with_reducible refine (new_any _ len0 cap0 L _ HLen.out (HR.out.below HB2.out (Nat.le_refl _)) hn1).mono ?_); intro r w3 hk; obtain ⟨S, D, rfl, hk2, _, _⟩ := Ok.start HB2.out (Nat.le_refl _) HLk.out WW'.out hk; have HK := Lib.hid hk2; have e1 := (HK.out.bel.cell (p := ⟨b, off, none⟩) hbl).trans c0; clear hk hk2)
          | (go_at_call 10; (with_reducible refine (popS 3 _).mono ?_); intro r w4 hk; obtain ⟨M, rfl, hM, hm, hb⟩ := hk; have HAp := Lib.hid (HK.out.new hM); have HK3 := Lib.hid (HK.out.step hb); have e3 := (HK3.out.bel.cell (p := ⟨b, off, none⟩) hbl).trans c0; have HM := Lib.hid hm; clear hM hm hb)
          | (go_at_call 29; (with_reducible refine (whole_is HK3.out HM.out HAp.out (upto_sk2 3) (wm_pop _) (by decide) (by decide) _ _ HFin.out (i : Int) (sItem_push _ _ _ _ _ _)).mono ?_); rintro r w6 ⟨rfl, hok, hm, hwm, hu⟩; have HK4 := Lib.hid hok; have HM4 := Lib.hid hm; have e4 := (HK4.out.bel.cell (p := ⟨b, off, none⟩) hbl).trans c0; clear hok hm hwm hu)
          | (go_at_call 20; (with_reducible refine (tries_any _ HM4.out).mono ?_); rintro r w7 ⟨rfl, hw⟩; cases hw)
          | (go_at_call 16; (with_reducible refine (step_end HM4.out (pc_push _ _ _ _ _ _) _).mono ?_); rintro r w7 ⟨rfl, hw⟩; cases hw)
          | (go_at_call 30; (with_reducible refine (load_ok HK4.out 0 (by decide)).mono ?_); rintro r w8 ⟨rfl, hok, hu⟩; rw [HLA.out]; have HK5 := Lib.hid hok; have e5 := (HK5.out.bel.cell (p := ⟨b, off, none⟩) hbl).trans c0; have ej := (HK5.out.bel.cell (p := ⟨b, off + i, none⟩) hbl).trans ci; clear hok hu)
          | fail)
        go_ret
        exact ⟨rfl, HK5.out.bel⟩
      · have d3 : decide (f ≤ 3) = false := by simpa using h3
        have hq0 : q = 0 := by
          have hat : atOf (sk 3).links f = -1 := by unfold atOf; rw [if_neg (by intro h; have h2 : f ≤ 3 := h.2; omega)]
          rw [hq, hat]; unfold ldq; rw [if_neg (by omega)]; rfl
        subst hq0
        clear hfin hla hN hq hz
        go_enter Try.func7, Try.ntmps7
        go_wp2_with (first
          | (go_at_call 8; (with_reducible refine (awake_any _).mono ?_); rintro r w1 ⟨rfl, hb⟩; have HB := Lib.hid (below_alloc0 hb (.cells #[.int .i64 1, .int .i64 2, .int .i64 3] 3)); clear hb)
          | (go_at_call 9; (with_reducible refine (links3 _).mono ?_); intro r w2 hk; obtain ⟨Bx, Ab, rfl, hl, hb⟩ := hk.lk; have HLk := Lib.hid hl; have HB2 := Lib.hid (below_then HB.out hb); have e0 := (HB2.out.cell (p := ⟨b, off, none⟩) hbl).trans c0; clear hk hl hb)
          | (go_at_call 14; (with_reducible refine (new_any _ len0 cap0 L _ HLen.out (HR.out.below HB2.out (Nat.le_refl _)) hn1).mono ?_); intro r w3 hk; obtain ⟨S, D, rfl, hk2, _, _⟩ := Ok.start HB2.out (Nat.le_refl _) HLk.out WW'.out hk; have HK := Lib.hid hk2; have e1 := (HK.out.bel.cell (p := ⟨b, off, none⟩) hbl).trans c0; clear hk hk2)
          | (go_at_call 10; (with_reducible refine (popS 3 _).mono ?_); intro r w4 hk; obtain ⟨M, rfl, hM, hm, hb⟩ := hk; have HAp := Lib.hid (HK.out.new hM); have HK3 := Lib.hid (HK.out.step hb); have e3 := (HK3.out.bel.cell (p := ⟨b, off, none⟩) hbl).trans c0; have HM := Lib.hid hm; clear hM hm hb)
          | (go_at_call 29; (with_reducible refine (whole_is HK3.out HM.out HAp.out (upto_sk2 3) (wm_pop _) (by decide) (by decide) _ _ HFin.out f (sItem_push _ _ _ _ _ _)).mono ?_); rintro r w6 ⟨rfl, hok, hm, hwm, hu⟩; have HK4 := Lib.hid hok; have HM4 := Lib.hid hm; have e4 := (HK4.out.bel.cell (p := ⟨b, off, none⟩) hbl).trans c0; clear hok hm hwm hu)
          | (go_at_call 20; (with_reducible refine (tries_any _ HM4.out).mono ?_); rintro r w7 ⟨rfl, hw⟩; cases hw)
          | (go_at_call 16; (with_reducible refine (step_end HM4.out (pc_push _ _ _ _ _ _) _).mono ?_); rintro r w7 ⟨rfl, hw⟩; cases hw)
          | (go_at_call 30; (with_reducible refine (load_ok HK4.out 0 (by decide)).mono ?_); rintro r w8 ⟨rfl, hok, hu⟩; rw [HLA.out]; have HK5 := Lib.hid hok; have e5 := (HK5.out.bel.cell (p := ⟨b, off, none⟩) hbl).trans c0; clear hok hu)
          | fail)
        go_ret
        exact ⟨rfl, HK5.out.bel⟩
  · obtain ⟨x, hx⟩ : ∃ x, x = a1 % 3 + 1 := ⟨_, rfl⟩
    have hx0 : 1 ≤ x ∧ x ≤ 3 := by omega
    have hxe : a1 % 3 + 1 = x := hx.symm
    have hfin := push_any4 (L := L) (k := sk 3) (x := x) (p := x) (w := v) HLP.out rfl (by omega) (at_sk hx0.1 hx0.2) (by omega) HV.out.symm 1
    obtain ⟨N, hN⟩ : ∃ N, N = turnw v x := ⟨_, rfl⟩
    have hN0 := turnw_rng (x := v) (n := x) (by omega)
    have hnow : turnw v x % 4294967296 = x := by unfold turnw; omega
    have hx3 : x < L.length := by have := HLen.out; omega
    have hl1 := ptq_len L x f
    have hla : ldq (ptq (ptq L x f) 0 N) 0 = N := ldq_same (by omega) (by have := HLP.out; omega)
    have hlx : ldq (ptq (ptq L x f) 0 N) x = f := by rw [ldq_other (by omega) (by omega)]; exact ldq_same (by omega) hx3
    rw [← hN] at hN0 hnow
    rw [← hN, ← HF.out] at hfin
    obtain ⟨n0, n1⟩ := hN0
    have HLA := Lib.hid hla; have HLX := Lib.hid hlx
    clear hla hlx hl1 hN hx3
    have HFin := Lib.hid hfin
    have HX := Lib.hid hx0
    clear hfin hx hx0
    go_enter Try.func7, Try.ntmps7
    go_wp2_with (first
      | (go_at_call 8; (with_reducible refine (awake_any _).mono ?_); rintro r w1 ⟨rfl, hb⟩; have HB := Lib.hid (below_alloc0 hb (.cells #[.int .i64 1, .int .i64 2, .int .i64 3] 3)); clear hb)
      | (go_at_call 9; (with_reducible refine (links3 _).mono ?_); intro r w2 hk; obtain ⟨Bx, Ab, rfl, hl, hb⟩ := hk.lk; have HLk := Lib.hid hl; have HB2 := Lib.hid (below_then HB.out hb); have e0 := (HB2.out.cell (p := ⟨b, off, none⟩) hbl).trans c0; clear hk hl hb)
      | (go_at_call 14; (with_reducible refine (new_any _ len0 cap0 L _ HLen.out (HR.out.below HB2.out (Nat.le_refl _)) hn1).mono ?_); intro r w3 hk; obtain ⟨S, D, rfl, hk2, _, _⟩ := Ok.start HB2.out (Nat.le_refl _) HLk.out WW'.out hk; have HK := Lib.hid hk2; have e1 := (HK.out.bel.cell (p := ⟨b, off, none⟩) hbl).trans c0; clear hk hk2)
      | (go_at_call 10; (with_reducible refine (popS 3 _).mono ?_); intro r w4 hk; obtain ⟨M, rfl, hM, hm, hb⟩ := hk; have HK2 := Lib.hid (HK.out.step hb); have e2 := (HK2.out.bel.cell (p := ⟨b, off, none⟩) hbl).trans c0; clear hM hm hb)
      | (go_at_call 12; (with_reducible refine (pushS 3 _ _ (by omega)).mono ?_); intro r w5 hk; obtain ⟨M, rfl, hM, hm, hb⟩ := hk; have HAp := Lib.hid (HK2.out.new hM); have HK3 := Lib.hid (HK2.out.step hb); have e3 := (HK3.out.bel.cell (p := ⟨b, off, none⟩) hbl).trans c0; have HM := Lib.hid hm; clear hM hm hb)
      | (go_at_call 29; (with_reducible refine (whole_is HK3.out HM.out HAp.out (upto_sk 3) (wm_push _ _) (by decide) (by decide) _ _ HFin.out x (sItem_push _ _ _ _ _ _)).mono ?_); rintro r w6 ⟨rfl, hok, hm, hwm, hu⟩; have HK4 := Lib.hid hok; have HM4 := Lib.hid hm; have e4 := (HK4.out.bel.cell (p := ⟨b, off, none⟩) hbl).trans c0; clear hok hm hwm hu)
      | (go_at_call 20; (with_reducible refine (tries_any _ HM4.out).mono ?_); rintro r w7 ⟨rfl, hw⟩; cases hw)
      | (go_at_call 16; (with_reducible refine (step_end HM4.out (pc_push _ _ _ _ _ _) _).mono ?_); rintro r w7 ⟨rfl, hw⟩; cases hw)
      | (go_at_call 30; (with_reducible refine (load_ok HK4.out 0 (by decide)).mono ?_); rintro r w8 ⟨rfl, hok, hu⟩; rw [HLA.out]; have HK5 := Lib.hid hok; clear hok hu)
      | (go_at_call 30; (with_reducible refine (load_ok HK5.out x (by decide)).mono ?_); rintro r w9 ⟨rfl, hok, hu⟩; rw [HLX.out]; have HK6 := Lib.hid hok; clear hok hu)
      | fail)
    go_ret
    exact ⟨rfl, HK6.out.bel⟩
end Go.Proofs.Ytgnnhjadmepipaa

/- The law of two texts of bytes, one behind the other, walked. -/
import Derived.Test.YtadfdpkmegaloaaBackLaw
namespace Go.Proofs.Ytadfdpkmegaloaa
open Go.RowKit
set_option linter.unusedVariables false

/-- Bytes that are appended to a row of the call's own, nil let in. -/
theorem append_bytes {w : World} {ops : Array Oper} {rest : List Oper} {o : Oper} {a : Act} {Q : Exit → Act → World → Prop} (hg : o.guard = none) (s x : Operand)
    (ho : o.op = .call { callee := .builtin .append, args := #[s, x], argTypes := #[22, 22] }) (B : Nat) (w0 : World) (v : Value) (xs zs : List Int) (hs : a.eval s = v)
    (hown : OwnB B w0 w v xs) (A : Option Addr) (L cap n : Nat) (hx : a.eval x = .slice A L cap) (hL : L = zs.length) (hr : Reads .u8 w A zs) (hn : A = none → cap = 0)
    (hx1 : xs.length ≤ 1000) (hz1 : L ≤ 1000) (hB : B ≤ w0.heap.size) (hm : n = (xs ++ zs).length)
    (h : ∀ A' c' w', OwnB B w0 w' (.slice A' n c') (xs ++ zs) → Reads .u8 w' A' (xs ++ zs) → wpList Try.prog ops Q rest (a.put o.dst (.slice A' n c')) w') : wpList Try.prog ops Q (o :: rest) a w := by
  obtain ⟨i0, hi, hz0, hz1', hz2⟩ := info_parts info5
  subst hL
  have hsz := hown.2.size
  have key : ∀ v' w', OwnB B w0 w' v' (xs ++ zs) → wpList Try.prog ops Q rest (a.put o.dst v') w' := fun v' w' k => by
    obtain ⟨A', c', rfl, k2, _, _, _⟩ := k.reads
    rw [← hm] at k ⊢
    exact h A' c' w' k k2
  rcases A with _ | ad
  · have hz : zs = [] := by
      cases zs with
      | nil => rfl
      | cons y l => obtain ⟨_, _, e, _⟩ := hr (by simp); cases e
    subst hz
    obtain rfl := hn rfl
    refine wpList_append_own_none hg s x 22 ho B 5 i0 1 Try.underlying22 hi v xs.length _ hs hown.1 hx ?_
    exact key v w (by simpa using hown)
  · refine wpList_append_own w hg s x 22 ho B 5 i0 (.int .u8 0) 1 1 Try.underlying22 hi hz0 hz1' hz2 rfl (by decide) v xs.length _ hs hown.1 ad zs.length cap (zs.map (Value.int .u8)) hx (by simp) ?_ ?_ (by unfold maxLen; omega) (by omega) (by omega) ?_
    · intro j u hj
      by_cases hlt : j < zs.length
      · obtain ⟨b, off, e, _, hc⟩ := hr (by omega)
        cases e
        rw [map_get .u8 zs j hlt] at hj
        cases hj
        rw [add_off]
        exact hc j hlt
      · rw [List.getElem?_eq_none (by simpa using Nat.le_of_not_lt hlt)] at hj
        cases hj
    · intro u hu
      obtain ⟨y, _, rfl⟩ := List.mem_map.1 hu
      rfl
    · intro v' w' h1 h2 _
      exact key v' w' ⟨by rw [List.length_append, List.map_append]; exact h1, hown.2.grown h2 (by omega) (fun b hb => (hown.1.lt b hb).1)⟩

/-- Picks that are appended to a row of the call's own, nil let in. -/
theorem append_picks {w : World} {ops : Array Oper} {rest : List Oper} {o : Oper} {a : Act} {Q : Exit → Act → World → Prop} (hg : o.guard = none) (s x : Operand)
    (ho : o.op = .call { callee := .builtin .append, args := #[s, x], argTypes := #[23, 23] }) (B : Nat) (w0 : World) (v : Value) (xs zs : List Pk) (hs : a.eval s = v)
    (hown : OwnP 36 B w0 w v xs) (A : Option Addr) (L cap n : Nat) (hx : a.eval x = .slice A L cap) (hL : L = zs.length) (hr : ReadsP w A zs) (hn : A = none → cap = 0)
    (hx1 : xs.length ≤ 1000) (hz1 : L ≤ 1000) (hB : B ≤ w0.heap.size) (hm : n = (xs ++ zs).length)
    (h : ∀ A' c' w', OwnP 36 B w0 w' (.slice A' n c') (xs ++ zs) → ReadsP w' A' (xs ++ zs) → wpList Try.prog ops Q rest (a.put o.dst (.slice A' n c')) w') : wpList Try.prog ops Q (o :: rest) a w := by
  obtain ⟨i0, hi, hz0, hz1', hz2⟩ := info_parts info36
  subst hL
  have hsz := hown.2.size
  have key : ∀ v' w', OwnP 36 B w0 w' v' (xs ++ zs) → wpList Try.prog ops Q rest (a.put o.dst v') w' := fun v' w' k => by
    obtain ⟨A', c', rfl, k2, _, _, _⟩ := k.reads
    rw [← hm] at k ⊢
    exact h A' c' w' k k2
  rcases A with _ | ad
  · have hz : zs = [] := by
      cases zs with
      | nil => rfl
      | cons y l => obtain ⟨_, _, e, _⟩ := hr (by simp); cases e
    subst hz
    obtain rfl := hn rfl
    refine wpList_append_own_none hg s x 23 ho B 36 i0 2 Try.underlying23 hi v xs.length _ hs hown.1 hx ?_
    exact key v w (by simpa using hown)
  · refine wpList_append_own w hg s x 23 ho B 36 i0 _ 2 16 Try.underlying23 hi hz0 hz1' hz2 rfl (by decide) v xs.length _ hs hown.1 ad zs.length cap (flat zs) hx (flat_len zs) ?_ (flat_cells zs) (by unfold maxLen; omega) (by omega) (by omega) ?_
    · intro j u hj
      by_cases hlt : j < zs.length * 2
      · obtain ⟨b, off, e, _, hc⟩ := hr (by omega)
        cases e
        obtain ⟨f0, f1⟩ := flat_get zs (j / 2) (by omega)
        obtain ⟨c0, c1⟩ := hc (j / 2) (by omega)
        rw [add_off]
        have : j % 2 = 0 ∨ j % 2 = 1 := by omega
        rcases this with e | e
        · rw [show j / 2 * 2 = j by omega] at f0 c0
          rw [f0] at hj; cases hj
          exact c0
        · rw [show j / 2 * 2 + 1 = j by omega] at f1 c1
          rw [f1] at hj; cases hj
          exact c1
      · rw [List.getElem?_eq_none (by rw [flat_len]; omega)] at hj
        cases hj
    · intro v' w' h1 h2 _
      exact key v' w' ⟨by rw [List.length_append, flat_app]; exact h1, hown.2.grown h2 (by omega) (fun b hb => (hown.1.lt b hb).1)⟩

/-- Picks of bytes, a row of the call's own. -/
def OwnR (l : List Pk) (m : Nat) (w : World) (e : Ending) (w' : World) : Prop := ∃ A c, e = .returned (.slice A m c) ∧ OwnP 36 w.heap.size w w' (.slice A m c) l
theorem decode_own (A : Option Addr) (cap n m : Nat) (zs : List Int) (all : Int) (r : List Pk) (w : World) (hn : n = zs.length) (h : Reads .u8 w A zs) (hz : Byt zs) (hb : n ≤ 1000) (hr : decL zs all = r) (hm : m = r.length) :
    Calls Try.prog 11 #[.slice A n cap, .int .i64 all] w (OwnR r m w) := by
  subst hn; subst hr; subst hm
  exact (decode_any A cap zs all w h hz hb).mono fun e w' ⟨v, he, ho⟩ => by
    obtain ⟨A', c, rfl, _⟩ := ho.reads
    exact ⟨A', c, he, ho⟩

theorem byt_app {xs ys : List Int} (h : Byt xs) (k : Byt ys) : Byt (xs ++ ys) := by
  intro i
  by_cases hi : i < xs.length
  · have := h i
    simpa [List.getD, List.getElem?_append_left hi] using this
  · have := k (i - xs.length)
    simpa [List.getD, List.getElem?_append_right (Nat.le_of_not_lt hi)] using this

set_option maxHeartbeats 4000000 in
set_option maxRecDepth 100000 in
theorem walkJoin (a0 : Option Addr) (len0 cap0 : Nat) (z0 : List Int) (a1 : Option Addr) (len1 cap1 : Nat) (z1 : List Int) (a2 : Int) (w : World) (w0 : IsRow .u8 w a0 len0 cap0 z0) (w1 : IsRow .u8 w a1 len1 cap1 z1) (w2 : (Lit.int .i64 a2).wf = true) :
    Calls Try.prog 7 #[.slice a0 len0 cap0, .slice a1 len1 cap1, .int .i64 a2] w fun e w' => e = .returned (.bool true) ∧ Below w.heap.size w w' := by
  obtain ⟨hR, hlen, h1, h2, h3, hwf⟩ := reads_row w0
  obtain ⟨hR', hlen', h1', h2', h3', hwf'⟩ := reads_row w1
  have hz := byts_of hwf
  have hz' := byts_of hwf'
  unfold maxLen at h2 h2'
  clear w0 w1 w2 hwf hwf'
  generalize z0.take len0 = xs at hR hlen hz
  generalize z1.take len1 = ys at hR' hlen' hz'
  have HL := Lib.hid hlen.symm
  have HL' := Lib.hid hlen'.symm
  have H3 := Lib.hid h3
  have H3' := Lib.hid h3'
  have hb : Below w.heap.size w w := Below.refl _ _
  by_cases c1 : 200 < len0
  · clear hR hz hlen hR' hz' hlen' h3 h3'
    go_enter Try.func7, Try.ntmps7
    go_wp2_with (go_at_call 9; (with_reducible refine (awake_true _).mono ?_); rintro e w1 ⟨rfl, hb1⟩)
    go_ret
    exact ⟨rfl, hb1⟩
  by_cases c2 : 200 < len1
  · clear hR hz hlen hR' hz' hlen' h3 h3'
    go_enter Try.func7, Try.ntmps7
    go_wp2_with (go_at_call 9; (with_reducible refine (awake_true _).mono ?_); rintro e w1 ⟨rfl, hb1⟩)
    go_ret
    exact ⟨rfl, hb1⟩
  by_cases c3 : len0 % 2 = 1
  · have c4 : (len0 : Int) % 2 = 1 := by omega
    clear hR hz hlen hR' hz' hlen' h3 h3' c3
    go_enter Try.func7, Try.ntmps7
    go_wp2_with (go_at_call 9; (with_reducible refine (awake_true _).mono ?_); rintro e w1 ⟨rfl, hb1⟩)
    go_ret
    exact ⟨rfl, hb1⟩
  have c4 : (len0 : Int) % 2 = 0 := by omega
  obtain ⟨r, hr⟩ : ∃ r, decL xs a2 = r := ⟨_, rfl⟩
  obtain ⟨m, hm⟩ : ∃ m, m = r.length := ⟨_, rfl⟩
  obtain ⟨r', hr'⟩ : ∃ r, decL ys a2 = r := ⟨_, rfl⟩
  obtain ⟨m', hm'⟩ : ∃ m, m = r'.length := ⟨_, rfl⟩
  have hjoin : decL (xs ++ ys) a2 = r ++ r' := by rw [← hr, ← hr', decL_join xs ys a2 (by omega)]
  obtain ⟨M, hM⟩ : ∃ M, M = (r ++ r').length := ⟨_, rfl⟩
  obtain ⟨n, hn⟩ : ∃ n, n = (xs ++ ys).length := ⟨_, rfl⟩
  have hmb : m ≤ 1000 := by rw [hm, ← hr, decL_len]; omega
  have hmb' : m' ≤ 1000 := by rw [hm', ← hr', decL_len]; omega
  have hnb : n ≤ 1000 := by rw [hn, List.length_append]; omega
  have hMb : M ≤ 2000 := by rw [hM, List.length_append]; omega
  have HX : Hid (len0 = ([] ++ xs).length) := Lib.hid (by rw [List.nil_append]; exact hlen.symm)
  have HR := Lib.hid hR
  have HR' := Lib.hid hR'
  have HZ := Lib.hid hz
  have HZ' := Lib.hid hz'
  have HZC := Lib.hid (byt_app hz hz')
  have HD := Lib.hid hr
  have HD' := Lib.hid hr'
  have HM := Lib.hid hm
  have HM' := Lib.hid hm'
  have HJ := Lib.hid hjoin
  have HMM := Lib.hid hM
  have HN := Lib.hid hn
  have hx1 : xs.length ≤ 1000 := by omega
  have hr1 : r.length ≤ 1000 := by omega
  have HX1 := Lib.hid hx1
  have HR1 := Lib.hid hr1
  have hn0 : len0 ≤ 1000 := by omega
  have hn1 : len1 ≤ 1000 := by omega
  clear hR hz hlen hR' hz' hlen' h3 h3' hr hm hr' hm' hjoin hM hn c3 hx1 hr1
  go_enter Try.func7, Try.ntmps7
  go_wp2_with (first
    | (go_at_call 9; (with_reducible refine (awake_true _).mono ?_); rintro e w1 ⟨rfl, hb1⟩; have hb := below_step hb hb.size hb1; have hbw := hb1; clear hb1)
    | (at_builtin; refine append_bytes rfl _ _ rfl w1.heap.size w1 _ [] xs rfl ⟨World.ownsRow_nil _ _ _ _, Below.refl _ _⟩ _ _ _ len0 rfl HL.out (HR.out.below hb) H3.out (Nat.zero_le _) hn0 (Nat.le_refl _) HX.out ?_; intro A1 k1 w2 hO1 _; have hb := below_step hb hb.size hO1.2)
    | (at_builtin; refine append_bytes rfl _ _ rfl w1.heap.size w1 _ ([] ++ xs) ys rfl hO1 _ _ _ n rfl HL'.out (HR'.out.below hb) H3'.out HX1.out hn1 (Nat.le_refl _) HN.out ?_; intro A2 k2 w3 hO2 hRc3; have hb := below_step hbw hbw.size hO2.2)
    | (go_at_call 11; (with_reducible refine (decode_own _ _ _ m xs _ r _ HL.out (HR.out.below hb) HZ.out hn0 HD.out HM.out).mono ?_); rintro e w4 ⟨A3, k3, rfl, hO3⟩; have hb3 := hb; have hb := below_step hb hb.size hO3.2)
    | (go_at_call 11; (with_reducible refine (decode_at _ _ _ m' ys _ r' _ HL'.out (HR'.out.below hb) HZ'.out hn1 HD'.out HM'.out).mono ?_); rintro e w5 ⟨A4, k4, rfl, hA4, hn4, hb1⟩; have hO3 := hO3.step (Nat.le_refl _) hb1; have hb := below_step hb hb.size hb1; clear hb1)
    | (at_builtin; refine append_picks rfl _ _ rfl w3.heap.size w3 _ r r' rfl hO3 _ _ _ M rfl HM'.out hA4 hn4 HR1.out hmb' (Nat.le_refl _) HMM.out ?_; intro A5 k5 w6 hO5 hA5; have hRc := hRc3.below hO5.2; have hb := below_step hb3 hb3.size hO5.2)
    | (go_at_call 11; (with_reducible refine (decode_at _ _ _ M (xs ++ ys) _ (r ++ r') _ HN.out hRc HZC.out hnb HJ.out HMM.out).mono ?_); rintro e w7 ⟨A6, k6, rfl, hA6, _, hb1⟩; have hA5 := hA5.below hb1; have hb := below_step hb hb.size hb1; clear hb1))
  obtain ⟨L, hL⟩ : ∃ L, L = r ++ r' := ⟨_, rfl⟩
  rw [← hL] at hA5 hA6
  have HA5 := Lib.hid hA5
  have HA6 := Lib.hid hA6
  have HLL : Hid (M = L.length) := Lib.hid (by rw [hL]; exact HMM.out)
  clear hA5 hA6 hL hO1 hO2 hO3 hO5 hRc hRc3 hA4
  go_loopw [11] (fun i wr => ∃ (k t : Nat), k ≤ M ∧ i = .int .i64 (k : Int) ∧ wr = w7.drewN t) (fun i _ => M - (intOf i).toNat)
  case atStart => exact ⟨0, 0, Nat.zero_le _, rfl, rfl⟩
  case round =>
    obtain ⟨k, t, hk, rfl, rfl⟩ := hrel
    by_cases hlt : k < M
    · obtain ⟨b, off, rfl, hbl, hc⟩ := HA5.out (by have := HLL.out; omega)
      obtain ⟨b', off', rfl, hbl', hc'⟩ := HA6.out (by have := HLL.out; omega)
      obtain ⟨d1, d2⟩ := hc k (by have := HLL.out; omega)
      obtain ⟨e1, e2⟩ := hc' k (by have := HLL.out; omega)
      obtain ⟨p, hp⟩ : ∃ p, p = at_ L k := ⟨_, rfl⟩
      rw [← hp] at d1 d2 e1 e2
      obtain ⟨x, d⟩ := p
      simp only at d1 d2 e1 e2
      have d2' : w7.cell? ⟨b, off + k * 2 + 1, none⟩ = some (.int .i64 d) := d2
      have e2' : w7.cell? ⟨b', off' + k * 2 + 1, none⟩ = some (.int .i64 d) := e2
      have hk0 : (0 : Int) ≤ (k : Int) := by omega
      have hk1 : (k : Int) < (M : Int) := by omega
      clear hc hc' hp d2 e2
      go_wp2
      go_quiet (fail)
      go_wp2
      go_roundw
      case rel => exact ⟨k + 1, _, by omega, by go_num, rfl⟩
      case measure => simp [intOf]; omega
    · have hb : Below w.heap.size w (w7.drewN t) := below_drewN hb t
      go_wp2
      go_ret
      exact ⟨rfl, hb⟩
end Go.Proofs.Ytadfdpkmegaloaa

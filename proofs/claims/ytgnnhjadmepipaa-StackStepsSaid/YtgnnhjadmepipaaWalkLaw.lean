/- The law of a walk, walked. -/
import Derived.Test.YtgnnhjadmepipaaRefWalk
import Derived.Test.YtgnnhjadmepipaaFirstLaw
namespace Go.Proofs.Ytgnnhjadmepipaa
open Go.RowKit
set_option linter.unusedVariables false
set_option linter.unusedSimpArgs false

/-- What came in, as a list. -/
theorem kv_reads {w : World} {x : Kv} (h : IsK w x) : ∃ zs, Reads .i64 w x.A zs ∧ x.n = zs.length ∧ -9223372036854775808 ≤ x.head ∧ x.head ≤ 9223372036854775807 := by
  obtain ⟨h1, h2, _⟩ := reads_row h.1
  have := h.2
  simp [Lit.wf, IntKind.min, IntKind.max, IntKind.bits, IntKind.signed] at this
  exact ⟨_, h1, h2.symm, by omega, by omega⟩
theorem Reads.blk {w : World} {A : Option Addr} {zs : List Int} (h : Reads .i64 w A zs) : 0 < zs.length → ∃ b off, A = some ⟨b, off, none⟩ ∧ 0 ≤ b ∧ b < w.heap.size ∧ ∀ j, j < zs.length → w.cell? ⟨b, off + j, none⟩ = some (.int .i64 (zs.getD j 0)) := fun h0 => by
  obtain ⟨b, off, e, hl, hc⟩ := h h0
  exact ⟨b, off, e, Nat.zero_le _, hl, hc⟩

theorem sameI_len (A A' : Option Addr) (cap cap' : Nat) (l : List Int) (w : World) (h : Reads .i64 w A l) (h' : Reads .i64 w A' l) (hb : l.length ≤ 1000000) :
    Calls Try.prog 25 #[.slice A l.length cap, .slice A' l.length cap'] w fun e w' => e = .returned (.bool true) ∧ Below w.heap.size w w' := sameI_yes A A' cap cap' _ _ l w rfl rfl h h' hb
set_option maxHeartbeats 8000000 in
theorem walkWalk (a0 : Option Addr) (len0 cap0 : Nat) (z0 : List Int) (a1 : Kv) (a2 : Int) (w : World) (h0 : IsRow .u64 w a0 len0 cap0 z0) (hk : IsK w a1) (w2 : (Lit.int .i64 a2).wf = true) :
    Calls Try.prog 4 #[.slice a0 len0 cap0, kV a1, .int .i64 a2] w fun e w' => e = .returned (.bool true) ∧ Below w.heap.size w w' := by
  have ww := ww_row h0
  obtain ⟨hR, hlen, _⟩ := reads_row h0
  obtain ⟨L, hL⟩ : ∃ L, L = z0.take len0 := ⟨_, rfl⟩
  rw [← hL] at hR hlen ww
  obtain ⟨zs, hK, hn, hh0, hh1⟩ := kv_reads hk
  obtain ⟨hd, A, n, cap, z⟩ := a1
  simp only at hK hn hh0 hh1
  change Calls Try.prog 4 #[.slice a0 len0 cap0, .agg #[.int .i64 hd, .slice A n cap], .int .i64 a2] w _
  clear h0 hL hk z
  have b0 : -9223372036854775808 ≤ a2 ∧ a2 ≤ 9223372036854775807 := by
    simp [Lit.wf, IntKind.min, IntKind.max, IntKind.bits, IntKind.signed] at w2; omega
  obtain ⟨b0, b1⟩ := b0
  clear w2
  obtain ⟨w1, hw1⟩ : ∃ w1, w1 = w.alloc (.cells #[.int .i64 hd, .slice A n cap] 25) := ⟨_, rfl⟩
  have HB1 : Hid (Below w.heap.size w w1) := Lib.hid (by rw [hw1]; exact below_alloc0 (Below.refl _ _) _)
  have hkc := fun (w' : World) (hb : Below w1.heap.size w1 w') => box_kv (h := hd) (A := A) (n := n) (cap := cap) (w := w) (w' := w') (by rw [← hw1]; exact hb.mono (by rw [hw1]; simp))
  have HKC := Lib.hid hkc
  have HR := Lib.hid hR; have HLen := Lib.hid hlen.symm; have WW' := Lib.hid ww; have HK := Lib.hid hK; have HN := Lib.hid hn
  clear hR ww hK hkc
  have HW1 := Lib.hid hw1; clear hw1
  by_cases h1 : (len0 : Int) > 60
  · have d1 : decide ((len0 : Int) > 60) = true := by simpa using h1
    clear hlen hn
    go_enter Try.func4, Try.ntmps4
    go_wp2_with (first
      | (go_at_call 8; (with_reducible refine (awake_any _).mono ?_); rintro r w3 ⟨rfl, hb⟩; rw [← HW1.out] at hb; have HB := Lib.hid hb; obtain ⟨c0, c1⟩ := HKC.out _ hb; clear hb)
      | fail)
    go_ret
    exact ⟨rfl, below_then HB1.out HB.out⟩
  have d1 : decide ((len0 : Int) > 60) = false := by simpa using h1
  by_cases h2 : a2 > 100
  · have d2 : decide (a2 > 100) = true := by simpa using h2
    clear hlen hn
    go_enter Try.func4, Try.ntmps4
    go_wp2_with (first
      | (go_at_call 8; (with_reducible refine (awake_any _).mono ?_); rintro r w3 ⟨rfl, hb⟩; rw [← HW1.out] at hb; have HB := Lib.hid hb; obtain ⟨c0, c1⟩ := HKC.out _ hb; clear hb)
      | fail)
    go_ret
    exact ⟨rfl, below_then HB1.out HB.out⟩
  have d2 : decide (a2 > 100) = false := by simpa using h2
  by_cases h3 : (n : Int) > 60
  · have d3 : decide ((n : Int) > 60) = true := by simpa using h3
    clear hlen hn
    go_enter Try.func4, Try.ntmps4
    go_wp2_with (first
      | (go_at_call 8; (with_reducible refine (awake_any _).mono ?_); rintro r w3 ⟨rfl, hb⟩; rw [← HW1.out] at hb; have HB := Lib.hid hb; obtain ⟨c0, c1⟩ := HKC.out _ hb; clear hb)
      | fail)
    go_ret
    exact ⟨rfl, below_then HB1.out HB.out⟩
  have d3 : decide ((n : Int) > 60) = false := by simpa using h3
  have hn1 : n ≤ 1000000 := by omega
  have hm1 : a2 ≤ 1000 := by omega
  obtain ⟨W, hW⟩ : ∃ W, W = walkQ L ⟨hd, zs⟩ a2.toNat hd := ⟨_, rfl⟩
  have hWl : W.length ≤ 1000000 := by
    have key : ∀ (f : Nat) (p : Int), (walkQ L ⟨hd, zs⟩ f p).length ≤ f := by
      intro f
      induction f with
      | zero => intro p; simp [walkQ]
      | succ f ih => intro p; unfold walkQ; split
                     · have := ih (atOf zs (low (L.getD p.toNat 0))); simp only [List.length_cons]; omega
                     · simp
    have := key a2.toNat hd
    rw [hW]; omega
  have HW := Lib.hid hW.symm; have HWl := Lib.hid hWl
  clear hlen hn hW hWl
  go_enter Try.func4, Try.ntmps4
  go_wp2_with (first
    | (go_at_call 8; (with_reducible refine (awake_any _).mono ?_); rintro r w3 ⟨rfl, hb⟩; rw [← HW1.out] at hb; have HB := Lib.hid hb; obtain ⟨c0, c1⟩ := HKC.out _ hb; clear hb)
    | fail)
  have H1 := Lib.hid HB.out.drew
  have HZ : Hid (∀ w', Below w1.heap.size w1 w' → Below w.heap.size w w') := Lib.hid (fun w' h => below_then HB1.out h)
  have HR0 := Lib.hid (HK.out.below (HZ.out _ H1.out) (Nat.le_refl _))
  go_region_held3 (fun w' => w'.cell? ⟨w.heap.size, 0, none⟩ = some (.int .i64 hd) ∧ w'.cell? ⟨w.heap.size, 1, none⟩ = some (.slice A n cap))
    (first | with_reducible exact HKC.out _ H5.out | with_reducible exact HKC.out _ H4.out | with_reducible exact HKC.out _ H3.out | with_reducible exact HKC.out _ H2.out | with_reducible exact HKC.out _ H1.out | go_keep)
    (first
      | (go_at_call 9; (with_reducible refine (links_any A n cap 0 zs _ HN.out hn1 (Nat.zero_le _) (HR0.out.blk)).mono ?_); intro r w4 hk; obtain ⟨Bx, Ab, rfl, hl, hb⟩ := hk.lk; have H2 := Lib.hid (below_step H1.out H1.out.size hb); have HLk := Lib.hid hl; clear hk hl hb)
      | (go_at_call 26; (with_reducible refine (walk_any a0 len0 cap0 Bx Ab L ⟨hd, zs⟩ a2 _ HLen.out (HR.out.below (HZ.out _ H2.out) (Nat.le_refl _)) WW'.out HLk.out hm1).mono ?_); rintro r w5 ⟨v, rfl, hO⟩; rw [HW.out] at hO; obtain ⟨A1, c1', rfl, hr, _⟩ := hO.reads; have HR1 := Lib.hid hr; have H3 := Lib.hid (below_step H2.out H2.out.size hO.bel); clear hO hr)
      | (go_at_call 27; (with_reducible refine (refWalk_any a0 len0 cap0 L hd A n cap zs a2 _ HLen.out (HR.out.below (HZ.out _ H3.out) (Nat.le_refl _)) WW'.out HN.out (HK.out.below (HZ.out _ H3.out) (Nat.le_refl _)) hn1 hm1).mono ?_); rintro r w6 ⟨v, rfl, hO⟩; rw [HW.out] at hO; obtain ⟨A2, c2', rfl, hr, _⟩ := hO.reads; have HR2 := Lib.hid hr; have H34 := Lib.hid ((below_alloc0 (Below.refl _ _) _).trans (hO.bel.mono (Nat.le_succ _))); have H4 := Lib.hid (below_step H3.out H3.out.size H34.out); clear hO hr)
      | (go_at_call 25; (with_reducible refine (sameI_len A1 A2 c1' c2' W _ (HR1.out.below H34.out (Nat.le_refl _)) HR2.out HWl.out).mono ?_); rintro r w7 ⟨rfl, hb⟩; have H5 := Lib.hid (below_step H4.out H4.out.size hb); clear hb)
      | fail)
  go_wp2
  go_ret
  exact ⟨rfl, HZ.out _ H5.out⟩
end Go.Proofs.Ytgnnhjadmepipaa

/- The law of three that steal, walked. -/
import Derived.Test.YtjnenpflpckimaaThPure
import Derived.Test.YtjnenpflpckimaaRoundLaw
namespace Go.Proofs.Ytjnenpflpckimaa
open Go.RowKit
set_option linter.unusedVariables false
set_option linter.unusedSimpArgs false
attribute [local irreducible] runs

theorem reads_lit10 (w : World) (o : Obj) : Reads .u64 ((w.alloc o).alloc (.cells #[.int .u64 0, .int .u64 0, .int .u64 0, .int .u64 0, .int .u64 0, .int .u64 0, .int .u64 0, .int .u64 0, .int .u64 0, .int .u64 0] 29)) (some ⟨w.heap.size + 1, 0, none⟩) [0, 0, 0, 0, 0, 0, 0, 0, 0, 0] := by
  have h := (row_new (w.alloc o) [0, 0, 0, 0, 0, 0, 0, 0, 0, 0]).reads
  have e : (w.alloc o).heap.size = w.heap.size + 1 := by simp
  rw [e] at h
  exact h
section
variable {S D E M : Nat} {w wr w' : World} {i k : Int}
theorem P8.start (h : Ok w.heap.size S D E w wr e8 [0, 0, 0, 0, 0, 0, 0, 0, 0, 0] 0) : P8 S D E w wr 0 0 := ⟨_, Pd.start, nn_lit _ rfl, h⟩
theorem P8.cells (h : P8 S D E w wr i k) : wr.cell? ⟨E, 0, none⟩ = some (.int .i64 0) ∧ wr.cell? ⟨E, 1, none⟩ = some (.int .i64 1) ∧ wr.cell? ⟨E, 2, none⟩ = some (.int .i64 2) ∧ wr.cell? ⟨E, 3, none⟩ = some (.int .i64 8) := by
  obtain ⟨L, _, _, h⟩ := h.ex; exact h.cells
theorem P8.bel (h : P8 S D E w wr i k) : Below w.heap.size w wr := by obtain ⟨L, _, _, h⟩ := h.ex; exact h.bel
/-- A push is begun. -/
structure P9 (S D E M : Nat) (w wr : World) (i k : Int) : Prop where
  ex : ∃ L, Pd i L ∧ NN L ∧ Ok w.heap.size S D E w wr e8 L k
  m : MM wr M (mPush e8 (i + 1))
  l : S < M ∧ D < M
theorem P8.begin (h : P8 S D E w wr i k) (hM : wr.heap.size ≤ M) (hm : MM w' M (mPush e8 (i + 1))) (hb : Below wr.heap.size wr w') : P9 S D E M w w' i k := by
  obtain ⟨L, p, nn, ok⟩ := h.ex
  exact ⟨⟨L, p, nn, ok.step hb⟩, hm, ok.new hM⟩
theorem P9.whole (h : P9 S D E M w wr i k) (hk : k ≤ 900000000) (h0 : 0 ≤ i) (h8 : i < 8) :
    Calls Try.prog 10 #[ptr M, ptr S] wr fun a w' => ∃ o x, a = .returned (.tuple #[.int .i64 o, .int .u64 x]) ∧ P8 S D E w w' (i + 1) (k + 8) := by
  obtain ⟨L, p, nn, ok⟩ := h.ex
  have ws := ws_push nn e8_ok (v := i + 1) (by omega)
  refine (whole_ok ok h.m h.l.1 h.l.2 ws hk).mono ?_
  rintro a w1 ⟨rfl, o, u⟩
  exact ⟨_, _, rfl, _, p.push h8, (ws.runs 8).nn, o⟩
/-- Machines that are made: all apart. -/
structure Mk (S D E : Nat) (w wr : World) (i k : Int) (Ms : List Nat) : Prop where
  p : P8 S D E w wr i k
  mm : ∀ M ∈ Ms, MM wr M (mSteal e8)
  lo : ∀ M ∈ Ms, S < M ∧ D < M
  nd : Ms.Nodup
theorem P8.step (h : P8 S D E w wr i k) (hb : Below wr.heap.size wr w') : P8 S D E w w' i k := by
  obtain ⟨L, p, nn, ok⟩ := h.ex
  exact ⟨L, p, nn, ok.step hb⟩
theorem P8.none (h : P8 S D E w wr i k) : Mk S D E w wr i k [] := ⟨h, by simp, by simp, by simp⟩
theorem Mk.step {Ms : List Nat} (h : Mk S D E w wr i k Ms) (hb : Below wr.heap.size wr w') : Mk S D E w w' i k Ms := ⟨h.p.step hb, fun M hM => (h.mm M hM).below hb, h.lo, h.nd⟩
theorem Mk.add {Ms : List Nat} (h : Mk S D E w wr i k Ms) (hM : wr.heap.size ≤ M) (hm : MM w' M (mSteal e8)) (hb : Below wr.heap.size wr w') : Mk S D E w w' i k (M :: Ms) := by
  obtain ⟨L, p, nn, ok⟩ := h.p.ex
  have := ok.new hM
  refine ⟨h.p.step hb, fun K hK => ?_, fun K hK => ?_, List.nodup_cons.2 ⟨fun hin => ?_, h.nd⟩⟩
  · rcases List.mem_cons.1 hK with rfl | hK
    · exact hm
    · exact (h.mm K hK).below hb
  · rcases List.mem_cons.1 hK with rfl | hK
    · exact this
    · exact h.lo K hK
  · have := (h.mm M hin).lt; omega
theorem Mk.cells {Ms : List Nat} (h : Mk S D E w wr i k Ms) : wr.cell? ⟨E, 0, none⟩ = some (.int .i64 0) ∧ wr.cell? ⟨E, 1, none⟩ = some (.int .i64 1) ∧ wr.cell? ⟨E, 2, none⟩ = some (.int .i64 2) ∧ wr.cell? ⟨E, 3, none⟩ = some (.int .i64 8) := h.p.cells
/-- Three are made, and their row. -/
theorem Mk.three {A B C : Nat} {kk : Int} {Ms : List Nat} (h : Mk S D E w wr kk k Ms) (h7 : kk ≤ 7) (hA : A ∈ Ms) (hB : B ∈ Ms) (hC : C ∈ Ms) (n : A ≠ B ∧ A ≠ C ∧ B ≠ C) :
    ∃ L a b c, TL wr.heap.size A B C S D E w (wr.alloc (.cells #[ptr A, ptr B, ptr C] 32)) kk 0 L 0 k a b c ∧ R3 (wr.alloc (.cells #[ptr A, ptr B, ptr C] 32)) wr.heap.size A B C := by
  obtain ⟨L, p, nn, ok⟩ := h.p.ex
  have hb := below_al wr (.cells #[ptr A, ptr B, ptr C] 32)
  have l := ok.ltS
  have ws := ws_steal nn e8_ok
  have la := (h.mm A hA).lt; have lb := (h.mm B hB).lt; have lc := (h.mm C hC).lt
  exact ⟨L, _, _, _, ⟨⟨ok.step hb, (h.mm A hA).below hb, (h.mm B hB).below hb, (h.mm C hC).below hb, ws, ws, ws, h.lo A hA, h.lo B hB, h.lo C hC, l, by simp, n, by omega⟩, p.thieves h7⟩, box_new ..⟩
end

set_option maxHeartbeats 16000000 in
set_option maxRecDepth 100000 in
theorem walkThieves (a : Int) (A : Option Addr) (n cap : Nat) (zs : List Int) (w : World) (wa : (Lit.int .u8 a).wf = true) (hz : IsRow .u8 w A n cap zs) :
    Calls Try.prog 6 #[.int .u8 a, .slice A n cap] w fun e w' => e = .returned (.bool true) ∧ Below w.heap.size w w' := by
  obtain ⟨hr, hrl, _, _, _, hwf⟩ := reads_row hz
  clear hz
  obtain ⟨Z, hZ⟩ : ∃ Z, Z = zs.take n := ⟨_, rfl⟩
  rw [← hZ] at hr hrl hwf
  have ha : 0 ≤ a ∧ a ≤ 255 := by simp [Lit.wf, IntKind.min, IntKind.max, IntKind.bits, IntKind.signed] at wa; omega
  obtain ⟨K, hK1, hK2, hK7⟩ : ∃ K : Nat, a.tmod 8 = (K : Int) ∧ a % 8 = (K : Int) ∧ K ≤ 7 := ⟨(a % 8).toNat, by rw [Int.tmod_eq_emod_of_nonneg ha.1]; omega, by omega, by omega⟩
  have HR := Lib.hid hr; have HL := Lib.hid hrl; have HW := Lib.hid hwf
  clear hr hwf hZ wa
  by_cases h400 : 400 < n
  · have h400' : (400 : Int) < (n : Int) := by omega
    clear hrl
    go_enter Try.func6, Try.ntmps6
    go_wp2_with (first
      | (go_at_call 8; (with_reducible refine (awake_any _).mono ?_); rintro r w1 ⟨rfl, hb⟩)
      | fail)
    go_ret
    exact ⟨rfl, hb⟩
  have h400' : ¬ (400 : Int) < (n : Int) := by omega
  have hmk : ∀ w : World, (Instr.makeSlice 28 (.int .i64 10) (.int .i64 10)).run Try.prog w = .ok (.slice (some ⟨w.heap.size, 0, none⟩) 10 10) (w.alloc (.cells (([0, 0, 0, 0, 0, 0, 0, 0, 0, 0] : List Int).map (Value.int .u64)).toArray 29)) := fun w => make_words 10 w (by omega)
  clear hrl h400
  go_enter Try.func6, Try.ntmps6
  go_wp2_with (first
    | (go_at_call 8; (with_reducible refine (awake_any _).mono ?_); rintro r w1 ⟨rfl, hb⟩; have HX := Lib.hid (box_kept (box_new w1 #[.int .i64 0, .int .i64 1, .int .i64 2, .int .i64 8] 25) (below_al _ (.cells #[.int .u64 0, .int .u64 0, .int .u64 0, .int .u64 0, .int .u64 0, .int .u64 0, .int .u64 0, .int .u64 0, .int .u64 0, .int .u64 0] 29))); have HK := Lib.hid (reads_lit10 w1 (.cells #[.int .i64 0, .int .i64 1, .int .i64 2, .int .i64 8] 25)); have HB2 := Lib.hid (below_alloc0 (below_alloc0 hb (.cells #[.int .i64 0, .int .i64 1, .int .i64 2, .int .i64 8] 25)) (.cells #[.int .u64 0, .int .u64 0, .int .u64 0, .int .u64 0, .int .u64 0, .int .u64 0, .int .u64 0, .int .u64 0, .int .u64 0, .int .u64 0] 29)); clear hb)
    | (go_at_call 9; (with_reducible refine (new_any _ 10 10 [0, 0, 0, 0, 0, 0, 0, 0, 0, 0] _ rfl HK.out (by decide)).mono ?_); intro a w2 hk; have hz : ∃ S D, a = .returned (ptr S) ∧ Ok w.heap.size S D w1.heap.size w w2 e8 [0, 0, 0, 0, 0, 0, 0, 0, 0, 0] 0 := Ok.start (e := e8) HB2.out (Nat.le_refl _) HX.out hk; clear hk; obtain ⟨S, D, rfl, hk⟩ := hz; have HP := Lib.hid (P8.start hk); clear hk)
    | fail)
  clear HX HK HB2
  go_loopw [9] (fun i wr => ∃ j : Nat, j ≤ K ∧ i = .int .i64 (j : Int) ∧ P8 S D w1.heap.size w wr j (8 * j)) (fun i _ => K - (intOf i).toNat)
  case atStart => exact ⟨0, Nat.zero_le _, rfl, HP.out⟩
  case round =>
    clear HP
    obtain ⟨j, hj, rfl, hp⟩ := hrel
    by_cases hlt : j < K
    · have HP := Lib.hid hp
      obtain ⟨x0, x1, x2, x3⟩ := hp.cells
      have hj0 : (0 : Int) ≤ (j : Int) := by omega
      have hj1 : (j : Int) < (K : Int) := by omega
      have hj2 : (j : Int) < 8 := by omega
      clear hp hlt
      go_wp2_with (first
        | (go_at_call 11; (with_reducible refine (push_any e8 ((j : Int) + 1) _).mono ?_); intro a w4 hk; obtain ⟨M, rfl, hM, hm, hb⟩ := hk; have HN := Lib.hid (HP.out.begin hM hm hb); clear hM hm hb)
        | (go_at_call 10; (with_reducible refine (P9.whole HN.out (by omega) hj0 hj2).mono ?_); rintro a w5 ⟨o, x, rfl, hp⟩; have HP := Lib.hid hp; clear hp)
        | fail)
      go_roundw
      case rel => exact ⟨j + 1, by omega, by go_num, by have e : (8 * ((j + 1 : Nat) : Int)) = 8 * (j : Int) + 8 := by omega
                                                        rw [e]; exact HP.out⟩
      case measure => simp [intOf]; omega
    · obtain rfl : j = K := by omega
      obtain ⟨x0, x1, x2, x3⟩ := hp.cells
      skip
      have HQD := Lib.hid (hp.none.step ((Below.refl wr.heap.size wr).drew))
      clear hp hlt
      go_wp2
      go_region_held3 (fun w' => w'.cell? ⟨w1.heap.size, 0, none⟩ = some (.int .i64 0) ∧ w'.cell? ⟨w1.heap.size, 1, none⟩ = some (.int .i64 1) ∧ w'.cell? ⟨w1.heap.size, 2, none⟩ = some (.int .i64 2) ∧ w'.cell? ⟨w1.heap.size, 3, none⟩ = some (.int .i64 8))
        (first | exact HQ3.out.cells | exact HQ2.out.cells | exact HQ1.out.cells | exact HQD.out.cells | go_keep)
        (first
          | (go_at_call 13; (with_reducible refine (steal_any e8 _).mono ?_); intro a w4 hk; obtain ⟨M3, rfl, hM, hm, hb⟩ := hk; have HQ3 := Lib.hid (HQ2.out.add hM hm hb); clear hM hm hb)
          | (go_at_call 13; (with_reducible refine (steal_any e8 _).mono ?_); intro a w4 hk; obtain ⟨M2, rfl, hM, hm, hb⟩ := hk; have HQ2 := Lib.hid (HQ1.out.add hM hm hb); clear hM hm hb)
          | (go_at_call 13; (with_reducible refine (steal_any e8 _).mono ?_); intro a w4 hk; obtain ⟨M1, rfl, hM, hm, hb⟩ := hk; have HQ1 := Lib.hid (HQD.out.add hM hm hb); clear hM hm hb)
          | fail)
      have hnd := HQ3.out.nd
      simp only [List.nodup_cons, List.mem_cons, List.not_mem_nil, or_false, not_or] at hnd
      obtain ⟨L, m1, m2, m3, htl, hr3⟩ := HQ3.out.three (A := M1) (B := M2) (C := M3) (by omega) (by simp) (by simp) (by simp) ⟨Ne.symm hnd.2.1, Ne.symm hnd.1.2, Ne.symm hnd.1.1⟩
      obtain ⟨V, hV⟩ : ∃ V, V = w4.heap.size := ⟨_, rfl⟩
      obtain ⟨W, hW⟩ : ∃ W, W = w4.alloc (.cells #[ptr M1, ptr M2, ptr M3] 32) := ⟨_, rfl⟩
      rw [← hW, ← hV] at htl hr3
      rw [← hW, ← hV]
      have HT := Lib.hid htl; have HV := Lib.hid hr3
      clear htl hr3 hW hV hnd HQ1 HQ2 HQ3 HQD x0 x1 x2 x3
      have h8 : (8 * (j : Int)) ≤ 100 := by omega
      go_wp2
      go_loopw [11, 12] (fun nx i wr => ∃ q : Nat, q ≤ n + 200 ∧ i = .int .i64 (q : Int) ∧ ∃ X1 X2 X3 L T a b c, nx = .int .u64 (T + 1) ∧ R3 wr V X1 X2 X3 ∧ TL V X1 X2 X3 S D w1.heap.size w wr (j : Int) (q : Int) L T (100 + q) a b c) (fun _ i _ => n + 200 - (intOf i).toNat)
      case atStart => exact ⟨0, Nat.zero_le _, rfl, _, _, _, _, 0, _, _, _, rfl, HV.out, HT.out.more (by omega)⟩
      case round =>
        clear HT HV
        obtain ⟨q, hq, rfl, X1, X2, X3, L, T, a1, b1, c1, rfl, hv, ht⟩ := hrel
        have hT0 := ht.v.t0
        have hT1 := ht.v.tk
        have hj7 : (j : Int) ≤ 7 := by omega
        by_cases hlt : q < n + 200
        · have hq0 : (0 : Int) ≤ (q : Int) := by omega
          have hq1 : (q : Int) < (n : Int) + 200 := by omega
          have hq2 : (q : Int) ≤ 1000 := by omega
          have hmod : ∃ y : Int, (q : Int).tmod 3 = y ∧ (q : Int) % 3 = y ∧ (y = 0 ∨ y = 1 ∨ y = 2) := ⟨(q : Int) % 3, by rw [Int.tmod_eq_emod_of_nonneg hq0], rfl, by omega⟩
          obtain ⟨x0, x1, x2, x3⟩ := ht.t.ok.cells
          obtain ⟨v0, v1, v2⟩ := hv.cells
          have HV := Lib.hid hv
          have hbel := ht.t.ok.bel
          have HT := Lib.hid ht
          have E100 := Lib.hid (show (100 + ((q + 1 : Nat) : Int)) = 100 + (q : Int) + 1 by omega)
          clear ht hv hlt
          by_cases hqn : q < n
          · obtain ⟨b, off, rfl, hbl, hc⟩ := HR.out (by have := HL.out; omega)
            have c1' := hc q (by have := HL.out; omega)
            have c2 := (hbel.cell (p := ⟨b, off + q, none⟩) hbl).trans c1'
            obtain ⟨z, hz⟩ : ∃ z, z = Z.getD q 0 := ⟨_, rfl⟩
            rw [← hz] at c2
            have hzw : 0 ≤ z ∧ z ≤ 255 := by
              have hkz : q < Z.length := by have := HL.out; omega
              have := HW.out z (by rw [hz, List.getD, List.getElem?_eq_getElem hkz]; exact List.getElem_mem hkz)
              simp [Lit.wf, IntKind.min, IntKind.max, IntKind.bits, IntKind.signed] at this; omega
            have hmod2 : ∃ y : Int, z.tmod 3 = y ∧ z % 3 = y ∧ (y = 0 ∨ y = 1 ∨ y = 2) := ⟨z % 3, by rw [Int.tmod_eq_emod_of_nonneg hzw.1], rfl, by omega⟩
            obtain ⟨y, hy, hy2, hy3⟩ := hmod2
            obtain ⟨y', hy', hy2', _⟩ := hmod
            have hqn' : (q : Int) < (n : Int) := by omega
            clear hz hc c1' hbel hbl hzw hqn
            rcases hy3 with rfl | rfl | rfl
            · have HS := Lib.hid HT.out
              clear HT
              go_wp2_with (first
                | (go_at_call 14; (with_reducible refine (tl_step HS.out (by omega)).mono ?_); rintro r w5 ⟨B0, rfl, ev, hv⟩; have hvv := HV.out.same hv; obtain ⟨v0, v1, v2⟩ := hvv.cells; have fv := hvv.fro 0; have HV := Lib.hid hvv; clear hv hvv; rcases ev with ⟨L', a', h⟩ | ⟨L', a', o', x', ho, h⟩ | ⟨L', a', hT', h⟩ <;> have HF := Lib.hid h <;> clear h)
                | (go_at_call 15; (with_reducible refine (res_any _ HF.out.t.ma).mono ?_); rintro r w6 ⟨rfl, hb⟩; rw [HF.out.r.1, HF.out.r.2]; have HF := Lib.hid (HF.out.step hb); have hvv := HV.out.below hb; have HV := Lib.hid hvv; obtain ⟨x0, x1, x2, x3⟩ := HF.out.t.ok.cells; clear hb hvv)
                | (go_at_call 13; (with_reducible refine (steal_any e8 _).mono ?_); intro r w7 hk; obtain ⟨M, rfl, hM, hm, hb⟩ := hk; have HN := Lib.hid ((HF.out.fresh hM hm hb).put 0 (ptr M)); have hvv := HV.out.below hb; obtain ⟨v0, v1, v2⟩ := hvv.cells; have fv := hvv.fro 0; have HV := Lib.hid (hvv.p0 (M := M)); clear hM hm hb hvv)
                | fail)
              all_goals go_roundw
              all_goals first
                | exact ⟨q + 1, by omega, by go_num, _, _, _, _, T, _, _, _, rfl, HV.out, by rw [E100.out]; exact HF.out⟩
                | exact ⟨q + 1, by omega, by go_num, _, _, _, _, T, _, _, _, rfl, HV.out, by rw [E100.out]; exact HN.out⟩
                | exact ⟨q + 1, by omega, by go_num, _, _, _, _, T + 1, _, _, _, by go_num, HV.out, by rw [E100.out]; exact HN.out⟩
                | (simp [intOf]; omega)
            · have HS := Lib.hid HT.out.swap1
              clear HT
              go_wp2_with (first
                | (go_at_call 14; (with_reducible refine (tl_step HS.out (by omega)).mono ?_); rintro r w5 ⟨B0, rfl, ev, hv⟩; have hvv := HV.out.same hv; obtain ⟨v0, v1, v2⟩ := hvv.cells; have fv := hvv.fro 1; have HV := Lib.hid hvv; clear hv hvv; rcases ev with ⟨L', a', h⟩ | ⟨L', a', o', x', ho, h⟩ | ⟨L', a', hT', h⟩ <;> have HF := Lib.hid h <;> clear h)
                | (go_at_call 15; (with_reducible refine (res_any _ HF.out.t.ma).mono ?_); rintro r w6 ⟨rfl, hb⟩; rw [HF.out.r.1, HF.out.r.2]; have HF := Lib.hid (HF.out.step hb); have hvv := HV.out.below hb; have HV := Lib.hid hvv; obtain ⟨x0, x1, x2, x3⟩ := HF.out.t.ok.cells; clear hb hvv)
                | (go_at_call 13; (with_reducible refine (steal_any e8 _).mono ?_); intro r w7 hk; obtain ⟨M, rfl, hM, hm, hb⟩ := hk; have HN := Lib.hid ((HF.out.fresh hM hm hb).put 1 (ptr M)); have hvv := HV.out.below hb; obtain ⟨v0, v1, v2⟩ := hvv.cells; have fv := hvv.fro 1; have HV := Lib.hid (hvv.p1 (M := M)); clear hM hm hb hvv)
                | fail)
              all_goals go_roundw
              all_goals first
                | exact ⟨q + 1, by omega, by go_num, _, _, _, _, T, _, _, _, rfl, HV.out, by rw [E100.out]; exact HF.out.swap1⟩
                | exact ⟨q + 1, by omega, by go_num, _, _, _, _, T, _, _, _, rfl, HV.out, by rw [E100.out]; exact HN.out.swap1⟩
                | exact ⟨q + 1, by omega, by go_num, _, _, _, _, T + 1, _, _, _, by go_num, HV.out, by rw [E100.out]; exact HN.out.swap1⟩
                | (simp [intOf]; omega)
            · have HS := Lib.hid HT.out.swap2
              clear HT
              go_wp2_with (first
                | (go_at_call 14; (with_reducible refine (tl_step HS.out (by omega)).mono ?_); rintro r w5 ⟨B0, rfl, ev, hv⟩; have hvv := HV.out.same hv; obtain ⟨v0, v1, v2⟩ := hvv.cells; have fv := hvv.fro 2; have HV := Lib.hid hvv; clear hv hvv; rcases ev with ⟨L', a', h⟩ | ⟨L', a', o', x', ho, h⟩ | ⟨L', a', hT', h⟩ <;> have HF := Lib.hid h <;> clear h)
                | (go_at_call 15; (with_reducible refine (res_any _ HF.out.t.ma).mono ?_); rintro r w6 ⟨rfl, hb⟩; rw [HF.out.r.1, HF.out.r.2]; have HF := Lib.hid (HF.out.step hb); have hvv := HV.out.below hb; have HV := Lib.hid hvv; obtain ⟨x0, x1, x2, x3⟩ := HF.out.t.ok.cells; clear hb hvv)
                | (go_at_call 13; (with_reducible refine (steal_any e8 _).mono ?_); intro r w7 hk; obtain ⟨M, rfl, hM, hm, hb⟩ := hk; have HN := Lib.hid ((HF.out.fresh hM hm hb).put 2 (ptr M)); have hvv := HV.out.below hb; obtain ⟨v0, v1, v2⟩ := hvv.cells; have fv := hvv.fro 2; have HV := Lib.hid (hvv.p2 (M := M)); clear hM hm hb hvv)
                | fail)
              all_goals go_roundw
              all_goals first
                | exact ⟨q + 1, by omega, by go_num, _, _, _, _, T, _, _, _, rfl, HV.out, by rw [E100.out]; exact HF.out.swap2⟩
                | exact ⟨q + 1, by omega, by go_num, _, _, _, _, T, _, _, _, rfl, HV.out, by rw [E100.out]; exact HN.out.swap2⟩
                | exact ⟨q + 1, by omega, by go_num, _, _, _, _, T + 1, _, _, _, by go_num, HV.out, by rw [E100.out]; exact HN.out.swap2⟩
                | (simp [intOf]; omega)
          · obtain ⟨y, hy, hy2, hy3⟩ := hmod
            have hqn' : ¬ (q : Int) < (n : Int) := by omega
            clear hqn hbel
            rcases hy3 with rfl | rfl | rfl
            · have HS := Lib.hid HT.out
              clear HT
              go_wp2_with (first
                | (go_at_call 14; (with_reducible refine (tl_step HS.out (by omega)).mono ?_); rintro r w5 ⟨B0, rfl, ev, hv⟩; have hvv := HV.out.same hv; obtain ⟨v0, v1, v2⟩ := hvv.cells; have fv := hvv.fro 0; have HV := Lib.hid hvv; clear hv hvv; rcases ev with ⟨L', a', h⟩ | ⟨L', a', o', x', ho, h⟩ | ⟨L', a', hT', h⟩ <;> have HF := Lib.hid h <;> clear h)
                | (go_at_call 15; (with_reducible refine (res_any _ HF.out.t.ma).mono ?_); rintro r w6 ⟨rfl, hb⟩; rw [HF.out.r.1, HF.out.r.2]; have HF := Lib.hid (HF.out.step hb); have hvv := HV.out.below hb; have HV := Lib.hid hvv; obtain ⟨x0, x1, x2, x3⟩ := HF.out.t.ok.cells; clear hb hvv)
                | (go_at_call 13; (with_reducible refine (steal_any e8 _).mono ?_); intro r w7 hk; obtain ⟨M, rfl, hM, hm, hb⟩ := hk; have HN := Lib.hid ((HF.out.fresh hM hm hb).put 0 (ptr M)); have hvv := HV.out.below hb; obtain ⟨v0, v1, v2⟩ := hvv.cells; have fv := hvv.fro 0; have HV := Lib.hid (hvv.p0 (M := M)); clear hM hm hb hvv)
                | fail)
              all_goals go_roundw
              all_goals first
                | exact ⟨q + 1, by omega, by go_num, _, _, _, _, T, _, _, _, rfl, HV.out, by rw [E100.out]; exact HF.out⟩
                | exact ⟨q + 1, by omega, by go_num, _, _, _, _, T, _, _, _, rfl, HV.out, by rw [E100.out]; exact HN.out⟩
                | exact ⟨q + 1, by omega, by go_num, _, _, _, _, T + 1, _, _, _, by go_num, HV.out, by rw [E100.out]; exact HN.out⟩
                | (simp [intOf]; omega)
            · have HS := Lib.hid HT.out.swap1
              clear HT
              go_wp2_with (first
                | (go_at_call 14; (with_reducible refine (tl_step HS.out (by omega)).mono ?_); rintro r w5 ⟨B0, rfl, ev, hv⟩; have hvv := HV.out.same hv; obtain ⟨v0, v1, v2⟩ := hvv.cells; have fv := hvv.fro 1; have HV := Lib.hid hvv; clear hv hvv; rcases ev with ⟨L', a', h⟩ | ⟨L', a', o', x', ho, h⟩ | ⟨L', a', hT', h⟩ <;> have HF := Lib.hid h <;> clear h)
                | (go_at_call 15; (with_reducible refine (res_any _ HF.out.t.ma).mono ?_); rintro r w6 ⟨rfl, hb⟩; rw [HF.out.r.1, HF.out.r.2]; have HF := Lib.hid (HF.out.step hb); have hvv := HV.out.below hb; have HV := Lib.hid hvv; obtain ⟨x0, x1, x2, x3⟩ := HF.out.t.ok.cells; clear hb hvv)
                | (go_at_call 13; (with_reducible refine (steal_any e8 _).mono ?_); intro r w7 hk; obtain ⟨M, rfl, hM, hm, hb⟩ := hk; have HN := Lib.hid ((HF.out.fresh hM hm hb).put 1 (ptr M)); have hvv := HV.out.below hb; obtain ⟨v0, v1, v2⟩ := hvv.cells; have fv := hvv.fro 1; have HV := Lib.hid (hvv.p1 (M := M)); clear hM hm hb hvv)
                | fail)
              all_goals go_roundw
              all_goals first
                | exact ⟨q + 1, by omega, by go_num, _, _, _, _, T, _, _, _, rfl, HV.out, by rw [E100.out]; exact HF.out.swap1⟩
                | exact ⟨q + 1, by omega, by go_num, _, _, _, _, T, _, _, _, rfl, HV.out, by rw [E100.out]; exact HN.out.swap1⟩
                | exact ⟨q + 1, by omega, by go_num, _, _, _, _, T + 1, _, _, _, by go_num, HV.out, by rw [E100.out]; exact HN.out.swap1⟩
                | (simp [intOf]; omega)
            · have HS := Lib.hid HT.out.swap2
              clear HT
              go_wp2_with (first
                | (go_at_call 14; (with_reducible refine (tl_step HS.out (by omega)).mono ?_); rintro r w5 ⟨B0, rfl, ev, hv⟩; have hvv := HV.out.same hv; obtain ⟨v0, v1, v2⟩ := hvv.cells; have fv := hvv.fro 2; have HV := Lib.hid hvv; clear hv hvv; rcases ev with ⟨L', a', h⟩ | ⟨L', a', o', x', ho, h⟩ | ⟨L', a', hT', h⟩ <;> have HF := Lib.hid h <;> clear h)
                | (go_at_call 15; (with_reducible refine (res_any _ HF.out.t.ma).mono ?_); rintro r w6 ⟨rfl, hb⟩; rw [HF.out.r.1, HF.out.r.2]; have HF := Lib.hid (HF.out.step hb); have hvv := HV.out.below hb; have HV := Lib.hid hvv; obtain ⟨x0, x1, x2, x3⟩ := HF.out.t.ok.cells; clear hb hvv)
                | (go_at_call 13; (with_reducible refine (steal_any e8 _).mono ?_); intro r w7 hk; obtain ⟨M, rfl, hM, hm, hb⟩ := hk; have HN := Lib.hid ((HF.out.fresh hM hm hb).put 2 (ptr M)); have hvv := HV.out.below hb; obtain ⟨v0, v1, v2⟩ := hvv.cells; have fv := hvv.fro 2; have HV := Lib.hid (hvv.p2 (M := M)); clear hM hm hb hvv)
                | fail)
              all_goals go_roundw
              all_goals first
                | exact ⟨q + 1, by omega, by go_num, _, _, _, _, T, _, _, _, rfl, HV.out, by rw [E100.out]; exact HF.out.swap2⟩
                | exact ⟨q + 1, by omega, by go_num, _, _, _, _, T, _, _, _, rfl, HV.out, by rw [E100.out]; exact HN.out.swap2⟩
                | exact ⟨q + 1, by omega, by go_num, _, _, _, _, T + 1, _, _, _, by go_num, HV.out, by rw [E100.out]; exact HN.out.swap2⟩
                | (simp [intOf]; omega)
        · obtain rfl : q = n + 200 := by omega
          obtain ⟨e1, e2, e3⟩ := ht.v.end (by omega)
          subst e1
          have E2 := Lib.hid e2; have E3 := Lib.hid e3
          have HO := Lib.hid ht.t.ok
          have hfin : ¬ ((n : Int) + 200 < (n : Int) + 200) := by omega
          have ew : IntKind.u64.wrap (j : Int) = (j : Int) := by rw [IntKind.wrap_u64]; omega
          clear ht hv e2 e3 hlt
          go_wp2_with (first
            | (go_at_call 20; (with_reducible refine (load_ok HO.out 0 (by omega)).mono ?_); rintro a w5 ⟨rfl, hk, _⟩; rw [E2.out]; have HO := Lib.hid hk; clear hk)
            | (go_at_call 20; (with_reducible refine (load_ok HO.out 1 (by omega)).mono ?_); rintro a w5 ⟨rfl, hk, _⟩; rw [E3.out]; have HO := Lib.hid hk; clear hk)
            | fail)
          go_ret
          exact ⟨rfl, HO.out.bel⟩
end Go.Proofs.Ytjnenpflpckimaa

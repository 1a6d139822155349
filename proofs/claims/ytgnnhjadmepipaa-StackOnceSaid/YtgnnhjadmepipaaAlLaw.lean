/- The law of a stack that is used by one alone, walked. -/
import Derived.Test.YtgnnhjadmepipaaAlSt
namespace Go.Proofs.Ytgnnhjadmepipaa
open Go.RowKit
set_option linter.unusedVariables false
set_option linter.unusedSimpArgs false
attribute [local irreducible] sruns

theorem make_words10 (w : World) : (Instr.makeSlice 22 (.int .i64 10) (.int .i64 10)).run Try.prog w = .ok (.slice (some ⟨w.heap.size, 0, none⟩) 10 10) (w.alloc (.cells ((List.replicate 10 (0 : Int)).map (Value.int .u64)).toArray 34)) := make_words 10 w (by decide)
theorem make_bools10 (w : World) : (Instr.makeSlice 60 (.int .i64 10) (.int .i64 10)).run Try.prog w = .ok (.slice (some ⟨w.heap.size, 0, none⟩) 10 10) (w.alloc (.cells ((List.replicate 10 false).map Value.bool).toArray 4)) := make_bools 10 w (by decide)
theorem stk_zero : Stk 9 (List.replicate 10 0) 0 [] := ⟨by simp, by omega, by omega, by omega, by simp, by simp, .nil, rfl⟩
theorem mem_cons_bool (x : Nat) (Q : List Int) : ∀ y : Nat, y < 10 → decide ((y : Int) ∈ (x : Int) :: Q) = if y = x then true else decide ((y : Int) ∈ Q) := fun y _ => by
  by_cases h : y = x
  · subst h; simp
  · rw [if_neg h]
    have : ¬ (y : Int) = (x : Int) := by omega
    simp [this]
theorem new_cell (w : World) (z : Int) : (w.alloc (.cells #[.int .i64 z] 3)).cell? ⟨w.heap.size, 0, none⟩ = some (.int .i64 z) := by
  rw [World.cell?_alloc_at _ _ _ _ rfl]; rfl
theorem new_cell_set (w : World) (B i : Nat) (v : Value) (z : Int) : ((w.setCell ⟨B, i, none⟩ v).alloc (.cells #[.int .i64 z] 3)).cell? ⟨w.heap.size, 0, none⟩ = some (.int .i64 z) := by
  have h := new_cell (w.setCell ⟨B, i, none⟩ v) z
  have e : (w.setCell ⟨B, i, none⟩ v).heap.size = w.heap.size := by simp
  rwa [e] at h
theorem mem_del_bool (x : Nat) (Q : List Int) (hx : (x : Int) ∉ Q) : ∀ y : Nat, y < 10 → decide ((y : Int) ∈ Q) = if y = x then false else decide ((y : Int) ∈ (x : Int) :: Q) := fun y _ => by
  by_cases h : y = x
  · subst h; simp [hx]
  · rw [if_neg h]
    have : ¬ (y : Int) = (x : Int) := by omega
    simp [this]
theorem rep_reads {w : World} {V : Array Value} (hV : V = ((List.replicate 10 (0 : Int)).map (Value.int .u64)).toArray) : Reads .u64 (w.alloc (.cells V 34)) (some ⟨w.heap.size, 0, none⟩) (List.replicate 10 0) := by
  subst hV; exact (row_new w _).reads
/-- The loop's beginning. -/
theorem AL.first {S D Bx Ab : Nat} {w wr : World} (h : Ok w.heap.size S D Bx Ab w wr (upto 9) (List.replicate 10 0) 0) :
    AL S D Bx Ab wr.heap.size w (wr.alloc (.cells ((List.replicate 10 false).map Value.bool).toArray 4)) 0 0 (List.replicate 10 0) [] [] [] (.slice none 0 0) none :=
  ⟨h.step (below_alloc0 (Below.refl _ _) _), stk_zero, by simp, ⟨_, br_new _ _, by simp, fun x hx => by simp only [List.getD, List.getElem?_replicate]; rw [if_pos hx]; simp⟩, h.new (Nat.le_refl _), ⟨rfl, rfl⟩, fun b e => by cases e⟩
/-- A list of numbers apart from both blocks. -/
def RdI (S D : Nat) (w : World) (A : Option Addr) (Q : List Int) : Prop :=
  0 < Q.length → ∃ b off, A = some ⟨b, off, none⟩ ∧ b < w.heap.size ∧ b ≠ S ∧ b ≠ D ∧ ∀ j, j < Q.length → w.cell? ⟨b, off + j, none⟩ = some (.int .i64 (Q.getD j 0))
theorem RdI.upd {S D : Nat} {w w' : World} {A : Option Addr} {Q : List Int} (h : RdI S D w A Q) (u : Upd S D w w') : RdI S D w' A Q := fun h0 => by
  obtain ⟨b, off, e, hl, n1, n2, hc⟩ := h h0
  exact ⟨b, off, e, Nat.lt_of_lt_of_le hl u.size, n1, n2, fun j hj => (World.cell?_of_block (w := w) (a := ⟨b, off + j, none⟩) (u.block b hl n1 n2)).trans (hc j hj)⟩
theorem RdI.reads {S D : Nat} {w : World} {A : Option Addr} {Q : List Int} (h : RdI S D w A Q) : Reads .i64 w A Q := fun h0 => by
  obtain ⟨b, off, e, hl, _, _, hc⟩ := h h0
  exact ⟨b, off, e, hl, hc⟩
/-- A walk tells the things. -/
theorem AL.walk {S D Bx Ab IN : Nat} {w wr : World} {k T : Int} {L Q Qb Ql : List Int} {v : Value} {o : Option Nat} (h : AL S D Bx Ab IN w wr k T L Q Qb Ql v o) {A : Option Addr} {n : Nat} (hn : n = L.length) (hr : Reads .u64 wr A L) (cap : Nat) :
    Calls Try.prog 26 #[.slice A n cap, .int .i64 0, lkV Bx, .int .i64 20] wr fun e w' => ∃ A1 c1, e = .returned (.slice A1 Q.length c1) ∧ RdI S D w' A1 Q ∧ AL S D Bx Ab IN w w' k T L Q Qb Ql v o := by
  have hq := nodup_le 9 Q h.stk.nd h.stk.rng
  refine (walkS A n cap Bx Ab 9 L 20 wr hn hr h.ok.ww h.ok.lk (by decide)).mono ?_
  rintro e w1 ⟨v1, rfl, hO⟩
  rw [walk_stk h.stk _ (show Q.length ≤ Int.toNat 20 by have : Int.toNat 20 = 20 := rfl; omega)] at hO
  obtain ⟨A1, c1, rfl, hb⟩ := hO.blk
  have hl := h.ok.ltS
  exact ⟨A1, c1, rfl, fun h0 => by obtain ⟨b, off, e, h1, h2, hc⟩ := hb h0; exact ⟨b, off, e, h2, by omega, by omega, hc⟩, h.step hO.bel⟩
theorem AL.all {S D Bx Ab IN : Nat} {w wr : World} {k T : Int} {L Q Qb Ql : List Int} {v : Value} {o : Option Nat} (h : AL S D Bx Ab IN w wr k T L Q Qb Ql v o) :
    Calls Try.prog 22 #[ptr S] wr fun e w' => ∃ A, e = .returned (.slice A L.length L.length) ∧ Reads .u64 w' A L ∧ AL S D Bx Ab IN w w' k T L Q Qb Ql v o := by
  have hl := h.stk.len
  refine (all_ok h.ok (by omega)).mono ?_
  rintro e w1 ⟨rfl, hr, _, hb⟩
  exact ⟨_, rfl, hr.reads, h.step hb⟩
theorem AL.turns {S D Bx Ab IN : Nat} {w wr : World} {k T : Int} {L Q Qb Ql : List Int} {v : Value} {o : Option Nat} (h : AL S D Bx Ab IN w wr k T L Q Qb Ql v o) (hk : k ≤ 800000000) :
    Calls Try.prog 30 #[ptr S, .int .i64 0] wr fun e w' => ∃ g, e = .returned (.int .u64 g) ∧ (0 ≤ g ∧ g ≤ 18446744073709551615 ∧ g / 4294967296 = T) ∧ AL S D Bx Ab IN w w' (k + 1) T L Q Qb Ql v o ∧ Upd S D wr w' := by
  refine (load_ok h.ok 0 (by omega)).mono ?_
  rintro e w1 ⟨rfl, ho, u⟩
  obtain ⟨bs, h1, h2, h3⟩ := h.br
  refine ⟨_, rfl, ?_, ⟨ho, h.stk, h.q8, ⟨bs, h1.same (u.block IN h1.lt h.ap.2.1 h.ap.2.2.1), h2, h3⟩, h.ap, h.l.same fun b e => u.block b (h.l.lt b e) (h.lo b e).1.2.1 (h.lo b e).1.2.2.1, h.lo⟩, u⟩
  have e0 := h.stk.ld0
  have hd := headD_rng h.stk.rng
  have t0 := h.stk.t0; have t1 := h.stk.t1
  rw [e0]
  omega
/-- Two lists that are told in turned orders. -/
theorem rev_cells {w : World} {A1 A2 : Option Addr} {Q : List Int} (h1 : Reads .i64 w A1 Q) (h2 : Reads .i64 w A2 Q.reverse) (j : Nat) (hj : j < Q.length) :
    ∃ b1 o1 b2 o2 x, A1 = some ⟨b1, o1, none⟩ ∧ A2 = some ⟨b2, o2, none⟩ ∧ w.cell? ⟨b1, o1 + j, none⟩ = some (.int .i64 x) ∧ w.cell? ⟨b2, o2 + (Q.length - 1 - j), none⟩ = some (.int .i64 x) := by
  obtain ⟨b1, o1, e1, _, c1⟩ := h1 (by omega)
  obtain ⟨b2, o2, e2, _, c2⟩ := h2 (by simp; omega)
  have c2' := c2 (Q.length - 1 - j) (by simp; omega)
  rw [getD_rev Q j hj] at c2'
  exact ⟨b1, o1, b2, o2, _, e1, e2, c1 j hj, c2'⟩

/-- The list's last one. -/
theorem AL.shape {S D Bx Ab IN : Nat} {w wr : World} {k T q : Int} {L Qs Qb Q : List Int} {v : Value} {o : Option Nat} (h : AL S D Bx Ab IN w wr k T L Qs Qb (q :: Q) v o) :
    ∃ b off c, v = .slice (some ⟨b, off, none⟩) (Q.length + 1) c ∧ Q.length + 1 ≤ c := by
  obtain ⟨b, rfl, hb⟩ := h.l.has (by simp)
  obtain ⟨off, cap, hv, hc, _⟩ := hb.has (by simp)
  exact ⟨b, off, cap, by rw [hv]; simp, by simpa using hc⟩
theorem AL.lastIs {S D Bx Ab IN : Nat} {w wr : World} {k T q : Int} {L Qs Qb Q : List Int} {b off N c : Nat} {o : Option Nat} (h : AL S D Bx Ab IN w wr k T L Qs Qb (q :: Q) (.slice (some ⟨b, off, none⟩) (N + 1) c) o) (hN : N = Q.length) :
    wr.cell? ⟨b, off + N, none⟩ = some (.int .i64 q) ∧ AL S D Bx Ab IN w wr k T L Qs Qb Q (.slice (some ⟨b, off, none⟩) N c) o := by
  subst hN
  obtain ⟨b', rfl, hb⟩ := h.l.has (by simp)
  obtain ⟨off', cap, hv, hc, _, hcell, hd, _⟩ := hb.has (by simp)
  rw [List.length_reverse, List.length_cons] at hv
  cases hv
  refine ⟨?_, h.ok, h.stk, h.q8, h.br, h.ap, ?_, h.lo⟩
  · rw [hcell Q.length (by simp)]
    simp [List.getD]
  · have e : (q :: Q).reverse.dropLast = Q.reverse := by simp
    rw [e] at hd
    show QB b wr _ _
    simpa using hd
theorem AL.nilIs {S D Bx Ab IN : Nat} {w wr : World} {k T : Int} {L Qs Qb : List Int} {v : Value} {o : Option Nat} (h : AL S D Bx Ab IN w wr k T L Qs Qb [] v o) : ∃ A c, v = .slice A 0 c := by
  obtain ⟨A, c, hv⟩ := h.l.len; exact ⟨A, c, by simpa using hv⟩
theorem AL.listIs {S D Bx Ab IN : Nat} {w wr : World} {k T : Int} {L Qs Qb Q : List Int} {v : Value} {o : Option Nat} (h : AL S D Bx Ab IN w wr k T L Qs Qb Q v o) : ∃ A c, v = .slice A Q.length c := by
  obtain ⟨A, c, hv⟩ := h.l.len; exact ⟨A, c, by simpa using hv⟩
/-- At one world: two lists that are told in turned orders. -/
theorem AL.two {S D Bx Ab IN N c2 : Nat} {w wr : World} {k T : Int} {L Qs Qb Q : List Int} {A1 A2 : Option Addr} {o : Option Nat} (h : AL S D Bx Ab IN w wr k T L Qs Qb Q (.slice A2 N c2) o) (h1 : Reads .i64 wr A1 Q) (j : Nat) (hj : j < Q.length) :
    ∃ b1 o1 b2 o2 x, A1 = some ⟨b1, o1, none⟩ ∧ A2 = some ⟨b2, o2, none⟩ ∧ wr.cell? ⟨b1, o1 + j, none⟩ = some (.int .i64 x) ∧ wr.cell? ⟨b2, o2 + (Q.length - 1 - j), none⟩ = some (.int .i64 x) := by
  obtain ⟨A, c, hv, hr⟩ := h.l.reads
  cases hv
  exact rev_cells h1 hr j hj

set_option maxRecDepth 100000 in
set_option maxHeartbeats 16000000 in
theorem walkAlone (a0 : Option Addr) (len0 cap0 : Nat) (z0 : List Int) (w : World) (h0 : IsRow .u8 w a0 len0 cap0 z0) :
    Calls Try.prog 5 #[.slice a0 len0 cap0] w fun e w' => e = .returned (.bool true) ∧ Below w.heap.size w w' := by
  obtain ⟨hR, hlen, _, _, _, hwf⟩ := reads_row h0
  obtain ⟨Z, hZ⟩ : ∃ Z, Z = z0.take len0 := ⟨_, rfl⟩
  rw [← hZ] at hR hlen hwf
  clear h0 hZ
  have HR := Lib.hid hR; have HLen := Lib.hid hlen.symm; have HWF := Lib.hid hwf
  clear hR hlen hwf
  have hmk := fun w => make_words10 w
  have hmb := fun w => make_bools10 w
  obtain ⟨V0, hV0⟩ : ∃ V0, V0 = ((List.replicate 10 (0 : Int)).map (Value.int .u64)).toArray := ⟨_, rfl⟩
  obtain ⟨V1, hV1⟩ : ∃ V1, V1 = ((List.replicate 10 false).map Value.bool).toArray := ⟨_, rfl⟩
  rw [← hV0] at hmk
  rw [← hV1] at hmb
  have HV0 := Lib.hid hV0; have HV1 := Lib.hid hV1
  clear hV0 hV1
  by_cases hbig : (len0 : Int) > 100
  · have d1 : decide ((len0 : Int) > 100) = true := by simpa using hbig
    go_enter Try.func5, Try.ntmps5
    go_wp2_with (first
      | (go_at_call 8; (with_reducible refine (awake_any _).mono ?_); rintro r w1 ⟨rfl, hb⟩; have HB := Lib.hid hb; clear hb)
      | fail)
    go_ret
    exact ⟨rfl, HB.out⟩
  have d1 : decide ((len0 : Int) > 100) = false := by simpa using hbig
  go_enter Try.func5, Try.ntmps5
  go_wp2_with (first
    | (go_at_call 8; (with_reducible refine (awake_any _).mono ?_); rintro r w1 ⟨rfl, hb⟩; have HB := Lib.hid hb; clear hb)
    | (go_at_call 28; (with_reducible refine (rowS 9 9 _ (by decide) (by decide)).mono ?_); rintro a w2 ⟨v, rfl, hO⟩; obtain ⟨A, cap, rfl, hl, hsz, hb, hcells⟩ := upto_blk hO (by decide); have HB2 := Lib.hid (below_then HB.out hb); have HL := Lib.hid hl; have HSZ := Lib.hid hsz; have HC := Lib.hid hcells; clear hO hl hb hcells)
    | (go_at_call 9; (with_reducible refine (linksS (by decide) HL.out HSZ.out HC.out).mono ?_); intro a w3 hk; obtain ⟨Bx, Ab, rfl, hk2, hb⟩ := hk.lk; have HLk := Lib.hid hk2; have HB3 := Lib.hid (below_then HB2.out hb); clear hk hk2 hb)
    | (go_at_call 14; (with_reducible refine (new_any _ 10 10 (List.replicate 10 0) _ (by decide) (rep_reads HV0.out) (by decide)).mono ?_); intro a w4 hk; obtain ⟨S, D, rfl, hk2, _, _⟩ := Ok.start (below_then HB3.out (below_alloc0 (Below.refl _ _) (.cells V0 34))) (Nat.le_refl _) (HLk.out.below (below_alloc0 (Below.refl _ _) (.cells V0 34))) (ww_lit _ rfl) hk; have HK := Lib.hid hk2; clear hk hk2)
    | fail)
  have hal := AL.first HK.out
  rw [← HV1.out] at hal
  obtain ⟨IN, hIN⟩ : ∃ IN, IN = w4.heap.size := ⟨_, rfl⟩
  rw [← hIN] at hal ⊢
  have HF0 := Lib.hid hal
  clear hal hIN
  go_loopw [6, 8, 9] (fun v t i wr => ∃ (n : Nat) (L Q : List Int) (T k : Int) (o : Option Nat), n ≤ len0 ∧ i = .int .i64 n ∧ t = .int .u64 T ∧ T ≤ n ∧ k ≤ 10 * n ∧ AL S D Bx Ab IN w wr k T L Q Q Q v o) (fun _ _ i _ => len0 - (intOf i).toNat)
  case atStart => exact ⟨0, _, [], 0, 0, none, Nat.zero_le _, rfl, rfl, Int.le_refl _, Int.le_refl _, HF0.out⟩
  case round =>
    obtain ⟨n, L, Q, T, k, o, hn, rfl, rfl, hT, hk, hal⟩ := hrel
    by_cases hlt : n < len0
    · obtain ⟨b, off, rfl, hbl, hc⟩ := HR.out (by have := HLen.out; omega)
      have c1 := (hal.bel.cell (p := ⟨b, off + n, none⟩) hbl).trans (hc n (by have := HLen.out; omega))
      obtain ⟨a, ha⟩ : ∃ a, a = Z.getD n 0 := ⟨_, rfl⟩
      have hab : 0 ≤ a ∧ a ≤ 255 := by
        have hl := HLen.out
        have := HWF.out a (by rw [ha, List.getD, List.getElem?_eq_getElem (by omega)]; exact List.getElem_mem (by omega))
        simp [Lit.wf, IntKind.min, IntKind.max, IntKind.bits, IntKind.signed] at this
        omega
      rw [← ha] at c1
      obtain ⟨a0', a1'⟩ := hab
      obtain ⟨x, hx⟩ : ∃ x : Nat, a % 8 + 1 = (x : Int) := ⟨(a % 8 + 1).toNat, by omega⟩
      have hx0 : 1 ≤ (x : Int) := by omega
      have hx1 : (x : Int) ≤ 8 := by omega
      have hx10 : x < 10 := by omega
      have hn0 : (0 : Int) ≤ (n : Int) := by omega
      have hn1 : (n : Int) < (len0 : Int) := by omega
      have hT0 := hal.stk.t0
      have hT1 : T ≤ 200 := by omega
      have hk8 : k + 4 ≤ 800000000 := by omega
      have hk7 : k ≤ 800000000 := by omega
      have hT9 : T + 1 < 100000 := by omega
      have EK := Lib.hid hk; have ET := Lib.hid hT; have EN := Lib.hid hn
      have hq9 := nodup_le 9 Q hal.stk.nd hal.stk.rng
      obtain ⟨Av, cv, hv⟩ := hal.listIs
      obtain ⟨NQ, hNQ⟩ : ∃ NQ, NQ = Q.length := ⟨_, rfl⟩
      rw [← hNQ] at hv
      subst hv
      have HNQ := Lib.hid hNQ
      have HA0 := Lib.hid hal
      clear hc ha hk hT hn hlt hNQ hal
      by_cases hA : a < 128 ∧ (x : Int) ∉ Q
      · have d128 : decide (a < 128) = true := by simpa using hA.1
        obtain ⟨ci, fi⟩ := HA0.out.cellI x hx10 false (by simpa using hA.2)
        have HXQ := Lib.hid hA.2
        have HQL : Hid (Q.reverse.length ≤ 1000) := Lib.hid (by simp; omega)
        obtain ⟨N, hN⟩ : ∃ N, ((x : Int) :: Q).length = N := ⟨_, rfl⟩
        have hN9 : N ≤ 10 := by rw [← hN]; simp; omega
        clear hA hq9
        go_wp2_with (first
          | (go_at_call 12; (with_reducible refine (pushS 9 (x : Int) _ (by omega)).mono ?_); intro r w5 hk; obtain ⟨M, rfl, hM, hm, hb⟩ := hk; have HAM := Lib.hid (HA0.out.begin hM hm hb); clear hM hm hb)
          | (go_at_call 29; (with_reducible refine (am_push HAM.out hk7 hT9 hx0 hx1 HXQ.out).mono ?_); rintro r w6 ⟨rfl, L', h⟩; obtain ⟨ci2, fi2⟩ := h.cellI x hx10 false (by simpa using HXQ.out); have HA3 := Lib.hid ((h.setI x true ((x : Int) :: Q) hx10 (mem_cons_bool x Q)).step (below_alloc0 (Below.refl _ _) (.cells #[.int .i64 (x : Int)] 3))); clear h)
          | (at_builtin; refine append_q rfl _ _ rfl HA3.out.l (new_cell_set _ _ _ _ _) HQL.out rfl rfl ?_; intro v' w' hg; obtain ⟨o', h⟩ := HA3.out.grew (Q' := (x : Int) :: Q) (by rw [List.reverse_cons]; exact hg); have HF := Lib.hid h; clear h hg)
          | fail)
        obtain ⟨A2, c2, hv2⟩ := HF.out.listIs
        rw [hN] at hv2
        subst hv2
        have HN := Lib.hid hN
        clear hN
        go_wp2_with (first
          | (go_at_call 22; (with_reducible refine (AL.all HF.out).mono ?_); rintro r w7 ⟨A3, rfl, hr, h⟩; have HG := Lib.hid h; have HRW := Lib.hid hr; clear h hr)
          | (go_at_call 26; (with_reducible refine (AL.walk HG.out (Eq.refl _) HRW.out _).mono ?_); rintro r w8 ⟨A1, c1', rfl, hr, h⟩; rw [HN.out]; have HG2 := Lib.hid h; have HR1 := Lib.hid hr; clear h hr)
          | (go_at_call 30; (with_reducible refine (AL.turns HG2.out hk8).mono ?_); rintro r w9 ⟨g, rfl, ⟨g0, g1, gT⟩, h, u⟩; have HG3 := Lib.hid h; have HR2 := Lib.hid (HR1.out.upd u).reads; clear h u)
          | fail)
        go_loopw [13] (fun i wr' => ∃ j : Nat, j ≤ N ∧ i = .int .i64 j ∧ AL S D Bx Ab IN w wr' (k + 4 + 1) (T + 1) L' (((x : Int) :: Q)) (((x : Int) :: Q)) (((x : Int) :: Q)) (.slice A2 N c2) o' ∧ Reads .i64 wr' A1 (((x : Int) :: Q))) (fun i _ => N - (intOf i).toNat)
        case atStart => exact ⟨0, Nat.zero_le _, rfl, HG3.out, HR2.out⟩
        case round =>
          obtain ⟨j, hj, rfl, hi, hr⟩ := hrel
          by_cases hjl : j < N
          · obtain ⟨b1, o1, b2, o2, yv, ea, eb, y1, y2⟩ := hi.two hr j (by rw [HN.out]; exact hjl)
            cases ea; cases eb
            rw [HN.out] at y2
            obtain ⟨j2, hj2⟩ : ∃ j2 : Nat, j2 = N - 1 - j := ⟨_, rfl⟩
            rw [← hj2] at y2
            have e2 : IntKind.i64.wrap ((N : Int) - 1) = (N : Int) - 1 := IntWalk.i64_in _ (by omega)
            have e3 : IntKind.i64.wrap ((N : Int) - 1 - (j : Int)) = (j2 : Int) := by rw [IntWalk.i64_in _ (by omega)]; omega
            have hj0 : (0 : Int) ≤ (j : Int) := by omega
            have hj1 : (j : Int) < (N : Int) := by omega
            have hj20 : (0 : Int) ≤ (j2 : Int) := by omega
            have hj21 : (j2 : Int) < (N : Int) := by omega
            have HI := Lib.hid hi; have HRI := Lib.hid hr; have HJ := Lib.hid hjl
            clear hi hr hj hj2 hjl
            go_wp2_with (fail)
            go_quiet (fail)
            clear e2 e3
            go_wp2_with (fail)
            go_roundw
            case rel => exact ⟨j + 1, by have := HJ.out; omega, by go_num, HI.out.step (below_drewN (Below.refl _ _) _), HRI.out.below (below_drewN (Below.refl _ _) _) (Nat.le_refl _)⟩
            case measure => have := HJ.out; simp [intOf]; omega
          · obtain rfl : j = N := by omega
            have e4 : decide ((j : Int) < (j : Int)) = false := by simp
            have HI := Lib.hid hi
            clear hi hr hjl hj
            go_wp2_with (fail)
            go_roundw
            case rel => exact ⟨n + 1, L', ((x : Int) :: Q), T + 1, k + 4 + 1, o', by omega, by go_num, rfl, by have := ET.out; omega, by have := EK.out; omega, HI.out⟩
            case measure => simp [intOf]; omega
      · have hA2 : ¬ a < 128 ∨ (a < 128 ∧ (x : Int) ∈ Q) := by
          by_cases h : a < 128
          · exact .inr ⟨h, Classical.byContradiction fun h2 => hA ⟨h, h2⟩⟩
          · exact .inl h
        clear hA
        cases Q with
        | nil =>
          have d128 : decide (a < 128) = false := by
            rcases hA2 with h | h
            · simpa using h
            · exact absurd h.2 (by simp)
          have hl0 : NQ = 0 := by have := HNQ.out; simpa using this
          subst hl0
          clear hA2
          go_wp2_with (first
            | (go_at_call 10; (with_reducible refine (popS 9 _).mono ?_); intro r w5 hk; obtain ⟨M, rfl, hM, hm, hb⟩ := hk; have HAM := Lib.hid (HA0.out.begin hM hm hb); clear hM hm hb)
            | (go_at_call 29; (with_reducible refine (am_none HAM.out hk7).mono ?_); rintro r w6 ⟨rfl, L', h⟩; have HF := Lib.hid h; clear h)
            | fail)
          go_roundw
          case rel => exact ⟨n + 1, L', [], T, k + 4, o, by omega, by go_num, rfl, by have := ET.out; omega, by have := EK.out; omega, HF.out⟩
          case measure => simp [intOf]; omega
        | cons q Q =>
          have hqq := HA0.out.q8 q (by simp)
          obtain ⟨y, hy⟩ : ∃ y : Nat, q = (y : Int) := ⟨q.toNat, by omega⟩
          subst hy
          have hy10 : y < 10 := by omega
          have hynd : (y : Int) ∉ Q := (List.nodup_cons.1 HA0.out.stk.nd).1
          obtain ⟨N, hN⟩ : ∃ N, Q.length = N := ⟨_, rfl⟩
          obtain ⟨bl, offl, cl, hv, hcl⟩ := HA0.out.shape
          rw [hN] at hv hcl
          cases hv
          have hN9 : N ≤ 10 := by simp at hq9; omega
          have HND := Lib.hid hynd; have HNN := Lib.hid hN.symm
          have hsl := fun w => slice_drop bl offl N cv hcl w
          have hN0 : (0 : Int) ≤ (N : Int) := by omega
          have hqq1 : 1 ≤ (y : Int) := hqq.1
          have hqq2 : (y : Int) ≤ 8 := hqq.2
          clear hqq hynd hq9
          rcases hA2 with hA2 | hA2
          · have d128 : decide (a < 128) = false := by simpa using hA2
            clear hA2
            go_wp2_with (first
              | (go_at_call 10; (with_reducible refine (popS 9 _).mono ?_); intro r w5 hk; obtain ⟨M, rfl, hM, hm, hb⟩ := hk; have HAM := Lib.hid (HA0.out.begin hM hm hb); clear hM hm hb)
              | (go_at_call 29; (with_reducible refine (am_pop HAM.out hk7 hT9).mono ?_); rintro r w6 ⟨rfl, L', h⟩; obtain ⟨cl1, hl1⟩ := h.lastIs HNN.out; obtain ⟨cq, fq⟩ := h.cellI y hy10 true (by simp); have HF := Lib.hid (hl1.setI y false Q hy10 (mem_del_bool y Q HND.out)); clear h hl1)
              | fail)
            obtain ⟨A2, c2, hv2⟩ := HF.out.listIs
            rw [hN] at hv2
            cases hv2
            have HN := Lib.hid hN
            clear hN
            go_wp2_with (first
              | (go_at_call 22; (with_reducible refine (AL.all HF.out).mono ?_); rintro r w7 ⟨A3, rfl, hr, h⟩; have HG := Lib.hid h; have HRW := Lib.hid hr; clear h hr)
              | (go_at_call 26; (with_reducible refine (AL.walk HG.out (Eq.refl _) HRW.out _).mono ?_); rintro r w8 ⟨A1, c1', rfl, hr, h⟩; rw [HN.out]; have HG2 := Lib.hid h; have HR1 := Lib.hid hr; clear h hr)
              | (go_at_call 30; (with_reducible refine (AL.turns HG2.out hk8).mono ?_); rintro r w9 ⟨g, rfl, ⟨g0, g1, gT⟩, h, u⟩; have HG3 := Lib.hid h; have HR2 := Lib.hid (HR1.out.upd u).reads; clear h u)
              | fail)
            go_loopw [13] (fun i wr' => ∃ j : Nat, j ≤ N ∧ i = .int .i64 j ∧ AL S D Bx Ab IN w wr' (k + 4 + 1) (T + 1) L' (Q) (Q) (Q) (.slice (some ⟨bl, offl, none⟩) N cv) o ∧ Reads .i64 wr' A1 (Q)) (fun i _ => N - (intOf i).toNat)
            case atStart => exact ⟨0, Nat.zero_le _, rfl, HG3.out, HR2.out⟩
            case round =>
              obtain ⟨j, hj, rfl, hi, hr⟩ := hrel
              by_cases hjl : j < N
              · obtain ⟨b1, o1, b2, o2, yv, ea, eb, y1, y2⟩ := hi.two hr j (by rw [HN.out]; exact hjl)
                cases ea; cases eb
                rw [HN.out] at y2
                obtain ⟨j2, hj2⟩ : ∃ j2 : Nat, j2 = N - 1 - j := ⟨_, rfl⟩
                rw [← hj2] at y2
                have e2 : IntKind.i64.wrap ((N : Int) - 1) = (N : Int) - 1 := IntWalk.i64_in _ (by omega)
                have e3 : IntKind.i64.wrap ((N : Int) - 1 - (j : Int)) = (j2 : Int) := by rw [IntWalk.i64_in _ (by omega)]; omega
                have hj0 : (0 : Int) ≤ (j : Int) := by omega
                have hj1 : (j : Int) < (N : Int) := by omega
                have hj20 : (0 : Int) ≤ (j2 : Int) := by omega
                have hj21 : (j2 : Int) < (N : Int) := by omega
                have HI := Lib.hid hi; have HRI := Lib.hid hr; have HJ := Lib.hid hjl
                clear hi hr hj hj2 hjl
                go_wp2_with (fail)
                go_quiet (fail)
                clear e2 e3
                go_wp2_with (fail)
                go_roundw
                case rel => exact ⟨j + 1, by have := HJ.out; omega, by go_num, HI.out.step (below_drewN (Below.refl _ _) _), HRI.out.below (below_drewN (Below.refl _ _) _) (Nat.le_refl _)⟩
                case measure => have := HJ.out; simp [intOf]; omega
              · obtain rfl : j = N := by omega
                have e4 : decide ((j : Int) < (j : Int)) = false := by simp
                have HI := Lib.hid hi
                clear hi hr hjl hj
                go_wp2_with (fail)
                go_roundw
                case rel => exact ⟨n + 1, L', Q, T + 1, k + 4 + 1, o, by omega, by go_num, rfl, by have := ET.out; omega, by have := EK.out; omega, HI.out⟩
                case measure => simp [intOf]; omega
          · have d128 : decide (a < 128) = true := by simpa using hA2.1
            obtain ⟨ci, fi⟩ := HA0.out.cellI x hx10 true (by simpa using hA2.2)
            clear hA2
            go_wp2_with (first
              | (go_at_call 10; (with_reducible refine (popS 9 _).mono ?_); intro r w5 hk; obtain ⟨M, rfl, hM, hm, hb⟩ := hk; have HAM := Lib.hid (HA0.out.begin hM hm hb); clear hM hm hb)
              | (go_at_call 29; (with_reducible refine (am_pop HAM.out hk7 hT9).mono ?_); rintro r w6 ⟨rfl, L', h⟩; obtain ⟨cl1, hl1⟩ := h.lastIs HNN.out; obtain ⟨cq, fq⟩ := h.cellI y hy10 true (by simp); have HF := Lib.hid (hl1.setI y false Q hy10 (mem_del_bool y Q HND.out)); clear h hl1)
              | fail)
            obtain ⟨A2, c2, hv2⟩ := HF.out.listIs
            rw [hN] at hv2
            cases hv2
            have HN := Lib.hid hN
            clear hN
            go_wp2_with (first
              | (go_at_call 22; (with_reducible refine (AL.all HF.out).mono ?_); rintro r w7 ⟨A3, rfl, hr, h⟩; have HG := Lib.hid h; have HRW := Lib.hid hr; clear h hr)
              | (go_at_call 26; (with_reducible refine (AL.walk HG.out (Eq.refl _) HRW.out _).mono ?_); rintro r w8 ⟨A1, c1', rfl, hr, h⟩; rw [HN.out]; have HG2 := Lib.hid h; have HR1 := Lib.hid hr; clear h hr)
              | (go_at_call 30; (with_reducible refine (AL.turns HG2.out hk8).mono ?_); rintro r w9 ⟨g, rfl, ⟨g0, g1, gT⟩, h, u⟩; have HG3 := Lib.hid h; have HR2 := Lib.hid (HR1.out.upd u).reads; clear h u)
              | fail)
            go_loopw [13] (fun i wr' => ∃ j : Nat, j ≤ N ∧ i = .int .i64 j ∧ AL S D Bx Ab IN w wr' (k + 4 + 1) (T + 1) L' (Q) (Q) (Q) (.slice (some ⟨bl, offl, none⟩) N cv) o ∧ Reads .i64 wr' A1 (Q)) (fun i _ => N - (intOf i).toNat)
            case atStart => exact ⟨0, Nat.zero_le _, rfl, HG3.out, HR2.out⟩
            case round =>
              obtain ⟨j, hj, rfl, hi, hr⟩ := hrel
              by_cases hjl : j < N
              · obtain ⟨b1, o1, b2, o2, yv, ea, eb, y1, y2⟩ := hi.two hr j (by rw [HN.out]; exact hjl)
                cases ea; cases eb
                rw [HN.out] at y2
                obtain ⟨j2, hj2⟩ : ∃ j2 : Nat, j2 = N - 1 - j := ⟨_, rfl⟩
                rw [← hj2] at y2
                have e2 : IntKind.i64.wrap ((N : Int) - 1) = (N : Int) - 1 := IntWalk.i64_in _ (by omega)
                have e3 : IntKind.i64.wrap ((N : Int) - 1 - (j : Int)) = (j2 : Int) := by rw [IntWalk.i64_in _ (by omega)]; omega
                have hj0 : (0 : Int) ≤ (j : Int) := by omega
                have hj1 : (j : Int) < (N : Int) := by omega
                have hj20 : (0 : Int) ≤ (j2 : Int) := by omega
                have hj21 : (j2 : Int) < (N : Int) := by omega
                have HI := Lib.hid hi; have HRI := Lib.hid hr; have HJ := Lib.hid hjl
                clear hi hr hj hj2 hjl
                go_wp2_with (fail)
                go_quiet (fail)
                clear e2 e3
                go_wp2_with (fail)
                go_roundw
                case rel => exact ⟨j + 1, by have := HJ.out; omega, by go_num, HI.out.step (below_drewN (Below.refl _ _) _), HRI.out.below (below_drewN (Below.refl _ _) _) (Nat.le_refl _)⟩
                case measure => have := HJ.out; simp [intOf]; omega
              · obtain rfl : j = N := by omega
                have e4 : decide ((j : Int) < (j : Int)) = false := by simp
                have HI := Lib.hid hi
                clear hi hr hjl hj
                go_wp2_with (fail)
                go_roundw
                case rel => exact ⟨n + 1, L', Q, T + 1, k + 4 + 1, o, by omega, by go_num, rfl, by have := ET.out; omega, by have := EK.out; omega, HI.out⟩
                case measure => simp [intOf]; omega
    · obtain rfl : n = len0 := by omega
      have e1 : decide ((n : Int) < (n : Int)) = false := by simp
      have HE := Lib.hid hal.bel
      clear hal hlt hn hT hk
      go_wp2_with (fail)
      go_ret
      exact ⟨rfl, HE.out⟩
end Go.Proofs.Ytgnnhjadmepipaa

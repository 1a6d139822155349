/- The law of a machine's steps, whatever others change, walked. -/
import Derived.Test.YtgnnhjadmepipaaStBeg
import Derived.Test.YtgnnhjadmepipaaSame
namespace Go.Proofs.Ytgnnhjadmepipaa
open Go.RowKit
set_option linter.unusedVariables false
set_option linter.unusedSimpArgs false

theorem kval_cells {w : World} {h : Int} {A : Option Addr} {n cap : Nat} {w1 w' : World} (hw : w1 = w.alloc (.cells #[.int .i64 h, .slice A n cap] 25)) (hb : Below w1.heap.size w1 w') :
    w'.cell? ⟨w.heap.size, 0, none⟩ = some (.int .i64 h) ∧ w'.cell? ⟨w.heap.size, 1, none⟩ = some (.slice A n cap) := by
  subst hw
  exact box_kv (h := h) (A := A) (n := n) (cap := cap) (hb.mono (by simp))

/-- The document's step, what comes of it known. -/
theorem rstep_is {t : Int} (P : Nat → Prop) (R : Option Addr) (n' capR : Nat) (L : List Int) (m : Sm) (A : Option Addr) (n cap : Nat) (zs : List Int) (w : World) (hn : n' = L.length) (hn2 : n' ≤ 1000000) (hR : ReadsW P w R L) (hP : ∀ b, w.heap.size ≤ b → P b)
    (hlk : m.k.links = zs) (hz : n = zs.length) (hK : Reads .i64 w A zs) (hl : n ≤ 1000000) (wm : Wm t m) (ww : WW L) (ht : t ≤ 1000000000) (L' : List Int) (m' : Sm) (he : sstp L m = (L', m')) :
    Calls Try.prog 17 #[.slice R n' capR, smV m A n cap] w (SomeStep P w n' L' (smV m' A n cap)) := by
  have := rstep_any P R n' capR L m A n cap w hn hn2 hR hP (by rw [hlk]; exact hz) (by rw [hlk]; exact hK) hl wm ww ht
  rw [he] at this
  exact this
theorem same_len (A A' : Option Addr) (cap cap' m : Nat) (l : List Int) (w : World) (hm : m = l.length) (h : Reads .u64 w A l) (h' : Reads .u64 w A' l) (hb : l.length ≤ 1000000) :
    Calls Try.prog 21 #[.slice A l.length cap, .slice A' m cap'] w fun e w' => e = .returned (.bool true) ∧ Below w.heap.size w w' := same_yes A A' cap cap' _ m l w rfl hm h h' hb
theorem sstp_len (L : List Int) (m : Sm) : (sstp L m).1.length = L.length := by
  have hs : ∀ x, (swapS L m x).1.length = L.length := fun x => by
    unfold swapS
    exact ite_ind (P := fun z : List Int × Sm => z.1.length = L.length) (ptq_len ..) rfl
  unfold sstp
  refine ite_ind (P := fun z : List Int × Sm => z.1.length = L.length) rfl ?_
  refine ite_ind (P := fun z : List Int × Sm => z.1.length = L.length) (ite_ind (P := fun z : List Int × Sm => z.1.length = L.length) rfl (ite_ind (P := fun z : List Int × Sm => z.1.length = L.length) rfl rfl)) ?_
  exact ite_ind (P := fun z : List Int × Sm => z.1.length = L.length) (ite_ind (P := fun z : List Int × Sm => z.1.length = L.length) (ptq_len ..) rfl) (ite_ind (P := fun z : List Int × Sm => z.1.length = L.length) (hs _) (hs _))

set_option maxRecDepth 100000 in
set_option maxHeartbeats 16000000 in
theorem walkSteps (a0 : Option Addr) (len0 cap0 : Nat) (z0 : List Int) (a1 : Kv) (a2 : Int) (a3 : Bool) (a4 : Option Addr) (len4 cap4 : Nat) (l4 : List Pok) (w : World) (h0 : IsRow .u64 w a0 len0 cap0 z0) (hk : IsK w a1) (w2 : (Lit.int .i64 a2).wf = true) (h4 : IsPoks w a4 len4 cap4 l4) :
    Calls Try.prog 3 #[.slice a0 len0 cap0, kV a1, .int .i64 a2, .bool a3, .slice a4 len4 cap4] w fun e w' => e = .returned (.bool true) ∧ Below w.heap.size w w' := by
  have ww := ww_row h0
  obtain ⟨hR, hlen, _⟩ := reads_row h0
  obtain ⟨L, hL⟩ : ∃ L, L = z0.take len0 := ⟨_, rfl⟩
  rw [← hL] at hR hlen ww
  obtain ⟨zs, hK, hn, hh0, hh1⟩ := kv_reads hk
  obtain ⟨hd, A, n, cap, z⟩ := a1
  simp only at hK hn hh0 hh1
  change Calls Try.prog 3 #[.slice a0 len0 cap0, .agg #[.int .i64 hd, .slice A n cap], .int .i64 a2, .bool a3, .slice a4 len4 cap4] w _
  clear h0 hL hk z
  have b0 : -9223372036854775808 ≤ a2 ∧ a2 ≤ 9223372036854775807 := by
    simp [Lit.wf, IntKind.min, IntKind.max, IntKind.bits, IntKind.signed] at w2; omega
  clear w2
  obtain ⟨hP, hP2, _, _, hPw⟩ := h4
  obtain ⟨w1, hw1⟩ : ∃ w1, w1 = w.alloc (.cells #[.int .i64 hd, .slice A n cap] 25) := ⟨_, rfl⟩
  have HB1 : Hid (Below w.heap.size w w1) := Lib.hid (by rw [hw1]; exact below_alloc0 (Below.refl _ _) _)
  have hkc := fun (w' : World) (hb : Below w1.heap.size w1 w') => kval_cells hw1 hb
  have HKC := Lib.hid hkc
  have HR := Lib.hid hR; have HLen := Lib.hid hlen.symm; have WW' := Lib.hid ww; have HK := Lib.hid hK; have HN := Lib.hid hn; have HA2 := Lib.hid b0
  have HPk := Lib.hid hP; have HPL := Lib.hid hP2; have HPW := Lib.hid hPw
  have HZ : Hid (∀ w', Below w1.heap.size w1 w' → Below w.heap.size w w') := Lib.hid (fun w' h => below_then HB1.out h)
  have HW1 := Lib.hid hw1
  clear hR ww hK hkc hw1 hlen hn b0 hP hP2 hPw
  by_cases h1 : (len0 : Int) > 60
  · have d1 : decide ((len0 : Int) > 60) = true := by simpa using h1
    go_enter Try.func3, Try.ntmps3
    go_wp2_with (first
      | (go_at_call 8; (with_reducible refine (awake_any _).mono ?_); rintro r w3 ⟨rfl, hb⟩; rw [← HW1.out] at hb; have HB := Lib.hid hb; obtain ⟨c0, c1⟩ := HKC.out _ hb; clear hb)
      | fail)
    go_ret
    exact ⟨rfl, HZ.out _ HB.out⟩
  have d1 : decide ((len0 : Int) > 60) = false := by simpa using h1
  by_cases h2 : (len4 : Int) > 30
  · have d2 : decide ((len4 : Int) > 30) = true := by simpa using h2
    go_enter Try.func3, Try.ntmps3
    go_wp2_with (first
      | (go_at_call 8; (with_reducible refine (awake_any _).mono ?_); rintro r w3 ⟨rfl, hb⟩; rw [← HW1.out] at hb; have HB := Lib.hid hb; obtain ⟨c0, c1⟩ := HKC.out _ hb; clear hb)
      | fail)
    go_ret
    exact ⟨rfl, HZ.out _ HB.out⟩
  have d2 : decide ((len4 : Int) > 30) = false := by simpa using h2
  by_cases h3 : (n : Int) > 60
  · have d3 : decide ((n : Int) > 60) = true := by simpa using h3
    go_enter Try.func3, Try.ntmps3
    go_wp2_with (first
      | (go_at_call 8; (with_reducible refine (awake_any _).mono ?_); rintro r w3 ⟨rfl, hb⟩; rw [← HW1.out] at hb; have HB := Lib.hid hb; obtain ⟨c0, c1⟩ := HKC.out _ hb; clear hb)
      | fail)
    go_ret
    exact ⟨rfl, HZ.out _ HB.out⟩
  have d3 : decide ((n : Int) > 60) = false := by simpa using h3
  have hn1 : n ≤ 1000000 := by omega
  have hn2 : len0 ≤ 1000000 := by omega
  cases a3
  · go_enter Try.func3, Try.ntmps3
    go_wp2_with (first
      | (go_at_call 8; (with_reducible refine (awake_any _).mono ?_); rintro r w3 ⟨rfl, hb⟩; rw [← HW1.out] at hb; have HB := Lib.hid hb; obtain ⟨c0, c1⟩ := HKC.out _ hb; clear hb)
      | (go_at_call 9; (with_reducible refine (links_any A n cap 0 zs _ HN.out hn1 (Nat.zero_le _) (Reads.blk (HK.out.below (HZ.out _ HB.out) (Nat.le_refl _)))).mono ?_); intro r w4 hk; obtain ⟨Bx, Ab, rfl, hl, hb⟩ := hk.lk; have H2 := Lib.hid (below_step HB.out HB.out.size hb); have HLk := Lib.hid hl; obtain ⟨c0', c1'⟩ := HKC.out _ H2.out; clear hk hl hb)
      | (go_at_call 10; (with_reducible refine (pop_any ⟨hd, zs⟩ _).mono ?_); intro r w5 hk; obtain ⟨M, rfl, hM, hm, hb⟩ := hk; have H3 := Lib.hid (below_step H2.out H2.out.size hb); have HM := Lib.hid (BM.of_new (HZ.out _ H2.out) HLk.out hM hm hb); obtain ⟨c0'', c1''⟩ := HKC.out _ H3.out; clear hM hm hb)
      | (go_at_call 11; (with_reducible refine (rpop_any hd A n cap _).mono ?_); rintro r w6 ⟨rfl, hb⟩; have H4 := Lib.hid (below_step H3.out H3.out.size hb); have HM2 := Lib.hid (HM.out.step hb); have HG := Lib.hid (BG.ofPop (zs' := zs) HM2.out hd A n cap); clear hb)
      | (go_at_call 14; (with_reducible refine (new_any _ len0 cap0 L _ HLen.out (HR.out.below HG.out.bm.bel (Nat.le_refl _)) hn2).mono ?_); intro r w7 hk; obtain ⟨S, D, rfl, hk2⟩ := SL.begin HG.out HR.out WW'.out (wm_pop _) rfl hk; have HS := Lib.hid hk2; clear hk hk2)
      | fail)
    clear c0 c1 c0' c1' c0'' c1'' HG HM2 H4 HM
    generalize w6.heap.size = X at HS ⊢
    go_loopw [16, 17] (fun v i wr => ∃ (k : Nat) (m : Sm) (L1 : List Int) (R : Option Addr) (cR : Nat) (c : Int), k ≤ len4 + 6 ∧ i = .int .i64 k ∧ v = .slice R len0 cR ∧ L1.length = len0 ∧ c ≤ 2 * k ∧ SL S D Bx Ab M X w wr zs A n cap m m L1 L1 R c k) (fun _ i _ => len4 + 6 - (intOf i).toNat)
    case atStart => exact ⟨0, _, L, a0, cap0, 0, Nat.zero_le _, rfl, rfl, HLen.out.symm, by omega, HS.out⟩
    case round =>
      obtain ⟨k, m, L1, R, cR, c, hk, rfl, rfl, hl1, hc, hs⟩ := hrel
      have H1 := Lib.hid hs
      obtain ⟨x0, x1, x2, x3, x4, x5, x6, x7⟩ := hs.cells
      by_cases hlt : k < len4 + 6
      · have e1 : decide ((k : Int) < (len4 : Int) + 6) = true := by simp; omega
        obtain ⟨⟨L2, m2⟩, hz⟩ : ∃ z : List Int × Sm, sstp L1 m = z := ⟨_, rfl⟩
        have hst := hs.stepM (by omega) (by omega)
        have hl2 := sstp_len L1 m
        rw [hz] at hst hl2
        simp only at hst hl2
        obtain ⟨c2, hc2⟩ : ∃ c2, c2 = cst m c := ⟨_, rfl⟩
        obtain ⟨b, hb⟩ : ∃ b, b = decide (m2.pc = 0) := ⟨_, rfl⟩
        rw [← hc2, ← hb] at hst
        have hc3 := cst_le m c
        rw [← hc2] at hc3
        have hpb : ((m2.pc : Int) == 0) = b := by rw [hb]; by_cases h : m2.pc = 0 <;> simp [h]
        have hcq : (c2 == c + 1) = decide (0 < m.pc) := by
          rw [hc2]; unfold cst
          by_cases h : m.pc = 0
          · simp [h]; omega
          · rw [if_neg h]; simp; omega
        obtain ⟨I, hI⟩ : ∃ I, I = sItem m2 := ⟨_, rfl⟩
        have hI2 : (if (m2.pc : Int) = 0 then m2.item else 0) = I := by
          rw [hI]; unfold sItem; by_cases h : m2.pc = 0 <;> simp [h]
        have wm2 := hs.wm.step (L := L1) hs.oc.ww
        rw [hz] at wm2
        have hi2 := wm2.i
        obtain ⟨i20, i21⟩ := hi2
        have HST := Lib.hid hst; have HZZ := Lib.hid hz; have HC := Lib.hid hc; have HC3 := Lib.hid hc3; have HI := Lib.hid hI.symm; have HI2 := Lib.hid hI2; skip
        have HL1 := Lib.hid hl1.symm; have HL2 : Hid (len0 = L2.length) := Lib.hid (by omega)
        have HKK := Lib.hid hk; have hk9 : (k : Int) ≤ 1000000 := by omega
        clear hs hst hz hc hc2 hc3 hb hI hI2 hl1 hl2 wm2 hk
        go_wp2_with (first
          | (go_at_call 15; (with_reducible refine (SL.count H1.out).mono ?_); rintro r w8 ⟨rfl, hw⟩; cases hw)
          | (go_at_call 16; (with_reducible refine HST.out.mono ?_); rintro r w8 ⟨rfl, h⟩; have HS1 := Lib.hid h; obtain ⟨y0, y1, y2, y3, y4, y5, y6, y7⟩ := h.cells; clear h)
          | (go_at_call 17; (with_reducible refine (rstep_is (Fr M S D X) R len0 cR L1 m A n cap zs _ HL1.out hn2 HS1.out.rd (fun b hb => HS1.out.far hb) H1.out.lk HN.out (HK.out.below HS1.out.bel (Nat.le_refl _)) hn1 H1.out.wm H1.out.oc.ww (by omega) L2 m2 HZZ.out).mono ?_); rintro r w9 ⟨R2, cR2, rfl, hrd, hb⟩; have HS3 := Lib.hid ((HS1.out.ref hb hrd).below (below_alloc0 (Below.refl _ _) (.cells #[.int .i64 m2.kind, .int .i64 m2.pc, .int .i64 m2.k.head, .slice A n cap, .int .u32 m2.item, .int .u64 m2.h, .int .u32 m2.link, .int .i64 m2.tries] 36))); obtain ⟨v0, v1, v2, v3, v4, v5, v6, v7⟩ := HS3.out.cells; have hfx := HS3.out.fro; clear hrd hb)
          | fail)
        have hs4 := HS3.out.putX m2
        obtain ⟨W4, hW4⟩ : ∃ W4, W4 = (((((((((w9.alloc (.cells #[.int .i64 m2.kind, .int .i64 m2.pc, .int .i64 m2.k.head, .slice A n cap, .int .u32 m2.item, .int .u64 m2.h, .int .u32 m2.link, .int .i64 m2.tries] 36)).setCell ⟨X, 0, none⟩ (.int .i64 m2.kind)).setCell ⟨X, 1, none⟩ (.int .i64 m2.pc)).setCell ⟨X, 2, none⟩ (.int .i64 m2.k.head)).setCell ⟨X, 3, none⟩ (.slice A n cap)).setCell ⟨X, 4, none⟩ (.int .u32 m2.item)).setCell ⟨X, 5, none⟩ (.int .u64 m2.h)).setCell ⟨X, 6, none⟩ (.int .u32 m2.link)).setCell ⟨X, 7, none⟩ (.int .i64 m2.tries)) := ⟨_, rfl⟩
        have hs4' : SL S D Bx Ab M X w W4 zs A n cap m2 m2 L2 L2 R2 c2 (k + 1) := by rw [hW4]; exact hs4
        rw [← hW4]
        have HS5 := Lib.hid (hs4'.below (Below.refl _ _).drew)
        clear x0 x1 x2 x3 x4 x5 x6 x7 y0 y1 y2 y3 y4 y5 y6 y7 v0 v1 v2 v3 v4 v5 v6 v7 hfx hs4 hW4
        obtain ⟨v0, v1, v2, v3, v4, v5, v6, v7⟩ := hs4'.cells
        clear hs4'
        have HLn : Hid (L2.length ≤ 1000000) := Lib.hid (by have := HL2.out; omega)
        have ew : IntKind.i64.wrap (c + 1) = c + 1 := IntWalk.i64_in _ (by have := HC.out; have := H1.out.oc.c0; omega)
        first
          | (go_region_held3 (fun w' => w'.cell? ⟨X, 0, none⟩ = some (.int .i64 m2.kind) ∧ w'.cell? ⟨X, 1, none⟩ = some (.int .i64 m2.pc) ∧ w'.cell? ⟨X, 2, none⟩ = some (.int .i64 m2.k.head) ∧ w'.cell? ⟨X, 3, none⟩ = some (.slice A n cap) ∧ w'.cell? ⟨X, 4, none⟩ = some (.int .u32 m2.item) ∧ w'.cell? ⟨X, 5, none⟩ = some (.int .u64 m2.h) ∧ w'.cell? ⟨X, 6, none⟩ = some (.int .u32 m2.link) ∧ w'.cell? ⟨X, 7, none⟩ = some (.int .i64 m2.tries))
              (first | (with_reducible exact HS8.out.cells) | (with_reducible exact HS7.out.cells) | (with_reducible exact HS6.out.cells) | (with_reducible exact HS5.out.cells) | fail)
              (first
                | (go_at_call 18; (with_reducible refine (SL.item HS5.out).mono ?_); rintro r w10 ⟨rfl, hw⟩; cases hw; rw [HI.out])
                | (go_at_call 19; (with_reducible refine (ritem_any _ _ _ _ _ _ _ _ _ _ _ (Int.natCast_nonneg _) i20 i21).mono ?_); rintro r w10 ⟨rfl, hb⟩; rw [HI2.out]; have HS6 := Lib.hid (HS5.out.below hb); clear hb)
                | (go_at_call 20; (with_reducible refine (SL.tries HS6.out).mono ?_); rintro r w11 ⟨rfl, hw⟩; cases hw)
                | (go_at_call 22; (with_reducible refine (SL.all HS6.out HLn.out).mono ?_); rintro r w12 ⟨rfl, hr, h, hb⟩; have HS7 := Lib.hid h; have HRA := Lib.hid hr; clear h hr hb)
                | (go_at_call 21; (with_reducible refine (same_len _ _ _ _ len0 L2 _ HL2.out HRA.out HS7.out.rd.reads HLn.out).mono ?_); rintro r w13 ⟨rfl, hb⟩; have HS8 := Lib.hid (HS7.out.below hb); clear hb)
                | (go_at_call 15; (with_reducible refine (SL.count HS8.out).mono ?_); rintro r w14 ⟨rfl, hw⟩; cases hw)
                | fail))
          | fail
        clear ew
        by_cases hp : k < len4
        · obtain ⟨bp, offp, rfl, hbl, hcp⟩ := HPk.out (by have := HPL.out; omega)
          have hcj := hcp k (by have := HPL.out; omega)
          obtain ⟨g, hg⟩ : ∃ g, g = atP l4 k := ⟨_, rfl⟩
          rw [← hg] at hcj
          have hgv : 0 ≤ g.v ∧ g.v ≤ 18446744073709551615 := by
            have hl := HPL.out
            have := HPW.out (atP l4 k) (by unfold atP; rw [List.getD, List.getElem?_eq_getElem (by omega)]; exact List.getElem_mem (by omega))
            rw [hg]; exact this
          have hpc : ∀ w', Below w.heap.size w w' → (w'.cell? ⟨bp, offp + k * 2, none⟩ = some (.int .i64 g.p) ∧ w'.cell? ⟨bp, offp + k * 2 + 1, none⟩ = some (.int .u64 g.v)) := fun w' hb =>
            ⟨(hb.cell (p := ⟨bp, offp + k * 2, none⟩) hbl).trans hcj.1, (hb.cell (p := ⟨bp, offp + k * 2 + 1, none⟩) hbl).trans hcj.2⟩
          have HPC := Lib.hid hpc; have HGV := Lib.hid hgv
          have hp0 : (k : Int) < (len4 : Int) := by omega
          have hk0 : (0 : Int) ≤ (k : Int) := by omega
          obtain ⟨p0, p1⟩ := hpc _ HS8.out.bel
          have HS8D := Lib.hid (HS8.out.below (Below.refl _ _).drew)
          have hcc : c2 ≤ 900000000 := by have := HC3.out; have := HC.out; omega
          clear hcp hcj hg hgv hpc hp v0 v1 v2 v3 v4 v5 v6 v7
          go_wp2_with (fail)
          go_region_held3 (fun w' => w'.cell? ⟨bp, offp + k * 2, none⟩ = some (.int .i64 g.p) ∧ w'.cell? ⟨bp, offp + k * 2 + 1, none⟩ = some (.int .u64 g.v))
            (first | (with_reducible exact HPC.out _ HS9.out.bel) | (with_reducible exact HPC.out _ HS8D.out.bel) | fail)
            (first
              | (go_at_call 23; (with_reducible refine (SL.poke HS8D.out g.p g.v HGV.out hcc).mono ?_); rintro r w15 ⟨rfl, h⟩; have HS9 := Lib.hid h; clear h)
              | fail)
          go_wp2_with (fail)
          clear p0 p1
          obtain ⟨p0, p1⟩ := HPC.out _ HS9.out.bel
          have HS9D := Lib.hid (HS9.out.below (Below.refl _ _).drew)
          go_region_held3 (fun w' => w'.cell? ⟨bp, offp + k * 2, none⟩ = some (.int .i64 g.p) ∧ w'.cell? ⟨bp, offp + k * 2 + 1, none⟩ = some (.int .u64 g.v))
            (first | (with_reducible exact HPC.out _ HS10.out.bel) | (with_reducible exact HPC.out _ HS9D.out.bel) | fail)
            (first
              | (go_at_call 24; (with_reducible refine (rput_any (Fr M S D X) R2 len0 cR2 L2 g.p g.v _ HL2.out hn2 HS9D.out.rd (fun b hb => HS9D.out.far hb)).mono ?_); rintro r w16 ⟨R3, cR3, rfl, hx, hb⟩; rw [ptv_eq] at hx; have HS10 := Lib.hid (HS9D.out.ref hb hx); clear hx hb)
              | fail)
          go_wp2_with (fail)
          go_roundw
          case rel =>
            exact ⟨k + 1, m2, _, R3, cR3, c2 + 1, by have := HKK.out; omega, by go_num, rfl, by rw [ptq_len]; exact HL2.out.symm, by have := HC.out; have := HC3.out; omega, HS10.out⟩
          case measure => simp [intOf]; omega
        · have hp0 : ¬ (k : Int) < (len4 : Int) := by omega
          clear hp v0 v1 v2 v3 v4 v5 v6 v7
          go_wp2_with (fail)
          go_roundw
          case rel =>
            exact ⟨k + 1, m2, L2, R2, cR2, c2, by have := HKK.out; omega, by go_num, rfl, HL2.out.symm, by have := HC.out; have := HC3.out; omega, HS8.out⟩
          case measure => simp [intOf]; omega
      · obtain rfl : k = len4 + 6 := by omega
        have e1 : decide (((len4 + 6 : Nat) : Int) < (len4 : Int) + 6) = false := by simp
        clear x0 x1 x2 x3 x4 x5 x6 x7 hs hlt hl1 hc hk
        go_wp2_with (first
          | (go_at_call 16; (with_reducible refine (step_nil _ _).mono ?_); rintro r w8 ⟨rfl, hw⟩; cases hw)
          | (go_at_call 18; (with_reducible refine (item_nil _).mono ?_); rintro r w8 ⟨rfl, hw⟩; cases hw)
          | (go_at_call 20; (with_reducible refine (tries_nil _).mono ?_); rintro r w8 ⟨rfl, hw⟩; cases hw)
          | fail)
        go_ret
        exact ⟨rfl, H1.out.bel⟩
  · go_enter Try.func3, Try.ntmps3
    go_wp2_with (first
      | (go_at_call 8; (with_reducible refine (awake_any _).mono ?_); rintro r w3 ⟨rfl, hb⟩; rw [← HW1.out] at hb; have HB := Lib.hid hb; obtain ⟨c0, c1⟩ := HKC.out _ hb; clear hb)
      | (go_at_call 9; (with_reducible refine (links_any A n cap 0 zs _ HN.out hn1 (Nat.zero_le _) (Reads.blk (HK.out.below (HZ.out _ HB.out) (Nat.le_refl _)))).mono ?_); intro r w4 hk; obtain ⟨Bx, Ab, rfl, hl, hb⟩ := hk.lk; have H2 := Lib.hid (below_step HB.out HB.out.size hb); have HLk := Lib.hid hl; obtain ⟨c0', c1'⟩ := HKC.out _ H2.out; clear hk hl hb)
      | (go_at_call 10; (with_reducible refine (pop_any ⟨hd, zs⟩ _).mono ?_); intro r w5 hk; obtain ⟨M, rfl, hM, hm, hb⟩ := hk; have H3 := Lib.hid (below_step H2.out H2.out.size hb); have HM := Lib.hid (BM.of_new (HZ.out _ H2.out) HLk.out hM hm hb); obtain ⟨c0'', c1''⟩ := HKC.out _ H3.out; clear hM hm hb)
      | (go_at_call 11; (with_reducible refine (rpop_any hd A n cap _).mono ?_); rintro r w6 ⟨rfl, hb⟩; have H4 := Lib.hid (below_step H3.out H3.out.size hb); have HM2 := Lib.hid (HM.out.step hb); have HG := Lib.hid (BG.ofPop (zs' := zs) HM2.out hd A n cap); have H5 := Lib.hid (below_step H4.out H4.out.size (below_alloc0 (Below.refl _ _) (.cells #[.int .i64 2, .int .i64 1, .int .i64 hd, .slice A n cap, .int .u32 0, .int .u64 0, .int .u32 0, .int .i64 0] 36))); obtain ⟨b0, b1⟩ := HKC.out _ H5.out; clear hb)
      | (go_at_call 12; (with_reducible refine (push_any ⟨hd, zs⟩ a2 _ HA2.out).mono ?_); intro r w8 hk; obtain ⟨M, rfl, hM, hm, hb⟩ := hk; have H6 := Lib.hid (below_step H5.out H5.out.size hb); have HG2 := Lib.hid (HG.out.newM hM hm hb); obtain ⟨f0, f1⟩ := HKC.out _ H6.out; clear hM hm hb)
      | (go_at_call 13; (with_reducible refine (rpush_any hd A n cap a2 _ HA2.out).mono ?_); rintro r w9 ⟨rfl, hb⟩; have HG3 := Lib.hid (HG2.out.step hb); obtain ⟨y0, y1, y2, y3, y4, y5, y6, y7⟩ := HG3.out.cells; have hfr := HG3.out.fro; have HG4 := Lib.hid (HG3.out.putPush hd a2 zs); clear hb)
      | (go_at_call 14; (with_reducible refine (new_any _ len0 cap0 L _ HLen.out (HR.out.below HG4.out.bm.bel (Nat.le_refl _)) hn2).mono ?_); intro r w7 hk; obtain ⟨S, D, rfl, hk2⟩ := SL.begin HG4.out HR.out WW'.out (wm_push _ _) rfl hk; have HS := Lib.hid hk2; clear hk hk2)
      | fail)
    clear c0 c1 c0' c1' c0'' c1'' b0 b1 f0 f1 y0 y1 y2 y3 y4 y5 y6 y7 hfr HG HM2 HM H4 H5 H6 HG2 HG3 HG4
    generalize w6.heap.size = X at HS ⊢
    go_loopw [16, 17] (fun v i wr => ∃ (k : Nat) (m : Sm) (L1 : List Int) (R : Option Addr) (cR : Nat) (c : Int), k ≤ len4 + 6 ∧ i = .int .i64 k ∧ v = .slice R len0 cR ∧ L1.length = len0 ∧ c ≤ 2 * k ∧ SL S D Bx Ab M X w wr zs A n cap m m L1 L1 R c k) (fun _ i _ => len4 + 6 - (intOf i).toNat)
    case atStart => exact ⟨0, _, L, a0, cap0, 0, Nat.zero_le _, rfl, rfl, HLen.out.symm, by omega, HS.out⟩
    case round =>
      obtain ⟨k, m, L1, R, cR, c, hk, rfl, rfl, hl1, hc, hs⟩ := hrel
      have H1 := Lib.hid hs
      obtain ⟨x0, x1, x2, x3, x4, x5, x6, x7⟩ := hs.cells
      by_cases hlt : k < len4 + 6
      · have e1 : decide ((k : Int) < (len4 : Int) + 6) = true := by simp; omega
        obtain ⟨⟨L2, m2⟩, hz⟩ : ∃ z : List Int × Sm, sstp L1 m = z := ⟨_, rfl⟩
        have hst := hs.stepM (by omega) (by omega)
        have hl2 := sstp_len L1 m
        rw [hz] at hst hl2
        simp only at hst hl2
        obtain ⟨c2, hc2⟩ : ∃ c2, c2 = cst m c := ⟨_, rfl⟩
        obtain ⟨b, hb⟩ : ∃ b, b = decide (m2.pc = 0) := ⟨_, rfl⟩
        rw [← hc2, ← hb] at hst
        have hc3 := cst_le m c
        rw [← hc2] at hc3
        have hpb : ((m2.pc : Int) == 0) = b := by rw [hb]; by_cases h : m2.pc = 0 <;> simp [h]
        have hcq : (c2 == c + 1) = decide (0 < m.pc) := by
          rw [hc2]; unfold cst
          by_cases h : m.pc = 0
          · simp [h]; omega
          · rw [if_neg h]; simp; omega
        obtain ⟨I, hI⟩ : ∃ I, I = sItem m2 := ⟨_, rfl⟩
        have hI2 : (if (m2.pc : Int) = 0 then m2.item else 0) = I := by
          rw [hI]; unfold sItem; by_cases h : m2.pc = 0 <;> simp [h]
        have wm2 := hs.wm.step (L := L1) hs.oc.ww
        rw [hz] at wm2
        have hi2 := wm2.i
        obtain ⟨i20, i21⟩ := hi2
        have HST := Lib.hid hst; have HZZ := Lib.hid hz; have HC := Lib.hid hc; have HC3 := Lib.hid hc3; have HI := Lib.hid hI.symm; have HI2 := Lib.hid hI2; skip
        have HL1 := Lib.hid hl1.symm; have HL2 : Hid (len0 = L2.length) := Lib.hid (by omega)
        have HKK := Lib.hid hk; have hk9 : (k : Int) ≤ 1000000 := by omega
        clear hs hst hz hc hc2 hc3 hb hI hI2 hl1 hl2 wm2 hk
        go_wp2_with (first
          | (go_at_call 15; (with_reducible refine (SL.count H1.out).mono ?_); rintro r w8 ⟨rfl, hw⟩; cases hw)
          | (go_at_call 16; (with_reducible refine HST.out.mono ?_); rintro r w8 ⟨rfl, h⟩; have HS1 := Lib.hid h; obtain ⟨y0, y1, y2, y3, y4, y5, y6, y7⟩ := h.cells; clear h)
          | (go_at_call 17; (with_reducible refine (rstep_is (Fr M S D X) R len0 cR L1 m A n cap zs _ HL1.out hn2 HS1.out.rd (fun b hb => HS1.out.far hb) H1.out.lk HN.out (HK.out.below HS1.out.bel (Nat.le_refl _)) hn1 H1.out.wm H1.out.oc.ww (by omega) L2 m2 HZZ.out).mono ?_); rintro r w9 ⟨R2, cR2, rfl, hrd, hb⟩; have HS3 := Lib.hid ((HS1.out.ref hb hrd).below (below_alloc0 (Below.refl _ _) (.cells #[.int .i64 m2.kind, .int .i64 m2.pc, .int .i64 m2.k.head, .slice A n cap, .int .u32 m2.item, .int .u64 m2.h, .int .u32 m2.link, .int .i64 m2.tries] 36))); obtain ⟨v0, v1, v2, v3, v4, v5, v6, v7⟩ := HS3.out.cells; have hfx := HS3.out.fro; clear hrd hb)
          | fail)
        have hs4 := HS3.out.putX m2
        obtain ⟨W4, hW4⟩ : ∃ W4, W4 = (((((((((w9.alloc (.cells #[.int .i64 m2.kind, .int .i64 m2.pc, .int .i64 m2.k.head, .slice A n cap, .int .u32 m2.item, .int .u64 m2.h, .int .u32 m2.link, .int .i64 m2.tries] 36)).setCell ⟨X, 0, none⟩ (.int .i64 m2.kind)).setCell ⟨X, 1, none⟩ (.int .i64 m2.pc)).setCell ⟨X, 2, none⟩ (.int .i64 m2.k.head)).setCell ⟨X, 3, none⟩ (.slice A n cap)).setCell ⟨X, 4, none⟩ (.int .u32 m2.item)).setCell ⟨X, 5, none⟩ (.int .u64 m2.h)).setCell ⟨X, 6, none⟩ (.int .u32 m2.link)).setCell ⟨X, 7, none⟩ (.int .i64 m2.tries)) := ⟨_, rfl⟩
        have hs4' : SL S D Bx Ab M X w W4 zs A n cap m2 m2 L2 L2 R2 c2 (k + 1) := by rw [hW4]; exact hs4
        rw [← hW4]
        have HS5 := Lib.hid (hs4'.below (Below.refl _ _).drew)
        clear x0 x1 x2 x3 x4 x5 x6 x7 y0 y1 y2 y3 y4 y5 y6 y7 v0 v1 v2 v3 v4 v5 v6 v7 hfx hs4 hW4
        obtain ⟨v0, v1, v2, v3, v4, v5, v6, v7⟩ := hs4'.cells
        clear hs4'
        have HLn : Hid (L2.length ≤ 1000000) := Lib.hid (by have := HL2.out; omega)
        have ew : IntKind.i64.wrap (c + 1) = c + 1 := IntWalk.i64_in _ (by have := HC.out; have := H1.out.oc.c0; omega)
        first
          | (go_region_held3 (fun w' => w'.cell? ⟨X, 0, none⟩ = some (.int .i64 m2.kind) ∧ w'.cell? ⟨X, 1, none⟩ = some (.int .i64 m2.pc) ∧ w'.cell? ⟨X, 2, none⟩ = some (.int .i64 m2.k.head) ∧ w'.cell? ⟨X, 3, none⟩ = some (.slice A n cap) ∧ w'.cell? ⟨X, 4, none⟩ = some (.int .u32 m2.item) ∧ w'.cell? ⟨X, 5, none⟩ = some (.int .u64 m2.h) ∧ w'.cell? ⟨X, 6, none⟩ = some (.int .u32 m2.link) ∧ w'.cell? ⟨X, 7, none⟩ = some (.int .i64 m2.tries))
              (first | (with_reducible exact HS8.out.cells) | (with_reducible exact HS7.out.cells) | (with_reducible exact HS6.out.cells) | (with_reducible exact HS5.out.cells) | fail)
              (first
                | (go_at_call 18; (with_reducible refine (SL.item HS5.out).mono ?_); rintro r w10 ⟨rfl, hw⟩; cases hw; rw [HI.out])
                | (go_at_call 19; (with_reducible refine (ritem_any _ _ _ _ _ _ _ _ _ _ _ (Int.natCast_nonneg _) i20 i21).mono ?_); rintro r w10 ⟨rfl, hb⟩; rw [HI2.out]; have HS6 := Lib.hid (HS5.out.below hb); clear hb)
                | (go_at_call 20; (with_reducible refine (SL.tries HS6.out).mono ?_); rintro r w11 ⟨rfl, hw⟩; cases hw)
                | (go_at_call 22; (with_reducible refine (SL.all HS6.out HLn.out).mono ?_); rintro r w12 ⟨rfl, hr, h, hb⟩; have HS7 := Lib.hid h; have HRA := Lib.hid hr; clear h hr hb)
                | (go_at_call 21; (with_reducible refine (same_len _ _ _ _ len0 L2 _ HL2.out HRA.out HS7.out.rd.reads HLn.out).mono ?_); rintro r w13 ⟨rfl, hb⟩; have HS8 := Lib.hid (HS7.out.below hb); clear hb)
                | (go_at_call 15; (with_reducible refine (SL.count HS8.out).mono ?_); rintro r w14 ⟨rfl, hw⟩; cases hw)
                | fail))
          | fail
        clear ew
        by_cases hp : k < len4
        · obtain ⟨bp, offp, rfl, hbl, hcp⟩ := HPk.out (by have := HPL.out; omega)
          have hcj := hcp k (by have := HPL.out; omega)
          obtain ⟨g, hg⟩ : ∃ g, g = atP l4 k := ⟨_, rfl⟩
          rw [← hg] at hcj
          have hgv : 0 ≤ g.v ∧ g.v ≤ 18446744073709551615 := by
            have hl := HPL.out
            have := HPW.out (atP l4 k) (by unfold atP; rw [List.getD, List.getElem?_eq_getElem (by omega)]; exact List.getElem_mem (by omega))
            rw [hg]; exact this
          have hpc : ∀ w', Below w.heap.size w w' → (w'.cell? ⟨bp, offp + k * 2, none⟩ = some (.int .i64 g.p) ∧ w'.cell? ⟨bp, offp + k * 2 + 1, none⟩ = some (.int .u64 g.v)) := fun w' hb =>
            ⟨(hb.cell (p := ⟨bp, offp + k * 2, none⟩) hbl).trans hcj.1, (hb.cell (p := ⟨bp, offp + k * 2 + 1, none⟩) hbl).trans hcj.2⟩
          have HPC := Lib.hid hpc; have HGV := Lib.hid hgv
          have hp0 : (k : Int) < (len4 : Int) := by omega
          have hk0 : (0 : Int) ≤ (k : Int) := by omega
          obtain ⟨p0, p1⟩ := hpc _ HS8.out.bel
          have HS8D := Lib.hid (HS8.out.below (Below.refl _ _).drew)
          have hcc : c2 ≤ 900000000 := by have := HC3.out; have := HC.out; omega
          clear hcp hcj hg hgv hpc hp v0 v1 v2 v3 v4 v5 v6 v7
          go_wp2_with (fail)
          go_region_held3 (fun w' => w'.cell? ⟨bp, offp + k * 2, none⟩ = some (.int .i64 g.p) ∧ w'.cell? ⟨bp, offp + k * 2 + 1, none⟩ = some (.int .u64 g.v))
            (first | (with_reducible exact HPC.out _ HS9.out.bel) | (with_reducible exact HPC.out _ HS8D.out.bel) | fail)
            (first
              | (go_at_call 23; (with_reducible refine (SL.poke HS8D.out g.p g.v HGV.out hcc).mono ?_); rintro r w15 ⟨rfl, h⟩; have HS9 := Lib.hid h; clear h)
              | fail)
          go_wp2_with (fail)
          clear p0 p1
          obtain ⟨p0, p1⟩ := HPC.out _ HS9.out.bel
          have HS9D := Lib.hid (HS9.out.below (Below.refl _ _).drew)
          go_region_held3 (fun w' => w'.cell? ⟨bp, offp + k * 2, none⟩ = some (.int .i64 g.p) ∧ w'.cell? ⟨bp, offp + k * 2 + 1, none⟩ = some (.int .u64 g.v))
            (first | (with_reducible exact HPC.out _ HS10.out.bel) | (with_reducible exact HPC.out _ HS9D.out.bel) | fail)
            (first
              | (go_at_call 24; (with_reducible refine (rput_any (Fr M S D X) R2 len0 cR2 L2 g.p g.v _ HL2.out hn2 HS9D.out.rd (fun b hb => HS9D.out.far hb)).mono ?_); rintro r w16 ⟨R3, cR3, rfl, hx, hb⟩; rw [ptv_eq] at hx; have HS10 := Lib.hid (HS9D.out.ref hb hx); clear hx hb)
              | fail)
          go_wp2_with (fail)
          go_roundw
          case rel =>
            exact ⟨k + 1, m2, _, R3, cR3, c2 + 1, by have := HKK.out; omega, by go_num, rfl, by rw [ptq_len]; exact HL2.out.symm, by have := HC.out; have := HC3.out; omega, HS10.out⟩
          case measure => simp [intOf]; omega
        · have hp0 : ¬ (k : Int) < (len4 : Int) := by omega
          clear hp v0 v1 v2 v3 v4 v5 v6 v7
          go_wp2_with (fail)
          go_roundw
          case rel =>
            exact ⟨k + 1, m2, L2, R2, cR2, c2, by have := HKK.out; omega, by go_num, rfl, HL2.out.symm, by have := HC.out; have := HC3.out; omega, HS8.out⟩
          case measure => simp [intOf]; omega
      · obtain rfl : k = len4 + 6 := by omega
        have e1 : decide (((len4 + 6 : Nat) : Int) < (len4 : Int) + 6) = false := by simp
        clear x0 x1 x2 x3 x4 x5 x6 x7 hs hlt hl1 hc hk
        go_wp2_with (first
          | (go_at_call 16; (with_reducible refine (step_nil _ _).mono ?_); rintro r w8 ⟨rfl, hw⟩; cases hw)
          | (go_at_call 18; (with_reducible refine (item_nil _).mono ?_); rintro r w8 ⟨rfl, hw⟩; cases hw)
          | (go_at_call 20; (with_reducible refine (tries_nil _).mono ?_); rintro r w8 ⟨rfl, hw⟩; cases hw)
          | fail)
        go_ret
        exact ⟨rfl, H1.out.bel⟩
end Go.Proofs.Ytgnnhjadmepipaa

/- The law of three that sweep: walked. -/
import Derived.Test.YtbpkcoemehmpbaaSwAv
namespace Go.Proofs.Ytbpkcoemehmpbaa
open Go.RowKit
set_option linter.unusedVariables false
set_option linter.unusedSimpArgs false
set_option maxRecDepth 100000
open Lay (plcc plc shOf nodesN OkC Cfg Norm firstV Rep lenL partsC kindV)

/-- An event's box. -/
def EB (w : World) (E : Nat) (k a : Int) : Prop := w.heap[E]? = some (.cells #[.int .i64 k, .int .i64 0, .int .i64 a, .int .i64 0, .int .i64 0] 46 (0, 0))
theorem EB.new (w : World) (k a : Int) : EB (w.alloc (.cells #[.int .i64 k, .int .i64 0, .int .i64 a, .int .i64 0, .int .i64 0] 46)) w.heap.size k a := Go.heap_alloc_new _ _
theorem EB.below {w w' : World} {E : Nat} {k a : Int} (h : EB w E k a) (hb : Below w.heap.size w w') : EB w' E k a := (hb.block E (Array.getElem?_eq_some_iff.1 h).1).trans h
theorem EB.ca {w : World} {E : Nat} {k a : Int} (h : EB w E k a) : w.cell? ⟨E, 2, none⟩ = some (.int .i64 a) := cell_of_row w E 2 _ _ _ h
theorem EB.ck {w : World} {E : Nat} {k a : Int} (h : EB w E k a) : w.cell? ⟨E, 0, none⟩ = some (.int .i64 k) := cell_of_row w E 0 _ _ _ h
theorem wre_no {m : Wn} (h : m.pc ≠ 0) : wre m = m := by unfold wre; rw [if_neg h]
theorem wre_yes {m : Wn} {cy : Int} (h : m.pc = 0) (hc : m.cy = cy) : wre m = wNew cy := by unfold wre; rw [if_pos h, hc]
theorem wstp_cy (g : Wg) (L : List Int) (m : Wn) : (wstp g L m).2.cy = m.cy := by
  unfold wstp wgo wq
  repeat' (first | rfl | split)
theorem reads_at {k : IntKind} {b j : Nat} {w : World} {L : List Int} (h : Reads k w (some ⟨b, 0, none⟩) L) (hj : j < L.length) : w.cell? ⟨b, j, none⟩ = some (.int k (L.getD j 0)) := by
  obtain ⟨b', off, e1, hlt, hc⟩ := h (by omega)
  injection e1 with e1
  injection e1 with e2 e3
  subst e2
  subst e3
  have := hc j hj
  rwa [Nat.zero_add] at this
/-- A list of a call's own, apart from a row that is older. -/
structure LQ (w : World) (A : Option Addr) (l : List Int) (bl : Nat) : Prop where
  ex : 0 < l.length → ∃ b off, A = some ⟨b, off, none⟩ ∧ bl < b ∧ b < w.heap.size ∧ ∀ j, j < l.length → w.cell? ⟨b, off + j, none⟩ = some (.int .i64 (l.getD j 0))
theorem LQ.below {w w' : World} {A : Option Addr} {l : List Int} {bl : Nat} (h : LQ w A l bl) (hb : Below w.heap.size w w') : LQ w' A l bl := ⟨fun h0 => by
  obtain ⟨b, off, e, h1, h2, h3⟩ := h.ex h0
  exact ⟨b, off, e, h1, Nat.lt_of_lt_of_le h2 hb.size, fun j hj => (hb.cell (p := ⟨b, off + j, none⟩) h2).trans (h3 j hj)⟩⟩
theorem LQ.set {w : World} {A : Option Addr} {l : List Int} {bl : Nat} (h : LQ w A l bl) (i : Nat) (v : Value) : LQ (w.setCell ⟨bl, i, none⟩ v) A l bl := ⟨fun h0 => by
  obtain ⟨b, off, e, h1, h2, h3⟩ := h.ex h0
  have u := upd_one' w bl i v
  exact ⟨b, off, e, h1, Nat.lt_of_lt_of_le h2 u.size, fun j hj => (World.cell?_of_block (w := w) (a := ⟨b, off + j, none⟩) (u.block b h2 (by omega) (by omega))).trans (h3 j hj)⟩⟩
set_option maxHeartbeats 32000000 in
theorem walkAll (c : Cfg) (cy : Int) (A : Option Addr) (n cap : Nat) (zs : List Int) (PA : Option Addr) (pn pcap : Nat) (ps : List Int) (w : World) (hcy : (Lit.int .u64 cy).wf = true) (hS : IsRow .u8 w A n cap zs) (hP : IsRow .u8 w PA pn pcap ps) :
    Calls Try.prog 3 #[Lay.cfgV c, .int .u64 cy, .slice A n cap, .slice PA pn pcap] w fun e w' => e = .returned (.bool true) ∧ Below w.heap.size w w' := by
  have hmf : ∀ (fn : Fn) (first cap : Array Value) (w : World), (Instr.makeFunc fn first cap).run Try.prog w = .ok (.func fn first cap) w := fun _ _ _ _ => rfl
  have hcyr := u64_rng hcy
  obtain ⟨rN, lN, _, _, _, wfN⟩ := reads_row hS
  obtain ⟨ns, hns⟩ : ∃ xs, xs = zs.take n := ⟨_, rfl⟩
  rw [← hns] at rN lN wfN
  obtain ⟨rP, lP, _, _, _, wfP⟩ := reads_row hP
  obtain ⟨qs, hqs⟩ : ∃ xs, xs = ps.take pn := ⟨_, rfl⟩
  rw [← hqs] at rP lP wfP
  have HNW := Lib.hid (u8_rngs wfN); have HRN := Lib.hid rN; have HLN := Lib.hid lN
  have HPW := Lib.hid (u8_rngs wfP); have HRP := Lib.hid rP; have HLP := Lib.hid lP
  have HCY := Lib.hid hcyr
  clear hS hns rN lN wfN hP hqs rP lP wfP hcy hcyr
  have HB := Lib.hid (Bw.start w c)
  obtain ⟨q0, q1, q2, q3, q4, q5, q6, q7, q8, q9, q10, q11⟩ := (Bw.start w c).cfg
  by_cases hbig : 20 < n ∨ 400 < pn ∨ cy = 0
  · have key : decide ((n : Int) > 20) = true ∨ (decide ((n : Int) > 20) = false ∧ decide ((pn : Int) > 400) = true) ∨ (decide ((n : Int) > 20) = false ∧ decide ((pn : Int) > 400) = false ∧ (cy == 0) = true) := by
      by_cases h20 : 20 < n
      · exact .inl (by simp; omega)
      · by_cases h4 : 400 < pn
        · exact .inr (.inl ⟨by simp; omega, by simp; omega⟩)
        · exact .inr (.inr ⟨by simp; omega, by simp; omega, by simp; omega⟩)
    clear hbig
    rcases key with d0 | ⟨d0, d1⟩ | ⟨d0, d1, d2⟩
    all_goals
      go_enter Try.func3, Try.ntmps3
      go_wp2_with (first
        | (go_at_call 6; (with_reducible refine (awake_true _).mono ?_); rintro e w1 ⟨rfl, hb⟩; have HB := Lib.hid (HB.out.step hb); clear hb q0 q1 q2 q3 q4 q5 q6 q7 q8 q9 q10 q11; obtain ⟨q0, q1, q2, q3, q4, q5, q6, q7, q8, q9, q10, q11⟩ := HB.out.cfg)
        | (go_at_call 7; (with_reducible refine (small_any c _).mono ?_); rintro e w2 ⟨b, rfl, hs, hb⟩; have HB := Lib.hid (HB.out.step hb); clear hb q0 q1 q2 q3 q4 q5 q6 q7 q8 q9 q10 q11 hs; cases b)
        | fail)
      all_goals go_ret
      all_goals exact ⟨rfl, HB.out.fin⟩
  · have d0 : decide ((n : Int) > 20) = false := by simp; omega
    have d1 : decide ((pn : Int) > 400) = false := by simp; omega
    have d2 : (cy == 0) = false := by simp; omega
    have HN20 := Lib.hid (show n ≤ 20 by omega)
    have HP400 := Lib.hid (show pn ≤ 400 by omega)
    clear hbig
    go_enter Try.func3, Try.ntmps3
    go_wp2_with (first
      | (go_at_call 6; (with_reducible refine (awake_true _).mono ?_); rintro e w1 ⟨rfl, hb⟩; have HB := Lib.hid (HB.out.step hb); clear hb q0 q1 q2 q3 q4 q5 q6 q7 q8 q9 q10 q11; obtain ⟨q0, q1, q2, q3, q4, q5, q6, q7, q8, q9, q10, q11⟩ := HB.out.cfg)
      | (go_at_call 7; (with_reducible refine (small_any c _).mono ?_); rintro e w2 ⟨b, rfl, hs, hb⟩; have HB := Lib.hid (HB.out.step hb); clear hb q0 q1 q2 q3 q4 q5 q6 q7 q8 q9 q10 q11; obtain ⟨q0, q1, q2, q3, q4, q5, q6, q7, q8, q9, q10, q11⟩ := HB.out.cfg; have HSS := Lib.hid hs; clear hs; cases b)
      | (go_at_call 8; (with_reducible refine (Lay.new_yes (HSS.out trivial).1 _).mono ?_); rintro e w3 ⟨N, rfl, hm, hb⟩; have HOK := Lib.hid (HSS.out trivial).1; have HM := Lib.hid hm; have HB := Lib.hid (HB.out.step hb); have HRN3 := Lib.hid (HB.out.bytes HRN.out); have HRP3 := Lib.hid (HB.out.bytes HRP.out); clear hb hm q0 q1 q2 q3 q4 q5 q6 q7 q8 q9 q10 q11)
      | (go_at_call 9; (with_reducible refine (filled_any HOK.out N cy A n cap ns _ HM.out HLN.out.symm HRN3.out HNW.out HCY.out (by have := HN20.out; omega)).mono ?_); rintro e w4 ⟨S, D, L, rfl, hfl, hpo, hb⟩; have HFI := Lib.hid hfl; have HP0 := Lib.hid hpo; have HLB := Lib.hid HB.out.lt; clear hfl hpo hb)
      | fail)
    · go_ret
      exact ⟨rfl, HB.out.fin⟩
    have HN12 := Lib.hid (HSS.out trivial).2
    have HPB := Lib.hid (Lay.parts_bd' HOK.out)
    have HND := Lib.hid (nodn_is HOK.out)
    obtain ⟨P, hP⟩ : ∃ P : Nat, partsC c = (P : Int) := ⟨(partsC c).toNat, by have := HPB.out.1; omega⟩
    obtain ⟨nn, hnn⟩ : ∃ nn, nn = nodn c := ⟨_, rfl⟩
    have HPP := Lib.hid hP
    have HNN := Lib.hid (show nodesN c = (nn : Int) by rw [hnn]; exact HND.out.symm)
    have HNE := Lib.hid hnn
    have HNO : Hid (nn ≤ 12) := Lib.hid (by have h2 := HND.out; have h3 := HN12.out; omega)
    have HP12 : Hid (P ≤ 12) := Lib.hid (by
      have h1 := (parts_pos (gw_is HOK.out HFI.out.len)).2
      have h3 := HNO.out
      rw [parts_is HOK.out, hP] at h1
      omega)
    have HRP4 : Hid (∀ w', Below w3.heap.size w3 w' → Reads .u8 w' PA qs) := Lib.hid (fun w' hb => HRP3.out.below hb (Nat.le_refl _))
    clear hP hnn HRN3 HRN HNW HLN HRP HRP3
    go_loopw [14] (fun v wr => ∃ (k : Nat) (L : List Int), v = .int .i64 (k : Int) ∧ k ≤ 5 ∧ PO w3.heap.size S D N c w3 wr L (2100 + (k : Int)) ∧ Fil c cy L ∧ HdZ c L k) (fun v _ => 5 - (intOf v).toNat)
    case atStart => exact ⟨0, L, rfl, by omega, by simpa using HP0.out, HFI.out, fun j hj => by omega⟩
    case round =>
      clear HP0 HFI L
      obtain ⟨k, L, rfl, hk, hpo, hfi, hhd⟩ := hrel
      have HPO := Lib.hid hpo; have HFI := Lib.hid hfi; have HHD := Lib.hid hhd
      clear hpo hfi hhd
      by_cases hlt : k < 5
      · have hlt2 : (k : Int) < 5 := by omega
        have ek1 : IntKind.i64.wrap ((k : Int) + 1) = (k : Int) + 1 := IntWalk.i64_in _ (by omega)
        have HKW : Hid ((Lit.int .i64 (k : Int)).wf = true) := Lib.hid (Lay.wf_i64 (by omega) (by omega))
        have HK := Lib.hid hlt
        clear hlt hk
        go_wp2_with (first
          | (go_at_call 11; (with_reducible refine (Lay.head_m HOK.out N (k : Int) HKW.out _ HPO.out.mp).mono ?_); rintro e w5 ⟨rfl, hb⟩; have HP1 := Lib.hid (HPO.out.step hb); clear hb)
          | (go_at_call 10; (with_reducible refine (put_po HP1.out (plcc c 7 (k : Int) 0) 0 (by decide) (by have := HK.out; omega)).mono ?_); rintro e w6 ⟨rfl, hp, u⟩; have HP2 := Lib.hid hp; clear hp u)
          | fail)
        go_roundw
        case rel => exact ⟨k + 1, _, by go_num, HK.out, HP2.out.more (by omega), (HFI.out.hd HOK.out HK.out HHD.out).1, (HFI.out.hd HOK.out HK.out HHD.out).2⟩
        case measure => simp [intOf]; have := HK.out; omega
      · obtain rfl : k = 5 := by omega
        have HAI := Lib.hid (AI.start HOK.out HFI.out (by have := HNO.out; have := HNE.out; omega) HHD.out pn)
        have HLL := Lib.hid (fil_len HOK.out HFI.out)
        have HLP0 : Hid (0 < L.length) := Lib.hid (by have := (gw_is HOK.out HFI.out.len).sw; omega)
        obtain ⟨bs, hbs⟩ : ∃ bs, bs = wr.heap.size := ⟨_, rfl⟩
        have HBS := Lib.hid hbs
        clear hlt hk hbs
        have hmk1 := fun w => make_i P w (by have := HP12.out; omega)
        have hmk2 : ∀ w : World, (Instr.makeSlice 42 (.int .i64 ((nn : Int) + 1)) (.int .i64 ((nn : Int) + 1))).run Try.prog w = .ok (.slice (some ⟨w.heap.size, 0, none⟩) (nn + 1) (nn + 1)) (w.alloc (.cells (List.replicate (nn + 1) (Value.int .i64 0)).toArray 3)) := fun w => by
          have h := make_i (nn + 1) w (by have := HNO.out; omega)
          rwa [show ((nn + 1 : Nat) : Int) = (nn : Int) + 1 by omega] at h
        have en1 : IntKind.i64.wrap ((nn : Int) + 1) = (nn : Int) + 1 := IntWalk.i64_in _ (by have := HNO.out; omega)
        go_wp2_with (first
          | (go_at_call 12; (with_reducible refine (all_po HPO.out (by have := HLL.out; omega)).mono ?_); rintro e w6 ⟨rfl, hr, hp, hb⟩; rw [← HBS.out] at hr ⊢; have HP6 := Lib.hid hp; have HR6 := Lib.hid hr; have HB6 := Lib.hid (show bs < w6.heap.size from (by obtain ⟨bb, oo, eb, hlt, _⟩ := hr HLP0.out; injection eb with eb; injection eb with e1 e2; omega)); have HO6 := Lib.hid (show S < bs ∧ D < bs ∧ N < bs ∧ w3.heap.size ≤ bs from (by have h1 := HPO.out.lt; have h2 := HBS.out; have h3 := HPO.out.bel.size; omega)); clear hr hp hb HPO)
          | (go_at_call 13; (with_reducible refine (newS_map N cy _).mono ?_); rintro e w7 ⟨X0, rfl, hX, hz, hb⟩; have HP7 := Lib.hid (HP6.out.step hb); have HR7 := Lib.hid (HR6.out.below hb (Nat.le_refl _)); have HS0 := Lib.hid hz; have HX0 := Lib.hid (show bs < X0 from Nat.lt_of_lt_of_le HB6.out hX); have HB7 := Lib.hid (Nat.lt_of_lt_of_le HB6.out hb.size); clear hX hz hb HP6 HR6 HB6)
          | (go_at_call 13; (with_reducible refine (newS_map N cy _).mono ?_); rintro e w8 ⟨X1, rfl, hX, hz, hb⟩; have HP8 := Lib.hid (HP7.out.step hb); have HR8 := Lib.hid (HR7.out.below hb (Nat.le_refl _)); have HS01 := Lib.hid (HS0.out.step hb); have HS1 := Lib.hid hz; have HX1 := Lib.hid (show X0 < X1 from Nat.lt_of_lt_of_le HS0.out.lt hX); have HB8 := Lib.hid (Nat.lt_of_lt_of_le HB7.out hb.size); clear hX hz hb HP7 HR7 HB7 HS0)
          | (go_at_call 13; (with_reducible refine (newS_map N cy _).mono ?_); rintro e w9 ⟨X2, rfl, hX, hz, hb⟩; have HA9 : Hid (A3 w3.heap.size S D N c w3 w9 bs X0 X1 X2 cy L (2100 + ((5 : Nat) : Int))) := Lib.hid ⟨HP8.out.step hb, ⟨HR8.out.below hb (Nat.le_refl _), Nat.lt_of_lt_of_le HB8.out hb.size⟩, HS01.out.step hb, HS1.out.step hb, hz, ⟨HO6.out.1, HO6.out.2.1, HO6.out.2.2.1, HX0.out, HX1.out, Nat.lt_of_lt_of_le HS1.out.lt hX, HO6.out.2.2.2⟩⟩; have HX2 := Lib.hid hz.lt; clear hX hz hb HP8 HR8 HB8 HS01 HS1)
          | (go_at_call 14; (with_reducible refine (Lay.parts_m HOK.out N _ (HA9.out.below (below_alloc0 (Below.refl _ _) _)).po.mp).mono ?_); rintro e w10 ⟨rfl, hb⟩; rw [HPP.out]; have HA10 := Lib.hid ((HA9.out.below (below_alloc0 (Below.refl _ _) (.cells #[ptr X0, ptr X1, ptr X2] 39))).below hb); have HW10 : Hid (W3 w10 w9.heap.size (x3 X0 X1 X2)) := Lib.hid ((hb.block _ (by simp)).trans (Go.heap_alloc_new _ _)); clear hb HA9)
          | (go_at_call 15; (with_reducible refine (Lay.nodes_m HOK.out N _ (HA10.out.below (below_alloc0 (Below.refl _ _) _)).po.mp).mono ?_); rintro e w11 ⟨rfl, hb⟩; rw [HNN.out]; have HA11 := Lib.hid ((HA10.out.below (below_alloc0 (Below.refl _ _) (.cells (List.replicate P (Value.int .i64 0)).toArray 3))).below hb); have HR11 := Lib.hid ((IR.new w10 P 3).below hb); have HW11 : Hid (W3 w11 w9.heap.size (x3 X0 X1 X2)) := Lib.hid ((hb.block _ (by have := HW10.out.lt; simp; omega)).trans ((Below.heap_alloc _ _ _ HW10.out.lt).trans HW10.out)); clear hb HA10)
          | fail)
        have HAW := Lib.hid ((AW.start (HA11.out.below (below_alloc0 (Below.refl _ _) (.cells (List.replicate (nn + 1) (Value.int .i64 0)).toArray 3))) ((Below.heap_alloc _ _ _ HW11.out.lt).trans HW11.out) (HR11.out.below (below_alloc0 (Below.refl _ _) _)) (IR.new w11 (nn + 1) 3) ⟨HX2.out, HW10.out.lt, HR11.out.lt⟩).more (k' := 2200) (by decide))
        obtain ⟨bw, hbw⟩ : ∃ bw, bw = w9.heap.size := ⟨_, rfl⟩
        obtain ⟨bp, hbp⟩ : ∃ bp, bp = w10.heap.size := ⟨_, rfl⟩
        obtain ⟨bf, hbf⟩ : ∃ bf, bf = w11.heap.size := ⟨_, rfl⟩
        rw [← hbw, ← hbp, ← hbf] at HAW
        rw [← hbw, ← hbp, ← hbf]
        have HLEN := Lib.hid HFI.out.len
        clear HA11 HW11 HR11 HW10 HX0 HX1 HX2 hbw hbp hbf hmk1 HO6 HBS
        have HKW0 : Hid (WKW c 0 (wNew cy)) := Lib.hid (wkw_new HOK.out HCY.out)
        have ep600 : IntKind.i64.wrap ((pn : Int) + 600) = (pn : Int) + 600 := IntWalk.i64_in _ (by have := HP400.out; omega)
        go_loopw [19] (fun v wr => ∃ (i : Nat) (L1 : List Int) (X : Nat → Nat) (M : Nat → Wn) (pf ff : Nat → Int), v = .int .i64 (i : Int) ∧ i ≤ pn + 600 ∧ AW w3.heap.size S D N c w3 wr bs bw bp bf P (nn + 1) X M L1 L (2200 + (i : Int)) pf ff ∧ AI c cy L L1 M pn i pf ff ∧ (∀ k, k < 3 → WKW c (i : Int) (M k))) (fun v _ => pn + 600 - (intOf v).toNat)
        case atStart => exact ⟨0, L, _, _, _, _, rfl, by omega, by simpa using HAW.out, HAI.out, fun k hk => HKW0.out⟩
        case round =>
          clear HAW HAI HFI HHD
          obtain ⟨i, L1, X, M, pf, ff, rfl, hi, haw, hai, hwk⟩ := hrel
          have HAW := Lib.hid haw; have HAI := Lib.hid hai; have HWK := Lib.hid hwk
          clear haw hai hwk
          by_cases hlt : i < pn + 600
          · have hlt2 : (i : Int) < (pn : Int) + 600 := by omega
            have ei1 : IntKind.i64.wrap ((i : Int) + 1) = (i : Int) + 1 := IntWalk.i64_in _ (by have := HP400.out; omega)
            have eim : (i : Int).tmod 3 = ((i % 3 : Nat) : Int) := by rw [Int.tmod_eq_emod_of_nonneg (by omega)]; omega
            have HI := Lib.hid (show i < pn + 600 ∧ i < 1000 by have := HP400.out; omega)
            obtain ⟨i3, hi3⟩ : ∃ i3, i3 = i % 3 := ⟨_, rfl⟩
            rw [← hi3] at eim
            have HI3 := Lib.hid hi3
            clear hi hlt hi3
            go_upto_if 102 with (fail)
            go_cut [20] (fun s wx => ∃ kk : Nat, s = .int .i64 (kk : Int) ∧ kk < 3 ∧ (pn ≤ i → kk = i % 3) ∧ wx = wr)
            case first =>
              by_cases hip : i < pn
              · have hip2 : (i : Int) < (pn : Int) := by omega
                obtain ⟨b, off, rfl, hblt, hcell⟩ := (HRP4.out _ HAW.out.po.bel) (by have := HLP.out; omega)
                have hcx := hcell i (by have := HLP.out; omega)
                obtain ⟨x, hx⟩ : ∃ x, x = qs.getD i 0 := ⟨_, rfl⟩
                have hxr : 0 ≤ x ∧ x ≤ 255 := by rw [hx]; exact HPW.out _ (by rw [List.getD, List.getElem?_eq_getElem (by have := HLP.out; omega)]; exact List.getElem_mem _)
                rw [← hx] at hcx
                obtain ⟨kk, hkk⟩ : ∃ kk : Nat, x % 3 = (kk : Int) := ⟨(x % 3).toNat, by omega⟩
                have t1 : x.tmod 3 = (kk : Int) := by rw [Int.tmod_eq_emod_of_nonneg hxr.1, hkk]
                have hk3 : kk < 3 := by omega
                have w1 : IntKind.u8.wrap (kk : Int) = (kk : Int) := by rw [IntKind.wrap_u8]; exact Int.emod_eq_of_lt (by omega) (by omega)
                have w2 : IntKind.i64.wrap (kk : Int) = (kk : Int) := IntWalk.i64_in _ (by omega)
                have hi0 : (0 : Int) ≤ (i : Int) := by omega
                have HK3 := Lib.hid hk3
                clear hx hxr hkk hk3 hcell hblt eim
                go_wp2_with (fail)
                go_meet
                exact ⟨kk, rfl, HK3.out, fun h => absurd hip (by omega), rfl⟩
              · have hip2 : ¬ (i : Int) < (pn : Int) := by omega
                go_wp2_with (fail)
                go_meet
                exact ⟨i3, rfl, by have := HI3.out; omega, fun _ => HI3.out, rfl⟩
            case rest =>
              obtain ⟨kk, rfl, hkk, hturn, rfl⟩ := hcut
              have hgo := HAI.out.go hkk (by have := HNO.out; have := HNE.out; omega) hturn
              have HKK := Lib.hid hkk
              have hk0 : (0 : Int) ≤ (kk : Int) := by omega
              have hk3 : (kk : Int) < 3 := by omega
              have hcy := (wstp_cy (wOf c) L1 (M kk)).trans (HAI.out.cyc hkk)
              have hw2 := ((HWK.out kk hkk).step HOK.out HAW.out.po.ww).1
              obtain ⟨y, hy⟩ : ∃ y, y = wstp (wOf c) L1 (M kk) := ⟨_, rfl⟩
              rw [← hy] at hgo hcy hw2
              obtain ⟨L2, m2⟩ := y
              dsimp only at hgo hcy hw2
              have HY := Lib.hid hy.symm
              have HCC := Lib.hid hcy; have HW2 := Lib.hid hw2
              have hc1 := HAW.out.rw.cell hkk
              have HWN : Hid (∀ m3, WKW c ((i : Int) + 1) m3 → ∀ k, k < 3 → WKW c (((i + 1 : Nat)) : Int) (fset M kk m3 k)) := Lib.hid (fun m3 hm k hk => by
                by_cases e : k = kk
                · subst e; rw [fset_same]; exact hm.mono (by omega)
                · rw [fset_other _ e]; exact (HWK.out k hk).mono (by omega))
              clear hkk hturn hcy hw2 hy eim HAI HI3
              rcases hgo with ⟨he, v, hv, v1, v2, vf, hai⟩ | ⟨he, v, hv, v1, vf, hai⟩ | ⟨he, hai⟩
              · have HE := Lib.hid he
                have HAI := Lib.hid hai
                have HEA := Lib.hid hv
                have HVF := Lib.hid vf
                have HV := Lib.hid (show 1 ≤ v ∧ v < nn + 1 by have := HNE.out; omega)
                have hv1 : decide ((v : Int) < 1) = false := by simp; omega
                have hv2 : decide ((v : Int) > (nn : Int)) = false := by have := HNE.out; simp; omega
                have hv0 : (0 : Int) ≤ (v : Int) := by omega
                have hv3 : (v : Int) < (nn : Int) + 1 := by have := HNE.out; omega
                have hv4 : (v : Int) < ((nn + 1 : Nat) : Int) := by omega
                clear he hai hv v1 v2 vf
                by_cases hz : m2.pc = 0
                · have HZ := Lib.hid (decide_eq_true hz)
                  have HZ0 := Lib.hid hz
                  clear hz
                  go_wp2_with (first
                    | (go_at_call 16; (with_reducible refine (HAW.out.step HKK.out (HWK.out kk HKK.out) (by have := HI.out; omega) (by have := HI.out; omega)).mono ?_); rintro e w12 ⟨rfl, ha⟩; rw [HY.out] at ha; rw [HY.out, HZ.out]; have HA2 := Lib.hid ha; have hc2 := ha.rw.cell HKK.out; clear ha hc1)
                    | (go_at_call 17; (with_reducible refine (HA2.out.ev HKK.out).mono ?_); rintro e w13 ⟨rfl, hb⟩; rw [fset_same, HE.out, HEA.out]; have HA3 := Lib.hid ((HA2.out.below hb).below (below_alloc0 (Below.refl _ _) (.cells #[.int .i64 5, .int .i64 0, .int .i64 (v : Int), .int .i64 0, .int .i64 0] 46))); have HEB := Lib.hid (EB.new w13 5 (v : Int)); have hck := HEB.out.ck; have hca := HEB.out.ca; have HL13 := Lib.hid hb.size; clear hb hc2)
                    | fail)
                  have HAD := Lib.hid (HA3.out.below (Below.refl _ _).drew); have HED := Lib.hid (HEB.out.below (Below.refl _ _).drew)
                  go_region_held3 (fun w' => w'.cell? ⟨w13.heap.size, 2, none⟩ = some (.int .i64 (v : Int)))
                    (first | (with_reducible exact HE4.out.ca) | (with_reducible exact HED.out.ca) | fail)
                    (first
                      | (go_at_call 15; (with_reducible refine (Lay.nodes_m HOK.out N _ HAD.out.po.mp).mono ?_); rintro e w14 ⟨rfl, hb⟩; rw [HNN.out]; have HA4 := Lib.hid (HAD.out.below hb); have HE4 := Lib.hid (HED.out.below hb); clear hb)
                      | fail)
                  have hca4 := HE4.out.ca
                  have hf4 := HA4.out.rf.cell HV.out.2; rw [HVF.out] at hf4; have hg4 := HA4.out.rf.fro v
                  have HN4 := Lib.hid (show w13.heap.size ≠ bf from (by have h1 := HA2.out.rf.lt; have h3 := HL13.out; omega))
                  go_upto_region 29 with (fail)
                  have HA5 := Lib.hid (HA4.out.setf HV.out.2 1)
                  have hck5 : (w14.setCell ⟨bf, v, none⟩ (.int .i64 1)).cell? ⟨w13.heap.size, 0, none⟩ = some (.int .i64 5) := (World.cell?_of_block (w := w14) (a := ⟨w13.heap.size, 0, none⟩) (heap_setCell_other w14 ⟨bf, v, none⟩ _ _ HN4.out)).trans HE4.out.ck
                  obtain ⟨W, hW⟩ : ∃ W, W = w14.setCell ⟨bf, v, none⟩ (.int .i64 1) := ⟨_, rfl⟩
                  rw [← hW] at HA5 hck5 ⊢
                  clear hW hca4 hf4 hg4 hck hca HA3 HAD HA4 HE4 HED HEB
                  go_wp2_with (first
                    | (go_at_call 13; (with_reducible refine (HA5.out.renew HKK.out cy).mono ?_); rintro e w15 ⟨Y, rfl, ha, hb⟩; have HA6 := Lib.hid hb; have hc6 := ha.rw.cell HKK.out; have hg6 := ha.rw.fro kk; clear ha hb)
                    | fail)
                  go_roundw
                  case rel =>
                    have ha := HA6.out
                    rw [fset_fset] at ha
                    have hi := HAI.out
                    rw [wre_yes HZ0.out HCC.out] at hi
                    exact ⟨i + 1, L2, _, _, _, _, by go_num, by have := HI.out; omega, ha.more (by omega), hi, HWN.out _ ((wkw_new HOK.out HCY.out).mono (by omega))⟩
                  case measure => simp [intOf]; have := HI.out; omega
                · have HZ := Lib.hid (decide_eq_false hz)
                  have HZ0 := Lib.hid hz
                  clear hz
                  go_wp2_with (first
                    | (go_at_call 16; (with_reducible refine (HAW.out.step HKK.out (HWK.out kk HKK.out) (by have := HI.out; omega) (by have := HI.out; omega)).mono ?_); rintro e w12 ⟨rfl, ha⟩; rw [HY.out] at ha; rw [HY.out, HZ.out]; have HA2 := Lib.hid ha; have hc2 := ha.rw.cell HKK.out; clear ha hc1)
                    | (go_at_call 17; (with_reducible refine (HA2.out.ev HKK.out).mono ?_); rintro e w13 ⟨rfl, hb⟩; rw [fset_same, HE.out, HEA.out]; have HA3 := Lib.hid ((HA2.out.below hb).below (below_alloc0 (Below.refl _ _) (.cells #[.int .i64 5, .int .i64 0, .int .i64 (v : Int), .int .i64 0, .int .i64 0] 46))); have HEB := Lib.hid (EB.new w13 5 (v : Int)); have hck := HEB.out.ck; have hca := HEB.out.ca; have HL13 := Lib.hid hb.size; clear hb hc2)
                    | fail)
                  have HAD := Lib.hid (HA3.out.below (Below.refl _ _).drew); have HED := Lib.hid (HEB.out.below (Below.refl _ _).drew)
                  go_region_held3 (fun w' => w'.cell? ⟨w13.heap.size, 2, none⟩ = some (.int .i64 (v : Int)))
                    (first | (with_reducible exact HE4.out.ca) | (with_reducible exact HED.out.ca) | fail)
                    (first
                      | (go_at_call 15; (with_reducible refine (Lay.nodes_m HOK.out N _ HAD.out.po.mp).mono ?_); rintro e w14 ⟨rfl, hb⟩; rw [HNN.out]; have HA4 := Lib.hid (HAD.out.below hb); have HE4 := Lib.hid (HED.out.below hb); clear hb)
                      | fail)
                  have hca4 := HE4.out.ca
                  have hf4 := HA4.out.rf.cell HV.out.2; rw [HVF.out] at hf4; have hg4 := HA4.out.rf.fro v
                  have HN4 := Lib.hid (show w13.heap.size ≠ bf from (by have h1 := HA2.out.rf.lt; have h3 := HL13.out; omega))
                  go_upto_region 29 with (fail)
                  have HA5 := Lib.hid (HA4.out.setf HV.out.2 1)
                  have hck5 : (w14.setCell ⟨bf, v, none⟩ (.int .i64 1)).cell? ⟨w13.heap.size, 0, none⟩ = some (.int .i64 5) := (World.cell?_of_block (w := w14) (a := ⟨w13.heap.size, 0, none⟩) (heap_setCell_other w14 ⟨bf, v, none⟩ _ _ HN4.out)).trans HE4.out.ck
                  obtain ⟨W, hW⟩ : ∃ W, W = w14.setCell ⟨bf, v, none⟩ (.int .i64 1) := ⟨_, rfl⟩
                  rw [← hW] at HA5 hck5 ⊢
                  clear hW hca4 hf4 hg4 hck hca HA3 HAD HA4 HE4 HED HEB
                  go_wp2_with (fail)
                  go_roundw
                  case rel =>
                    have hi := HAI.out
                    rw [wre_no HZ0.out] at hi
                    exact ⟨i + 1, L2, _, _, _, _, by go_num, by have := HI.out; omega, HA5.out.more (by omega), hi, HWN.out _ HW2.out⟩
                  case measure => simp [intOf]; have := HI.out; omega
              · have HE := Lib.hid he
                have HAI := Lib.hid hai
                have HEA := Lib.hid hv
                have HVF := Lib.hid vf
                rw [parts_is HOK.out, HPP.out] at v1
                have HV := Lib.hid (show v < P by omega)
                have hv1 : decide ((v : Int) < 0) = false := by simp
                have hv2 : decide ((v : Int) ≥ (P : Int)) = false := by simp; omega
                have hv0 : (0 : Int) ≤ (v : Int) := by omega
                have hv4 : (v : Int) < (P : Int) := by omega
                clear he hai hv v1 vf
                by_cases hz : m2.pc = 0
                · have HZ := Lib.hid (decide_eq_true hz)
                  have HZ0 := Lib.hid hz
                  clear hz
                  go_wp2_with (first
                    | (go_at_call 16; (with_reducible refine (HAW.out.step HKK.out (HWK.out kk HKK.out) (by have := HI.out; omega) (by have := HI.out; omega)).mono ?_); rintro e w12 ⟨rfl, ha⟩; rw [HY.out] at ha; rw [HY.out, HZ.out]; have HA2 := Lib.hid ha; have hc2 := ha.rw.cell HKK.out; clear ha hc1)
                    | (go_at_call 17; (with_reducible refine (HA2.out.ev HKK.out).mono ?_); rintro e w13 ⟨rfl, hb⟩; rw [fset_same, HE.out, HEA.out]; have HA3 := Lib.hid ((HA2.out.below hb).below (below_alloc0 (Below.refl _ _) (.cells #[.int .i64 6, .int .i64 0, .int .i64 (v : Int), .int .i64 0, .int .i64 0] 46))); have HEB := Lib.hid (EB.new w13 6 (v : Int)); have hck := HEB.out.ck; have hca := HEB.out.ca; have HL13 := Lib.hid hb.size; clear hb hc2)
                    | fail)
                  have HAD := Lib.hid (HA3.out.below (Below.refl _ _).drew); have HED := Lib.hid (HEB.out.below (Below.refl _ _).drew)
                  go_region_held3 (fun w' => w'.cell? ⟨w13.heap.size, 2, none⟩ = some (.int .i64 (v : Int)))
                    (first | (with_reducible exact HE4.out.ca) | (with_reducible exact HED.out.ca) | fail)
                    (first
                      | (go_at_call 14; (with_reducible refine (Lay.parts_m HOK.out N _ HAD.out.po.mp).mono ?_); rintro e w14 ⟨rfl, hb⟩; rw [HPP.out]; have HA4 := Lib.hid (HAD.out.below hb); have HE4 := Lib.hid (HED.out.below hb); clear hb)
                      | fail)
                  have hca4 := HE4.out.ca
                  have hf4 := HA4.out.rp.cell HV.out; rw [HVF.out] at hf4; have hg4 := HA4.out.rp.fro v
                  go_upto_if 160 with (fail)
                  have HA5 := Lib.hid (HA4.out.setp HV.out 1)
                  obtain ⟨W, hW⟩ : ∃ W, W = w14.setCell ⟨bp, v, none⟩ (.int .i64 1) := ⟨_, rfl⟩
                  rw [← hW] at HA5 ⊢
                  clear hW hca4 hf4 hg4 hck hca HA3 HAD HA4 HE4 HED HEB
                  go_wp2_with (first
                    | (go_at_call 13; (with_reducible refine (HA5.out.renew HKK.out cy).mono ?_); rintro e w15 ⟨Y, rfl, ha, hb⟩; have HA6 := Lib.hid hb; have hc6 := ha.rw.cell HKK.out; have hg6 := ha.rw.fro kk; clear ha hb)
                    | fail)
                  go_roundw
                  case rel =>
                    have ha := HA6.out
                    rw [fset_fset] at ha
                    have hi := HAI.out
                    rw [wre_yes HZ0.out HCC.out] at hi
                    exact ⟨i + 1, L2, _, _, _, _, by go_num, by have := HI.out; omega, ha.more (by omega), hi, HWN.out _ ((wkw_new HOK.out HCY.out).mono (by omega))⟩
                  case measure => simp [intOf]; have := HI.out; omega
                · have HZ := Lib.hid (decide_eq_false hz)
                  have HZ0 := Lib.hid hz
                  clear hz
                  go_wp2_with (first
                    | (go_at_call 16; (with_reducible refine (HAW.out.step HKK.out (HWK.out kk HKK.out) (by have := HI.out; omega) (by have := HI.out; omega)).mono ?_); rintro e w12 ⟨rfl, ha⟩; rw [HY.out] at ha; rw [HY.out, HZ.out]; have HA2 := Lib.hid ha; have hc2 := ha.rw.cell HKK.out; clear ha hc1)
                    | (go_at_call 17; (with_reducible refine (HA2.out.ev HKK.out).mono ?_); rintro e w13 ⟨rfl, hb⟩; rw [fset_same, HE.out, HEA.out]; have HA3 := Lib.hid ((HA2.out.below hb).below (below_alloc0 (Below.refl _ _) (.cells #[.int .i64 6, .int .i64 0, .int .i64 (v : Int), .int .i64 0, .int .i64 0] 46))); have HEB := Lib.hid (EB.new w13 6 (v : Int)); have hck := HEB.out.ck; have hca := HEB.out.ca; have HL13 := Lib.hid hb.size; clear hb hc2)
                    | fail)
                  have HAD := Lib.hid (HA3.out.below (Below.refl _ _).drew); have HED := Lib.hid (HEB.out.below (Below.refl _ _).drew)
                  go_region_held3 (fun w' => w'.cell? ⟨w13.heap.size, 2, none⟩ = some (.int .i64 (v : Int)))
                    (first | (with_reducible exact HE4.out.ca) | (with_reducible exact HED.out.ca) | fail)
                    (first
                      | (go_at_call 14; (with_reducible refine (Lay.parts_m HOK.out N _ HAD.out.po.mp).mono ?_); rintro e w14 ⟨rfl, hb⟩; rw [HPP.out]; have HA4 := Lib.hid (HAD.out.below hb); have HE4 := Lib.hid (HED.out.below hb); clear hb)
                      | fail)
                  have hca4 := HE4.out.ca
                  have hf4 := HA4.out.rp.cell HV.out; rw [HVF.out] at hf4; have hg4 := HA4.out.rp.fro v
                  go_upto_if 160 with (fail)
                  have HA5 := Lib.hid (HA4.out.setp HV.out 1)
                  obtain ⟨W, hW⟩ : ∃ W, W = w14.setCell ⟨bp, v, none⟩ (.int .i64 1) := ⟨_, rfl⟩
                  rw [← hW] at HA5 ⊢
                  clear hW hca4 hf4 hg4 hck hca HA3 HAD HA4 HE4 HED HEB
                  go_wp2_with (fail)
                  go_roundw
                  case rel =>
                    have hi := HAI.out
                    rw [wre_no HZ0.out] at hi
                    exact ⟨i + 1, L2, _, _, _, _, by go_num, by have := HI.out; omega, HA5.out.more (by omega), hi, HWN.out _ HW2.out⟩
                  case measure => simp [intOf]; have := HI.out; omega
              · have HE := Lib.hid he
                have HAI := Lib.hid hai
                clear he hai
                by_cases hz : m2.pc = 0
                · have HZ := Lib.hid (decide_eq_true hz)
                  have HZ0 := Lib.hid hz
                  clear hz
                  go_wp2_with (first
                    | (go_at_call 16; (with_reducible refine (HAW.out.step HKK.out (HWK.out kk HKK.out) (by have := HI.out; omega) (by have := HI.out; omega)).mono ?_); rintro e w12 ⟨rfl, ha⟩; rw [HY.out] at ha; rw [HY.out, HZ.out]; have HA2 := Lib.hid ha; have hc2 := ha.rw.cell HKK.out; clear ha hc1)
                    | (go_at_call 17; (with_reducible refine (HA2.out.ev HKK.out).mono ?_); rintro e w13 ⟨rfl, hb⟩; rw [fset_same, HE.out]; have HA3 := Lib.hid ((HA2.out.below hb).below (below_alloc0 (Below.refl _ _) (.cells #[.int .i64 0, .int .i64 0, .int .i64 m2.ea, .int .i64 0, .int .i64 0] 46))); have HEB := Lib.hid (EB.new w13 0 m2.ea); have hck := HEB.out.ck; have hca := HEB.out.ca; have HL13 := Lib.hid hb.size; clear hb hc2)
                    | fail)
                  go_wp2_with (first
                    | (go_at_call 13; (with_reducible refine (HA3.out.renew HKK.out cy).mono ?_); rintro e w15 ⟨Y, rfl, ha, hb⟩; have HA6 := Lib.hid hb; have hc6 := ha.rw.cell HKK.out; have hg6 := ha.rw.fro kk; clear ha hb)
                    | fail)
                  go_roundw
                  case rel =>
                    have ha := HA6.out
                    rw [fset_fset] at ha
                    have hi := HAI.out
                    rw [wre_yes HZ0.out HCC.out] at hi
                    exact ⟨i + 1, L2, _, _, _, _, by go_num, by have := HI.out; omega, ha.more (by omega), hi, HWN.out _ ((wkw_new HOK.out HCY.out).mono (by omega))⟩
                  case measure => simp [intOf]; have := HI.out; omega
                · have HZ := Lib.hid (decide_eq_false hz)
                  have HZ0 := Lib.hid hz
                  clear hz
                  go_wp2_with (first
                    | (go_at_call 16; (with_reducible refine (HAW.out.step HKK.out (HWK.out kk HKK.out) (by have := HI.out; omega) (by have := HI.out; omega)).mono ?_); rintro e w12 ⟨rfl, ha⟩; rw [HY.out] at ha; rw [HY.out, HZ.out]; have HA2 := Lib.hid ha; have hc2 := ha.rw.cell HKK.out; clear ha hc1)
                    | (go_at_call 17; (with_reducible refine (HA2.out.ev HKK.out).mono ?_); rintro e w13 ⟨rfl, hb⟩; rw [fset_same, HE.out]; have HA3 := Lib.hid ((HA2.out.below hb).below (below_alloc0 (Below.refl _ _) (.cells #[.int .i64 0, .int .i64 0, .int .i64 m2.ea, .int .i64 0, .int .i64 0] 46))); have HEB := Lib.hid (EB.new w13 0 m2.ea); have hck := HEB.out.ck; have hca := HEB.out.ca; have HL13 := Lib.hid hb.size; clear hb hc2)
                    | fail)
                  go_wp2_with (fail)
                  go_roundw
                  case rel =>
                    have hi := HAI.out
                    rw [wre_no HZ0.out] at hi
                    exact ⟨i + 1, L2, _, _, _, _, by go_num, by have := HI.out; omega, HA3.out.more (by omega), hi, HWN.out _ HW2.out⟩
                  case measure => simp [intOf]; have := HI.out; omega
          · obtain rfl : i = pn + 600 := by omega
            have hlt2 : ¬ ((pn + 600 : Nat) : Int) < (pn : Int) + 600 := by omega
            obtain ⟨Qs, hae⟩ := HAI.out.over (by have := HNO.out; have := HNE.out; omega)
            have HAE := Lib.hid hae
            have HA0 := Lib.hid (HAW.out.more (k' := 3200) (by have := HP400.out; omega))
            clear hae hlt hi HAW HAI HWK
            go_wp2_with (fail)
            go_loopw [23] (fun v wr => ∃ (j : Nat), v = .int .i64 (j : Int) ∧ j ≤ P ∧ AW w3.heap.size S D N c w3 wr bs bw bp bf P (nn + 1) X M L1 L 3200 pf ff) (fun v _ => P - (intOf v).toNat)
            case atStart => exact ⟨0, rfl, by omega, HA0.out⟩
            case round =>
              clear HA0
              obtain ⟨j, rfl, hj, haw⟩ := hrel
              have HA0 := Lib.hid haw
              clear haw
              by_cases hlt : j < P
              · have hlt2 : (j : Int) < (P : Int) := by omega
                have hj0 : (0 : Int) ≤ (j : Int) := by omega
                have ej1 : IntKind.i64.wrap ((j : Int) + 1) = (j : Int) + 1 := IntWalk.i64_in _ (by have := HP12.out; omega)
                have HJ := Lib.hid hlt
                have HPF := Lib.hid (HAE.out.p j (by rw [parts_is HOK.out, HPP.out]; omega))
                clear hlt hj
                go_wp2_with (first
                  | (go_at_call 14; (with_reducible refine (Lay.parts_m HOK.out N _ HA0.out.po.mp).mono ?_); rintro e w16 ⟨rfl, hb⟩; rw [HPP.out]; have HA1 := Lib.hid (HA0.out.below hb); have hc1 := HA1.out.rp.cell HJ.out; rw [HPF.out] at hc1; clear hb)
                  | fail)
                go_roundw
                case rel => exact ⟨j + 1, by go_num, HJ.out, HA1.out⟩
                case measure => simp [intOf]; have := HJ.out; omega
              · obtain rfl : P = j := by omega
                have hlt2 : ¬ (P : Int) < (P : Int) := by omega
                clear hlt hj
                go_wp2_with (first
                  | (go_at_call 14; (with_reducible refine (Lay.parts_m HOK.out N _ HA0.out.po.mp).mono ?_); rintro e w16 ⟨rfl, hb⟩; rw [HPP.out]; have HA1 := Lib.hid (HA0.out.below hb); clear hb)
                  | (go_at_call 15; (with_reducible refine (Lay.nodes_m HOK.out N _ HA1.out.po.mp).mono ?_); rintro e w17 ⟨rfl, hb⟩; rw [HNN.out]; have HA2 := Lib.hid (HA1.out.below hb); clear hb)
                  | fail)
                have HAV := Lib.hid ((HA2.out.below (below_alloc0 (Below.refl _ _) (.cells (List.replicate (nn + 1) (Value.int .i64 0)).toArray 3))).av (IR.new w17 (nn + 1) 3) HA2.out.rf.lt)
                obtain ⟨bl, hbl⟩ : ∃ bl, bl = w17.heap.size := ⟨_, rfl⟩
                rw [← hbl] at HAV ⊢
                have HBL := Lib.hid (HAV.out.rl.lt)
                clear hbl HA0 HA1 HA2 hmk2
                have HL1 : Hid (L1.length ≤ 10000) := Lib.hid (by have := HAE.out.len; have := HLL.out; omega)
                go_loopw [25] (fun v wr => ∃ (kk : Nat) (lf : Nat → Int), v = .int .i64 (kk : Int) ∧ kk ≤ 5 ∧ AV w3.heap.size S D N c w3 wr bs bf bl (nn + 1) L1 L 3200 ff lf ∧ LF c cy L kk [] lf) (fun v _ => 5 - (intOf v).toNat)
                case atStart => exact ⟨0, _, rfl, by omega, HAV.out, LF.start⟩
                case round =>
                  clear HAV HBL
                  obtain ⟨kk, lf, rfl, hkk, hav, hlf⟩ := hrel
                  have HAV := Lib.hid hav; have HLF := Lib.hid hlf
                  clear hav hlf
                  by_cases hlt : kk < 5
                  · have hlt2 : (kk : Int) < 5 := by omega
                    have ek1 : IntKind.i64.wrap ((kk : Int) + 1) = (kk : Int) + 1 := IntWalk.i64_in _ (by omega)
                    have HKW : Hid ((Lit.int .i64 (kk : Int)).wf = true) := Lib.hid (Lay.wf_i64 (by omega) (by omega))
                    have HK := Lib.hid hlt
                    have HWQ : Hid (walkQ L1 ⟨plcc c 7 (kk : Int) 0, nxtL c⟩ (20 : Int).toNat (plcc c 7 (kk : Int) 0) = Qs kk) := Lib.hid (HAE.out.q kk hlt).1
                    obtain ⟨ql, hql⟩ : ∃ ql, ql = (Qs kk).length := ⟨_, rfl⟩
                    have HQL := Lib.hid hql
                    have HQ12 : Hid (ql ≤ 12) := Lib.hid (by have h1 := (HAE.out.q kk hlt).2.2.1; have h2 := HNO.out; have h3 := HNE.out; omega)
                    obtain ⟨l1, hl1⟩ : ∃ l1, l1 = L1.length := ⟨_, rfl⟩
                    have HL11 := Lib.hid hl1
                    clear hlt hkk hql hl1
                    go_wp2_with (first
                      | (go_at_call 12; (with_reducible refine (all_po HAV.out.po (by have := HL1.out; omega)).mono ?_); rintro e w18 ⟨rfl, hr, hp, hb⟩; rw [← HL11.out]; have HA1 := Lib.hid (HAV.out.below hb); have HR1 := Lib.hid hr; clear hr hp hb)
                      | (go_at_call 11; (with_reducible refine (Lay.head_m HOK.out N (kk : Int) HKW.out _ HA1.out.po.mp).mono ?_); rintro e w19 ⟨rfl, hb⟩; have HA2 := Lib.hid (HA1.out.below hb); have HR2 := Lib.hid (HR1.out.below hb (Nat.le_refl _)); clear hb)
                      | (go_at_call 18; (with_reducible refine (walk_any _ _ _ N (lvN N) L1 ⟨plcc c 7 (kk : Int) 0, nxtL c⟩ 20 _ HL11.out HR2.out HA2.out.po.ww (lk_n HOK.out HA2.out.po.mp) (by decide)).mono ?_); rintro e w20 ⟨v, rfl, ho⟩; rw [HWQ.out] at ho; obtain ⟨QA, qcap, rfl, hqc⟩ := ho.blk; rw [← HQL.out]; have HA3 := Lib.hid (HA2.out.below ho.2); have HLQ : Hid (LQ w20 QA (Qs kk) bl) := Lib.hid ⟨fun h0 => (by obtain ⟨b, off, e, h1, h2, h3⟩ := hqc h0; exact ⟨b, off, e, by have := HA2.out.rl.lt; omega, h2, h3⟩)⟩; clear ho hqc)
                      | fail)
                    clear HAV HA1 HA2 HR1 HR2
                    go_loopw [27] (fun v wr => ∃ (j : Nat) (lf : Nat → Int), v = .int .i64 (j : Int) ∧ j ≤ ql ∧ AV w3.heap.size S D N c w3 wr bs bf bl (nn + 1) L1 L 3200 ff lf ∧ LF c cy L kk ((Qs kk).take j) lf ∧ LQ wr QA (Qs kk) bl) (fun v _ => ql - (intOf v).toNat)
                    case atStart => exact ⟨0, lf, rfl, by omega, HA3.out, HLF.out.of_nil, HLQ.out⟩
                    case round =>
                      clear HA3 HLF HLQ lf
                      obtain ⟨j, lf, rfl, hj, hav, hlf, hlq⟩ := hrel
                      have HAV := Lib.hid hav; have HLF := Lib.hid hlf; have HLQ := Lib.hid hlq
                      clear hav hlf hlq
                      by_cases hlt : j < ql
                      · have hlt2 : (j : Int) < (ql : Int) := by omega
                        have hj0 : (0 : Int) ≤ (j : Int) := by omega
                        have ej1 : IntKind.i64.wrap ((j : Int) + 1) = (j : Int) + 1 := IntWalk.i64_in _ (by have := HQ12.out; omega)
                        have HJ := Lib.hid hlt
                        obtain ⟨v, hv, v1, v2, hcl, hlv, hlf2⟩ := HLF.out.next HAE.out HK.out (by have := HQL.out; omega)
                        obtain ⟨qb, qo, rfl, hq1, hq2, hq3⟩ := HLQ.out.ex (by have := HQL.out; omega)
                        have HCQ : Hid (∀ w', Below wr.heap.size wr w' → w'.cell? ⟨qb, qo + j, none⟩ = some (.int .i64 (v : Int))) := Lib.hid (fun w' hb => by
                          have h3 := hq3 j (by have := HQL.out; omega)
                          rw [hv] at h3
                          exact (hb.cell (p := ⟨qb, qo + j, none⟩) hq2).trans h3)
                        have hcq := HCQ.out _ (Below.refl _ _)
                        have HLF2 := Lib.hid hlf2; have HLV := Lib.hid hlv
                        have HVN := Lib.hid (show v < nn + 1 by have := HNE.out; omega)
                        have HKV : Hid (kindV c (v : Int) = (kk : Int)) := Lib.hid (by
                          have h1 := (node_kind HOK.out (v := (v : Int)) (by omega) (by have := HND.out; omega)).1
                          have h2 : (kindV c (v : Int)).toNat = kk := hcl
                          omega)
                        have hv1 : decide ((v : Int) < 1) = false := by simp; omega
                        have hv2 : decide ((v : Int) > (nn : Int)) = false := by have := HNE.out; simp; omega
                        have hv5 : decide (nn < v) = false := by have := HNE.out; simp; omega
                        have hv0 : (0 : Int) ≤ (v : Int) := by omega
                        have hv3 : (v : Int) < (nn : Int) + 1 := by have := HNE.out; omega
                        have hv4 : (v : Int) < ((nn + 1 : Nat) : Int) := by have := HNE.out; omega
                        have HQB := Lib.hid hq1
                        clear hlt hj hv v1 v2 hcl hlv hlf2 hq1 hq2 hq3
                        have HB0 := Lib.hid (Below.refl wr.heap.size wr)
                        have HBD := Lib.hid (HB0.out.drew)
                        go_wp2_with (fail)
                        have hud : ∀ b, (undef = Value.bool b) = False := fun b => eq_false (fun h => by cases h)
                        have hud2 : ∀ b, (some undef = some (Value.bool b)) = False := fun b => eq_false (fun h => by cases h)
                        first
                        | (go_region_held3 (fun w' => w'.cell? ⟨qb, qo + j, none⟩ = some (.int .i64 (v : Int)))
                          (first | (with_reducible exact HCQ.out _ HB2.out) | (with_reducible exact HCQ.out _ HB1.out) | (with_reducible exact HCQ.out _ HBD.out) | fail)
                          (first
                            | (go_at_call 15; (with_reducible refine (Lay.nodes_m HOK.out N _ (HAV.out.below HBD.out).po.mp).mono ?_); rintro e w21 ⟨rfl, hb⟩; rw [HNN.out]; have HB1 := Lib.hid (below_step HBD.out HBD.out.size hb); clear hb)
                            | (go_at_call 20; (with_reducible refine (Lay.class_m N (v : Int) _ (HAV.out.below HB1.out).po.mp).mono ?_); rintro e w22 ⟨rfl, hb⟩; rw [HKV.out]; have HB2 := Lib.hid (below_step HB1.out HB1.out.size hb); clear hb)
                            | fail))
                        | fail
                        have HA4 := Lib.hid (HAV.out.below HB2.out)
                        have HLQ4 := Lib.hid (HLQ.out.below HB2.out)
                        have hcq4 := HCQ.out _ HB2.out
                        have hf4 := HA4.out.rl.cell HVN.out; rw [HLV.out] at hf4
                        have hg4 := HA4.out.rl.fro v
                        go_wp2_with (fail)
                        go_roundw
                        case rel => exact ⟨j + 1, _, by go_num, HJ.out, HA4.out.setl HVN.out 1, HLF2.out, HLQ4.out.set v _⟩
                        case measure => simp [intOf]; have := HJ.out; omega
                      · obtain rfl : j = ql := by omega
                        have hlt2 : ¬ (j : Int) < (j : Int) := by omega
                        have HLF3 : Hid (LF c cy L (kk + 1) [] lf) := Lib.hid (by
                          have h := HLF.out
                          rw [HQL.out] at h
                          exact h.suc HAE.out HK.out)
                        clear hlt hj
                        go_wp2_with (fail)
                        go_roundw
                        case rel => exact ⟨kk + 1, lf, by go_num, HK.out, HAV.out, HLF3.out⟩
                        case measure => simp [intOf]; have := HK.out; omega
                  · obtain rfl : kk = 5 := by omega
                    clear hlt hkk
                    go_wp2_with (fail)
                    have HA5 := Lib.hid HAV.out
                    clear HAV
                    go_loopw [28] (fun x wr => ∃ (v : Nat), x = .int .i64 (v : Int) ∧ 1 ≤ v ∧ v ≤ nn + 1 ∧ AV w3.heap.size S D N c w3 wr bs bf bl (nn + 1) L1 L (3200 + 2 * (v : Int)) ff lf) (fun x _ => nn + 2 - (intOf x).toNat)
                    case atStart => exact ⟨1, rfl, by omega, by omega, HA5.out.more (by omega)⟩
                    case round =>
                      clear HA5
                      obtain ⟨v, rfl, v1, v2, hav⟩ := hrel
                      have HAV := Lib.hid hav
                      clear hav
                      by_cases hlt : v ≤ nn
                      · have hlt2 : (v : Int) ≤ (nn : Int) := by omega
                        have hv0 : (0 : Int) ≤ (v : Int) := by omega
                        have hv3 : (v : Int) < (nn : Int) + 1 := by omega
                        have hv4 : (v : Int) < ((nn + 1 : Nat) : Int) := by omega
                        have ev1 : IntKind.i64.wrap ((v : Int) + 1) = (v : Int) + 1 := IntWalk.i64_in _ (by have := HNO.out; omega)
                        have HV := Lib.hid (show 1 ≤ v ∧ v ≤ nn by omega)
                        have HVW : Hid ((Lit.int .i64 (v : Int)).wf = true) := Lib.hid (Lay.wf_i64 (by omega) (by have := HNO.out; omega))
                        have vn : v ≤ nodn c := by have := HNE.out; omega
                        have G := gw_is HOK.out HLEN.out
                        obtain ⟨s0, s1, _, _⟩ := G.s (v : Int) (by omega) (by omega)
                        obtain ⟨m0, m1, _, _⟩ := G.m (v : Int) (by omega) (by omega)
                        obtain ⟨p15, hp15⟩ : ∃ p : Nat, plcc c 15 (v : Int) 0 = (p : Int) := ⟨(plcc c 15 (v : Int) 0).toNat, by have : 0 ≤ plcc c 15 (v : Int) 0 := s0; omega⟩
                        obtain ⟨p16, hp16⟩ : ∃ p : Nat, plcc c 16 (v : Int) 0 = (p : Int) := ⟨(plcc c 16 (v : Int) 0).toNat, by have : 0 ≤ plcc c 16 (v : Int) 0 := m0; omega⟩
                        have hl15 : p15 < L.length := by have : plcc c 15 (v : Int) 0 < (L.length : Int) := s1; omega
                        have hl16 : p16 < L.length := by have : plcc c 16 (v : Int) 0 < (L.length : Int) := m1; omega
                        obtain ⟨a, ha⟩ : ∃ a, a = L.getD p15 0 := ⟨_, rfl⟩
                        obtain ⟨b, hb⟩ : ∃ b, b = L.getD p16 0 := ⟨_, rfl⟩
                        have hgone : Gone (wOf c) L cy (v : Int) ↔ (a = 1 ∧ b < cy) := by
                          unfold Gone
                          rw [show (wOf c).st (v : Int) = (p15 : Int) from hp15, show (wOf c).ma (v : Int) = (p16 : Int) from hp16, Int.toNat_natCast, Int.toNat_natCast, ← ha, ← hb]
                        obtain ⟨f1, f2⟩ := HAE.out.f v (by omega) vn
                        have fm := HAE.out.m v (by omega) vn
                        obtain ⟨g1, g2⟩ := HLF.out.over G (by omega) vn
                        have eL := HAE.out.len
                        rw [show (wOf c).st (v : Int) = (p15 : Int) from hp15, Int.toNat_natCast] at f1 f2
                        rw [← ha] at f2
                        rw [show (wOf c).ma (v : Int) = (p16 : Int) from hp16, Int.toNat_natCast, ← hb] at fm
                        have q15 : ldq L1 (p15 : Int) = L1.getD p15 0 := by
                          have : (0 : Int) ≤ (p15 : Int) ∧ (p15 : Int) < L1.length := by omega
                          rw [ld_in this, Int.toNat_natCast]
                        have q16 : ldq L1 (p16 : Int) = b := by
                          have : (0 : Int) ≤ (p16 : Int) ∧ (p16 : Int) < L1.length := by omega
                          rw [ld_in this, Int.toNat_natCast, fm]
                        have key : ∃ (x y : Int), ff v = x ∧ lf v = x ∧ ldq L1 (p15 : Int) = y ∧ ((a = 1 ∧ b < cy ∧ x = 1 ∧ y = 0) ∨ (a = 1 ∧ ¬ b < cy ∧ x = 0 ∧ y = 1) ∨ (a ≠ 1 ∧ x = 0 ∧ y = a)) := by
                          by_cases e1 : a = 1
                          · by_cases e2 : b < cy
                            · have g := hgone.2 ⟨e1, e2⟩
                              exact ⟨1, 0, (f1 g).1, g1 g, q15.trans (f1 g).2, .inl ⟨e1, e2, rfl, rfl⟩⟩
                            · have g : ¬ Gone (wOf c) L cy (v : Int) := fun g => e2 (hgone.1 g).2
                              exact ⟨0, 1, (f2 g).1, g2 g, q15.trans ((f2 g).2.trans e1), .inr (.inl ⟨e1, e2, rfl, rfl⟩)⟩
                          · have g : ¬ Gone (wOf c) L cy (v : Int) := fun g => e1 (hgone.1 g).1
                            exact ⟨0, a, (f2 g).1, g2 g, q15.trans (f2 g).2, .inr (.inr ⟨e1, rfl, rfl⟩)⟩
                        obtain ⟨x, y, hx1, hx2, hy, hcase⟩ := key
                        have HCA : Hid (∀ w', AV w3.heap.size S D N c w3 w' bs bf bl (nn + 1) L1 L (3200 + 2 * (v : Int)) ff lf → (w'.cell? ⟨bs, p15, none⟩ = some (.int .u64 a) ∧ w'.cell? ⟨bs, p16, none⟩ = some (.int .u64 b)) ∧ w'.cell? ⟨bf, v, none⟩ = some (.int .i64 x) ∧ w'.cell? ⟨bl, v, none⟩ = some (.int .i64 x)) := Lib.hid (fun w' h => by
                          have e1 := reads_at h.rs.1 hl15; have e2 := reads_at h.rs.1 hl16
                          rw [← ha] at e1; rw [← hb] at e2
                          have e3 := h.rf.cell (i := v) (by omega); have e4 := h.rl.cell (i := v) (by omega)
                          rw [hx1] at e3; rw [hx2] at e4
                          exact ⟨⟨e1, e2⟩, e3, e4⟩)
                        have HCB : Hid (∀ w' k', AV w3.heap.size S D N c w3 w' bs bf bl (nn + 1) L1 L k' ff lf → w'.cell? ⟨bs, p16, none⟩ = some (.int .u64 b)) := Lib.hid (fun w' k' h => by
                          have e2 := reads_at h.rs.1 hl16
                          rwa [← hb] at e2)
                        have H15 := Lib.hid hp15; have H16 := Lib.hid hp16; have HY := Lib.hid hy; have HQ16 := Lib.hid q16
                        have i15 : (0 : Int) ≤ (p15 : Int) := by omega
                        have j15 : (p15 : Int) < (L.length : Int) := by omega
                        have i16 : (0 : Int) ≤ (p16 : Int) := by omega
                        have j16 : (p16 : Int) < (L.length : Int) := by omega
                        clear hlt v1 v2 vn G s0 s1 m0 m1 hp15 hp16 hl15 hl16 ha hb hgone f1 f2 fm g1 g2 eL q15 q16 hx1 hx2 hy
                        rcases hcase with ⟨ca, cb, rfl, rfl⟩ | ⟨ca, cb, rfl, rfl⟩ | ⟨ca, rfl, rfl⟩
                        · have da : (a == 1) = true := by simpa using ca
                          have db : decide (b < cy) = true := by simpa using cb
                          subst ca
                          obtain ⟨⟨ca1, ca2⟩, ca3, ca4⟩ := HCA.out _ HAV.out
                          go_wp2_with (first
                            | (go_at_call 15; (with_reducible refine (Lay.nodes_m HOK.out N _ HAV.out.po.mp).mono ?_); rintro e w24 ⟨rfl, hb⟩; rw [HNN.out]; have HA6 := Lib.hid (HAV.out.below hb); clear hb HAV ca1 ca2 ca3 ca4; obtain ⟨⟨ca1, ca2⟩, ca3, ca4⟩ := HCA.out _ HA6.out)
                            | (go_at_call 21; (with_reducible refine (Lay.state_m HOK.out N (v : Int) HVW.out _ HA6.out.po.mp).mono ?_); rintro e w25 ⟨rfl, hb⟩; rw [H15.out]; have HA7 := Lib.hid (HA6.out.below hb); clear hb HA6 ca1 ca2 ca3 ca4; obtain ⟨⟨ca1, ca2⟩, ca3, ca4⟩ := HCA.out _ HA7.out)
                            | (go_at_call 22; (with_reducible refine (Lay.mark_m HOK.out N (v : Int) HVW.out _ HA7.out.po.mp).mono ?_); rintro e w26 ⟨rfl, hb⟩; rw [H16.out]; have HA8 := Lib.hid (HA7.out.below hb); clear hb HA7 ca1 ca2 ca3 ca4; obtain ⟨⟨ca1, ca2⟩, ca3, ca4⟩ := HCA.out _ HA8.out)
                            | (go_at_call 21; (with_reducible refine (Lay.state_m HOK.out N (v : Int) HVW.out _ HA8.out.po.mp).mono ?_); rintro e w27 ⟨rfl, hb⟩; rw [H15.out]; have HA9 := Lib.hid (HA8.out.below hb); clear hb HA8 ca1 ca2 ca3 ca4; obtain ⟨⟨ca1, ca2⟩, ca3, ca4⟩ := HCA.out _ HA9.out)
                            | (go_at_call 21; (with_reducible refine (Lay.state_m HOK.out N (v : Int) HVW.out _ HA9.out.po.mp).mono ?_); rintro e w28 ⟨rfl, hb⟩; rw [H15.out]; have HA10 := Lib.hid (HA9.out.below hb); clear hb HA9 ca1 ca2 ca3 ca4)
                            | (go_at_call 23; (with_reducible refine (HA10.out.load (p15 : Int) (by have := HV.out; have := HNO.out; omega)).mono ?_); rintro e w29 ⟨rfl, ha⟩; rw [HY.out]; have HA11 := Lib.hid ha; clear ha HA10)
                            | (go_at_call 22; (with_reducible refine (Lay.mark_m HOK.out N (v : Int) HVW.out _ HA11.out.po.mp).mono ?_); rintro e w30 ⟨rfl, hb⟩; rw [H16.out]; have HB12 := Lib.hid (HA11.out.below hb); clear hb HA11)
                            | (go_at_call 23; (with_reducible refine (HB12.out.load (p16 : Int) (by have := HV.out; have := HNO.out; omega)).mono ?_); rintro e w31 ⟨rfl, ha⟩; rw [HQ16.out]; have HC13 := Lib.hid ha; clear ha HB12)
                            | (go_at_call 22; (with_reducible refine (Lay.mark_m HOK.out N (v : Int) HVW.out _ HC13.out.po.mp).mono ?_); rintro e w32 ⟨rfl, hb⟩; rw [H16.out]; have HD14 := Lib.hid (HC13.out.below hb); clear hb HC13; have cb2 := HCB.out _ _ HD14.out)
                            | fail)
                          go_roundw
                          case rel =>
                            iterate (apply Exists.intro)
                            refine And.intro ?_ rfl
                            exact ⟨v + 1, by go_num, by omega, by have := HV.out; omega, HD14.out.more (by omega)⟩
                          case measure => simp [intOf]; have := HV.out; omega
                        · subst ca
                          have db : decide (b < cy) = false := by simpa using cb
                          obtain ⟨⟨ca1, ca2⟩, ca3, ca4⟩ := HCA.out _ HAV.out
                          go_wp2_with (first
                            | (go_at_call 15; (with_reducible refine (Lay.nodes_m HOK.out N _ HAV.out.po.mp).mono ?_); rintro e w24 ⟨rfl, hb⟩; rw [HNN.out]; have HA6 := Lib.hid (HAV.out.below hb); clear hb HAV ca1 ca2 ca3 ca4; obtain ⟨⟨ca1, ca2⟩, ca3, ca4⟩ := HCA.out _ HA6.out)
                            | (go_at_call 21; (with_reducible refine (Lay.state_m HOK.out N (v : Int) HVW.out _ HA6.out.po.mp).mono ?_); rintro e w25 ⟨rfl, hb⟩; rw [H15.out]; have HA7 := Lib.hid (HA6.out.below hb); clear hb HA6 ca1 ca2 ca3 ca4; obtain ⟨⟨ca1, ca2⟩, ca3, ca4⟩ := HCA.out _ HA7.out)
                            | (go_at_call 22; (with_reducible refine (Lay.mark_m HOK.out N (v : Int) HVW.out _ HA7.out.po.mp).mono ?_); rintro e w26 ⟨rfl, hb⟩; rw [H16.out]; have HA8 := Lib.hid (HA7.out.below hb); clear hb HA7 ca1 ca2 ca3 ca4; obtain ⟨⟨ca1, ca2⟩, ca3, ca4⟩ := HCA.out _ HA8.out)
                            | (go_at_call 21; (with_reducible refine (Lay.state_m HOK.out N (v : Int) HVW.out _ HA8.out.po.mp).mono ?_); rintro e w27 ⟨rfl, hb⟩; rw [H15.out]; have HA9 := Lib.hid (HA8.out.below hb); clear hb HA8 ca1 ca2 ca3 ca4; obtain ⟨⟨ca1, ca2⟩, ca3, ca4⟩ := HCA.out _ HA9.out)
                            | (go_at_call 21; (with_reducible refine (Lay.state_m HOK.out N (v : Int) HVW.out _ HA9.out.po.mp).mono ?_); rintro e w28 ⟨rfl, hb⟩; rw [H15.out]; have HA10 := Lib.hid (HA9.out.below hb); clear hb HA9 ca1 ca2 ca3 ca4)
                            | (go_at_call 23; (with_reducible refine (HA10.out.load (p15 : Int) (by have := HV.out; have := HNO.out; omega)).mono ?_); rintro e w29 ⟨rfl, ha⟩; rw [HY.out]; have HA11 := Lib.hid ha; clear ha HA10)
                            | (go_at_call 22; (with_reducible refine (Lay.mark_m HOK.out N (v : Int) HVW.out _ HA11.out.po.mp).mono ?_); rintro e w30 ⟨rfl, hb⟩; rw [H16.out]; have HB12 := Lib.hid (HA11.out.below hb); clear hb HA11)
                            | (go_at_call 23; (with_reducible refine (HB12.out.load (p16 : Int) (by have := HV.out; have := HNO.out; omega)).mono ?_); rintro e w31 ⟨rfl, ha⟩; rw [HQ16.out]; have HC13 := Lib.hid ha; clear ha HB12)
                            | (go_at_call 22; (with_reducible refine (Lay.mark_m HOK.out N (v : Int) HVW.out _ HC13.out.po.mp).mono ?_); rintro e w32 ⟨rfl, hb⟩; rw [H16.out]; have HD14 := Lib.hid (HC13.out.below hb); clear hb HC13; have cb2 := HCB.out _ _ HD14.out)
                            | fail)
                          go_roundw
                          case rel =>
                            iterate (apply Exists.intro)
                            refine And.intro ?_ rfl
                            exact ⟨v + 1, by go_num, by omega, by have := HV.out; omega, HD14.out.more (by omega)⟩
                          case measure => simp [intOf]; have := HV.out; omega
                        · have da : (y == 1) = false := by simpa using ca
                          obtain ⟨⟨ca1, ca2⟩, ca3, ca4⟩ := HCA.out _ HAV.out
                          go_wp2_with (first
                            | (go_at_call 15; (with_reducible refine (Lay.nodes_m HOK.out N _ HAV.out.po.mp).mono ?_); rintro e w24 ⟨rfl, hb⟩; rw [HNN.out]; have HA6 := Lib.hid (HAV.out.below hb); clear hb HAV ca1 ca2 ca3 ca4; obtain ⟨⟨ca1, ca2⟩, ca3, ca4⟩ := HCA.out _ HA6.out)
                            | (go_at_call 21; (with_reducible refine (Lay.state_m HOK.out N (v : Int) HVW.out _ HA6.out.po.mp).mono ?_); rintro e w25 ⟨rfl, hb⟩; rw [H15.out]; have HA7 := Lib.hid (HA6.out.below hb); clear hb HA6 ca1 ca2 ca3 ca4; obtain ⟨⟨ca1, ca2⟩, ca3, ca4⟩ := HCA.out _ HA7.out)
                            | (go_at_call 21; (with_reducible refine (Lay.state_m HOK.out N (v : Int) HVW.out _ HA7.out.po.mp).mono ?_); rintro e w26 ⟨rfl, hb⟩; rw [H15.out]; have HA8 := Lib.hid (HA7.out.below hb); clear hb HA7 ca1 ca2 ca3 ca4; obtain ⟨⟨ca1, ca2⟩, ca3, ca4⟩ := HCA.out _ HA8.out)
                            | (go_at_call 21; (with_reducible refine (Lay.state_m HOK.out N (v : Int) HVW.out _ HA8.out.po.mp).mono ?_); rintro e w27 ⟨rfl, hb⟩; rw [H15.out]; have HA9 := Lib.hid (HA8.out.below hb); clear hb HA8 ca1 ca2 ca3 ca4)
                            | (go_at_call 23; (with_reducible refine (HA9.out.load (p15 : Int) (by have := HV.out; have := HNO.out; omega)).mono ?_); rintro e w28 ⟨rfl, ha⟩; rw [HY.out]; have HA10 := Lib.hid ha; clear ha HA9)
                            | (go_at_call 22; (with_reducible refine (Lay.mark_m HOK.out N (v : Int) HVW.out _ HA10.out.po.mp).mono ?_); rintro e w29 ⟨rfl, hb⟩; rw [H16.out]; have HB11 := Lib.hid (HA10.out.below hb); clear hb HA10)
                            | (go_at_call 23; (with_reducible refine (HB11.out.load (p16 : Int) (by have := HV.out; have := HNO.out; omega)).mono ?_); rintro e w30 ⟨rfl, ha⟩; rw [HQ16.out]; have HC12 := Lib.hid ha; clear ha HB11)
                            | (go_at_call 22; (with_reducible refine (Lay.mark_m HOK.out N (v : Int) HVW.out _ HC12.out.po.mp).mono ?_); rintro e w31 ⟨rfl, hb⟩; rw [H16.out]; have HD13 := Lib.hid (HC12.out.below hb); clear hb HC12; have cb2 := HCB.out _ _ HD13.out)
                            | fail)
                          go_roundw
                          case rel =>
                            iterate (apply Exists.intro)
                            refine And.intro ?_ rfl
                            exact ⟨v + 1, by go_num, by omega, by have := HV.out; omega, HD13.out.more (by omega)⟩
                          case measure => simp [intOf]; have := HV.out; omega
                      · obtain rfl : v = nn + 1 := by omega
                        have hlt2 : ¬ ((nn + 1 : Nat) : Int) ≤ (nn : Int) := by omega
                        have HD3 : Hid (ldq L1 (plcc c 3 0 0) = (P : Int)) := Lib.hid (by
                          have G := gw_is HOK.out HLEN.out
                          have hd : (0 : Int) ≤ (wOf c).dn ∧ (wOf c).dn < L1.length := by rw [HAE.out.len]; exact G.dn
                          have e : ldq L1 (wOf c).dn = (wOf c).parts := by rw [ld_in hd]; exact HAE.out.d
                          rw [parts_is HOK.out, HPP.out] at e
                          exact e)
                        have ep64 : IntKind.u64.wrap (P : Int) = (P : Int) := IntWalk.u64_in _ (by have := HP12.out; omega)
                        clear hlt v1 v2
                        go_wp2_with (first
                          | (go_at_call 15; (with_reducible refine (Lay.nodes_m HOK.out N _ HAV.out.po.mp).mono ?_); rintro e w24 ⟨rfl, hb⟩; rw [HNN.out]; have HA6 := Lib.hid (HAV.out.below hb); clear hb)
                          | (go_at_call 24; (with_reducible refine (Lay.done_m HOK.out N _ HA6.out.po.mp).mono ?_); rintro e w25 ⟨rfl, hb⟩; have HA7 := Lib.hid (HA6.out.below hb); clear hb)
                          | (go_at_call 23; (with_reducible refine (HA7.out.load (plcc c 3 0 0) (by have := HNO.out; omega)).mono ?_); rintro e w26 ⟨rfl, ha⟩; rw [HD3.out]; have HA8 := Lib.hid ha; clear ha)
                          | (go_at_call 14; (with_reducible refine (Lay.parts_m HOK.out N _ HA8.out.po.mp).mono ?_); rintro e w27 ⟨rfl, hb⟩; rw [HPP.out]; have HA9 := Lib.hid (HA8.out.below hb); clear hb)
                          | fail)
                        go_ret
                        exact ⟨rfl, HB.out.fin.trans (HA9.out.po.bel.mono (by have := HLB.out; omega))⟩
end Go.Proofs.Ytbpkcoemehmpbaa

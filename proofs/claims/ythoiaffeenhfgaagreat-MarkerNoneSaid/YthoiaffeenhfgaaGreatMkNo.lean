
import Derived.Test.YthoiaffeenhfgaaGreatMkRs
namespace Go.Proofs.YthoiaffeenhfgaaGreat
open Go.RowKit
set_option linter.unusedVariables false
set_option linter.unusedSimpArgs false
set_option maxRecDepth 100000
open Lay (plcc plc shOf packN nodesN OkC Cfg Norm firstV Rep lenL things)
def IdM (w : World) (p : Option Addr) : Prop := p = none ∨ ∃ X mp i, p = some ⟨X, 0, none⟩ ∧ Mb w X mp (mz0 i .nilFunc)
section
variable {w w' : World} {p : Option Addr}
theorem IdM.below (h : IdM w p) (hb : Below w.heap.size w w') : IdM w' p := by
  rcases h with h | ⟨X, mp, i, e, h⟩
  · exact .inl h
  · exact .inr ⟨X, mp, i, e, h.step hb⟩
theorem IdM.step (h : IdM w p) (v u : Value) : Calls Tryz.prog 13 #[.pointer p, v, u] w fun e w' => e = .returned (.tuple #[]) ∧ w = w' := by
  rcases h with rfl | ⟨X, mp, i, rfl, h⟩
  · exact stepM_nil v u w
  · exact mstep_off v u h rfl
theorem IdM.task (h : IdM w p) : Calls Tryz.prog 14 #[.pointer p] w fun e w' => e = .returned (.tuple #[.int .u64 0, .bool false]) ∧ Below w.heap.size w w' := by
  rcases h with rfl | ⟨X, mp, i, rfl, h⟩
  · exact (taskM_nil w).mono fun e w' ⟨a, b⟩ => ⟨a, b ▸ Below.refl _ _⟩
  · exact taskM_any h
theorem IdM.doing (h : IdM w p) : Calls Tryz.prog 15 #[.pointer p] w fun e w' => e = .returned (.int .i64 0) ∧ w = w' := by
  rcases h with rfl | ⟨X, mp, i, rfl, h⟩
  · exact doingM_nil w
  · exact doingM_any h
theorem IdM.ev (h : IdM w p) : Calls Tryz.prog 16 #[.pointer p] w fun e w' => e = .returned (.agg #[.int .i64 0, .int .i64 0, .int .i64 0, .int .i64 0, .int .i64 0]) ∧ Below w.heap.size w w' := by
  rcases h with rfl | ⟨X, mp, i, rfl, h⟩
  · exact eventM_nil w
  · exact eventM_any h
theorem IdM.bag (h : IdM w p) : Calls Tryz.prog 17 #[.pointer p] w fun e w' => e = .returned (.agg #[.int .i64 0, .int .i64 0, .int .i64 0]) ∧ Below w.heap.size w w' := by
  rcases h with rfl | ⟨X, mp, i, rfl, h⟩
  · exact bagM_nil w
  · exact bagM_any h
end
theorem newM_idle {c : Cfg} (hc : OkC c) (N : Nat) (i : Int) (hi : (Lit.int .i64 i).wf = true) (w : World) (hm : Lay.IsMap w N c) (h : i < 0 ∨ c.mr ≤ i) :
    Calls Tryz.prog 12 #[Lay.mapP N, .int .i64 i] w fun e w' => ∃ X, e = .returned (ptr X) ∧ IdM w' (some ⟨X, 0, none⟩) ∧ Below w.heap.size w w' :=
  (newM_no hc i hi hm (top_neg hc h)).mono fun _ _ ⟨X, e, _, a, b⟩ => ⟨X, e, .inr ⟨X, _, _, rfl, a⟩, b⟩
theorem newM_none (w : World) : Calls Tryz.prog 12 #[.pointer none, .int .i64 0] w fun e w' => ∃ X, e = .returned (ptr X) ∧ IdM w' (some ⟨X, 0, none⟩) ∧ Below w.heap.size w w' :=
  (newM_nil 0 (by decide) w).mono fun _ _ ⟨X, e, _, a, b⟩ => ⟨X, e, .inr ⟨X, _, _, rfl, a⟩, b⟩
def R4 (w : World) (b : Nat) (p : Nat → Option Addr) : Prop := w.heap[b]? = some (.cells #[.pointer (p 0), .pointer (p 1), .pointer (p 2), .pointer (p 3)] 35 (0, 0))
theorem R4.cell {w : World} {b : Nat} {p : Nat → Option Addr} (h : R4 w b p) {k : Nat} (hk : k < 4) : w.cell? ⟨b, k, none⟩ = some (.pointer (p k)) := by
  rw [cell_of_row w b k _ _ _ h]
  have : k = 0 ∨ k = 1 ∨ k = 2 ∨ k = 3 := by omega
  rcases this with rfl | rfl | rfl | rfl <;> rfl
theorem R4.below {w w' : World} {b : Nat} {p : Nat → Option Addr} (h : R4 w b p) (hb : Below w.heap.size w w') : R4 w' b p := (hb.block b (Array.getElem?_eq_some_iff.1 h).1).trans h
theorem Bw.mr {w w' : World} {c : Cfg} (h : Bw w c w') : w'.cell? ⟨w.heap.size, 5, none⟩ = some (.int .i64 c.mr) := by
  obtain ⟨q0, q1, q2, q3, q4, q5, q6, q7, q8, q9, q10, q11⟩ := h.cfg
  exact q5
set_option maxHeartbeats 16000000 in
theorem walkNone (c : Cfg) (i d : Int) (w : World) (hi : (Lit.int .i64 i).wf = true) (hd : (Lit.int .i64 d).wf = true) :
    Calls Tryz.prog 3 #[Lay.cfgV c, .int .i64 i, .int .i64 d] w fun e w' => e = .returned (.bool true) ∧ Below w.heap.size w w' := by
  obtain ⟨i0, i1⟩ : -9223372036854775808 ≤ i ∧ i ≤ 9223372036854775807 := by
    simp [Lit.wf, IntKind.min, IntKind.max, IntKind.bits, IntKind.signed] at hi
    omega
  clear hi hd
  have HB := Lib.hid (Bw.start w c)
  obtain ⟨q0, q1, q2, q3, q4, q5, q6, q7, q8, q9, q10, q11⟩ := (Bw.start w c).cfg
  go_enter Tryz.func3, Tryz.ntmps3
  go_upto_region 10 with (first
    | (go_at_call 7; (with_reducible refine (awake_true _).mono ?_); rintro e w1 ⟨rfl, hb⟩; have HB := Lib.hid (HB.out.step hb); clear hb q0 q1 q2 q3 q4 q5 q6 q7 q8 q9 q10 q11; obtain ⟨q0, q1, q2, q3, q4, q5, q6, q7, q8, q9, q10, q11⟩ := HB.out.cfg)
    | (go_at_call 8; (with_reducible refine (small_any c _).mono ?_); rintro e w2 ⟨b, rfl, hs, hb⟩; have HB := Lib.hid (HB.out.step hb); clear hb q0 q1 q2 q3 q4 q5 q6 q7 q8 q9 q10 q11; obtain ⟨q0, q1, q2, q3, q4, q5, q6, q7, q8, q9, q10, q11⟩ := HB.out.cfg; have HSS := Lib.hid hs; clear hs; cases b)
    | (go_at_call 9; (with_reducible refine (Lay.new_yes (HSS.out trivial).1 _).mono ?_); rintro e w3 ⟨N, rfl, hm, hb⟩; have HOK := Lib.hid (HSS.out trivial).1; have HM := Lib.hid hm; have HB := Lib.hid (HB.out.step hb); clear hb hm q0 q1 q2 q3 q4 q5 q6 q7 q8 q9 q10 q11; have HMR := Lib.hid (And.intro HOK.out.k0 HOK.out.k1))
    | (go_at_call 11; (with_reducible refine (first_any HOK.out N _ HM.out).mono ?_); rintro e w4 ⟨G, n, L, rfl, hn, hr, hrep, hb⟩; have HB := Lib.hid (HB.out.step hb); have HM := Lib.hid (HM.out.below hb); have HN := Lib.hid hn; have HR := Lib.hid hr; have HLE := Lib.hid (first_len HOK.out hrep); clear hb hn hr hrep)
    | (go_at_call 10; (with_reducible refine (new_any _ _ _ L _ HN.out HR.out (by have := HN.out; have := HLE.out; omega)).mono ?_); rintro e w5 ⟨S, D, rfl, hS, hD, hs, hb⟩; have HB := Lib.hid (HB.out.step hb); have HM := Lib.hid (HM.out.below hb); have HST := Lib.hid hs; clear hb hs hS hD)
    | fail)
  · go_ret
    exact ⟨rfl, HB.out.fin⟩
  go_cut [13] (fun v wx => ∃ (bl : Nat) (p : Nat → Option Addr), v = .slice (some ⟨bl, 0, none⟩) 4 4 ∧ R4 wx bl p ∧ (∀ k, k < 4 → IdM wx (p k)) ∧ St wx S D L 0 ∧ Bw w c wx)
  case first =>
    obtain ⟨q0, q1, q2, q3, q4, q5, q6, q7, q8, q9, q10, q11⟩ := HB.out.cfg
    clear q0 q1 q2 q3 q4 q6 q7 q8 q9 q10 q11
    have HBD := Lib.hid (HB.out.step (Below.refl _ _).drew); have HMD := Lib.hid (HM.out.below (Below.refl _ _).drew); have HSD := Lib.hid (HST.out.below (Below.refl _ _).drew)
    go_region_held3 (fun w' => w'.cell? ⟨w.heap.size, 5, none⟩ = some (.int .i64 c.mr))
      (first | (with_reducible exact HB9.out.mr) | (with_reducible exact HB8.out.mr) | (with_reducible exact HB7.out.mr) | (with_reducible exact HB6.out.mr) | (with_reducible exact HBD.out.mr) | fail)
      (first
        | (go_at_call 12; (with_reducible refine (newM_none _).mono ?_); rintro e w6 ⟨X1, rfl, h1, hb⟩; have HB6 := Lib.hid (HBD.out.step hb); have HM6 := Lib.hid (HMD.out.below hb); have HS6 := Lib.hid (HSD.out.below hb); have H1 := Lib.hid h1; clear hb h1)
        | (go_at_call 12; (with_reducible refine (newM_idle HOK.out N (Lay.imin i (-1)) (Lay.wf_i64 (by unfold Lay.imin; split <;> omega) (by unfold Lay.imin; split <;> omega)) _ HM6.out (.inl (by unfold Lay.imin; split <;> omega))).mono ?_); rintro e w7 ⟨X2, rfl, h2, hb⟩; have HB7 := Lib.hid (HB6.out.step hb); have HM7 := Lib.hid (HM6.out.below hb); have HS7 := Lib.hid (HS6.out.below hb); have H1 := Lib.hid (H1.out.below hb); have H2 := Lib.hid h2; clear hb h2)
        | (go_at_call 12; (with_reducible refine (newM_idle HOK.out N (Lay.imax i c.mr) (Lay.wf_i64 (by have := HMR.out; unfold Lay.imax; split <;> omega) (by have := HMR.out; unfold Lay.imax; split <;> omega)) _ HM7.out (.inr (by unfold Lay.imax; split <;> omega))).mono ?_); rintro e w8 ⟨X3, rfl, h3, hb⟩; have HB8 := Lib.hid (HB7.out.step hb); have HS8 := Lib.hid (HS7.out.below hb); have H1 := Lib.hid (H1.out.below hb); have H2 := Lib.hid (H2.out.below hb); have H3 := Lib.hid h3; have HB9 := Lib.hid (HB8.out.step (below_alloc0 (Below.refl w8.heap.size w8) (.cells #[.pointer none, ptr X1, ptr X2, ptr X3] 35))); clear hb h3)
        | fail)
    all_goals
      have hba := below_alloc0 (Below.refl w8.heap.size w8) (.cells #[.pointer none, ptr X1, ptr X2, ptr X3] 35)
      obtain ⟨W, hW⟩ : ∃ W, W = w8.alloc (.cells #[.pointer none, ptr X1, ptr X2, ptr X3] 35) := ⟨_, rfl⟩
      obtain ⟨p, hp⟩ : ∃ p : Nat → Option Addr, p = fun k => match k with | 0 => none | 1 => some ⟨X1, 0, none⟩ | 2 => some ⟨X2, 0, none⟩ | _ => some ⟨X3, 0, none⟩ := ⟨_, rfl⟩
      obtain ⟨bl, hbl⟩ : ∃ bl, bl = w8.heap.size := ⟨_, rfl⟩
      have HR4 : Hid (R4 W bl p) := Lib.hid (by rw [hW, hp, hbl]; exact Go.heap_alloc_new _ _)
      have HID : Hid (∀ k, k < 4 → IdM W (p k)) := Lib.hid (fun k hk => by
        rw [hW, hp]
        have : k = 0 ∨ k = 1 ∨ k = 2 ∨ k = 3 := by omega
        rcases this with rfl | rfl | rfl | rfl
        · exact .inl rfl
        · exact H1.out.below hba
        · exact H2.out.below hba
        · exact H3.out.below hba)
      have HSW : Hid (St W S D L 0) := Lib.hid (by rw [hW]; exact HS8.out.below hba)
      have HBW : Hid (Bw w c W) := Lib.hid (by rw [hW]; exact HB9.out)
      go_wp2_with (fail)
      go_meet
      exact ⟨w8.heap.size, p, rfl, by rw [← hW, ← hbl]; exact HR4.out, by rw [← hW]; exact HID.out, by rw [← hW]; exact HSW.out, by rw [← hW]; exact HBW.out⟩
  case rest =>
    obtain ⟨bl, p, rfl, hr4, hid, hst, hbw⟩ := hcut
    have HR4 := Lib.hid hr4; have HID := Lib.hid hid; have HSW := Lib.hid hst; have HBW := Lib.hid hbw
    clear hr4 hid hst hbw
    go_wp2_with (fail)
    go_loopw [14] (fun v wr => ∃ (k : Nat), v = .int .i64 (k : Int) ∧ k ≤ 4 ∧ Bw w c wr ∧ St wr S D L 0 ∧ R4 wr bl p ∧ ∀ j, j < 4 → IdM wr (p j)) (fun v _ => 10 - (intOf v).toNat)
    case atStart => exact ⟨0, rfl, by omega, HBW.out, HSW.out, HR4.out, HID.out⟩
    case round =>
      clear HBW HSW HR4 HID
      obtain ⟨k, rfl, hk, hbw, hst, hr4, hid⟩ := hrel
      have HBW := Lib.hid hbw; have HSW := Lib.hid hst; have HR4 := Lib.hid hr4; have HID := Lib.hid hid
      clear hbw hst hr4 hid
      by_cases hlt : k < 4
      · have h4 : (k : Int) < 4 := by omega
        have hk0 : (0 : Int) ≤ (k : Int) := by omega
        have hcx := HR4.out.cell hlt
        have hcy : wr.cell? ⟨bl, 0 + k, none⟩ = some (.pointer (p k)) := by rw [Nat.zero_add]; exact hcx
        have HI := Lib.hid (HID.out k hlt)
        have HK := Lib.hid hlt
        clear hlt hk
        go_wp2_with (first
          | (go_at_call 13; (with_reducible refine (HI.out.step _ _).mono ?_); rintro e w9 ⟨rfl, hw⟩; cases hw)
          | (go_at_call 14; (with_reducible refine (HI.out.task).mono ?_); rintro e w10 ⟨rfl, hb⟩; have HB1 := Lib.hid (HBW.out.step hb); have HS1 := Lib.hid (HSW.out.below hb); have HR1 := Lib.hid (HR4.out.below hb); have HI1 := Lib.hid (HI.out.below hb); have HID1 := Lib.hid (fun j hj => (HID.out j hj).below hb : ∀ j, j < 4 → IdM w10 (p j)); clear hb hcx hcy; have hcx := HR1.out.cell HK.out)
          | (go_at_call 15; (with_reducible refine (HI1.out.doing).mono ?_); rintro e w11 ⟨rfl, hw⟩; cases hw)
          | (go_at_call 16; (with_reducible refine (HI1.out.ev).mono ?_); rintro e w12 ⟨rfl, hb⟩; have HB2 := Lib.hid (HB1.out.step hb); have HS2 := Lib.hid (HS1.out.below hb); have HR2 := Lib.hid (HR1.out.below hb); have HI2 := Lib.hid (HI1.out.below hb); have HID2 := Lib.hid (fun j hj => (HID1.out j hj).below hb : ∀ j, j < 4 → IdM w12 (p j)); clear hb hcx; have hcx := HR2.out.cell HK.out)
          | (go_at_call 17; (with_reducible refine (HI2.out.bag).mono ?_); rintro e w13 ⟨rfl, hb⟩; have HB3 := Lib.hid (HB2.out.step hb); have HS3 := Lib.hid (HS2.out.below hb); have HR3 := Lib.hid (HR2.out.below hb); have HID3 := Lib.hid (fun j hj => (HID2.out j hj).below hb : ∀ j, j < 4 → IdM w13 (p j)); clear hb)
          | fail)
        go_roundw
        case rel => exact ⟨k + 1, by go_num, HK.out, HB3.out, HS3.out, HR3.out, HID3.out⟩
        case measure => simp [intOf]; have := HK.out; omega
      · have h4 : ¬ (k : Int) < 4 := by omega
        clear hlt hk
        go_wp2_with (first
          | (go_at_call 18; (with_reducible refine (cnt_any _ HSW.out).mono ?_); rintro e w13 ⟨rfl, hw⟩; cases hw)
          | fail)
        go_ret
        exact ⟨rfl, HBW.out.fin⟩
end Go.Proofs.YthoiaffeenhfgaaGreat

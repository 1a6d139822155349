/- The document's example of parts that are swept, walked. -/
import Derived.Test.YtbpkcoemehmpbaaGreatJ22
namespace Go.Proofs.YtbpkcoemehmpbaaGreat
open Go.RowKit
set_option linter.unusedVariables false
set_option linter.unusedSimpArgs false
set_option maxRecDepth 100000
open Lay (plcc plc shOf nodesN OkC Cfg Norm firstV Rep lenL things)

/-- The example. -/
def cx : Cfg := ⟨2, 0, 0, 0, 0, 1, 1, 2, 1, 1, 1, 1⟩
theorem okx : OkC cx := by constructor <;> decide
def Lx : List Int := ptq (ptq (ptq (ptq ((things (shOf cx)).map (firstV cx)) (plcc cx 2 0 0) 17179869184) (plcc cx 15 1 0) 1) (plcc cx 16 1 0) 4) (plcc cx 15 2 0) 1
def rx (j : Nat) : List Int × Wn := wrs cx j Lx (wNew 4)
def ry (j : Nat) : List Int × Wn := wrs cx j (rx 5).1 (wNew 4)
def rz : List Int × Wn := wrs cx 1 (ry 9).1 (wNew 4)
theorem normx : ∀ t ∈ things (shOf cx), Norm t := by
  have : ∀ t ∈ things (shOf cx), 0 ≤ t.k ∧ t.k ≤ 18 ∧ (t.k ≤ 5 → t.a = 0) ∧ (t.k ≠ 10 → t.k ≠ 13 → t.k ≠ 18 → t.b = 0) := by decide +kernel
  exact this
theorem pcx : ∀ j, j < 4 → (rx (j + 1)).2.pc ≠ 0 := by decide +kernel
theorem endx : (rx 5).2.pc = 0 ∧ (rx 5).2.part = 0 := by decide +kernel
theorem pcy : ∀ j, j < 8 → (ry (j + 1)).2.pc ≠ 0 := by decide +kernel
theorem endy : (ry 9).2.pc = 0 ∧ (ry 9).2.part = 1 := by decide +kernel
theorem endz : rz.2.pc = 0 ∧ rz.2.part = -1 ∧ ldq rz.1 (plcc cx 15 2 0) = 0 ∧ ldq rz.1 (plcc cx 15 1 0) = 1 ∧ ldq rz.1 (plcc cx 3 0 0) = 2 := by decide +kernel
theorem newx (w : World) : Calls Tryz.prog 6 #[.agg #[.int .i64 2, .int .i64 0, .int .i64 0, .int .i64 0, .int .i64 0, .int .i64 1, .int .i64 1, .int .i64 2, .int .i64 1, .int .i64 1, .int .i64 1, .int .i64 1]] w fun r w' => ∃ N, r = .returned (.tuple #[Lay.mapP N, .int .i64 0]) ∧ Lay.IsMap w' N cx ∧ Below w.heap.size w w' := Lay.new_yes okx w
set_option maxHeartbeats 8000000 in
theorem awake_true (w : World) : Calls Tryz.prog 4 #[] w fun e w' => e = .returned (.bool true) ∧ Below w.heap.size w w' := by
  have HOK := Lib.hid okx
  have HRX : Hid (∀ L, Rep (shOf cx) L (firstV cx) → ptq (ptq (ptq (ptq L (plcc cx 2 0 0) 17179869184) (plcc cx 15 1 0) 1) (plcc cx 16 1 0) 4) (plcc cx 15 2 0) 1 = (rx 0).1) := Lib.hid (fun L h => by rw [rep_list h normx]; rfl)
  go_enter Tryz.func4, Tryz.ntmps4
  go_wp2_with (first
    | (go_at_call 6; (with_reducible refine (newx _).mono ?_); rintro e w3 ⟨N, rfl, hm, hb⟩; have HM := Lib.hid hm; have HB := Lib.hid hb; clear hb hm)
    | (go_at_call 22; (with_reducible refine (first_any HOK.out N _ HM.out).mono ?_); rintro e w4 ⟨G, n, L, rfl, hn, hr, hrep, hb⟩; have HB := Lib.hid (below_step HB.out HB.out.size hb); have HM := Lib.hid (HM.out.below hb); have HN := Lib.hid hn; have HR := Lib.hid hr; have HRE := Lib.hid hrep; have HLE := Lib.hid (first_len HOK.out hrep); clear hb hn hr hrep)
    | (go_at_call 21; (with_reducible refine (new_any _ _ _ L _ HN.out HR.out (by have := HN.out; have := HLE.out; omega)).mono ?_); rintro e w5 hs; obtain ⟨S, D, rfl, hpo, hb⟩ := PO.start (B := w.heap.size) (w0 := w) HB.out (Nat.le_refl _) HM.out HOK.out (first_ww HOK.out HRE.out) hs; have HP0 := Lib.hid hpo; clear hs hpo hb)
    | (go_at_call 23; (with_reducible refine (Lay.sweep_m HOK.out N _ HP0.out.mp).mono ?_); rintro e w6 ⟨rfl, hb⟩; have HP1 := Lib.hid (HP0.out.step hb); clear hb)
    | (go_at_call 24; (with_reducible refine (pair_any 4 0 (by decide) (by decide) (by decide) (by decide) _).mono ?_); rintro e w7 ⟨rfl, hb⟩; have HP2 := Lib.hid (HP1.out.step hb); clear hb)
    | (go_at_call 13; (with_reducible refine (put_po HP2.out (plcc cx 2 0 0) 17179869184 (by decide) (by decide)).mono ?_); rintro e w8 ⟨rfl, hp, u⟩; have HP3 := Lib.hid hp; clear hp u)
    | (go_at_call 25; (with_reducible refine (Lay.state_m HOK.out N 1 (by decide) _ HP3.out.mp).mono ?_); rintro e w9 ⟨rfl, hb⟩; have HP4 := Lib.hid (HP3.out.step hb); clear hb)
    | (go_at_call 13; (with_reducible refine (put_po HP4.out (plcc cx 15 1 0) 1 (by decide) (by decide)).mono ?_); rintro e w10 ⟨rfl, hp, u⟩; have HP5 := Lib.hid hp; clear hp u)
    | (go_at_call 26; (with_reducible refine (Lay.mark_m HOK.out N 1 (by decide) _ HP5.out.mp).mono ?_); rintro e w11 ⟨rfl, hb⟩; have HP6 := Lib.hid (HP5.out.step hb); clear hb)
    | (go_at_call 13; (with_reducible refine (put_po HP6.out (plcc cx 16 1 0) 4 (by decide) (by decide)).mono ?_); rintro e w12 ⟨rfl, hp, u⟩; have HP7 := Lib.hid hp; clear hp u)
    | (go_at_call 25; (with_reducible refine (Lay.state_m HOK.out N 2 (by decide) _ HP7.out.mp).mono ?_); rintro e w13 ⟨rfl, hb⟩; have HP8 := Lib.hid (HP7.out.step hb); clear hb)
    | (go_at_call 13; (with_reducible refine (put_po HP8.out (plcc cx 15 2 0) 1 (by decide) (by decide)).mono ?_); rintro e w14 ⟨rfl, hp, u⟩; rw [HRX.out L HRE.out] at hp; have HP9 := Lib.hid hp; clear hp u)
    | (go_at_call 11; (with_reducible refine (new_wo HP9.out 4).mono ?_); rintro e w15 ⟨X, rfl, hx, hp, hb⟩; have HX := Lib.hid hx; have HPA := Lib.hid hp; have HLO := Lib.hid (HP9.out.los hb.size); clear hx hp hb)
    | fail)
  clear HP0 HP1 HP2 HP3 HP4 HP5 HP6 HP7 HP8
  have HPX : Hid (∀ j, j < 4 → decide ((wrs cx (j + 1) Lx (wNew 4)).2.pc = 0) = false) := Lib.hid (fun j hj => decide_eq_false (pcx j hj))
  have HZX : Hid (decide ((wrs cx (4 + 1) Lx (wNew 4)).2.pc = 0) = true) := Lib.hid (decide_eq_true endx.1)
  have HPY : Hid (∀ j, j < 8 → decide ((wrs cx (j + 1) (rx 5).1 (wNew 4)).2.pc = 0) = false) := Lib.hid (fun j hj => decide_eq_false (pcy j hj))
  have HZY : Hid (decide ((wrs cx (8 + 1) (rx 5).1 (wNew 4)).2.pc = 0) = true) := Lib.hid (decide_eq_true endy.1)
  have HZZ : Hid (decide ((wrs cx (0 + 1) (ry 9).1 (wNew 4)).2.pc = 0) = true) := Lib.hid (decide_eq_true endz.1)
  have HWW : Hid (WW Lx) := Lib.hid HP9.out.ww
  have HW4 : Hid (WKW cx 0 (wNew 4)) := Lib.hid (wkw_new HOK.out (by decide))
  go_loopw [5] (fun v wr => ∃ (j : Nat), j ≤ 4 ∧ v = .int .i64 (1 + (j : Int)) ∧ WRn w.heap.size S D N cx w w15 wr w14.heap.size X Lx (wNew 4) j 4) (fun v _ => 20 - (intOf v).toNat)
  case atStart => exact ⟨0, by omega, rfl, WRn.start HPA.out HX.out⟩
  case round =>
    obtain ⟨j, hj, rfl, ho⟩ := hrel
    have HO := Lib.hid ho; clear ho
    have h20 : 1 + (j : Int) < 20 := by omega
    by_cases hlt : j < 4
    · have HJ := Lib.hid hlt
      have e1 : IntKind.i64.wrap (1 + (j : Int) + 1) = 1 + (j : Int) + 1 := IntWalk.i64_in _ (by omega)
      clear hlt hj
      go_wp2_with (first
        | (go_at_call 16; (with_reducible refine (wrun_step HO.out HLO.out HW4.out HWW.out (by have := HJ.out; omega) (by have := HJ.out; omega)).mono ?_); rintro r w16 ⟨rfl, ho⟩; rw [HPX.out j HJ.out]; have HO2 := Lib.hid ho; clear ho)
        | fail)
      go_roundw
      case rel => exact ⟨j + 1, HJ.out, by go_num, HO2.out⟩
      case measure => simp [intOf]; have := HJ.out; omega
    · obtain rfl : j = 4 := by omega
      clear hlt hj h20
      go_wp2_with (first
        | (go_at_call 16; (with_reducible refine (wrun_step HO.out HLO.out HW4.out HWW.out (by decide) (by decide)).mono ?_); rintro r w16 ⟨rfl, ho⟩; rw [HZX.out]; have HQ0 : Hid (PO w.heap.size S D N cx w w16 (rx 5).1 9) := Lib.hid (ho.po.more (by decide)); have HX2 : Hid (WKX w14.heap.size w16 X S D N (rx 5).2) := Lib.hid ho.mm; clear ho)
        | (go_at_call 11; (with_reducible refine (new_wo HQ0.out 4).mono ?_); rintro e w17 ⟨Y, rfl, hx, hp, hb⟩; have HY := Lib.hid hx; have HQA := Lib.hid hp; have HLY := Lib.hid (HQ0.out.los hb.size); have HX3 := Lib.hid (HX2.out.below hb); have HU3 : Hid (UF (fun b => b = S ∨ b = D ∨ w16.heap.size ≤ b) w16 w17) := Lib.hid (UF.of_below hb); clear hx hp hb)
        | fail)
      clear HO
      go_loopw [7] (fun v wr2 => ∃ (j : Nat), j ≤ 8 ∧ v = .int .i64 (1 + (j : Int)) ∧ WRn w.heap.size S D N cx w w17 wr2 w16.heap.size Y (rx 5).1 (wNew 4) j 9) (fun v _ => 20 - (intOf v).toNat)
      case atStart => exact ⟨0, by omega, rfl, WRn.start HQA.out HY.out⟩
      case round =>
        obtain ⟨j, hj, rfl, ho⟩ := hrel
        have HO := Lib.hid ho; clear ho
        have h20 : 1 + (j : Int) < 20 := by omega
        by_cases hlt : j < 8
        · have HJ := Lib.hid hlt
          have e1 : IntKind.i64.wrap (1 + (j : Int) + 1) = 1 + (j : Int) + 1 := IntWalk.i64_in _ (by omega)
          clear hlt hj
          go_wp2_with (first
            | (go_at_call 16; (with_reducible refine (wrun_step HO.out HLY.out HW4.out HQ0.out.ww (by have := HJ.out; omega) (by have := HJ.out; omega)).mono ?_); rintro r w18 ⟨rfl, ho⟩; rw [HPY.out j HJ.out]; have HO2 := Lib.hid ho; clear ho)
            | fail)
          go_roundw
          case rel => exact ⟨j + 1, HJ.out, by go_num, HO2.out⟩
          case measure => simp [intOf]; have := HJ.out; omega
        · obtain rfl : j = 8 := by omega
          clear hlt hj h20
          have HEX := Lib.hid endx.2; have HEY := Lib.hid endy.2; have HEZ := Lib.hid endz
          go_wp2_with (first
            | (go_at_call 16; (with_reducible refine (wrun_step HO.out HLY.out HW4.out HQ0.out.ww (by decide) (by decide)).mono ?_); rintro r w18 ⟨rfl, ho⟩; rw [HZY.out]; have HR0 : Hid (PO w.heap.size S D N cx w w18 (ry 9).1 18) := Lib.hid (ho.po.more (by decide)); have HY2 : Hid (WKX w16.heap.size w18 Y S D N (ry 9).2) := Lib.hid ho.mm; have HX4 := Lib.hid (HX2.out.uf (HU3.out.trans ho.u (fun _ x => x) (fun _ _ x => x)) (Nat.le_refl _)); clear ho)
            | (go_at_call 11; (with_reducible refine (new_wo HR0.out 4).mono ?_); rintro e w19 ⟨Z, rfl, hx, hp, hb⟩; have HZ := Lib.hid (WRn.start hp hx); have HLZ := Lib.hid (HR0.out.los hb.size); have HX5 := Lib.hid (HX4.out.uf (lo2 := w18.heap.size) (UF.of_below hb) (Nat.le_refl _)); have HY5 := Lib.hid (HY2.out.uf (lo2 := w18.heap.size) (UF.of_below hb) (Nat.le_refl _)); have HUZ : Hid (UF (fun b => b = S ∨ b = D ∨ w18.heap.size ≤ b) w18 w19) := Lib.hid (UF.of_below hb); clear hx hp hb)
            | (go_at_call 16; (with_reducible refine (wrun_step HZ.out HLZ.out HW4.out HR0.out.ww (by decide) (by decide)).mono ?_); rintro r w20 ⟨rfl, ho⟩; rw [HZZ.out]; have HS0 : Hid (PO w.heap.size S D N cx w w20 rz.1 19) := Lib.hid (ho.po.more (by decide)); have HZ6 : Hid (WKX w18.heap.size w20 Z S D N rz.2) := Lib.hid ho.mm; have HX6 := Lib.hid (HX4.out.uf (HUZ.out.trans ho.u (fun _ x => x) (fun _ _ x => x)) (Nat.le_refl _)); have HY6 := Lib.hid (HY2.out.uf (HUZ.out.trans ho.u (fun _ x => x) (fun _ _ x => x)) (Nat.le_refl _)); clear ho)
            | (go_at_call 18; (with_reducible refine (part_wo HX6.out).mono ?_); rintro r w21 ⟨rfl, rfl⟩; rw [HEX.out])
            | (go_at_call 18; (with_reducible refine (part_wo HY6.out).mono ?_); rintro r w21 ⟨rfl, rfl⟩; rw [HEY.out])
            | (go_at_call 18; (with_reducible refine (part_wo HZ6.out).mono ?_); rintro r w21 ⟨rfl, rfl⟩; rw [HEZ.out.2.1])
            | (go_at_call 25; (with_reducible refine (Lay.state_m HOK.out N 2 (by decide) _ HS0.out.mp).mono ?_); rintro e w22 ⟨rfl, hb⟩; have HS1 := Lib.hid (HS0.out.step hb); clear hb)
            | (go_at_call 27; (with_reducible refine (load_po HS1.out (plcc cx 15 2 0) (by decide)).mono ?_); rintro e w23 ⟨rfl, hp, u⟩; rw [HEZ.out.2.2.1]; have HS2 := Lib.hid hp; clear hp u)
            | (go_at_call 25; (with_reducible refine (Lay.state_m HOK.out N 1 (by decide) _ HS2.out.mp).mono ?_); rintro e w24 ⟨rfl, hb⟩; have HS3 := Lib.hid (HS2.out.step hb); clear hb)
            | (go_at_call 27; (with_reducible refine (load_po HS3.out (plcc cx 15 1 0) (by decide)).mono ?_); rintro e w25 ⟨rfl, hp, u⟩; rw [HEZ.out.2.2.2.1]; have HS4 := Lib.hid hp; clear hp u)
            | (go_at_call 28; (with_reducible refine (Lay.done_m HOK.out N _ HS4.out.mp).mono ?_); rintro e w26 ⟨rfl, hb⟩; have HS5 := Lib.hid (HS4.out.step hb); clear hb)
            | (go_at_call 27; (with_reducible refine (load_po HS5.out (plcc cx 3 0 0) (by decide)).mono ?_); rintro e w27 ⟨rfl, hp, u⟩; rw [HEZ.out.2.2.2.2]; have HS6 := Lib.hid hp; clear hp u)
            | fail)
          go_ret
          exact ⟨rfl, HS6.out.bel⟩
end Go.Proofs.YtbpkcoemehmpbaaGreat

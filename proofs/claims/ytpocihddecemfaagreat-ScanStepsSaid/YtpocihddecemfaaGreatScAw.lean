
import Derived.Test.YtpocihddecemfaaGreatJ27
import Derived.Test.YtpocihddecemfaaGreatJ20
namespace Go.Proofs.YtpocihddecemfaaGreat
open Go.RowKit
set_option linter.unusedVariables false
set_option linter.unusedSimpArgs false
set_option maxRecDepth 100000
open Lay (plcc plc shOf packN nodesN OkC Cfg Norm firstV Rep lenL slotsOf kindV things)
theorem rep_list {c : Cfg} {L : List Int} (h : Rep (shOf c) L (firstV c)) (hn : ∀ t ∈ things (shOf c), Norm t) : L = (things (shOf c)).map (firstV c) := by
  obtain ⟨hl, hr⟩ := h
  apply List.ext_getElem
  · rw [List.length_map, Lay.things_len]; exact hl
  · intro i h1 h2
    have hi : i < (things (shOf c)).length := by rw [Lay.things_len, ← hl]; exact h1
    have e3 := Lay.seg_all (shOf c) i hi
    have e4 : Lay.gt (things (shOf c)) i = (things (shOf c))[i] := by simp [Lay.gt, List.getD, List.getElem?_eq_getElem hi]
    rw [e4] at e3
    have := hr _ (hn _ (List.getElem_mem hi)) (by rw [e3]; omega)
    rw [e3] at this
    simp only [List.getElem_map]
    rw [← this]
    simp [List.getD, List.getElem?_eq_getElem h1]
def zruns (z : Zg) (g : Pg) (nw : Int → Am) : Nat → List Int × Zm → List Int × Zm
  | 0, p => p
  | k + 1, p => zruns z g nw k (zstp z g nw p.1 p.2)
theorem zruns_succ (z : Zg) (g : Pg) (nw : Int → Am) : ∀ (k : Nat) (p : List Int × Zm), zruns z g nw (k + 1) p = zstp z g nw (zruns z g nw k p).1 (zruns z g nw k p).2
  | 0, _ => rfl
  | k + 1, p => zruns_succ z g nw k (zstp z g nw p.1 p.2)
def cx : Cfg := ⟨2, 1, 0, 0, 0, 1, 1, 4, 1, 1, 1, 1⟩
theorem okx : OkC cx := by constructor <;> decide
def cp00 : Cm := ⟨0, 0, 0, 0, false⟩
def Lx : List Int := ptq (ptq (ptq ((things (shOf cx)).map (firstV cx)) (plcc cx 14 3 0) 2) (plcc cx 18 3 0) 1) (plcc cx 18 3 1) 2
def mx : Zm := zNew 3 0 1 cp00 aIdle
def rx (j : Nat) : List Int × Zm := zruns (zgOf cx) (gOf cx) (aNew (eOf cx 0)) j (Lx, mx)
theorem rx_succ (j : Nat) : rx (j + 1) = zstp (zgOf cx) (gOf cx) (aNew (eOf cx 0)) (rx j).1 (rx j).2 := zruns_succ ..
theorem normx : ∀ t ∈ things (shOf cx), Norm t := by
  have : ∀ t ∈ things (shOf cx), 0 ≤ t.k ∧ t.k ≤ 18 ∧ (t.k ≤ 5 → t.a = 0) ∧ (t.k ≠ 10 → t.k ≠ 13 → t.k ≠ 18 → t.b = 0) := by decide +kernel
  exact this
theorem pcx : ∀ j, j < 14 → (rx (j + 1)).2.pc ≠ 0 := by decide +kernel
theorem endx : (rx 15).2.pc = 0 ∧ ((rx 15).2.ek = 4 ∧ (rx 15).2.ea = 3 ∧ (rx 15).2.eb = 0) ∧ (ldq (rx 15).1 (plcc cx 16 1 0) = 1 ∧ ldq (rx 15).1 (plcc cx 16 2 0) = 0) ∧ ldq (rx 15).1 1 = 1 ∧ ldq (rx 15).1 (plcc cx 9 0 0) = 2 := by decide +kernel
theorem newx (w : World) : Calls Tryz.prog 9 #[.agg #[.int .i64 2, .int .i64 1, .int .i64 0, .int .i64 0, .int .i64 0, .int .i64 1, .int .i64 1, .int .i64 4, .int .i64 1, .int .i64 1, .int .i64 1, .int .i64 1]] w fun r w' => ∃ N, r = .returned (.tuple #[Lay.mapP N, .int .i64 0]) ∧ Lay.IsMap w' N cx ∧ Below w.heap.size w w' := Lay.new_yes okx w
set_option maxHeartbeats 8000000 in
theorem awake_true (w : World) : Calls Tryz.prog 7 #[] w fun e w' => e = .returned (.bool true) ∧ Below w.heap.size w w' := by
  have HOK := Lib.hid okx
  have HRX : Hid (∀ L, Rep (shOf cx) L (firstV cx) → ptq (ptq (ptq L (plcc cx 14 3 0) 2) (plcc cx 18 3 0) 1) (plcc cx 18 3 1) 2 = Lx) := Lib.hid (fun L h => by rw [rep_list h normx]; rfl)
  go_enter Tryz.func7, Tryz.ntmps7
  go_wp2_with (first
    | (go_at_call 9; (with_reducible refine (newx _).mono ?_); rintro e w3 ⟨N, rfl, hm, hb⟩; have HM := Lib.hid hm; have HB := Lib.hid hb; clear hb hm)
    | (go_at_call 32; (with_reducible refine (first_any HOK.out N _ HM.out).mono ?_); rintro e w4 ⟨G, n, L, rfl, hn, hr, hrep, hb⟩; have HB := Lib.hid (below_step HB.out HB.out.size hb); have HM := Lib.hid (HM.out.below hb); have HN := Lib.hid hn; have HR := Lib.hid hr; have HRE := Lib.hid hrep; have HLE := Lib.hid (first_len HOK.out hrep); clear hb hn hr hrep)
    | (go_at_call 31; (with_reducible refine (new_any _ _ _ L _ HN.out HR.out (by have := HN.out; have := HLE.out; omega)).mono ?_); rintro e w5 hs; obtain ⟨S, D, rfl, hpo, hb⟩ := PO.start (B := w.heap.size) (w0 := w) HB.out (Nat.le_refl _) HM.out HOK.out (first_ww HOK.out HRE.out) hs; have HP0 := Lib.hid hpo; clear hs hpo hb)
    | (go_at_call 26; (with_reducible refine (Lay.header_m HOK.out N 3 (by decide) _ HP0.out.mp).mono ?_); rintro e w6 ⟨rfl, hb⟩; have HP1 := Lib.hid (HP0.out.step hb); clear hb)
    | (go_at_call 21; (with_reducible refine (put_po HP1.out (plcc cx 14 3 0) 2 (by decide) (by decide)).mono ?_); rintro e w7 ⟨rfl, hp, u⟩; have HP2 := Lib.hid hp; clear hp u)
    | (go_at_call 28; (with_reducible refine (Lay.slot_m HOK.out N 3 0 (by decide) _ HP2.out.mp).mono ?_); rintro e w8 ⟨rfl, hb⟩; have HP3 := Lib.hid (HP2.out.step hb); clear hb)
    | (go_at_call 21; (with_reducible refine (put_po HP3.out (plcc cx 18 3 0) 1 (by decide) (by decide)).mono ?_); rintro e w9 ⟨rfl, hp, u⟩; have HP4 := Lib.hid hp; clear hp u)
    | (go_at_call 28; (with_reducible refine (Lay.slot_m HOK.out N 3 1 (by decide) _ HP4.out.mp).mono ?_); rintro e w10 ⟨rfl, hb⟩; have HP5 := Lib.hid (HP4.out.step hb); clear hb)
    | (go_at_call 21; (with_reducible refine (put_po HP5.out (plcc cx 18 3 1) 2 (by decide) (by decide)).mono ?_); rintro e w11 ⟨rfl, hp, u⟩; rw [HRX.out L HRE.out] at hp; have HP6 := Lib.hid hp; clear hp u)
    | (go_at_call 29; (with_reducible refine (pair_any 3 0 (by decide) (by decide) (by decide) (by decide) _).mono ?_); rintro e w12 ⟨rfl, hb⟩; have HP7 := Lib.hid (HP6.out.step hb); clear hb)
    | (go_at_call 14; (with_reducible refine (new_zo HP7.out 0 12884901888 1 (by decide) (by decide) cp00 aIdle).mono ?_); rintro e w13 ⟨X, rfl, hx, hp, hb⟩; rw [show (12884901888 : Int) / 4294967296 = 3 by decide, show (12884901888 : Int) % 4294967296 = 0 by decide] at hx; have HX := Lib.hid hx; have HP8 := Lib.hid hp; have HLO := Lib.hid (show S < w12.heap.size ∧ D < w12.heap.size ∧ N < w12.heap.size ∧ w.heap.size ≤ w12.heap.size ∧ w12.heap.size ≤ w13.heap.size from ⟨HP7.out.lt.1, HP7.out.lt.2.1, HP7.out.lt.2.2, HP7.out.bel.size, hb.size⟩); clear hx hp hb)
    | fail)
  have HPX : Hid (∀ j, j < 14 → decide ((zstp (zgOf cx) (gOf cx) (aNew (eOf cx 0)) (rx j).1 (rx j).2).2.pc = 0) = false) := Lib.hid (fun j hj => by rw [← rx_succ]; simpa using pcx j hj)
  have HZX : Hid (decide ((zstp (zgOf cx) (gOf cx) (aNew (eOf cx 0)) (rx 14).1 (rx 14).2).2.pc = 0) = true) := Lib.hid (by rw [← rx_succ]; simpa using endx.1)
  go_loopw [5] (fun v wr => ∃ (j : Nat), j ≤ 14 ∧ v = .int .i64 (1 + (j : Int)) ∧ PO w.heap.size S D N cx w wr (rx j).1 (3 + (j : Int)) ∧ ZKX w12.heap.size wr X S D cx N 0 (rx j).2 ∧ ZW cx (j : Int) (rx j).2 ∧ w12.heap.size ≤ wr.heap.size) (fun v _ => 20 - (intOf v).toNat)
  case atStart => exact ⟨0, by omega, rfl, HP8.out, HX.out, zw_new cx (by decide) (by decide) (by decide), HLO.out.2.2.2.2⟩
  case round =>
    obtain ⟨j, hj, rfl, hpo, hx, hw, hsz⟩ := hrel
    clear HP8 HX
    have HPO := Lib.hid hpo; have HX := Lib.hid hx; have HW := Lib.hid hw; have HSZ := Lib.hid hsz
    have HL2 := Lib.hid (show S < w12.heap.size ∧ D < w12.heap.size ∧ N < w12.heap.size ∧ w.heap.size ≤ w12.heap.size ∧ w12.heap.size ≤ wr.heap.size from ⟨HLO.out.1, HLO.out.2.1, HLO.out.2.2.1, HLO.out.2.2.2.1, hsz⟩)
    clear hpo hx hw hsz
    have h40 : 1 + (j : Int) < 40 := by omega
    by_cases hlt : j < 14
    · have HJ := Lib.hid hlt
      have e1 : IntKind.i64.wrap (1 + (j : Int) + 1) = 1 + (j : Int) + 1 := IntWalk.i64_in _ (by omega)
      clear hlt hj
      go_wp2_with (first
        | (go_at_call 17; (with_reducible refine (step_zo HPO.out HX.out HL2.out HW.out (by decide) (by decide) (by have := HJ.out; omega) (by have := HJ.out; omega)).mono ?_); rintro r w14 ⟨rfl, hp, hx, u⟩; rw [HPX.out j HJ.out]; rw [← rx_succ] at hp hx; have HP9 := Lib.hid hp; have HX9 := Lib.hid hx; have HU := Lib.hid u; clear hp hx u)
        | fail)
      go_roundw
      case rel =>
        have hj := HJ.out
        have hww := (HW.out.step (i := 0) HOK.out HPO.out.ww).1
        rw [← rx_succ] at hww
        exact ⟨j + 1, by omega, by go_num, HP9.out.more (by omega), HX9.out, by simpa using hww, Nat.le_trans HSZ.out HU.out.size⟩
      case measure => simp [intOf]; have := HJ.out; omega
    · obtain rfl : j = 14 := by omega
      clear hlt hj h40
      have HE := Lib.hid endx
      go_wp2_with (first
        | (go_at_call 17; (with_reducible refine (step_zo HPO.out HX.out HL2.out HW.out (by decide) (by decide) (by decide) (by decide)).mono ?_); rintro r w14 ⟨rfl, hp, hx, u⟩; rw [HZX.out]; rw [← rx_succ] at hp hx; have HP9 := Lib.hid hp; have HX9 := Lib.hid hx; clear hp hx u)
        | (go_at_call 19; (with_reducible refine (event_zo HX9.out).mono ?_); rintro r w15 ⟨rfl, hb⟩; rw [HE.out.2.1.1, HE.out.2.1.2.1, HE.out.2.1.2.2]; have HP10 := Lib.hid (HP9.out.step hb); clear hb)
        | (go_at_call 23; (with_reducible refine (Lay.mark_m HOK.out N 1 (by decide) _ HP10.out.mp).mono ?_); rintro r w16 ⟨rfl, hb⟩; have HP11 := Lib.hid (HP10.out.step hb); clear hb)
        | (go_at_call 27; (with_reducible refine (load_po HP11.out (plcc cx 16 1 0) (by decide)).mono ?_); rintro r w17 ⟨rfl, hp, u⟩; rw [HE.out.2.2.1.1]; have HP12 := Lib.hid hp; clear hp u)
        | (go_at_call 23; (with_reducible refine (Lay.mark_m HOK.out N 2 (by decide) _ HP12.out.mp).mono ?_); rintro r w18 ⟨rfl, hb⟩; have HP13 := Lib.hid (HP12.out.step hb); clear hb)
        | (go_at_call 27; (with_reducible refine (load_po HP13.out (plcc cx 16 2 0) (by decide)).mono ?_); rintro r w19 ⟨rfl, hp, u⟩; rw [HE.out.2.2.1.2]; have HP14 := Lib.hid hp; clear hp u)
        | (go_at_call 30; (with_reducible refine (Lay.work_m HOK.out N _ HP14.out.mp).mono ?_); rintro r w20 ⟨rfl, hb⟩; rw [work1]; have HP15 := Lib.hid (HP14.out.step hb); clear hb)
        | (go_at_call 27; (with_reducible refine (load_po HP15.out 1 (by decide)).mono ?_); rintro r w21 ⟨rfl, hp, u⟩; rw [HE.out.2.2.2.1]; have HP16 := Lib.hid hp; clear hp u)
        | (go_at_call 33; (with_reducible refine (Lay.bottom_m HOK.out N 0 (by decide) _ HP16.out.mp).mono ?_); rintro r w22 ⟨rfl, hb⟩; have HP17 := Lib.hid (HP16.out.step hb); clear hb)
        | (go_at_call 27; (with_reducible refine (load_po HP17.out (plcc cx 9 0 0) (by decide)).mono ?_); rintro r w23 ⟨rfl, hp, u⟩; rw [HE.out.2.2.2.2]; have HP18 := Lib.hid hp; clear hp u)
        | fail)
      go_ret
      exact ⟨rfl, HP18.out.bel⟩
end Go.Proofs.YtpocihddecemfaaGreat

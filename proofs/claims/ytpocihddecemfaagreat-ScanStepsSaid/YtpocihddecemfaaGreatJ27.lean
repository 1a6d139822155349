/-  -/
import Derived.Test.YtpocihddecemfaaGreatScK
import Derived.Test.YtpocihddecemfaaGreatJ18
import Derived.Test.YtpocihddecemfaaGreatJ14
namespace Go.Proofs.YtpocihddecemfaaGreat
open Go.RowKit
set_option linter.unusedVariables false
set_option linter.unusedSimpArgs false
set_option maxRecDepth 100000
open Lay (plcc plc nodesN OkC Cfg slotsOf kindV)
section
variable {B S D N : Nat} {c : Cfg} {w0 w w' : World} {L : List Int} {k t i : Int} {X lo : Nat} {m : Zm}
theorem zkm_new {w : World} {X N : Nat} {c : Cfg} {i v fr cy : Int} (h : Zb w X (some ⟨N, 0, none⟩) (zc0 i v fr cy (fnz 44 X))) (hn : X ≠ N) (c0 : Cm) (d0 : Am) : ZKM w X (fun k => k = X) (fun k => k = X) c N i (zNew v fr cy c0 d0) :=
  ⟨hn, rfl, fun k h => h, fun k e => by subst e; exact h.lt, by simp [zNew], none, none, h, fun e => by simp [zNew] at e, fun e => by simp [zNew] at e⟩
def ZKX (lo : Nat) (w : World) (X S D : Nat) (c : Cfg) (N : Nat) (i : Int) (m : Zm) : Prop := ∃ O Dp, ZKM w X O Dp c N i m ∧ (∀ b, Dp b → lo ≤ b) ∧ ¬ Dp S ∧ ¬ Dp D
theorem new_zo (h : PO B S D N c w0 w L k) (i tk cy : Int) (h0 : 0 ≤ tk) (h1 : tk ≤ 18446744073709551615) (c0 : Cm) (d0 : Am) :
    Calls Tryz.prog 14 #[Lay.mapP N, .int .i64 i, .int .u64 tk, .int .u64 cy] w fun e w' => ∃ X, e = .returned (ptr X) ∧ ZKX w.heap.size w' X S D c N i (zNew (tk / 4294967296) (tk % 4294967296) cy c0 d0) ∧ PO B S D N c w0 w' L k ∧ Below w.heap.size w w' := by
  refine (newZ_map N i tk cy h0 h1 w).mono ?_
  rintro e w' ⟨X, rfl, hX, hz, hb⟩
  have hl := h.lt
  exact ⟨X, rfl, ⟨fun k => k = X, fun k => k = X, zkm_new hz (by omega) c0 d0, fun b e => by omega, by omega, by omega⟩, h.step hb, hb⟩
theorem event_zo (h : ZKX lo w X S D c N i m) : Calls Tryz.prog 19 #[ptr X] w fun a w' => a = .returned (evV m.ek m.ea m.eb) ∧ Below w.heap.size w w' := by
  obtain ⟨O, Dp, hp, _⟩ := h
  exact hp.event
theorem step_zo (h : PO B S D N c w0 w L k) (hx : ZKX lo w X S D c N i m) (hlo : S < lo ∧ D < lo ∧ N < lo ∧ B ≤ lo ∧ lo ≤ w.heap.size) (wm : ZW c t m) (i0 : 0 ≤ i) (i1 : i < c.mr) (hk : k ≤ 800000000) (ht : t ≤ 800000000) :
    Calls Tryz.prog 17 #[ptr X, ptr S] w fun e w' => e = .returned (.bool (decide ((zstp (zgOf c) (gOf c) (aNew (eOf c i)) L m).2.pc = 0))) ∧ PO B S D N c w0 w' (zstp (zgOf c) (gOf c) (aNew (eOf c i)) L m).1 (k + 1) ∧ ZKX lo w' X S D c N i (zstp (zgOf c) (gOf c) (aNew (eOf c i)) L m).2 ∧
      UF (fun b => b = S ∨ b = D ∨ lo ≤ b) w w' := by
  obtain ⟨cc, h0, h1, hs⟩ := h.st
  obtain ⟨O, Dp, hp, ho, hS, hD⟩ := hx
  have hl := h.lt
  have hB := h.lo
  refine (step_zk h.ok hp hs h.mp hS hD (fun hh => by have := ho N (hp.ins.2.1 N hh); omega) h.ns.1 h.ns.2 wm h.ww i0 i1 h0 (by omega) (by omega)).mono ?_
  rintro e w' ⟨rfl, ⟨O', D', hp', ho', hd'⟩, hs', u⟩
  have u2 : UF (fun b => b = S ∨ b = D ∨ lo ≤ b) w w' := u.mono fun b _ hb => by
    rcases hb with hb | hb | hb
    · exact .inl hb
    · exact .inr (.inl hb)
    · exact .inr (.inr (ho b (hp.ins.2.1 b hb)))
  refine ⟨rfl, ⟨⟨zcost m cc, ?_, ?_, hs'⟩, IsMap_same h.mp u2.size (u2.block N hl.2.2 (by have := h.ns; omega)), h.ok, h.ns, h.lo, (wm.step h.ok h.ww).2, below_uf h.bel h.lo.2.2 u2 (fun b hb => by omega)⟩, ⟨O', D', hp', fun b hb => ?_, fun hh => ?_, fun hh => ?_⟩, u2⟩
  · unfold zcost; split <;> omega
  · unfold zcost; split <;> omega
  · rcases hd' b hb with x | x
    · exact ho b x
    · omega
  · rcases hd' S hh with x | x
    · exact hS x
    · omega
  · rcases hd' D hh with x | x
    · exact hD x
    · omega
theorem zw_new (c : Cfg) {v fr cy : Int} {c0 : Cm} {d0 : Am} (h1 : 0 ≤ v ∧ v ≤ 4294967295) (h2 : 0 ≤ fr ∧ fr ≤ 4294967295) (h3 : 0 ≤ cy ∧ cy ≤ 18446744073709551615) : ZW c 0 (zNew v fr cy c0 d0) :=
  ⟨by simp [zNew], h1, h2, h3, by simp [zNew], by simp [zNew], fun e => by simp [zNew] at e, by simp [zNew], fun e => by simp [zNew] at e, fun e => by simp [zNew] at e, by omega⟩
end
end Go.Proofs.YtpocihddecemfaaGreat

namespace Go.Proofs.YtpocihddecemfaaGreat
open Go.RowKit
set_option linter.unusedVariables false
set_option linter.unusedSimpArgs false
set_option maxRecDepth 100000
open Lay (plcc plc shOf packN nodesN OkC Cfg Norm firstV Rep lenL slotsOf kindV)
def HS14 (c : Cfg) (q : Int) : Prop := ∃ v, 1 ≤ v ∧ v ≤ nodesN c ∧ (q = plcc c 14 v 0 ∨ ∃ j, q = plcc c 18 v j)
structure FL (c : Cfg) (L0 L : List Int) : Prop where
  len : L.length = L0.length
  same : ∀ q, 0 ≤ q → ¬ HS14 c q → L.getD q.toNat 0 = L0.getD q.toNat 0
theorem FL.refl (c : Cfg) (L : List Int) : FL c L L := ⟨rfl, fun _ _ _ => rfl⟩
theorem FL.put {c : Cfg} {L0 L : List Int} (h : FL c L0 L) {p x : Int} (hp : HS14 c p) : FL c L0 (ptq L p x) :=
  ⟨by rw [pt_len]; exact h.len, fun q h0 hq => by rw [pt_other h0 (fun e => hq (e ▸ hp))]; exact h.same q h0 hq⟩
set_option maxHeartbeats 8000000 in
theorem filled_any {c : Cfg} (hc : OkC c) (N : Nat) (F : Option Addr) (n cap : Nat) (fs : List Int) (w : World) (hm : Lay.IsMap w N c) (hn : n = fs.length) (hr : Reads .u64 w F fs) (hx : ∀ x ∈ fs, 0 ≤ x ∧ x ≤ 18446744073709551615) (h40 : n ≤ 1000) :
    Calls Tryz.prog 12 #[Lay.mapP N, .slice F n cap] w fun e w' => ∃ S D L0 L, e = .returned (ptr S) ∧ Rep (shOf c) L0 (firstV c) ∧ FL c L0 L ∧ PO w.heap.size S D N c w w' L 2000 ∧ Below w.heap.size w w' := by
  have HC := Lib.hid hc; have HM := Lib.hid hm; have HN := Lib.hid hn; have HR := Lib.hid hr; have HX := Lib.hid hx
  have nb := nodes60 hc
  obtain ⟨nn, hnn⟩ : ∃ nn : Nat, nodesN c = (nn : Int) := ⟨(nodesN c).toNat, by omega⟩
  have HNN := Lib.hid hnn
  have hn60 : nn ≤ 60 := by omega
  have hmax : n ≤ maxLen := by unfold maxLen; omega
  clear hc hm hn hr hx nb hnn
  go_enter Tryz.func12, Tryz.ntmps12
  go_wp2_with (first
    | (go_at_call 32; (with_reducible refine (first_any HC.out N _ HM.out).mono ?_); rintro e w1 ⟨G, gn, L0, rfl, hgn, hrd, hrep, hb⟩; have HB := Lib.hid hb; have HG := Lib.hid hgn; have HRD := Lib.hid hrd; have HRE := Lib.hid hrep; have HLE := Lib.hid (first_len HC.out hrep); clear hb hgn hrd hrep)
    | (go_at_call 31; (with_reducible refine (new_any _ _ _ L0 _ HG.out HRD.out (by have := HG.out; have := HLE.out; omega)).mono ?_); rintro e w2 hs; obtain ⟨S, D, rfl, hpo, hb⟩ := PO.start (B := w.heap.size) (w0 := w) HB.out (Nat.le_refl _) (HM.out.below HB.out) HC.out (first_ww HC.out HRE.out) hs; have HPO := Lib.hid hpo; clear hs hpo hb)
    | fail)
  go_loopw [6, 7] (fun sk sv wr => ∃ (kk v : Nat) (L : List Int), sk = .int .i64 (kk : Int) ∧ sv = .int .i64 (v : Int) ∧ 1 ≤ v ∧ v ≤ nn + 1 ∧ kk ≤ 17 * (v - 1) ∧ PO w.heap.size S D N c w wr L (18 * ((v : Int) - 1)) ∧ FL c L0 L) (fun _ sv _ => 100 - (intOf sv).toNat)
  case atStart => exact ⟨0, 1, L0, rfl, rfl, by omega, by omega, by omega, by simpa using HPO.out, FL.refl _ _⟩
  case round =>
    obtain ⟨kk, v, L, rfl, rfl, hv1, hv2, hkk, hpo, hfl⟩ := hrel
    clear HPO
    have HPO := Lib.hid hpo; have HFL := Lib.hid hfl
    clear hpo hfl
    by_cases hgo : v ≤ nn ∧ 0 < n
    · obtain ⟨hvn, hn0⟩ := hgo
      have hle : (v : Int) ≤ (nn : Int) := by omega
      have hpos : (n : Int) > 0 := by omega
      have hpos2 : (0 : Int) < (n : Int) := by omega
      obtain ⟨b, off, rfl, hblt, hcell⟩ := HR.out (by rw [← HN.out]; exact hn0)
      have HCE : Hid (∀ w', Below w.heap.size w w' → ∀ j, j < n → w'.cell? ⟨b, off + j, none⟩ = some (.int .u64 (fs.getD j 0))) := Lib.hid (fun w' hb j hj => (hb.cell (p := ⟨b, off + j, none⟩) hblt).trans (hcell j (by rw [← HN.out]; exact hj)))
      have HXJ : Hid (∀ j, j < n → 0 ≤ fs.getD j 0 ∧ fs.getD j 0 ≤ 18446744073709551615) := Lib.hid (fun j hj => HX.out _ (by rw [List.getD, List.getElem?_eq_getElem (by rw [← HN.out]; exact hj)]; exact List.getElem_mem _))
      have HVW : Hid ((Lit.int .i64 (v : Int)).wf = true) := Lib.hid (by simp [Lit.wf, IntKind.min, IntKind.max, IntKind.bits, IntKind.signed]; omega)
      obtain ⟨rm, hrm⟩ : ∃ rm : Nat, slotsOf (kindV c (v : Int)) = (rm : Int) := ⟨(slotsOf (kindV c (v : Int))).toNat, by have := Lay.slots_bd (kindV c (v : Int)); omega⟩
      have hrm16 : rm ≤ 16 := by have := Lay.slots_bd (kindV c (v : Int)); omega
      have HRM := Lib.hid hrm
      have HP14 : Hid (HS14 c (plcc c 14 (v : Int) 0)) := Lib.hid ⟨(v : Int), by omega, by rw [HNN.out]; omega, .inl rfl⟩
      have HP18 : Hid (∀ j, HS14 c (plcc c 18 (v : Int) j)) := Lib.hid (fun j => ⟨(v : Int), by omega, by rw [HNN.out]; omega, .inr ⟨j, rfl⟩⟩)
      clear hcell hblt hrm
      have er : IntKind.u64.wrap (rm : Int) = (rm : Int) := by rw [IntKind.wrap_u64]; exact Int.emod_eq_of_lt (by omega) (by omega)
      obtain ⟨j, hj⟩ : ∃ j, j = kk % n := ⟨_, rfl⟩
      have hjn : j < n := by rw [hj]; exact Nat.mod_lt _ hn0
      have hrem : ((kk : Nat) : Int).tmod (n : Int) = (j : Int) := by rw [Int.tmod_eq_emod_of_nonneg (by omega), hj]; rfl
      have hj0 : (0 : Int) ≤ (j : Int) := by omega
      have hjn2 : (j : Int) < (n : Int) := by omega
      have hnz : ¬ (n : Int) = 0 := by omega
      have hz1 : ¬ n = 0 := by omega
      obtain ⟨x, hx⟩ : ∃ x, x = fs.getD j 0 := ⟨_, rfl⟩
      have HXX : Hid (0 ≤ x ∧ x ≤ 18446744073709551615) := Lib.hid (by rw [hx]; exact HXJ.out j hjn)
      have HCX : Hid (∀ w', Below w.heap.size w w' → w'.cell? ⟨b, off + j, none⟩ = some (.int .u64 x)) := Lib.hid (fun w' hb => by rw [hx]; exact HCE.out w' hb j hjn)
      clear hj hx
      go_upto_if 39 with (first
        | (go_at_call 24; (with_reducible refine (Lay.nodes_m HC.out N _ HPO.out.mp).mono ?_); rintro e w3 ⟨rfl, hb⟩; rw [HNN.out]; have HP1 := Lib.hid (HPO.out.step hb); clear hb)
        | (go_at_call 26; (with_reducible refine (Lay.header_m HC.out N _ HVW.out _ HP1.out.mp).mono ?_); rintro e w4 ⟨rfl, hb⟩; have HP2 := Lib.hid (HP1.out.step hb); clear hb)
        | (go_at_call 25; (with_reducible refine (Lay.room_m N _ _ HP2.out.mp).mono ?_); rintro e w5 ⟨rfl, hb⟩; rw [HRM.out]; have HP3 := Lib.hid (HP2.out.step hb); clear hb)
        | (go_at_call 21; (with_reducible refine (put_po HP3.out _ _ (by omega) (by omega)).mono ?_); rintro e w6 ⟨rfl, hp, u⟩; have HP4 := Lib.hid hp; have HF4 := Lib.hid (HFL.out.put (x := (rm : Int)) HP14.out); have hcx := HCX.out _ hp.bel; clear hp u)
        | fail)
      clear HP1 HP2 HP3 HPO
      go_cut [6] (fun s wx => s = .int .i64 (kk : Int) ∧ ∃ L', PO w.heap.size S D N c w wx L' (18 * ((v : Int) - 1) + 2) ∧ FL c L0 L')
      case first =>
        by_cases h9 : 900 < x
        · have ex : IntKind.u64.wrap (x - 900) = x - 900 := by rw [IntKind.wrap_u64]; have := HXX.out; exact Int.emod_eq_of_lt (by omega) (by omega)
          have HX9 : Hid (0 ≤ x - 900 ∧ x - 900 ≤ 18446744073709551615) := Lib.hid (by have := HXX.out; omega)
          have HD := Lib.hid (HP4.out.step (Below.refl _ _).drew)
          go_wp2_with (fail)
          go_region_held3 (fun w' => w'.cell? ⟨b, off + j, none⟩ = some (.int .u64 x))
            (first | (with_reducible exact HCX.out _ HP6.out.bel) | (with_reducible exact HCX.out _ HP5.out.bel) | (with_reducible exact HCX.out _ HD.out.bel) | fail)
            (first
              | (go_at_call 26; (with_reducible refine (Lay.header_m HC.out N _ HVW.out _ HD.out.mp).mono ?_); rintro e w7 ⟨rfl, hb⟩; have HP5 := Lib.hid (HD.out.step hb); clear hb)
              | (go_at_call 21; (with_reducible refine (put_po HP5.out _ _ HX9.out (by omega)).mono ?_); rintro e w8 ⟨rfl, hp, u⟩; have HP6 := Lib.hid hp; clear hp u)
              | fail)
          go_wp2_with (fail)
          go_meet
          exact ⟨rfl, _, HP6.out.more (by omega), HF4.out.put HP14.out⟩
        · go_wp2_with (fail)
          go_meet
          exact ⟨rfl, _, HP4.out.more (by omega), HF4.out⟩
      case rest =>
        obtain ⟨rfl, L2, hp2, hf2⟩ := hcut
        have HP2 := Lib.hid hp2; have HF2 := Lib.hid hf2
        clear hp2 hf2 HP4 HF4 hcx hrem hj0 hjn2 HXX HCX hjn
        have ek : IntKind.i64.wrap ((kk : Int) + 1) = (kk : Int) + 1 := IntWalk.i64_in _ (by omega)
        go_wp2_with (fail)
        rename World => wo
        go_loopw [6, 8] (fun sk si wr => ∃ (ii : Nat) (L2 : List Int), sk = .int .i64 ((kk : Int) + 1 + (ii : Int)) ∧ si = .int .i64 (ii : Int) ∧ ii ≤ rm ∧ PO w.heap.size S D N c w wr L2 (18 * ((v : Int) - 1) + 2 + (ii : Int)) ∧ FL c L0 L2) (fun _ si _ => 20 - (intOf si).toNat)
        case atStart => exact ⟨0, L2, by simp, rfl, Nat.zero_le _, by simpa using HP2.out, HF2.out⟩
        case round =>
          clear HP2 HF2 L2
          obtain ⟨ii, L2, rfl, rfl, hii, hp2, hf2⟩ := hrel
          have HP2 := Lib.hid hp2; have HF2 := Lib.hid hf2
          clear hp2 hf2
          by_cases hlt : ii < rm
          · have hlt2 : (ii : Int) < (rm : Int) := by omega
            obtain ⟨j, hj⟩ : ∃ j, j = (kk + 1 + ii) % n := ⟨_, rfl⟩
            have hjn : j < n := by rw [hj]; exact Nat.mod_lt _ hn0
            have hrem : ((kk : Int) + 1 + (ii : Int)).tmod (n : Int) = (j : Int) := by rw [Int.tmod_eq_emod_of_nonneg (by omega), hj]; simp
            have hj0 : (0 : Int) ≤ (j : Int) := by omega
            have hjn2 : (j : Int) < (n : Int) := by omega
            have ek2 : IntKind.i64.wrap ((kk : Int) + 1 + (ii : Int) + 1) = (kk : Int) + 1 + (ii : Int) + 1 := IntWalk.i64_in _ (by omega)
            obtain ⟨x, hx⟩ : ∃ x, x = fs.getD j 0 := ⟨_, rfl⟩
            have HXX : Hid (0 ≤ x ∧ x ≤ 18446744073709551615) := Lib.hid (by rw [hx]; exact HXJ.out j hjn)
            have HCX : Hid (∀ w', Below w.heap.size w w' → w'.cell? ⟨b, off + j, none⟩ = some (.int .u64 x)) := Lib.hid (fun w' hb => by rw [hx]; exact HCE.out w' hb j hjn)
            clear hj hx hlt
            go_wp2_with (first
              | (go_at_call 25; (with_reducible refine (Lay.room_m N _ _ HP2.out.mp).mono ?_); rintro e w5 ⟨rfl, hb⟩; rw [HRM.out]; have HP3 := Lib.hid (HP2.out.step hb); clear hb)
              | fail)
            have HD := Lib.hid (HP3.out.step (Below.refl _ _).drew)
            have hcx := HCX.out _ HP3.out.bel
            go_region_held3 (fun w' => w'.cell? ⟨b, off + j, none⟩ = some (.int .u64 x))
              (first | (with_reducible exact HCX.out _ HP6.out.bel) | (with_reducible exact HCX.out _ HP5.out.bel) | (with_reducible exact HCX.out _ HD.out.bel) | fail)
              (first
                | (go_at_call 28; (with_reducible refine (Lay.slot_m HC.out N _ _ HVW.out _ HD.out.mp).mono ?_); rintro e w7 ⟨rfl, hb⟩; have HP5 := Lib.hid (HD.out.step hb); clear hb)
                | (go_at_call 21; (with_reducible refine (put_po HP5.out _ _ HXX.out (by omega)).mono ?_); rintro e w8 ⟨rfl, hp, u⟩; have HP6 := Lib.hid hp; clear hp u)
                | fail)
            go_wp2_with (fail)
            go_roundw
            case rel => exact ⟨ii + 1, _, by go_num, by go_num, by omega, HP6.out.more (by omega), HF2.out.put (HP18.out _)⟩
            case measure => simp [intOf]; omega
          · have hno : ¬ (ii : Int) < (rm : Int) := by omega
            obtain rfl : ii = rm := by omega
            clear hlt hii
            go_wp2_with (first
              | (go_at_call 25; (with_reducible refine (Lay.room_m N _ _ HP2.out.mp).mono ?_); rintro e w5 ⟨rfl, hb⟩; rw [HRM.out]; have HP3 := Lib.hid (HP2.out.step hb); clear hb)
              | fail)
            go_roundw
            case rel => exact ⟨kk + 1 + ii, v + 1, L2, by go_num, by go_num, by omega, by omega, by omega, HP3.out.more (by omega), HF2.out⟩
            case measure => simp [intOf]; omega
    · have hst : (¬ (v : Int) ≤ (nn : Int)) ∨ n = 0 := by omega
      rcases hst with hst | hst
      · clear hgo
        go_wp2_with (first
          | (go_at_call 24; (with_reducible refine (Lay.nodes_m HC.out N _ HPO.out.mp).mono ?_); rintro e w3 ⟨rfl, hb⟩; rw [HNN.out]; have HP1 := Lib.hid (HPO.out.step hb); clear hb)
          | fail)
        go_ret
        exact ⟨S, D, L0, L, rfl, HRE.out, HFL.out, HP1.out.more (by omega), HP1.out.bel⟩
      · subst hst
        by_cases hvn : (v : Int) ≤ (nn : Int)
        · clear hgo
          go_wp2_with (first
            | (go_at_call 24; (with_reducible refine (Lay.nodes_m HC.out N _ HPO.out.mp).mono ?_); rintro e w3 ⟨rfl, hb⟩; rw [HNN.out]; have HP1 := Lib.hid (HPO.out.step hb); clear hb)
            | fail)
          go_ret
          exact ⟨S, D, L0, L, rfl, HRE.out, HFL.out, HP1.out.more (by omega), HP1.out.bel⟩
        · clear hgo
          go_wp2_with (first
            | (go_at_call 24; (with_reducible refine (Lay.nodes_m HC.out N _ HPO.out.mp).mono ?_); rintro e w3 ⟨rfl, hb⟩; rw [HNN.out]; have HP1 := Lib.hid (HPO.out.step hb); clear hb)
            | fail)
          go_ret
          exact ⟨S, D, L0, L, rfl, HRE.out, HFL.out, HP1.out.more (by omega), HP1.out.bel⟩
end Go.Proofs.YtpocihddecemfaaGreat

/- A machine that does a task, over a store of the call's own: how it begins, a step, its event; walked. Memory that has been filled: the map's words at first, with other heads and slots; walked. A task that is done in a map's memory, while others mark nodes: where things stand, how it begins, each step; walked. -/
import Derived.Test.YtpocihddecemfaaGreatJ22
import Derived.Test.YtpocihddecemfaaGreatJ18
import Derived.Test.YtpocihddecemfaaGreatJ19
import Derived.Test.YtpocihddecemfaaGreatScAm
import Derived.Test.YtpocihddecemfaaGreatJ10
import Derived.Test.YtpocihddecemfaaGreatJ20
namespace Go.Proofs.YtpocihddecemfaaGreat
open Go.RowKit
set_option linter.unusedVariables false
set_option linter.unusedSimpArgs false
set_option maxRecDepth 100000
open Lay (plcc plc nodesN OkC Cfg slotsOf kindV)

section
variable {B S D N : Nat} {c : Cfg} {w0 w w' : World} {L : List Int} {k t i : Int} {X lo : Nat} {m : Zm}
theorem zkm_new {w : World} {X N : Nat} {c : Cfg} {i v fr cy : Int} (h : Zb w X (some ⟨N, 0, none⟩) (zc0 i v fr cy (fnz 44 X))) (hn : X ≠ N) (c0 : Cm) (d0 : Am) : ZKM w X (fun k => k = X) (fun k => k = X) c N i (zNew v fr cy c0 d0) :=
  ⟨hn, rfl, fun k h => h, fun k e => by subst e; exact h.lt, by simp [zNew], none, none, h, fun e => by simp [zNew] at e, fun e => by simp [zNew] at e⟩
/-- A machine in memory whose blocks are not below lo, apart from the store. -/
def ZKX (lo : Nat) (w : World) (X S D : Nat) (c : Cfg) (N : Nat) (i : Int) (m : Zm) : Prop := ∃ O Dp, ZKM w X O Dp c N i m ∧ (∀ b, Dp b → lo ≤ b) ∧ ¬ Dp S ∧ ¬ Dp D
theorem ZKX.below (h : ZKX lo w X S D c N i m) (hb : Below w.heap.size w w') : ZKX lo w' X S D c N i m := by
  obtain ⟨O, Dp, hp, a⟩ := h
  exact ⟨O, Dp, hp.below hb, a⟩
/-- Behind an access of another one. -/
theorem ZKX.left (h : ZKX lo w X S D c N i m) (u : UF (fun b => b = S ∨ b = D) w w') : ZKX lo w' X S D c N i m := by
  obtain ⟨O, Dp, hp, h1, h2, h3⟩ := h
  exact ⟨O, Dp, hp.keep u.size fun k hk => u.block k (hp.ins.2.2 k hk) (fun e => by rcases e with e | e; exact h2 (e ▸ hk); exact h3 (e ▸ hk)), h1, h2, h3⟩
/-- Behind a change of blocks that are below lo. -/
theorem ZKX.far (h : ZKX lo w X S D c N i m) (u : UF (fun b => b < lo) w w') : ZKX lo w' X S D c N i m := by
  obtain ⟨O, Dp, hp, h1, h2, h3⟩ := h
  exact ⟨O, Dp, hp.keep u.size fun k hk => u.block k (hp.ins.2.2 k hk) (fun e => by have := h1 k hk; omega), h1, h2, h3⟩
theorem new_zo (h : PO B S D N c w0 w L k) (i tk cy : Int) (h0 : 0 ≤ tk) (h1 : tk ≤ 18446744073709551615) (c0 : Cm) (d0 : Am) :
    Calls Tryz.prog 14 #[Lay.mapP N, .int .i64 i, .int .u64 tk, .int .u64 cy] w fun e w' => ∃ X, e = .returned (ptr X) ∧ ZKX w.heap.size w' X S D c N i (zNew (tk / 4294967296) (tk % 4294967296) cy c0 d0) ∧ PO B S D N c w0 w' L k ∧ Below w.heap.size w w' := by
  refine (newZ_map N i tk cy h0 h1 w).mono ?_
  rintro e w' ⟨X, rfl, hX, hz, hb⟩
  have hl := h.lt
  exact ⟨X, rfl, ⟨fun k => k = X, fun k => k = X, zkm_new hz (by omega) c0 d0, fun b e => by omega, by omega, by omega⟩, h.step hb, hb⟩
theorem event_zo (h : ZKX lo w X S D c N i m) : Calls Tryz.prog 19 #[ptr X] w fun a w' => a = .returned (evV m.ek m.ea m.eb) ∧ Below w.heap.size w w' := by
  obtain ⟨O, Dp, hp, _⟩ := h
  exact hp.event
/-- A step of it. -/
theorem step_zo (h : PO B S D N c w0 w L k) (hx : ZKX lo w X S D c N i m) (hlo : S < lo ∧ D < lo ∧ N < lo ∧ B ≤ lo ∧ lo ≤ w.heap.size) (wm : ZW c t m) (i0 : 0 ≤ i) (i1 : i < c.mr) (hk : k ≤ 800000000) (ht : t ≤ 800000000) :
    Calls Tryz.prog 17 #[ptr X, ptr S] w fun e w' => e = .returned (.bool (decide ((zstp (zgOf c) (gOf c) (aNew (eOf c i)) L m).2.pc = 0))) ∧ PO B S D N c w0 w' (zstp (zgOf c) (gOf c) (aNew (eOf c i)) L m).1 (k + 1) ∧ ZKX lo w' X S D c N i (zstp (zgOf c) (gOf c) (aNew (eOf c i)) L m).2 ∧
      UF (fun b => b = S ∨ b = D ∨ lo ≤ b) w w' := by
  obtain ⟨cc, h0, h1, hs⟩ := h.st
  obtain ⟨O, Dp, hp, ho, hS, hD⟩ := hx
  have hl := h.lt
  have hB := h.lo
  refine (step_zk h.ok hp hs h.mp hS hD (fun hh => by have := ho N (hp.ins.2.1 N hh); omega) h.ns.1 h.ns.2 wm h.ww i0 i1 h0 (by omega) (by omega)).mono ?_
  rintro e w' ⟨rfl, ⟨O', D', hp', ho', hd'⟩, hs', u⟩
  have u2 : UF (fun b => b = S ∨ b = D ∨ lo ≤ b) w w' := u.mono fun b _ hb => by
    rcases hb with hb | hb | hb
    · exact .inl hb
    · exact .inr (.inl hb)
    · exact .inr (.inr (ho b (hp.ins.2.1 b hb)))
  refine ⟨rfl, ⟨⟨zcost m cc, ?_, ?_, hs'⟩, IsMap_same h.mp u2.size (u2.block N hl.2.2 (by have := h.ns; omega)), h.ok, h.ns, h.lo, (wm.step h.ok h.ww).2, below_uf h.bel h.lo.2.2 u2 (fun b hb => by omega)⟩, ⟨O', D', hp', fun b hb => ?_, fun hh => ?_, fun hh => ?_⟩, u2⟩
  · unfold zcost; split <;> omega
  · unfold zcost; split <;> omega
  · rcases hd' b hb with x | x
    · exact ho b x
    · omega
  · rcases hd' S hh with x | x
    · exact hS x
    · omega
  · rcases hd' D hh with x | x
    · exact hD x
    · omega
theorem zw_new (c : Cfg) {v fr cy : Int} {c0 : Cm} {d0 : Am} (h1 : 0 ≤ v ∧ v ≤ 4294967295) (h2 : 0 ≤ fr ∧ fr ≤ 4294967295) (h3 : 0 ≤ cy ∧ cy ≤ 18446744073709551615) : ZW c 0 (zNew v fr cy c0 d0) :=
  ⟨by simp [zNew], h1, h2, h3, by simp [zNew], by simp [zNew], fun e => by simp [zNew] at e, by simp [zNew], fun e => by simp [zNew] at e, fun e => by simp [zNew] at e, by omega⟩
end
end Go.Proofs.YtpocihddecemfaaGreat

namespace Go.Proofs.YtpocihddecemfaaGreat
open Go.RowKit
set_option linter.unusedVariables false
set_option linter.unusedSimpArgs false
set_option maxRecDepth 100000
open Lay (plcc plc shOf packN nodesN OkC Cfg Norm firstV Rep lenL slotsOf kindV)

/-- A head's or a slot's place. -/
def HS14 (c : Cfg) (q : Int) : Prop := ∃ v, 1 ≤ v ∧ v ≤ nodesN c ∧ (q = plcc c 14 v 0 ∨ ∃ j, q = plcc c 18 v j)
/-- All but heads and slots is as it was. -/
structure FL (c : Cfg) (L0 L : List Int) : Prop where
  len : L.length = L0.length
  same : ∀ q, 0 ≤ q → ¬ HS14 c q → L.getD q.toNat 0 = L0.getD q.toNat 0
theorem FL.refl (c : Cfg) (L : List Int) : FL c L L := ⟨rfl, fun _ _ _ => rfl⟩
theorem ptq_other {L : List Int} {p v q : Int} (h0 : 0 ≤ q) (h : q ≠ p) : (ptq L p v).getD q.toNat 0 = L.getD q.toNat 0 := pt_other h0 h
theorem FL.put {c : Cfg} {L0 L : List Int} (h : FL c L0 L) {p x : Int} (hp : HS14 c p) : FL c L0 (ptq L p x) :=
  ⟨by rw [pt_len]; exact h.len, fun q h0 hq => by rw [pt_other h0 (fun e => hq (e ▸ hp))]; exact h.same q h0 hq⟩
set_option maxHeartbeats 8000000 in
theorem filled_any {c : Cfg} (hc : OkC c) (N : Nat) (F : Option Addr) (n cap : Nat) (fs : List Int) (w : World) (hm : Lay.IsMap w N c) (hn : n = fs.length) (hr : Reads .u64 w F fs) (hx : ∀ x ∈ fs, 0 ≤ x ∧ x ≤ 18446744073709551615) (h40 : n ≤ 1000) :
    Calls Tryz.prog 12 #[Lay.mapP N, .slice F n cap] w fun e w' => ∃ S D L0 L, e = .returned (ptr S) ∧ Rep (shOf c) L0 (firstV c) ∧ FL c L0 L ∧ PO w.heap.size S D N c w w' L 2000 ∧ Below w.heap.size w w' := by
  have HC := Lib.hid hc; have HM := Lib.hid hm; have HN := Lib.hid hn; have HR := Lib.hid hr; have HX := Lib.hid hx
  have nb := nodes60 hc
  obtain ⟨nn, hnn⟩ : ∃ nn : Nat, nodesN c = (nn : Int) := ⟨(nodesN c).toNat, by omega⟩
  have HNN := Lib.hid hnn
  have hn60 : nn ≤ 60 := by omega
  have hmax : n ≤ maxLen := by unfold maxLen; omega
  clear hc hm hn hr hx nb hnn
  go_enter Tryz.func12, Tryz.ntmps12
  go_wp2_with (first
    | (go_at_call 32; (with_reducible refine (first_any HC.out N _ HM.out).mono ?_); rintro e w1 ⟨G, gn, L0, rfl, hgn, hrd, hrep, hb⟩; have HB := Lib.hid hb; have HG := Lib.hid hgn; have HRD := Lib.hid hrd; have HRE := Lib.hid hrep; have HLE := Lib.hid (first_len HC.out hrep); clear hb hgn hrd hrep)
    | (go_at_call 31; (with_reducible refine (new_any _ _ _ L0 _ HG.out HRD.out (by have := HG.out; have := HLE.out; omega)).mono ?_); rintro e w2 hs; obtain ⟨S, D, rfl, hpo, hb⟩ := PO.start (B := w.heap.size) (w0 := w) HB.out (Nat.le_refl _) (HM.out.below HB.out) HC.out (first_ww HC.out HRE.out) hs; have HPO := Lib.hid hpo; clear hs hpo hb)
    | fail)
  go_loopw [6, 7] (fun sk sv wr => ∃ (kk v : Nat) (L : List Int), sk = .int .i64 (kk : Int) ∧ sv = .int .i64 (v : Int) ∧ 1 ≤ v ∧ v ≤ nn + 1 ∧ kk ≤ 17 * (v - 1) ∧ PO w.heap.size S D N c w wr L (18 * ((v : Int) - 1)) ∧ FL c L0 L) (fun _ sv _ => 100 - (intOf sv).toNat)
  case atStart => exact ⟨0, 1, L0, rfl, rfl, by omega, by omega, by omega, by simpa using HPO.out, FL.refl _ _⟩
  case round =>
    obtain ⟨kk, v, L, rfl, rfl, hv1, hv2, hkk, hpo, hfl⟩ := hrel
    clear HPO
    have HPO := Lib.hid hpo; have HFL := Lib.hid hfl
    clear hpo hfl
    by_cases hgo : v ≤ nn ∧ 0 < n
    · obtain ⟨hvn, hn0⟩ := hgo
      have hle : (v : Int) ≤ (nn : Int) := by omega
      have hpos : (n : Int) > 0 := by omega
      have hpos2 : (0 : Int) < (n : Int) := by omega
      obtain ⟨b, off, rfl, hblt, hcell⟩ := HR.out (by rw [← HN.out]; exact hn0)
      have HCE : Hid (∀ w', Below w.heap.size w w' → ∀ j, j < n → w'.cell? ⟨b, off + j, none⟩ = some (.int .u64 (fs.getD j 0))) := Lib.hid (fun w' hb j hj => (hb.cell (p := ⟨b, off + j, none⟩) hblt).trans (hcell j (by rw [← HN.out]; exact hj)))
      have HXJ : Hid (∀ j, j < n → 0 ≤ fs.getD j 0 ∧ fs.getD j 0 ≤ 18446744073709551615) := Lib.hid (fun j hj => HX.out _ (by rw [List.getD, List.getElem?_eq_getElem (by rw [← HN.out]; exact hj)]; exact List.getElem_mem _))
      have HVW : Hid ((Lit.int .i64 (v : Int)).wf = true) := Lib.hid (by simp [Lit.wf, IntKind.min, IntKind.max, IntKind.bits, IntKind.signed]; omega)
      obtain ⟨rm, hrm⟩ : ∃ rm : Nat, slotsOf (kindV c (v : Int)) = (rm : Int) := ⟨(slotsOf (kindV c (v : Int))).toNat, by have := Lay.slots_bd (kindV c (v : Int)); omega⟩
      have hrm16 : rm ≤ 16 := by have := Lay.slots_bd (kindV c (v : Int)); omega
      have HRM := Lib.hid hrm
      have HP14 : Hid (HS14 c (plcc c 14 (v : Int) 0)) := Lib.hid ⟨(v : Int), by omega, by rw [HNN.out]; omega, .inl rfl⟩
      have HP18 : Hid (∀ j, HS14 c (plcc c 18 (v : Int) j)) := Lib.hid (fun j => ⟨(v : Int), by omega, by rw [HNN.out]; omega, .inr ⟨j, rfl⟩⟩)
      clear hcell hblt hrm
      have er : IntKind.u64.wrap (rm : Int) = (rm : Int) := by rw [IntKind.wrap_u64]; exact Int.emod_eq_of_lt (by omega) (by omega)
      obtain ⟨j, hj⟩ : ∃ j, j = kk % n := ⟨_, rfl⟩
      have hjn : j < n := by rw [hj]; exact Nat.mod_lt _ hn0
      have hrem : ((kk : Nat) : Int).tmod (n : Int) = (j : Int) := by rw [Int.tmod_eq_emod_of_nonneg (by omega), hj]; rfl
      have hj0 : (0 : Int) ≤ (j : Int) := by omega
      have hjn2 : (j : Int) < (n : Int) := by omega
      have hnz : ¬ (n : Int) = 0 := by omega
      have hz1 : ¬ n = 0 := by omega
      obtain ⟨x, hx⟩ : ∃ x, x = fs.getD j 0 := ⟨_, rfl⟩
      have HXX : Hid (0 ≤ x ∧ x ≤ 18446744073709551615) := Lib.hid (by rw [hx]; exact HXJ.out j hjn)
      have HCX : Hid (∀ w', Below w.heap.size w w' → w'.cell? ⟨b, off + j, none⟩ = some (.int .u64 x)) := Lib.hid (fun w' hb => by rw [hx]; exact HCE.out w' hb j hjn)
      clear hj hx
      go_upto_if 39 with (first
        | (go_at_call 24; (with_reducible refine (Lay.nodes_m HC.out N _ HPO.out.mp).mono ?_); rintro e w3 ⟨rfl, hb⟩; rw [HNN.out]; have HP1 := Lib.hid (HPO.out.step hb); clear hb)
        | (go_at_call 26; (with_reducible refine (Lay.header_m HC.out N _ HVW.out _ HP1.out.mp).mono ?_); rintro e w4 ⟨rfl, hb⟩; have HP2 := Lib.hid (HP1.out.step hb); clear hb)
        | (go_at_call 25; (with_reducible refine (Lay.room_m N _ _ HP2.out.mp).mono ?_); rintro e w5 ⟨rfl, hb⟩; rw [HRM.out]; have HP3 := Lib.hid (HP2.out.step hb); clear hb)
        | (go_at_call 21; (with_reducible refine (put_po HP3.out _ _ (by omega) (by omega)).mono ?_); rintro e w6 ⟨rfl, hp, u⟩; have HP4 := Lib.hid hp; have HF4 := Lib.hid (HFL.out.put (x := (rm : Int)) HP14.out); have hcx := HCX.out _ hp.bel; clear hp u)
        | fail)
      clear HP1 HP2 HP3 HPO
      go_cut [6] (fun s wx => s = .int .i64 (kk : Int) ∧ ∃ L', PO w.heap.size S D N c w wx L' (18 * ((v : Int) - 1) + 2) ∧ FL c L0 L')
      case first =>
        by_cases h9 : 900 < x
        · have ex : IntKind.u64.wrap (x - 900) = x - 900 := by rw [IntKind.wrap_u64]; have := HXX.out; exact Int.emod_eq_of_lt (by omega) (by omega)
          have HX9 : Hid (0 ≤ x - 900 ∧ x - 900 ≤ 18446744073709551615) := Lib.hid (by have := HXX.out; omega)
          have HD := Lib.hid (HP4.out.step (Below.refl _ _).drew)
          go_wp2_with (fail)
          go_region_held3 (fun w' => w'.cell? ⟨b, off + j, none⟩ = some (.int .u64 x))
            (first | (with_reducible exact HCX.out _ HP6.out.bel) | (with_reducible exact HCX.out _ HP5.out.bel) | (with_reducible exact HCX.out _ HD.out.bel) | fail)
            (first
              | (go_at_call 26; (with_reducible refine (Lay.header_m HC.out N _ HVW.out _ HD.out.mp).mono ?_); rintro e w7 ⟨rfl, hb⟩; have HP5 := Lib.hid (HD.out.step hb); clear hb)
              | (go_at_call 21; (with_reducible refine (put_po HP5.out _ _ HX9.out (by omega)).mono ?_); rintro e w8 ⟨rfl, hp, u⟩; have HP6 := Lib.hid hp; clear hp u)
              | fail)
          go_wp2_with (fail)
          go_meet
          exact ⟨rfl, _, HP6.out.more (by omega), HF4.out.put HP14.out⟩
        · go_wp2_with (fail)
          go_meet
          exact ⟨rfl, _, HP4.out.more (by omega), HF4.out⟩
      case rest =>
        obtain ⟨rfl, L2, hp2, hf2⟩ := hcut
        have HP2 := Lib.hid hp2; have HF2 := Lib.hid hf2
        clear hp2 hf2 HP4 HF4 hcx hrem hj0 hjn2 HXX HCX hjn
        have ek : IntKind.i64.wrap ((kk : Int) + 1) = (kk : Int) + 1 := IntWalk.i64_in _ (by omega)
        go_wp2_with (fail)
        rename World => wo
        go_loopw [6, 8] (fun sk si wr => ∃ (ii : Nat) (L2 : List Int), sk = .int .i64 ((kk : Int) + 1 + (ii : Int)) ∧ si = .int .i64 (ii : Int) ∧ ii ≤ rm ∧ PO w.heap.size S D N c w wr L2 (18 * ((v : Int) - 1) + 2 + (ii : Int)) ∧ FL c L0 L2) (fun _ si _ => 20 - (intOf si).toNat)
        case atStart => exact ⟨0, L2, by simp, rfl, Nat.zero_le _, by simpa using HP2.out, HF2.out⟩
        case round =>
          clear HP2 HF2 L2
          obtain ⟨ii, L2, rfl, rfl, hii, hp2, hf2⟩ := hrel
          have HP2 := Lib.hid hp2; have HF2 := Lib.hid hf2
          clear hp2 hf2
          by_cases hlt : ii < rm
          · have hlt2 : (ii : Int) < (rm : Int) := by omega
            obtain ⟨j, hj⟩ : ∃ j, j = (kk + 1 + ii) % n := ⟨_, rfl⟩
            have hjn : j < n := by rw [hj]; exact Nat.mod_lt _ hn0
            have hrem : ((kk : Int) + 1 + (ii : Int)).tmod (n : Int) = (j : Int) := by rw [Int.tmod_eq_emod_of_nonneg (by omega), hj]; simp
            have hj0 : (0 : Int) ≤ (j : Int) := by omega
            have hjn2 : (j : Int) < (n : Int) := by omega
            have ek2 : IntKind.i64.wrap ((kk : Int) + 1 + (ii : Int) + 1) = (kk : Int) + 1 + (ii : Int) + 1 := IntWalk.i64_in _ (by omega)
            obtain ⟨x, hx⟩ : ∃ x, x = fs.getD j 0 := ⟨_, rfl⟩
            have HXX : Hid (0 ≤ x ∧ x ≤ 18446744073709551615) := Lib.hid (by rw [hx]; exact HXJ.out j hjn)
            have HCX : Hid (∀ w', Below w.heap.size w w' → w'.cell? ⟨b, off + j, none⟩ = some (.int .u64 x)) := Lib.hid (fun w' hb => by rw [hx]; exact HCE.out w' hb j hjn)
            clear hj hx hlt
            go_wp2_with (first
              | (go_at_call 25; (with_reducible refine (Lay.room_m N _ _ HP2.out.mp).mono ?_); rintro e w5 ⟨rfl, hb⟩; rw [HRM.out]; have HP3 := Lib.hid (HP2.out.step hb); clear hb)
              | fail)
            have HD := Lib.hid (HP3.out.step (Below.refl _ _).drew)
            have hcx := HCX.out _ HP3.out.bel
            go_region_held3 (fun w' => w'.cell? ⟨b, off + j, none⟩ = some (.int .u64 x))
              (first | (with_reducible exact HCX.out _ HP6.out.bel) | (with_reducible exact HCX.out _ HP5.out.bel) | (with_reducible exact HCX.out _ HD.out.bel) | fail)
              (first
                | (go_at_call 28; (with_reducible refine (Lay.slot_m HC.out N _ _ HVW.out _ HD.out.mp).mono ?_); rintro e w7 ⟨rfl, hb⟩; have HP5 := Lib.hid (HD.out.step hb); clear hb)
                | (go_at_call 21; (with_reducible refine (put_po HP5.out _ _ HXX.out (by omega)).mono ?_); rintro e w8 ⟨rfl, hp, u⟩; have HP6 := Lib.hid hp; clear hp u)
                | fail)
            go_wp2_with (fail)
            go_roundw
            case rel => exact ⟨ii + 1, _, by go_num, by go_num, by omega, HP6.out.more (by omega), HF2.out.put (HP18.out _)⟩
            case measure => simp [intOf]; omega
          · have hno : ¬ (ii : Int) < (rm : Int) := by omega
            obtain rfl : ii = rm := by omega
            clear hlt hii
            go_wp2_with (first
              | (go_at_call 25; (with_reducible refine (Lay.room_m N _ _ HP2.out.mp).mono ?_); rintro e w5 ⟨rfl, hb⟩; rw [HRM.out]; have HP3 := Lib.hid (HP2.out.step hb); clear hb)
              | fail)
            go_roundw
            case rel => exact ⟨kk + 1 + ii, v + 1, L2, by go_num, by go_num, by omega, by omega, by omega, HP3.out.more (by omega), HF2.out⟩
            case measure => simp [intOf]; omega
    · have hst : (¬ (v : Int) ≤ (nn : Int)) ∨ n = 0 := by omega
      rcases hst with hst | hst
      · clear hgo
        go_wp2_with (first
          | (go_at_call 24; (with_reducible refine (Lay.nodes_m HC.out N _ HPO.out.mp).mono ?_); rintro e w3 ⟨rfl, hb⟩; rw [HNN.out]; have HP1 := Lib.hid (HPO.out.step hb); clear hb)
          | fail)
        go_ret
        exact ⟨S, D, L0, L, rfl, HRE.out, HFL.out, HP1.out.more (by omega), HP1.out.bel⟩
      · subst hst
        by_cases hvn : (v : Int) ≤ (nn : Int)
        · clear hgo
          go_wp2_with (first
            | (go_at_call 24; (with_reducible refine (Lay.nodes_m HC.out N _ HPO.out.mp).mono ?_); rintro e w3 ⟨rfl, hb⟩; rw [HNN.out]; have HP1 := Lib.hid (HPO.out.step hb); clear hb)
            | fail)
          go_ret
          exact ⟨S, D, L0, L, rfl, HRE.out, HFL.out, HP1.out.more (by omega), HP1.out.bel⟩
        · clear hgo
          go_wp2_with (first
            | (go_at_call 24; (with_reducible refine (Lay.nodes_m HC.out N _ HPO.out.mp).mono ?_); rintro e w3 ⟨rfl, hb⟩; rw [HNN.out]; have HP1 := Lib.hid (HPO.out.step hb); clear hb)
            | fail)
          go_ret
          exact ⟨S, D, L0, L, rfl, HRE.out, HFL.out, HP1.out.more (by omega), HP1.out.bel⟩
end Go.Proofs.YtpocihddecemfaaGreat

namespace Go.Proofs.YtpocihddecemfaaGreat
open Go.RowKit
set_option linter.unusedVariables false
set_option linter.unusedSimpArgs false
set_option maxRecDepth 100000
open Lay (plcc plc shOf packN nodesN OkC Cfg Norm firstV Rep lenL slotsOf kindV)

theorem ptq_c (L : List Int) (p v : Int) : ptq L p v = ptc L p v := rfl
theorem ldq_c (L : List Int) (p : Int) : ldq L p = ldc L p := rfl
section
variable {c : Cfg} {mk : Int}
theorem n1 : Norm ⟨1, 0, 0⟩ := nrm 1 0 0 (by omega) (by omega) (fun _ => rfl) (fun _ _ _ => rfl)
theorem n14 (v : Int) : Norm ⟨14, v, 0⟩ := nrm 14 v 0 (by omega) (by omega) (fun h => by omega) (fun _ _ _ => rfl)
theorem n16 (v : Int) : Norm ⟨16, v, 0⟩ := nrm 16 v 0 (by omega) (by omega) (fun h => by omega) (fun _ _ _ => rfl)
theorem n18 (v j : Int) : Norm ⟨18, v, j⟩ := nrm 18 v j (by omega) (by omega) (fun h => by omega) (fun _ _ h => absurd rfl h)
theorem far_ine (hc : OkC c) (h0 : 0 ≤ mk) (h1 : mk < c.mr) {k a b : Int} (hn : Norm ⟨k, a, b⟩) (hp : 0 ≤ plcc c k a b) (k8 : k ≠ 8) (k9 : k ≠ 9) (k10 : k ≠ 10) : ¬ InE (dqn c) (eOf c mk) (plcc c k a b) := fun h => by
  obtain ⟨_, k', j, hk, nk, e⟩ := ine_thing hc h0 h1 h
  have := one_place hn nk hp e
  omega
theorem far_inp (hc : OkC c) {k a b : Int} (hn : Norm ⟨k, a, b⟩) (hp : 0 ≤ plcc c k a b) (k4 : k ≠ 4) (k5 : k ≠ 5) (k11 : k ≠ 11) (k12 : k ≠ 12) (k13 : k ≠ 13) : ¬ InP (pkn c) (gOf c) (plcc c k a b) := fun h => by
  have no : ∀ k' a' b', Norm ⟨k', a', b'⟩ → k ≠ k' → plcc c k a b ≠ plcc c k' a' b' := fun k' a' b' n' ne e => ne (one_place hn n' hp e).1
  rcases h with h' | h' | ⟨y, _, h' | h' | h'⟩
  · exact no 5 0 0 (nrm 5 0 0 (by omega) (by omega) (fun _ => rfl) (fun _ _ _ => rfl)) k5 h'
  · exact no 4 0 0 (nrm 4 0 0 (by omega) (by omega) (fun _ => rfl) (fun _ _ _ => rfl)) k4 h'
  · have h2 : plcc c k a b = atOf (lnkL c) y := h'
    rw [lnk_at hc] at h2
    exact no 12 y 0 (nrm 12 y 0 (by omega) (by omega) (fun h => by omega) (fun _ _ _ => rfl)) k12 h2
  · exact no 11 y 0 (nrm 11 y 0 (by omega) (by omega) (fun h => by omega) (fun _ _ _ => rfl)) k11 h'
  · exact no 13 y 0 (nrm 13 y 0 (by omega) (by omega) (fun h => by omega) (fun _ h _ => absurd rfl h)) k13 h'
theorem far_off (hc : OkC c) (h0 : 0 ≤ mk) (h1 : mk < c.mr) {k a b : Int} (hn : Norm ⟨k, a, b⟩) (hp : 0 ≤ plcc c k a b) (hk : k = 1 ∨ 14 ≤ k) : 0 ≤ plcc c k a b ∧ plcc c k a b < lenL (shOf c) ∧ ¬ InE (dqn c) (eOf c mk) (plcc c k a b) ∧ ¬ InP (pkn c) (gOf c) (plcc c k a b) :=
  ⟨hp, Lay.plc_lt hn hp, far_ine hc h0 h1 hn hp (by omega) (by omega) (by omega), far_inp hc hn hp (by omega) (by omega) (by omega) (by omega) (by omega)⟩
theorem plc_in (hc : OkC c) {k v : Int} (hk : 14 ≤ k) (hk2 : k ≤ 17) (h1 : 1 ≤ v) (h2 : v ≤ nodesN c) : 0 ≤ plcc c k v 0 := by
  have := Lay.shr_len hc
  unfold plcc plc
  simp only
  rw [if_neg (by omega), if_neg (by omega), if_neg (by omega), if_neg (by omega), if_neg (by omega), if_neg (by omega), if_neg (by omega), if_neg (by omega), if_neg (by omega), if_neg (by omega), if_pos hk2, if_pos (by omega)]
  omega
theorem plc_slot_in (hc : OkC c) {v j : Int} (h1 : 1 ≤ v) (h2 : v ≤ nodesN c) (j0 : 0 ≤ j) (j1 : j < slotsOf (kindV c v)) : 0 ≤ plcc c 18 v j := by
  have := Lay.shr_len hc
  have := Lay.shr_get hc v h1 h2
  unfold plcc plc
  simp only
  rw [if_neg (by omega), if_neg (by omega), if_neg (by omega), if_neg (by omega), if_neg (by omega), if_neg (by omega), if_neg (by omega), if_neg (by omega), if_neg (by omega), if_neg (by omega), if_neg (by omega), if_pos trivial, if_pos ⟨h1, by omega, j0, by omega⟩]
  omega
theorem work_at (c : Cfg) : plcc c 1 0 0 = 1 := work1 c
/-- Nodes are no more than there are. -/
theorem few_nodes : ∀ (n : Nat) (K : List Int), K.Nodup → (∀ u ∈ K, 1 ≤ u ∧ u ≤ (n : Int)) → K.length ≤ n
  | 0, K, _, h => by
    cases K with
    | nil => simp
    | cons a K => have := h a (by simp); omega
  | n + 1, K, hn, h => by
    by_cases hm : ((n + 1 : Nat) : Int) ∈ K
    · have hp := List.perm_cons_erase hm
      have hl := hp.length_eq
      have := few_nodes n (K.erase ((n + 1 : Nat) : Int)) (hn.erase _) (fun u hu => by
        have hm2 := (List.Nodup.mem_erase_iff hn).1 hu
        have := h u hm2.2
        have hne := hm2.1
        omega)
      simp only [List.length_cons] at hl; omega
    · have := few_nodes n K hn (fun u hu => by
        have hne : u ≠ ((n + 1 : Nat) : Int) := fun e => hm (e ▸ hu)
        have := h u hu
        omega)
      omega
/-- What stays, of a node's task in a map's memory. -/
def zkOf (c : Cfg) (mk v b cy : Int) (L : List Int) (A0 q : Nat) : Zk :=
  ⟨pkn c, dqn c, zgOf c, gOf c, eOf c mk, v, b, toZ (slotsOf (kindV c v)) b c.ch, cy, L.getD 1 0, fun j => L.getD (plcc c 18 v j).toNat 0, fun u => L.getD (plcc c 16 u 0).toNat 0, if toZ (slotsOf (kindV c v)) b c.ch < slotsOf (kindV c v) then 1 else 0, A0, q⟩
theorem zk_ok (hc : OkC c) (h0 : 0 ≤ mk) (h1 : mk < c.mr) {v b cy : Int} (L : List Int) {A0 q : Nat} (v0 : 1 ≤ v) (v1 : v ≤ nodesN c) (b0 : 0 ≤ b ∧ b ≤ slotsOf (kindV c v)) (cap : A0 + 1 + q ≤ pkn c ∧ A0 + 1 + q ≤ 100)
    (hq : ∀ K : List Int, K.Nodup → (∀ u ∈ K, 1 ≤ u ∧ u ≤ nodesN c ∧ L.getD (plcc c 16 u 0).toNat 0 < cy) → K.length ≤ q) : (zkOf c mk v b cy L A0 q).Ok (lenL (shOf c)) := by
  have hnn := zg_nn hc
  have hrm : (zgOf c).room v = slotsOf (kindV c v) := zg_room hc v0 v1
  have hsb := Lay.slots_bd (kindV c v)
  have hw := work_at c
  have w0 : 0 ≤ plcc c 1 0 0 := by rw [hw]; decide
  have fw := far_off hc h0 h1 n1 w0 (.inl rfl)
  have p14 := plc_in hc (k := 14) (by omega) (by omega) v0 v1
  have p16 : ∀ u, 1 ≤ u → u ≤ nodesN c → 0 ≤ plcc c 16 u 0 := fun u a b => plc_in hc (by omega) (by omega) a b
  have p18 : ∀ j, 0 ≤ j → j < slotsOf (kindV c v) → 0 ≤ plcc c 18 v j := fun j a b => plc_slot_in hc v0 v1 a b
  refine ⟨?_, ?_, fun j j0 j1 => ?_, fun u u0 u1 => ?_, fun u j u0 u1 j0 j1 => ?_, fun u u' u0 u1 u2 u3 e => ?_, ⟨v0, by show v ≤ (zgOf c).nn; rw [hnn]; exact v1⟩, ⟨?_, ?_⟩, ?_, ?_, ?_, ?_, cap, fun K hK hs => hq K hK fun u hu => ?_⟩
  · rw [hw] at fw; exact fw
  · obtain ⟨a, b', d, e⟩ := far_off hc h0 h1 (n14 v) p14 (.inr (by omega))
    refine ⟨a, b', d, e, fun h => ?_⟩
    have h : plcc c 14 v 0 = 1 := h
    rw [← hw] at h
    have := one_place (n14 v) n1 p14 h
    omega
  · have j1 : j < (zgOf c).room v := j1
    rw [hrm] at j1
    have pj := p18 j j0 j1
    obtain ⟨a, b', d, e⟩ := far_off hc h0 h1 (n18 v j) pj (.inr (by omega))
    refine ⟨a, b', d, e, fun h => ?_⟩
    have h : plcc c 18 v j = 1 := h
    rw [← hw] at h
    have := one_place (n18 v j) n1 pj h
    omega
  · have u1 : u ≤ (zgOf c).nn := u1
    rw [hnn] at u1
    have pu := p16 u u0 u1
    obtain ⟨a, b', d, e⟩ := far_off hc h0 h1 (n16 u) pu (.inr (by omega))
    refine ⟨a, b', d, e, fun h => ?_, fun h => ?_⟩
    · have h : plcc c 16 u 0 = 1 := h
      rw [← hw] at h
      have := one_place (n16 u) n1 pu h
      omega
    · have h : plcc c 16 u 0 = plcc c 14 v 0 := h
      have := one_place (n16 u) (n14 v) pu h
      omega
  · have u1 : u ≤ (zgOf c).nn := u1
    rw [hnn] at u1
    intro h
    have h : plcc c 16 u 0 = plcc c 18 v j := h
    have := one_place (n16 u) (n18 v j) (p16 u u0 u1) h
    omega
  · have u1 : u ≤ (zgOf c).nn := u1
    rw [hnn] at u1
    have e : plcc c 16 u 0 = plcc c 16 u' 0 := e
    exact (one_place (n16 u) (n16 u') (p16 u u0 u1) e).2.1
  · show 0 ≤ (zgOf c).room v; rw [hrm]; exact hsb.1
  · show (zgOf c).room v ≤ 16; rw [hrm]; exact hsb.2
  · exact ⟨hc.h0, hc.h1⟩
  · show 0 ≤ b ∧ b ≤ (zgOf c).room v; rw [hrm]; exact b0
  · show toZ (slotsOf (kindV c v)) b c.ch = toZ ((zgOf c).room v) b c.ch; rw [hrm]
  · show (if toZ (slotsOf (kindV c v)) b c.ch < slotsOf (kindV c v) then (1 : Int) else 0) = if toZ (slotsOf (kindV c v)) b c.ch < (zgOf c).room v then 1 else 0; rw [hrm]
  · obtain ⟨a, b', d⟩ := hs u hu
    have b' : u ≤ (zgOf c).nn := b'
    rw [hnn] at b'
    exact ⟨a, b', d⟩
/-- A task begins. -/
theorem SC.start (hc : OkC c) (h0 : 0 ≤ mk) (h1 : mk < c.mr) {v b cy i ra : Int} {L : List Int} {A0 q : Nat} {a : Am} (v0 : 1 ≤ v) (v1 : v ≤ nodesN c) (b0 : 0 ≤ b ∧ b ≤ slotsOf (kindV c v)) (cap : A0 + 1 + q ≤ pkn c ∧ A0 + 1 + q ≤ 100)
    (hq : ∀ K : List Int, K.Nodup → (∀ u ∈ K, 1 ≤ u ∧ u ≤ nodesN c ∧ L.getD (plcc c 16 u 0).toNat 0 < cy) → K.length ≤ q) (hl : L.length = lenL (shOf c)) (ww : WW L) (hhd : L.getD (plcc c 14 v 0).toNat 0 = slotsOf (kindV c v))
    (ha : A1 (pkn c) (dqn c) (gOf c) (eOf c mk) L i A0 a ra) (hp : a.pc = 0) (c0 : Cm) (d0 : Am) : SC (zkOf c mk v b cy L A0 q) L i A0 (zNew v b cy c0 d0) b [] (fun _ => False) 253 := by
  have ok := zk_ok hc h0 h1 (cy := cy) L v0 v1 b0 cap hq
  have T1 := ok.T1
  have hrm : (zgOf c).room v = slotsOf (kindV c v) := zg_room hc v0 v1
  have rm := ok.rm
  have hb := ok.b0
  have hw : (plcc c 1 0 0).toNat = 1 := by rw [work_at]; rfl
  have l1 : (1 : Nat) < L.length := by
    have := ok.wk.2.1
    rw [hl]
    have e : (zkOf c mk v b cy L A0 q).z.wk = 1 := rfl
    omega
  have hww : 0 ≤ L.getD 1 0 ∧ L.getD 1 0 ≤ 18446744073709551615 := ww _ (by rw [List.getD, List.getElem?_eq_getElem l1]; exact List.getElem_mem _)
  refine ⟨by rw [hl]; exact ok, ⟨?_, fun j _ _ => rfl, fun u _ => ⟨fun h => ?_, fun _ => rfl⟩⟩, ⟨rfl, rfl, rfl⟩, by simp [zNew], ⟨Int.le_refl _, T1.1⟩, fun e => absurd rfl e, fun _ => ⟨rfl, rfl⟩, fun e => by simp [zNew] at e, fun e => by simp [zNew] at e, fun e => by simp [zNew] at e, fun e => by simp [zNew] at e, fun j j0 j1 => ?_, fun _ => ?_, ⟨List.nodup_nil, fun u hu => by simp at hu⟩, by simp [sdone, zNew, zkOf], ?_, ⟨0, ha.idle hp (by simp [amOf, zNew, aIdle]), ?_⟩, fun e => by simp [zNew] at e, by simp [zNew, zkOf]⟩
  · show L.getD (plcc c 14 v 0).toNat 0 = (zgOf c).room v; rw [hrm]; exact hhd
  · rcases h with h | h
    · simp at h
    · exact h.elim
  · have e : sdone (zNew v b cy c0 d0) b = b := by simp [sdone, zNew]
    rw [e] at j1
    have : (zkOf c mk v b cy L A0 q).b = b := rfl
    omega
  · have e : (sdone (zNew v b cy c0 d0) b - (zkOf c mk v b cy L A0 q).b).toNat = 0 := by simp [sdone, zNew, zkOf]
    rw [e]; rfl
  · have e : wsum (zkOf c mk v b cy L A0 q) (zNew v b cy c0 d0) [] = L.getD 1 0 := by simp [wsum, zNew, zkOf]
    rw [e]
    show L.getD (1 : Int).toNat 0 = _
    rw [Int.emod_eq_of_lt hww.1 (by omega)]; rfl
  · have e : zd (zkOf c mk v b cy L A0 q) (zNew v b cy c0 d0) b 0 = 13 + 15 * ((zkOf c mk v b cy L A0 q).T - b) := by simp [zd, zNew]
    rw [e]
    have e2 : (zkOf c mk v b cy L A0 q).b = b := rfl
    omega
/-- At first nobody is on the way; other heads and slots change nothing of it. -/
theorem a1_first (hc : OkC c) (h0 : 0 ≤ mk) (h1 : mk < c.mr) {L : List Int} (hr : Rep (shOf c) L (firstV c)) : A1 (pkn c) (dqn c) (gOf c) (eOf c mk) L 0 0 aIdle 0 := by
  obtain ⟨Hs, Hp⟩ := stk_first hc hr
  have G : Gp (pkn c) L.length (gOf c) := by rw [hr.1]; exact gp_of hc
  exact A1.begin G Hs Hp (dq_first hc hr h0 h1) (fun q hq => ine_inp hc h0 h1 q hq) rfl
theorem hs_far (hc : OkC c) (h0 : 0 ≤ mk) (h1 : mk < c.mr) {q : Int} (hq0 : 0 ≤ q) (hq : InE (dqn c) (eOf c mk) q ∨ InP (pkn c) (gOf c) q) : ¬ HS14 c q := by
  rintro ⟨v, v0, v1, e | ⟨j, e⟩⟩
  · subst e
    rcases hq with h | h
    · exact far_ine hc h0 h1 (n14 v) hq0 (by omega) (by omega) (by omega) h
    · exact far_inp hc (n14 v) hq0 (by omega) (by omega) (by omega) (by omega) (by omega) h
  · subst e
    rcases hq with h | h
    · exact far_ine hc h0 h1 (n18 v j) hq0 (by omega) (by omega) (by omega) h
    · exact far_inp hc (n18 v j) hq0 (by omega) (by omega) (by omega) (by omega) (by omega) h
theorem A1.fl (hc : OkC c) (h0 : 0 ≤ mk) (h1 : mk < c.mr) {L0 L : List Int} {i ra : Int} {A : Nat} {a : Am} (h : A1 (pkn c) (dqn c) (gOf c) (eOf c mk) L0 i A a ra) (hf : FL c L0 L) : A1 (pkn c) (dqn c) (gOf c) (eOf c mk) L i A a ra :=
  h.same hf.len fun q hq0 hq => hf.same q hq0 (hs_far hc h0 h1 hq0 hq)
/-- A mark's place is no head's and no slot's. -/
theorem mark_hs {u : Int} (hp : 0 ≤ plcc c 16 u 0) : ¬ HS14 c (plcc c 16 u 0) := by
  rintro ⟨v, v0, v1, e | ⟨j, e⟩⟩
  · have := one_place (n16 u) (n14 v) hp e; omega
  · have := one_place (n16 u) (n18 v j) hp e; omega
theorem work_hs : ¬ HS14 c 1 := by
  have hw := work_at c
  have w0 : 0 ≤ plcc c 1 0 0 := by rw [hw]; decide
  rintro ⟨v, v0, v1, e | ⟨j, e⟩⟩
  · rw [← hw] at e; have := one_place n1 (n14 v) w0 e; omega
  · rw [← hw] at e; have := one_place n1 (n18 v j) w0 e; omega
theorem fv_16 (c : Cfg) (u : Int) : firstV c ⟨16, u, 0⟩ = 0 := Lay.fv_rest _ (by simp)
theorem fv_1 (c : Cfg) : firstV c ⟨1, 0, 0⟩ = 0 := Lay.fv_rest _ (by simp)
end

/-- The store, the machine, what holds. -/
structure SZ (B S D N : Nat) (c : Cfg) (w0 w : World) (lo X : Nat) (mk : Int) (k : Zk) (L : List Int) (i : Int) (A : Nat) (m : Zm) (s : Int) (K : List Int) (P : Int → Prop) (rk cnt : Int) : Prop where
  po : PO B S D N c w0 w L cnt
  zx : ZKX lo w X S D c N mk m
  zw : ZW c i m
  sc : SC k L i A m s K P rk
  lo : S < lo ∧ D < lo ∧ N < lo ∧ B ≤ lo ∧ lo ≤ w.heap.size
  kz : k.z = zgOf c ∧ k.g = gOf c ∧ k.e = eOf c mk
  ln : L.length = lenL (shOf c)
theorem zstp_len (z : Zg) (g : Pg) (nw : Int → Am) (L : List Int) (m : Zm) : (zstp z g nw L m).1.length = L.length := by
  have hc : ∀ (wk : Int) (m : Cm), (cstp wk L m).1.length = L.length := fun wk m => by
    unfold cstp
    repeat' (first | rfl | exact adc_len _ _ _ | exact pc_len _ _ _ | refine ite_ind (P := fun z : List Int × Cm => z.1.length = L.length) ?_ ?_)
  unfold zstp
  simp only
  repeat' (first | rfl | exact adc_len _ _ _ | exact astp_len _ _ _ | exact hc _ _ | refine ite_ind (P := fun z : List Int × Zm => z.1.length = L.length) ?_ ?_)
section
variable {B S D N : Nat} {c : Cfg} {w0 w w' : World} {lo X : Nat} {mk : Int} {k : Zk} {L : List Int} {i : Int} {A : Nat} {m : Zm} {s : Int} {K : List Int} {P : Int → Prop} {rk cnt : Int}
theorem SZ.below (h : SZ B S D N c w0 w lo X mk k L i A m s K P rk cnt) (hb : Below w.heap.size w w') : SZ B S D N c w0 w' lo X mk k L i A m s K P rk cnt :=
  ⟨h.po.step hb, h.zx.below hb, h.zw, h.sc, ⟨h.lo.1, h.lo.2.1, h.lo.2.2.1, h.lo.2.2.2.1, Nat.le_trans h.lo.2.2.2.2 hb.size⟩, h.kz, h.ln⟩
/-- A step. -/
theorem SZ.step (h : SZ B S D N c w0 w lo X mk k L i A m s K P rk cnt) (hp : m.pc ≠ 0) (h0 : 0 ≤ mk) (h1 : mk < c.mr) (hi : i ≤ 90000) (hc : cnt ≤ 800000000) :
    Calls Tryz.prog 17 #[ptr X, ptr S] w fun e w' => ∃ L' A' m' s' K', e = .returned (.bool (decide (m'.pc = 0))) ∧ SZ B S D N c w0 w' lo X mk k L' (i + 1) A' m' s' K' P (rk - 1) (cnt + 1) ∧ ScEv k s s' K K' m m' ∧ ((m'.ek = 2 → fvZ k m' = k.T) ∧ (m'.ek ≠ 2 → fvZ k m' = fvZ k m)) ∧ UF (fun b => b = S ∨ b = D ∨ lo ≤ b) w w' := by
  refine (step_zo h.po h.zx h.lo h.zw h0 h1 hc (by omega)).mono ?_
  rintro e w' ⟨rfl, hp', hx', u⟩
  obtain ⟨⟨A', s', K', hsc, hev⟩, hfv⟩ := h.sc.step hp (by omega)
  obtain ⟨e1, e2, e3⟩ := h.kz
  rw [e1, e2, e3] at hsc hev hfv
  exact ⟨_, A', _, s', K', rfl, ⟨hp', hx', (h.zw.step h.po.ok h.po.ww).1, hsc, ⟨h.lo.1, h.lo.2.1, h.lo.2.2.1, h.lo.2.2.2.1, Nat.le_trans h.lo.2.2.2.2 u.size⟩, h.kz, (zstp_len ..).trans h.ln⟩, hev, hfv, u⟩
/-- When it has ended, a step does nothing more. -/
theorem SZ.again (h : SZ B S D N c w0 w lo X mk k L i A m s K P rk cnt) (hp : m.pc = 0) (h0 : 0 ≤ mk) (h1 : mk < c.mr) (hi : i ≤ 90000) (hc : cnt ≤ 800000000) :
    Calls Tryz.prog 17 #[ptr X, ptr S] w fun e w' => e = .returned (.bool true) ∧ PO B S D N c w0 w' L (cnt + 1) := by
  have ez : zstp (zgOf c) (gOf c) (aNew (eOf c mk)) L m = (L, { m with ek := 0, ea := 0, eb := 0 }) := by simp [zstp, hp]
  refine (step_zo h.po h.zx h.lo h.zw h0 h1 hc (by omega)).mono ?_
  rw [ez]
  rintro e w' ⟨rfl, hp', hx', u⟩
  exact ⟨by simp [hp], hp'⟩
theorem SZ.event (h : SZ B S D N c w0 w lo X mk k L i A m s K P rk cnt) : Calls Tryz.prog 19 #[ptr X] w fun a w' => a = .returned (evV m.ek m.ea m.eb) ∧ SZ B S D N c w0 w' lo X mk k L i A m s K P rk cnt := by
  refine (event_zo h.zx).mono ?_
  rintro e w' ⟨rfl, hb⟩
  exact ⟨rfl, h.below hb⟩
/-- Another one marks a node. -/
theorem SZ.poke (h : SZ B S D N c w0 w lo X mk k L i A m s K P rk cnt) {u : Int} (hu : k.nd u) (hcy : 0 ≤ k.cy ∧ k.cy ≤ 18446744073709551615) (hc : cnt ≤ 800000000) :
    Calls Tryz.prog 21 #[ptr S, .int .i64 (plcc c 16 u 0), .int .u64 k.cy] w fun e w' => e = .returned (.tuple #[]) ∧ SZ B S D N c w0 w' lo X mk k (ptc L (k.z.ma u) k.cy) i A m s K (fun x => x = u ∨ P x) rk (cnt + 1) := by
  refine (put_po h.po (plcc c 16 u 0) k.cy hcy (by omega)).mono ?_
  rintro e w' ⟨rfl, hp, uf⟩
  have e1 : k.z.ma u = plcc c 16 u 0 := by rw [h.kz.1]; rfl
  have hsc := h.sc.poke hu
  rw [e1] at hsc ⊢
  exact ⟨rfl, hp, h.zx.left uf, h.zw, hsc, ⟨h.lo.1, h.lo.2.1, h.lo.2.2.1, h.lo.2.2.2.1, Nat.le_trans h.lo.2.2.2.2 uf.size⟩, h.kz, (pc_len ..).trans h.ln⟩
theorem SZ.more {rk' cnt' : Int} (h : SZ B S D N c w0 w lo X mk k L i A m s K P rk cnt) (h1 : rk ≤ rk') (h2 : cnt ≤ cnt') : SZ B S D N c w0 w lo X mk k L i A m s K P rk' cnt' :=
  ⟨h.po.more h2, h.zx, h.zw, h.sc.more h1 (Int.le_refl _), h.lo, h.kz, h.ln⟩
/-- Behind a change of a block of the call's own that is none of its. -/
theorem SZ.other {b : Nat} (h : SZ B S D N c w0 w lo X mk k L i A m s K P rk cnt) (u : UF (fun j => j = b) w w') (hb : B ≤ b ∧ b < lo ∧ b ≠ S ∧ b ≠ D ∧ b ≠ N) : SZ B S D N c w0 w' lo X mk k L i A m s K P rk cnt := by
  obtain ⟨cc, h0, h1, hs⟩ := h.po.st
  have hl := h.po.lt
  exact ⟨⟨⟨cc, h0, h1, St_same hs (u.block S hl.1 (Ne.symm hb.2.2.1)) (u.block D hl.2.1 (Ne.symm hb.2.2.2.1))⟩, IsMap_same h.po.mp u.size (u.block N hl.2.2 (Ne.symm hb.2.2.2.2)), h.po.ok, h.po.ns, h.po.lo, h.po.ww, below_uf h.po.bel h.po.lo.2.2 u (fun j e => by subst e; exact hb.1)⟩,
    h.zx.far (u.mono fun j _ e => by subst e; exact hb.2.1), h.zw, h.sc, ⟨h.lo.1, h.lo.2.1, h.lo.2.2.1, h.lo.2.2.2.1, Nat.le_trans h.lo.2.2.2.2 u.size⟩, h.kz, h.ln⟩
end
end Go.Proofs.YtpocihddecemfaaGreat

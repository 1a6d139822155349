/-  -/
import Derived.Test.YtpocihddecemfaaGreatJ3
import Derived.Test.YtpocihddecemfaaGreatJ7
import Derived.Test.YtpocihddecemfaaGreatRefCl
import Derived.Test.YtpocihddecemfaaGreatJ20
import Derived.Test.YtpocihddecemfaaGreatRefAn
import Derived.IntWalk
import Derived.Test.YtpocihddecemfaaGreatJ6
namespace Go.Proofs.YtpocihddecemfaaGreat
open Go.RowKit
set_option linter.unusedVariables false
set_option linter.unusedSimpArgs false
set_option linter.unnecessarySimpa false
set_option maxRecDepth 100000
open Lay (plcc plc shOf packN nodesN OkC Cfg Norm firstV Rep lenL things)
structure ZV (Q : Nat → Prop) (w : World) (c : Cfg) (i : Int) (m : Zm) (V : Array Value) : Prop where
  size : V.size = 45
  one : V.all (·.oneCell') = true
  c0 : V[0]? = some (.int .i64 m.pc)
  c1 : V[1]? = some (.int .i64 i)
  c2 : V[2]? = some (.int .i64 m.v)
  c3 : V[3]? = some (.int .i64 m.fr)
  c4 : V[4]? = some (.int .u64 m.cy)
  c5 : V[5]? = some (.int .i64 m.at')
  c6 : V[6]? = some (.int .i64 m.to)
  c7 : V[7]? = some (.int .i64 m.w)
  cm : ∃ vc : Int, m.c.p = plcc c 16 vc 0 ∧ V[8]? = some (.int .i64 m.c.pc) ∧ V[9]? = some (.int .i64 vc) ∧ V[10]? = some (.int .u64 m.c.cy) ∧ V[11]? = some (.int .u64 m.c.k) ∧ V[12]? = some (.bool m.c.won)
  d : ∃ D, RAm Q w m.d (.agg D) ∧ V27 m.d D ∧ ∀ j, j < 27 → V[13 + j]? = D[j]?
  e0 : V[40]? = some (.int .i64 m.ek)
  e1 : V[41]? = some (.int .i64 0)
  e2 : V[42]? = some (.int .i64 m.ea)
  e3 : V[43]? = some (.int .i64 m.eb)
  e4 : V[44]? = some (.int .i64 0)
section
variable {Q : Nat → Prop} {w w' : World} {c : Cfg} {i : Int} {m : Zm} {V : Array Value}
theorem ZV.below (h : ZV Q w c i m V) (hb : Below w.heap.size w w') : ZV Q w' c i m V := by
  obtain ⟨D, hd, hv, hj⟩ := h.d
  exact { h with d := ⟨D, hd.uf (UF.of_below (F := fun _ => False) hb) (fun b hb _ => ⟨fun f => f, hb⟩), hv, hj⟩ }
theorem ZV.put {k : Nat} (h : ZV Q w c i m V) {v : Value} (hv : v.oneCell' = true) : (V.setIfInBounds k v).size = 45 ∧ (V.setIfInBounds k v).all (·.oneCell') = true ∧ (∀ j, j ≠ k → (V.setIfInBounds k v)[j]? = V[j]?) ∧ (k < 45 → (V.setIfInBounds k v)[k]? = some v) :=
  ⟨by simp [h.size], one_put h.one k hv, fun j hj => Array.getElem?_setIfInBounds_ne (Ne.symm hj), fun hk => by rw [Array.getElem?_setIfInBounds_self, if_pos (by rw [h.size]; exact hk)]⟩
theorem ZV.pc (h : ZV Q w c i m V) (p : Nat) : ZV Q w c i { m with pc := p } (V.setIfInBounds 0 (.int .i64 p)) := by
  obtain ⟨s, o, n, y⟩ := h.put (k := 0) (v := .int .i64 p) rfl
  obtain ⟨vc, k0, k1, k2, k3, k4, k5⟩ := h.cm
  obtain ⟨D, hd, hv, hj⟩ := h.d
  exact ⟨s, o, y (by decide), (n 1 (by decide)).trans h.c1, (n 2 (by decide)).trans h.c2, (n 3 (by decide)).trans h.c3, (n 4 (by decide)).trans h.c4, (n 5 (by decide)).trans h.c5, (n 6 (by decide)).trans h.c6, (n 7 (by decide)).trans h.c7,
    ⟨vc, k0, (n 8 (by decide)).trans k1, (n 9 (by decide)).trans k2, (n 10 (by decide)).trans k3, (n 11 (by decide)).trans k4, (n 12 (by decide)).trans k5⟩, ⟨D, hd, hv, fun j hj2 => (n (13 + j) (by omega)).trans (hj j hj2)⟩, (n 40 (by decide)).trans h.e0, (n 41 (by decide)).trans h.e1, (n 42 (by decide)).trans h.e2, (n 43 (by decide)).trans h.e3, (n 44 (by decide)).trans h.e4⟩
theorem ZV.at_ (h : ZV Q w c i m V) (x : Int) : ZV Q w c i { m with at' := x } (V.setIfInBounds 5 (.int .i64 x)) := by
  obtain ⟨s, o, n, y⟩ := h.put (k := 5) (v := .int .i64 x) rfl
  obtain ⟨vc, k0, k1, k2, k3, k4, k5⟩ := h.cm
  obtain ⟨D, hd, hv, hj⟩ := h.d
  exact ⟨s, o, (n 0 (by decide)).trans h.c0, (n 1 (by decide)).trans h.c1, (n 2 (by decide)).trans h.c2, (n 3 (by decide)).trans h.c3, (n 4 (by decide)).trans h.c4, y (by decide), (n 6 (by decide)).trans h.c6, (n 7 (by decide)).trans h.c7,
    ⟨vc, k0, (n 8 (by decide)).trans k1, (n 9 (by decide)).trans k2, (n 10 (by decide)).trans k3, (n 11 (by decide)).trans k4, (n 12 (by decide)).trans k5⟩, ⟨D, hd, hv, fun j hj2 => (n (13 + j) (by omega)).trans (hj j hj2)⟩, (n 40 (by decide)).trans h.e0, (n 41 (by decide)).trans h.e1, (n 42 (by decide)).trans h.e2, (n 43 (by decide)).trans h.e3, (n 44 (by decide)).trans h.e4⟩
theorem ZV.to_ (h : ZV Q w c i m V) (x : Int) : ZV Q w c i { m with «to» := x } (V.setIfInBounds 6 (.int .i64 x)) := by
  obtain ⟨s, o, n, y⟩ := h.put (k := 6) (v := .int .i64 x) rfl
  obtain ⟨vc, k0, k1, k2, k3, k4, k5⟩ := h.cm
  obtain ⟨D, hd, hv, hj⟩ := h.d
  exact ⟨s, o, (n 0 (by decide)).trans h.c0, (n 1 (by decide)).trans h.c1, (n 2 (by decide)).trans h.c2, (n 3 (by decide)).trans h.c3, (n 4 (by decide)).trans h.c4, (n 5 (by decide)).trans h.c5, y (by decide), (n 7 (by decide)).trans h.c7,
    ⟨vc, k0, (n 8 (by decide)).trans k1, (n 9 (by decide)).trans k2, (n 10 (by decide)).trans k3, (n 11 (by decide)).trans k4, (n 12 (by decide)).trans k5⟩, ⟨D, hd, hv, fun j hj2 => (n (13 + j) (by omega)).trans (hj j hj2)⟩, (n 40 (by decide)).trans h.e0, (n 41 (by decide)).trans h.e1, (n 42 (by decide)).trans h.e2, (n 43 (by decide)).trans h.e3, (n 44 (by decide)).trans h.e4⟩
theorem ZV.w_ (h : ZV Q w c i m V) (x : Int) : ZV Q w c i { m with w := x } (V.setIfInBounds 7 (.int .i64 x)) := by
  obtain ⟨s, o, n, y⟩ := h.put (k := 7) (v := .int .i64 x) rfl
  obtain ⟨vc, k0, k1, k2, k3, k4, k5⟩ := h.cm
  obtain ⟨D, hd, hv, hj⟩ := h.d
  exact ⟨s, o, (n 0 (by decide)).trans h.c0, (n 1 (by decide)).trans h.c1, (n 2 (by decide)).trans h.c2, (n 3 (by decide)).trans h.c3, (n 4 (by decide)).trans h.c4, (n 5 (by decide)).trans h.c5, (n 6 (by decide)).trans h.c6, y (by decide),
    ⟨vc, k0, (n 8 (by decide)).trans k1, (n 9 (by decide)).trans k2, (n 10 (by decide)).trans k3, (n 11 (by decide)).trans k4, (n 12 (by decide)).trans k5⟩, ⟨D, hd, hv, fun j hj2 => (n (13 + j) (by omega)).trans (hj j hj2)⟩, (n 40 (by decide)).trans h.e0, (n 41 (by decide)).trans h.e1, (n 42 (by decide)).trans h.e2, (n 43 (by decide)).trans h.e3, (n 44 (by decide)).trans h.e4⟩
end
theorem rest_any {Q : Nat → Prop} {w0 w : World} {c : Cfg} {i : Int} {m : Zm} {V : Array Value} (h : ZV Q w0 c i m V) :
    Calls Tryz.prog 52 #[.agg V] w fun e w' => e = .returned (.agg (V.setIfInBounds 0 (.int .i64 (zrest m).pc))) ∧ Below w.heap.size w w' := by
  have key : ∀ p : Nat, p = (if m.at' < m.to then 4 else 6) → ∀ V1, V1 = V.setIfInBounds 0 (.int .i64 p) → ∀ W, ZB w W w.heap.size (w.heap.size + 1) V1 → Ending.returned (.agg V1) = .returned (.agg (V.setIfInBounds 0 (.int .i64 (zrest m).pc))) ∧ Below w.heap.size w (W.setCells (w.heap.size + 1) 0 V1.toList) := by
    rintro p rfl V1 rfl W hz
    exact ⟨rfl, (hz.fin (by simp [h.size])).1⟩
  have c0 := h.c0; have c5 := h.c5; have c6 := h.c6
  have k0 : (V.setIfInBounds 0 (.int .i64 6))[0]? = some (.int .i64 6) := by rw [Array.getElem?_setIfInBounds_self, if_pos (by rw [h.size]; decide)]
  have HS := Lib.hid h.size
  have HK := Lib.hid key
  clear key
  obtain ⟨y, hy⟩ : ∃ y, y = m.to := ⟨_, rfl⟩
  obtain ⟨x, hx⟩ : ∃ x, x = m.at' := ⟨_, rfl⟩
  rw [← hx] at c5 HK
  rw [← hy] at c6 HK
  clear hx hy
  by_cases hlt : x < y
  · obtain ⟨V1, hV1⟩ : ∃ V1, V1 = V.setIfInBounds 0 (.int .i64 4) := ⟨_, rfl⟩
    have HV1 := Lib.hid hV1
    have HE := Lib.hid (HK.out 4 (by rw [if_pos hlt]) V1 hV1)
    have HS1 : Hid (V1.size = 45) := Lib.hid (by rw [hV1]; simp [HS.out])
    have HO1 : Hid (V1.all (·.oneCell') = true) := Lib.hid (by rw [hV1]; exact one_put h.one 0 rfl)
    clear hV1
    go_enter Tryz.func52, Tryz.ntmps52
    go_upto_region 4 with (fail)
    rw [← HV1.out]
    have HZ := Lib.hid (ZB.two w V1)
    obtain ⟨W, hW⟩ : ∃ W, W = ((w.alloc (.cells V1 64)).alloc (.cells #[.int .i64 0, .int .i64 0, .int .i64 0, .int .i64 0, .int .u64 0, .int .i64 0, .int .i64 0, .int .i64 0, .int .i64 0, .int .i64 0, .int .u64 0, .int .u64 0, .bool false, .int .i64 0, .int .u64 0, .int .i64 0, .int .i64 0, .int .i64 0, .int .i64 0, .int .i64 0, .int .i64 0, .int .u64 0, .int .u64 0, .int .u64 0, .bool false, .int .i64 0, .int .i64 0, .int .i64 0, .slice none 0 0, .int .i64 0, .int .i64 0, .int .i64 0, .int .i64 0, .int .i64 0, .slice none 0 0, .int .u32 0, .int .u64 0, .int .u32 0, .int .i64 0, .bool false, .int .i64 0, .int .i64 0, .int .i64 0, .int .i64 0, .int .i64 0] 64)) := ⟨_, rfl⟩
    rw [← hW] at HZ ⊢
    clear hW c0 c5 c6 k0
    go_wp2_with (first
      | (refine wpList_loadZ rfl (.tmp 1) rfl w.heap.size V1 rfl HZ.out.bm HS1.out ?_)
      | (refine wpList_storeZ rfl (.tmp 2) (.tmp 10) rfl (w.heap.size + 1) zero45 V1 rfl rfl HZ.out.br rfl HS1.out HO1.out ?_)
      | fail)
    exact bodyPost_ret (v := .agg V1) (res1 Tryz.results52 _ _ _ _ rfl (HZ.out.fin HS1.out).2) rfl (HE.out _ HZ.out)
  · obtain ⟨V1, hV1⟩ : ∃ V1, V1 = V.setIfInBounds 0 (.int .i64 6) := ⟨_, rfl⟩
    have HV1 := Lib.hid hV1
    have HE := Lib.hid (HK.out 6 (by rw [if_neg hlt]) V1 hV1)
    have HS1 : Hid (V1.size = 45) := Lib.hid (by rw [hV1]; simp [HS.out])
    have HO1 : Hid (V1.all (·.oneCell') = true) := Lib.hid (by rw [hV1]; exact one_put h.one 0 rfl)
    clear hV1
    go_enter Tryz.func52, Tryz.ntmps52
    go_upto_region 4 with (fail)
    rw [← HV1.out]
    have HZ := Lib.hid (ZB.two w V1)
    obtain ⟨W, hW⟩ : ∃ W, W = ((w.alloc (.cells V1 64)).alloc (.cells #[.int .i64 0, .int .i64 0, .int .i64 0, .int .i64 0, .int .u64 0, .int .i64 0, .int .i64 0, .int .i64 0, .int .i64 0, .int .i64 0, .int .u64 0, .int .u64 0, .bool false, .int .i64 0, .int .u64 0, .int .i64 0, .int .i64 0, .int .i64 0, .int .i64 0, .int .i64 0, .int .i64 0, .int .u64 0, .int .u64 0, .int .u64 0, .bool false, .int .i64 0, .int .i64 0, .int .i64 0, .slice none 0 0, .int .i64 0, .int .i64 0, .int .i64 0, .int .i64 0, .int .i64 0, .slice none 0 0, .int .u32 0, .int .u64 0, .int .u32 0, .int .i64 0, .bool false, .int .i64 0, .int .i64 0, .int .i64 0, .int .i64 0, .int .i64 0] 64)) := ⟨_, rfl⟩
    rw [← hW] at HZ ⊢
    clear hW c0 c5 c6 k0
    go_wp2_with (first
      | (refine wpList_loadZ rfl (.tmp 1) rfl w.heap.size V1 rfl HZ.out.bm HS1.out ?_)
      | (refine wpList_storeZ rfl (.tmp 2) (.tmp 10) rfl (w.heap.size + 1) zero45 V1 rfl rfl HZ.out.br rfl HS1.out HO1.out ?_)
      | fail)
    exact bodyPost_ret (v := .agg V1) (res1 Tryz.results52 _ _ _ _ rfl (HZ.out.fin HS1.out).2) rfl (HE.out _ HZ.out)
end Go.Proofs.YtpocihddecemfaaGreat

namespace Go.Proofs.YtpocihddecemfaaGreat
open Go.RowKit
set_option linter.unusedVariables false
set_option linter.unusedSimpArgs false
set_option linter.unnecessarySimpa false
set_option maxRecDepth 100000
open Lay (plcc plc shOf packN nodesN OkC Cfg Norm firstV Rep lenL things)
def am0 : Am := ⟨0, 0, Dg.mPush ⟨0, 0, 0, 0⟩ 0, pnone, false⟩
theorem ram0 (Q : Nat → Prop) (w : World) : RAm Q w am0 (.agg zero27) ∧ V27 am0 zero27 :=
  ⟨⟨_, _, _, _, _, _, _, _, _, _, _, _, _, _, _, _, _, _, _, _, _, _, _, _, _, _, _, _, rfl, (fun k => by simp [am0] at k), (fun k => by simp [am0] at k)⟩, ⟨rfl, by simp only [List.all_toArray, List.all_cons, List.all_nil, Value.oneCell', Bool.and_self], rfl, rfl⟩⟩
abbrev zrow (i hi lo cy : Int) : Array Value := #[.int .i64 1, .int .i64 i, .int .i64 hi, .int .i64 lo, .int .u64 cy, .int .i64 0, .int .i64 0, .int .i64 0, .int .i64 0, .int .i64 0, .int .u64 0, .int .u64 0, .bool false, .int .i64 0, .int .u64 0, .int .i64 0, .int .i64 0, .int .i64 0, .int .i64 0, .int .i64 0, .int .i64 0, .int .u64 0, .int .u64 0, .int .u64 0, .bool false, .int .i64 0, .int .i64 0, .int .i64 0, .slice none 0 0, .int .i64 0, .int .i64 0, .int .i64 0, .int .i64 0, .int .i64 0, .slice none 0 0, .int .u32 0, .int .u64 0, .int .u32 0, .int .i64 0, .bool false, .int .i64 0, .int .i64 0, .int .i64 0, .int .i64 0, .int .i64 0]
theorem zrow_is (Q : Nat → Prop) (w : World) (c : Cfg) (i hi lo cy : Int) : ZV Q w c i (zNew hi lo cy ⟨0, plcc c 16 0 0, 0, 0, false⟩ am0) (zrow i hi lo cy) := by
  refine ⟨rfl, by simp only [List.all_toArray, List.all_cons, List.all_nil, Value.oneCell', Bool.and_self], rfl, rfl, rfl, rfl, rfl, rfl, rfl, rfl, ⟨0, rfl, rfl, rfl, rfl, rfl, rfl⟩, ⟨zero27, (ram0 Q w).1, (ram0 Q w).2, fun j hj => ?_⟩, rfl, rfl, rfl, rfl, rfl⟩
  have : j = 0 ∨ j = 1 ∨ j = 2 ∨ j = 3 ∨ j = 4 ∨ j = 5 ∨ j = 6 ∨ j = 7 ∨ j = 8 ∨ j = 9 ∨ j = 10 ∨ j = 11 ∨ j = 12 ∨ j = 13 ∨ j = 14 ∨ j = 15 ∨ j = 16 ∨ j = 17 ∨ j = 18 ∨ j = 19 ∨ j = 20 ∨ j = 21 ∨ j = 22 ∨ j = 23 ∨ j = 24 ∨ j = 25 ∨ j = 26 := by omega
  rcases this with rfl | rfl | rfl | rfl | rfl | rfl | rfl | rfl | rfl | rfl | rfl | rfl | rfl | rfl | rfl | rfl | rfl | rfl | rfl | rfl | rfl | rfl | rfl | rfl | rfl | rfl | rfl <;> rfl
set_option maxHeartbeats 8000000 in
theorem rznew_any (Q : Nat → Prop) (c : Cfg) (i tk cy : Int) (h0 : 0 ≤ tk) (h1 : tk ≤ 18446744073709551615) (w : World) :
    Calls Tryz.prog 15 #[.int .i64 i, .int .u64 tk, .int .u64 cy] w fun e w' => ∃ V, e = .returned (.agg V) ∧ ZV Q w' c i (zNew (tk / 4294967296) (tk % 4294967296) cy ⟨0, plcc c 16 0 0, 0, 0, false⟩ am0) V ∧ Below w.heap.size w w' := by
  obtain ⟨hi, hhi⟩ : ∃ hi, hi = tk / 4294967296 := ⟨_, rfl⟩
  obtain ⟨lo, hlo⟩ : ∃ lo, lo = tk % 4294967296 := ⟨_, rfl⟩
  have e1 : IntKind.i64.wrap hi = hi := IntWalk.i64_in _ (by omega)
  have e2 : IntKind.i64.wrap lo = lo := IntWalk.i64_in _ (by omega)
  rw [← hhi, ← hlo]
  have HHI := Lib.hid hhi; have HLO := Lib.hid hlo; have HH := Lib.hid (And.intro h0 h1)
  obtain ⟨W0, hW0⟩ : ∃ W0, W0 = w.alloc (.cells #[.int .i64 0, .int .i64 0, .int .i64 0, .int .i64 0, .int .u64 0, .int .i64 0, .int .i64 0, .int .i64 0, .int .i64 0, .int .i64 0, .int .u64 0, .int .u64 0, .bool false, .int .i64 0, .int .u64 0, .int .i64 0, .int .i64 0, .int .i64 0, .int .i64 0, .int .i64 0, .int .i64 0, .int .u64 0, .int .u64 0, .int .u64 0, .bool false, .int .i64 0, .int .i64 0, .int .i64 0, .slice none 0 0, .int .i64 0, .int .i64 0, .int .i64 0, .int .i64 0, .int .i64 0, .slice none 0 0, .int .u32 0, .int .u64 0, .int .u32 0, .int .i64 0, .bool false, .int .i64 0, .int .i64 0, .int .i64 0, .int .i64 0, .int .i64 0] 64) := ⟨_, rfl⟩
  have hb0 : Below w.heap.size w W0 := by rw [hW0]; exact below_alloc0 (Below.refl _ _) _
  have hr0 : W0.heap[w.heap.size]? = some (.cells zero45 64 (0, 0)) := by rw [hW0]; exact Go.heap_alloc_new _ _
  have HB := Lib.hid hb0; have HR := Lib.hid hr0; have HW := Lib.hid hW0
  obtain ⟨V0, hV0⟩ : ∃ V0, V0 = zrow i hi lo cy := ⟨_, rfl⟩
  have hzv : ∀ w', ZV Q w' c i (zNew hi lo cy ⟨0, plcc c 16 0 0, 0, 0, false⟩ am0) V0 := fun w' => by rw [hV0]; exact zrow_is Q w' c i hi lo cy
  have HV0 := Lib.hid hV0
  have HVS := Lib.hid (And.intro (hzv w).size (hzv w).one)
  have HL : Hid ((∃ V, Ending.returned (.agg V0) = .returned (.agg V) ∧ ZV Q (W0.setCells w.heap.size 0 V0.toList) c i (zNew hi lo cy ⟨0, plcc c 16 0 0, 0, 0, false⟩ am0) V ∧ Below w.heap.size w (W0.setCells w.heap.size 0 V0.toList)) ∧ (loadVar 64 ⟨w.heap.size, 0, none⟩).run Tryz.prog (W0.setCells w.heap.size 0 V0.toList) = .ok (.agg V0) (W0.setCells w.heap.size 0 V0.toList)) := Lib.hid (by
    have hz := row_all (U := V0) hr0 (by rw [(hzv w).size]; rfl)
    exact ⟨⟨V0, rfl, hzv _, below_uf hb0 (Nat.le_refl _) (UF.of_upd hz.2) (fun k e => by rcases e with rfl | rfl <;> exact Nat.le_refl _)⟩, loadZ hz.1 (hzv w).size⟩)
  clear hhi hlo h0 h1 hb0 hr0 hW0 hV0 hzv
  go_enter Tryz.func15, Tryz.ntmps15
  go_upto_region 1 with (fail)
  rw [← HW.out]
  clear HW
  go_wp2_with (first
    | (go_at_call 45; (with_reducible refine (refHigh_any tk HH.out.1 HH.out.2 _).mono ?_); rintro r w1 ⟨rfl, hw⟩; cases hw; rw [← HHI.out])
    | (go_at_call 46; (with_reducible refine (refLow_any tk HH.out.1 HH.out.2 _).mono ?_); rintro r w1 ⟨rfl, hw⟩; cases hw; rw [← HLO.out])
    | (refine wpList_storeZ rfl (.tmp 6) (.tmp 15) rfl w.heap.size zero45 V0 rfl (by rw [HV0.out]; rfl) HR.out rfl HVS.out.1 HVS.out.2 ?_)
    | fail)
  exact bodyPost_ret (v := .agg V0) (res1 Tryz.results15 _ _ _ _ rfl HL.out.2) rfl HL.out.1
end Go.Proofs.YtpocihddecemfaaGreat

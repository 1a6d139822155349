/- A machine that sweeps: a step, how it begins; it stands for one over words; walked. -/
import Derived.Test.YtbpkcoemehmpbaaGreatSwN
import Derived.Test.YtbpkcoemehmpbaaGreatSwAlone
import Derived.Test.YtbpkcoemehmpbaaGreatJ16
namespace Go.Proofs.YtbpkcoemehmpbaaGreat
open Go.RowKit
set_option linter.unusedVariables false
set_option linter.unusedSimpArgs false
set_option maxRecDepth 100000
open Lay (plcc plc nodesN OkC Cfg kindV partsC)

/-! A step. -/
section
variable {w0 w w' : World} {X S D N M : Nat} {c : Cfg} {z : Swc} {L : List Int} {cc : Int}
theorem eqin_fs (d f M : Nat) (w : World) : (Op.equalIn (d + 1) 88 (fns f M) .nilFunc).run Tryz.prog w = .ok false w := eqin_fn d f M w
set_option maxHeartbeats 2000000 in
theorem sstep_raw {mp : Option Addr} {f : Nat} (h : Sb w X mp z) (hnx : z.nx = fns f X) (hen : ∀ a w, (callFunc f a).run Tryz.prog w = .ok (.enter f a) w) (b : Bool) (Q : World → Prop)
    (HN : ∀ w1, Sb w1 X mp { z with ek := 0, ea := 0 } → UF (fun k => k = X) w w1 → Calls Tryz.prog f #[ptr X, ptr S] w1 fun e w' => e = .returned (.tuple #[]) ∧ Q w')
    (hQ : ∀ w', Q w' → (b = true ∧ w'.cell? ⟨X, 2, none⟩ = some .nilFunc) ∨ (b = false ∧ ∃ f', w'.cell? ⟨X, 2, none⟩ = some (fns f' X))) :
    Calls Tryz.prog 16 #[ptr X, ptr S] w fun e w' => e = .returned (.bool b) ∧ Q w' := by
  have HB := Lib.hid h
  have HNX := Lib.hid hnx
  clear hnx
  cases b
  · have HNN := Lib.hid HN; have HQ := Lib.hid hQ; clear HN hQ h
    go_enter Tryz.func16, Tryz.ntmps16
    go_upto_region 4 with (first
      | (go_at_call 41; (with_reducible refine (noneW_any _).mono ?_); rintro r w2 ⟨rfl, hb⟩; have H2 := Lib.hid (HB.out.step hb); have HS2 := Lib.hid hb; clear hb; obtain ⟨⟨e0, e1, e2⟩, e3, e4⟩ := H2.out.ev; obtain ⟨⟨g0, g1, g2⟩, g3, g4⟩ := H2.out.evf)
      | fail)
    have h3 := H2.out.pev 0 0
    obtain ⟨W, hW⟩ : ∃ W, W = evS w2 X 0 0 := ⟨_, rfl⟩
    rw [← hW] at h3
    have HU : Hid (UF (fun k => k = X) w W) := Lib.hid (by rw [hW]; exact (UF.of_below HS2.out).trans (UF.evS w2 X 0 0) (fun _ x => x) (fun _ _ x => x))
    unfold evS at hW
    rw [← hW]
    have H3 := Lib.hid h3
    clear hW h3 e0 e1 e2 e3 e4 g0 g1 g2 g3 g4
    have c2 := H3.out.c2
    rw [show Swc.nx { z with ek := 0, ea := 0 } = fns f X from HNX.out] at c2
    go_wp2_with (first
      | ((with_reducible refine (HNN.out _ H3.out HU.out).mono ?_); rintro r w1 ⟨rfl, hk⟩; have HK := Lib.hid hk; obtain ⟨f', d4⟩ : ∃ f', w1.cell? ⟨X, 2, none⟩ = some (fns f' X) := (by rcases HQ.out w1 hk with ⟨h, _⟩ | ⟨_, h⟩; cases h; exact h); clear hk)
      | fail)
    go_ret
    exact ⟨rfl, HK.out⟩
  · have HNN := Lib.hid HN; have HQ := Lib.hid hQ; clear HN hQ h
    go_enter Tryz.func16, Tryz.ntmps16
    go_upto_region 4 with (first
      | (go_at_call 41; (with_reducible refine (noneW_any _).mono ?_); rintro r w2 ⟨rfl, hb⟩; have H2 := Lib.hid (HB.out.step hb); have HS2 := Lib.hid hb; clear hb; obtain ⟨⟨e0, e1, e2⟩, e3, e4⟩ := H2.out.ev; obtain ⟨⟨g0, g1, g2⟩, g3, g4⟩ := H2.out.evf)
      | fail)
    have h3 := H2.out.pev 0 0
    obtain ⟨W, hW⟩ : ∃ W, W = evS w2 X 0 0 := ⟨_, rfl⟩
    rw [← hW] at h3
    have HU : Hid (UF (fun k => k = X) w W) := Lib.hid (by rw [hW]; exact (UF.of_below HS2.out).trans (UF.evS w2 X 0 0) (fun _ x => x) (fun _ _ x => x))
    unfold evS at hW
    rw [← hW]
    have H3 := Lib.hid h3
    clear hW h3 e0 e1 e2 e3 e4 g0 g1 g2 g3 g4
    have c2 := H3.out.c2
    rw [show Swc.nx { z with ek := 0, ea := 0 } = fns f X from HNX.out] at c2
    go_wp2_with (first
      | ((with_reducible refine (HNN.out _ H3.out HU.out).mono ?_); rintro r w1 ⟨rfl, hk⟩; have HK := Lib.hid hk; have d4 : w1.cell? ⟨X, 2, none⟩ = some .nilFunc := (by rcases HQ.out w1 hk with ⟨_, h⟩ | ⟨h, _⟩; exact h; cases h); clear hk)
      | fail)
    go_ret
    exact ⟨rfl, HK.out⟩
set_option maxHeartbeats 2000000 in
theorem sstep_off {mp : Option Addr} (v : Value) (h : Sb w X mp z) (hnx : z.nx = .nilFunc) :
    Calls Tryz.prog 16 #[ptr X, v] w fun e w' => e = .returned (.bool true) ∧ Sb w' X mp { z with ek := 0, ea := 0 } ∧ UF (fun k => k = X) w w' := by
  have HB := Lib.hid h
  have HNX := Lib.hid hnx
  clear hnx h
  go_enter Tryz.func16, Tryz.ntmps16
  go_upto_region 4 with (first
    | (go_at_call 41; (with_reducible refine (noneW_any _).mono ?_); rintro r w2 ⟨rfl, hb⟩; have H2 := Lib.hid (HB.out.step hb); have HS2 := Lib.hid hb; clear hb; obtain ⟨⟨e0, e1, e2⟩, e3, e4⟩ := H2.out.ev; obtain ⟨⟨g0, g1, g2⟩, g3, g4⟩ := H2.out.evf)
    | fail)
  have h3 := H2.out.pev 0 0
  obtain ⟨W, hW⟩ : ∃ W, W = evS w2 X 0 0 := ⟨_, rfl⟩
  rw [← hW] at h3
  have HU : Hid (UF (fun k => k = X) w W) := Lib.hid (by rw [hW]; exact (UF.of_below HS2.out).trans (UF.evS w2 X 0 0) (fun _ x => x) (fun _ _ x => x))
  unfold evS at hW
  rw [← hW]
  have H3 := Lib.hid h3
  clear hW h3 e0 e1 e2 e3 e4 g0 g1 g2 g3 g4
  have c2 := H3.out.c2
  rw [show Swc.nx { z with ek := 0, ea := 0 } = .nilFunc from HNX.out] at c2
  go_wp2_with (fail)
  go_ret
  exact ⟨rfl, H3.out, HU.out⟩
set_option maxHeartbeats 1000000 in
theorem sstep_nil (v : Value) (w : World) : Calls Tryz.prog 16 #[.pointer none, v] w fun e w' => e = .returned (.bool true) ∧ w = w' := by
  go_enter Tryz.func16, Tryz.ntmps16
  go_wp2
  go_ret
  exact ⟨rfl, rfl⟩
/-! How it begins. -/
abbrev sc0 (cy : Int) (nx : Value) : Swc := ⟨cy, nx, 0, -1, 0, 0, none, 0, 0⟩
set_option maxHeartbeats 2000000 in
theorem newS_map (mN : Nat) (cy : Int) (w : World) :
    Calls Tryz.prog 11 #[.pointer (some ⟨mN, 0, none⟩), .int .u64 cy] w fun e w' => ∃ X, e = .returned (ptr X) ∧ w.heap.size ≤ X ∧ Sb w' X (some ⟨mN, 0, none⟩) (sc0 cy (fns 39 X)) ∧ Below w.heap.size w w' := by
  have hmf : ∀ (fn : Fn) (first cap : Array Value) (w : World), (Instr.makeFunc fn first cap).run Tryz.prog w = .ok (.func fn first cap) w := fun _ _ _ _ => rfl
  go_enter Tryz.func11, Tryz.ntmps11
  go_wp2
  go_ret
  exact ⟨w.heap.size, rfl, Nat.le_refl _, Go.heap_alloc_new _ _, below_alloc0 (Below.refl _ _) _⟩
end
/-- What is next, by the part. -/
def nxW (X : Nat) : Nat → Value
  | 1 => fns 39 X
  | 2 => fns 74 X
  | 3 => fns 93 X
  | 4 => fns 96 X
  | 5 => fns 98 X
  | 6 => fns 100 X
  | 7 => fns 94 X
  | _ => .nilFunc
abbrev swOf (m : Wn) (nx : Value) (pp : Option Addr) : Swc := ⟨m.cy, nx, m.w, m.part, m.v, m.last, pp, m.ek, m.ea⟩
/-- A machine at X that stands for m: it changes blocks of O, and hangs on those of Dp. -/
def WKM (w : World) (X : Nat) (O Dp : Nat → Prop) (N : Nat) (m : Wn) : Prop :=
  X ≠ N ∧ O X ∧ (∀ k, O k → Dp k) ∧ (∀ k, Dp k → k < w.heap.size) ∧ m.pc ≤ 7 ∧ ∃ pp, Sb w X (some ⟨N, 0, none⟩) (swOf m (nxW X m.pc) pp) ∧
    (m.pc = 6 → ∃ M, pp = some ⟨M, 0, none⟩ ∧ MM w M (lvN N) m.x ∧ O M ∧ M ≠ X ∧ M ≠ N)
section
variable {w w' : World} {X N : Nat} {O Dp : Nat → Prop} {m : Wn}
theorem WKM.ins (h : WKM w X O Dp N m) : O X ∧ (∀ k, O k → Dp k) ∧ ∀ k, Dp k → k < w.heap.size := ⟨h.2.1, h.2.2.1, h.2.2.2.1⟩
theorem WKM.lt (h : WKM w X O Dp N m) : X < w.heap.size := h.ins.2.2 X (h.ins.2.1 X h.ins.1)
theorem WKM.keep (h : WKM w X O Dp N m) (hs : w.heap.size ≤ w'.heap.size) (hb : ∀ k, Dp k → w'.heap[k]? = w.heap[k]?) : WKM w' X O Dp N m := by
  obtain ⟨h1, h2, h3, h4, hp, pp, h5, h6⟩ := h
  refine ⟨h1, h2, h3, fun k hk => Nat.lt_of_lt_of_le (h4 k hk) hs, hp, pp, h5.same (hb X (h3 X h2)), fun e => ?_⟩
  obtain ⟨M, a, b, d, f, g⟩ := h6 e
  exact ⟨M, a, (hb M (h3 M d)).trans b, d, f, g⟩
theorem WKM.below (h : WKM w X O Dp N m) (hb : Below w.heap.size w w') : WKM w' X O Dp N m := h.keep hb.size fun k hk => hb.block k (h.ins.2.2 k hk)
theorem nxW_cases (X : Nat) {p : Nat} (h : p ≤ 7) : (p = 0 ∧ nxW X p = .nilFunc) ∨ (p ≠ 0 ∧ ∃ f, nxW X p = fns f X) := by
  have : p = 0 ∨ p = 1 ∨ p = 2 ∨ p = 3 ∨ p = 4 ∨ p = 5 ∨ p = 6 ∨ p = 7 := by omega
  rcases this with rfl | rfl | rfl | rfl | rfl | rfl | rfl | rfl
  · exact .inl ⟨rfl, rfl⟩
  all_goals exact .inr ⟨by simp, _, rfl⟩
/-- What is next. -/
theorem WKM.nx (h : WKM w X O Dp N m) : (decide (m.pc = 0) = true ∧ w.cell? ⟨X, 2, none⟩ = some .nilFunc) ∨ (decide (m.pc = 0) = false ∧ ∃ f, w.cell? ⟨X, 2, none⟩ = some (fns f X)) := by
  obtain ⟨h1, h2, h3, h4, hp, pp, h5, h6⟩ := h
  have c2 := h5.c2
  rcases nxW_cases X hp with ⟨a, b⟩ | ⟨a, f, b⟩
  · exact .inl ⟨by simpa using a, by rw [c2]; exact congrArg some b⟩
  · exact .inr ⟨by simpa using a, f, by rw [c2]; exact congrArg some b⟩
theorem WKM.event (h : WKM w X O Dp N m) : Calls Tryz.prog 19 #[ptr X] w fun a w' => a = .returned (evA m.ek m.ea) ∧ Below w.heap.size w w' := by
  obtain ⟨h1, h2, h3, h4, hp, pp, h5, h6⟩ := h
  exact eventW_any h5
theorem WKM.part (h : WKM w X O Dp N m) : Calls Tryz.prog 18 #[ptr X] w fun a w' => a = .returned (.int .i64 m.part) ∧ w = w' := by
  obtain ⟨h1, h2, h3, h4, hp, pp, h5, h6⟩ := h
  exact partW_any h5
end
/-- What it knows are words. -/
structure WKW (c : Cfg) (t : Int) (m : Wn) : Prop where
  cy : 0 ≤ m.cy ∧ m.cy ≤ 18446744073709551615
  w : 0 ≤ m.w ∧ m.w ≤ 18446744073709551615
  pc : m.pc ≤ 7
  p2 : m.pc = 2 → low m.w < partsC c
  v : 3 ≤ m.pc → m.pc ≤ 6 → 1 ≤ m.v ∧ m.v ≤ m.last
  la : m.last ≤ nodesN c
  x : m.pc = 6 → Wm t m.x ∧ m.x.pc ≠ 0 ∧ m.x.k.links = nxtL c
  t0 : 0 ≤ t
theorem WKW.mono {c : Cfg} {t u : Int} {m : Wn} (h : WKW c t m) (k : t ≤ u) : WKW c u m := ⟨h.cy, h.w, h.pc, h.p2, h.v, h.la, fun e => ⟨(h.x e).1.mono k, (h.x e).2⟩, by have := h.t0; omega⟩
theorem parts_is {c : Cfg} (hc : OkC c) : (wOf c).parts = partsC c := by
  have h0 := (Lay.bds hc).n0; have h1 := hc.w0
  unfold Wg.parts partsC Lay.piecesOf
  rw [if_neg (by omega)]
  rfl
theorem wwin {L : List Int} (h : WW L) (a : Int) : 0 ≤ ldq L a ∧ ldq L a ≤ 18446744073709551615 := h.ldq a
theorem WKW.go {c : Cfg} {t : Int} {m m0 : Wn} {v : Int} (h : WKW c t m) (h1 : 1 ≤ v) (e1 : m0.cy = m.cy) (e2 : m0.w = m.w) (e3 : m0.last ≤ nodesN c) : WKW c t (wgo m0 v) := by
  have hpc : (wgo m0 v).pc = if v ≤ m0.last then 3 else 7 := rfl
  refine ⟨by show 0 ≤ m0.cy ∧ m0.cy ≤ _; rw [e1]; exact h.cy, by show 0 ≤ m0.w ∧ m0.w ≤ _; rw [e2]; exact h.w, by rw [hpc]; split <;> omega, fun e => ?_, fun a b => ?_, e3, fun e => ?_, h.t0⟩
  · rw [hpc] at e; split at e <;> omega
  · rw [hpc] at a b
    by_cases x : v ≤ m0.last
    · exact ⟨h1, x⟩
    · rw [if_neg x] at b; omega
  · rw [hpc] at e; split at e <;> omega
theorem part_last {c : Cfg} (hc : OkC c) (j : Int) : wmin ((j + 1) * c.sw) (nodesN c) ≤ nodesN c := by unfold wmin; split <;> omega
theorem WKW.step {c : Cfg} {t : Int} {m : Wn} {L : List Int} (hc : OkC c) (h : WKW c t m) (ww : WW L) : WKW c (t + 1) (wstp (wOf c) L m).2 ∧ WW (wstp (wOf c) L m).1 := by
  have hm := h.mono (u := t + 1) (by omega)
  have hpc := h.pc
  have hn0 := (Lay.bds hc).n0; have hn1 := (Lay.bds hc).n1
  have hp : m.pc = 0 ∨ m.pc = 1 ∨ m.pc = 2 ∨ m.pc = 3 ∨ m.pc = 4 ∨ m.pc = 5 ∨ m.pc = 6 ∨ m.pc = 7 := by omega
  have hq : ∀ p : Nat, p ≠ 2 → (3 ≤ p → p ≤ 5 ∧ 1 ≤ m.v ∧ m.v ≤ m.last) → p ≤ 7 → ∀ W : Int, 0 ≤ W ∧ W ≤ 18446744073709551615 → WKW c (t + 1) { wq m with pc := p, w := W } := fun p h2 h3 h7 W hW =>
    ⟨hm.cy, hW, h7, fun e => absurd e h2, fun a b => (h3 a).2, hm.la, fun e => by have := h3 (by show 3 ≤ p; have : p = 6 := e; omega); have : p = 6 := e; omega, hm.t0⟩
  rcases hp with p | p | p | p | p | p | p | p
  · have e : wstp (wOf c) L m = (L, wq m) := by simp [wstp, p]
    rw [e]
    exact ⟨⟨hm.cy, hm.w, hm.pc, hm.p2, hm.v, hm.la, hm.x, hm.t0⟩, ww⟩
  · have e : wstp (wOf c) L m = (L, { wq m with w := ldq L (wOf c).sw, pc := if hiw (ldq L (wOf c).sw) = m.cy % 4294967296 ∧ low (ldq L (wOf c).sw) < (wOf c).parts then 2 else 0 }) := by simp [wstp, p]
    rw [e]
    refine ⟨?_, ww⟩
    refine ⟨hm.cy, wwin ww _, by show (if _ then 2 else 0) ≤ 7; split <;> omega, fun e2 => ?_, fun a _ => ?_, hm.la, fun e2 => ?_, hm.t0⟩
    · have e2 : (if hiw (ldq L (wOf c).sw) = m.cy % 4294967296 ∧ low (ldq L (wOf c).sw) < (wOf c).parts then 2 else 0) = 2 := e2
      split at e2
      · rename_i x; rw [← parts_is hc]; exact x.2
      · omega
    · have a : 3 ≤ (if hiw (ldq L (wOf c).sw) = m.cy % 4294967296 ∧ low (ldq L (wOf c).sw) < (wOf c).parts then 2 else 0) := a
      split at a <;> omega
    · have e2 : (if hiw (ldq L (wOf c).sw) = m.cy % 4294967296 ∧ low (ldq L (wOf c).sw) < (wOf c).parts then 2 else 0) = 6 := e2
      split at e2 <;> omega
  · have hl := h.p2 p
    have hb := (Lay.parts_bd' hc).2.1
    have hw := h.w
    have l0 : 0 ≤ low m.w := by unfold low; omega
    by_cases hx : (0 ≤ (wOf c).sw ∧ (wOf c).sw < L.length) ∧ L.getD (wOf c).sw.toNat 0 = m.w
    · have e : wstp (wOf c) L m = (ptq L (wOf c).sw (m.w + 1), wgo { wq m with part := low m.w, last := wmin ((low m.w + 1) * (wOf c).per) (wOf c).n } (low m.w * (wOf c).per + 1)) := by unfold wstp; rw [if_neg (by omega), if_pos p, if_pos hx]
      rw [e]
      refine ⟨hm.go ?_ rfl rfl (part_last hc _), ww.put _ ?_⟩
      · have : 0 ≤ low m.w * c.sw := Int.mul_nonneg l0 (by have := hc.w0; omega)
        show 1 ≤ low m.w * c.sw + 1
        omega
      · unfold low at hl l0; omega
    · have e : wstp (wOf c) L m = (L, { wq m with pc := 0 }) := by unfold wstp; rw [if_neg (by omega), if_pos p, if_neg hx]
      rw [e]
      exact ⟨hq 0 (by omega) (by omega) (by omega) m.w h.w, ww⟩
  · have e : wstp (wOf c) L m = (L, if ldq L ((wOf c).st m.v) = 1 then { wq m with pc := 4 } else wgo (wq m) (m.v + 1)) := by simp [wstp, p]
    have hv := h.v (by omega) (by omega)
    rw [e]
    refine ⟨?_, ww⟩
    by_cases hx : ldq L ((wOf c).st m.v) = 1
    · simp only [if_pos hx]; exact hq 4 (by omega) (fun _ => ⟨by omega, hv⟩) (by omega) m.w h.w
    · simp only [if_neg hx]; exact hm.go (by omega) rfl rfl h.la
  · have e : wstp (wOf c) L m = (L, if ldq L ((wOf c).ma m.v) < m.cy then { wq m with pc := 5 } else wgo (wq m) (m.v + 1)) := by simp [wstp, p]
    have hv := h.v (by omega) (by omega)
    rw [e]
    refine ⟨?_, ww⟩
    by_cases hx : ldq L ((wOf c).ma m.v) < m.cy
    · simp only [if_pos hx]; exact hq 5 (by omega) (fun _ => ⟨by omega, hv⟩) (by omega) m.w h.w
    · simp only [if_neg hx]; exact hm.go (by omega) rfl rfl h.la
  · have e : wstp (wOf c) L m = (ptq L ((wOf c).st m.v) 0, { m with ek := 5, ea := m.v, x := mPush ((wOf c).hk ((wOf c).cl m.v)) m.v, pc := 6 }) := by simp [wstp, p]
    have hv := h.v (by omega) (by omega)
    rw [e]
    exact ⟨⟨hm.cy, hm.w, by simp, by simp, fun _ _ => hv, hm.la, fun _ => ⟨(wm_push _ _).mono (by have := h.t0; omega), by simp [mPush], rfl⟩, hm.t0⟩, ww.put _ (by omega)⟩
  · have hv := h.v (by omega) (by omega)
    obtain ⟨hx1, hx2, hx3⟩ := h.x p
    have e : wstp (wOf c) L m = ((sstp L m.x).1, if (sstp L m.x).2.pc = 0 then wgo { wq m with x := (sstp L m.x).2 } (m.v + 1) else { wq m with x := (sstp L m.x).2 }) := by simp [wstp, p]
    rw [e]
    refine ⟨?_, ww.step hx1⟩
    by_cases hz : (sstp L m.x).2.pc = 0
    · simp only [if_pos hz]; exact hm.go (by omega) rfl rfl h.la
    · simp only [if_neg hz]
      exact ⟨hm.cy, hm.w, hm.pc, fun e => by have e : m.pc = 2 := e; omega, fun _ _ => hv, hm.la, fun _ => ⟨hx1.step ww, hz, by show (sstp L m.x).2.k.links = _; rw [sstp_k]; exact hx3⟩, hm.t0⟩
  · have e : wstp (wOf c) L m = (ptq L (wOf c).dn ((ldq L (wOf c).dn + 1) % 18446744073709551616), { m with ek := 6, ea := m.part, pc := 0 }) := by simp [wstp, p]
    rw [e]
    exact ⟨⟨hm.cy, hm.w, by simp, by simp, fun a => by simp at a, hm.la, fun e => by simp at e, hm.t0⟩, ww.put _ (by omega)⟩
end Go.Proofs.YtbpkcoemehmpbaaGreat

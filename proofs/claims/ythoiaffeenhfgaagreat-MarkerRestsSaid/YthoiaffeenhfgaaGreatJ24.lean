/-  -/
import Derived.Test.YthoiaffeenhfgaaGreatSwN
import Derived.Test.YthoiaffeenhfgaaGreatJ9
import Derived.Test.YthoiaffeenhfgaaGreatJ22
namespace Go.Proofs.YthoiaffeenhfgaaGreat
open Go.RowKit
set_option linter.unusedVariables false
set_option linter.unusedSimpArgs false
set_option maxRecDepth 100000
open Lay (plcc plc nodesN OkC Cfg kindV partsC)
section
variable {w0 w w' : World} {X S D N M : Nat} {c : Cfg} {z : Swc} {L : List Int} {cc : Int}
set_option maxHeartbeats 2000000 in
theorem sstep_raw {mp : Option Addr} {f : Nat} (h : Sb w X mp z) (hnx : z.nx = fns f X) (hen : ∀ a w, (callFunc f a).run Tryz.prog w = .ok (.enter f a) w) (b : Bool) (Q : World → Prop)
    (HN : ∀ w1, Sb w1 X mp { z with ek := 0, ea := 0 } → UF (fun k => k = X) w w1 → Calls Tryz.prog f #[ptr X, ptr S] w1 fun e w' => e = .returned (.tuple #[]) ∧ Q w')
    (hQ : ∀ w', Q w' → (b = true ∧ w'.cell? ⟨X, 2, none⟩ = some .nilFunc) ∨ (b = false ∧ ∃ f', w'.cell? ⟨X, 2, none⟩ = some (fns f' X))) :
    Calls Tryz.prog 234 #[ptr X, ptr S] w fun e w' => e = .returned (.bool b) ∧ Q w' := by
  have HB := Lib.hid h
  have HNX := Lib.hid hnx
  clear hnx
  cases b
  · have HNN := Lib.hid HN; have HQ := Lib.hid hQ; clear HN hQ h
    go_enter Tryz.func234, Tryz.ntmps234
    go_upto_region 4 with (first
      | (go_at_call 235; (with_reducible refine (noneW_any _).mono ?_); rintro r w2 ⟨rfl, hb⟩; have H2 := Lib.hid (HB.out.step hb); have HS2 := Lib.hid hb; clear hb; obtain ⟨⟨e0, e1, e2⟩, e3, e4⟩ := H2.out.ev; obtain ⟨⟨g0, g1, g2⟩, g3, g4⟩ := H2.out.evf)
      | fail)
    have h3 := H2.out.pev 0 0
    obtain ⟨W, hW⟩ : ∃ W, W = evS w2 X 0 0 := ⟨_, rfl⟩
    rw [← hW] at h3
    have HU : Hid (UF (fun k => k = X) w W) := Lib.hid (by rw [hW]; exact (UF.of_below HS2.out).trans (UF.evS w2 X 0 0) (fun _ x => x) (fun _ _ x => x))
    unfold evS at hW
    rw [← hW]
    have H3 := Lib.hid h3
    clear hW h3 e0 e1 e2 e3 e4 g0 g1 g2 g3 g4
    have c2 := H3.out.c2
    rw [show Swc.nx { z with ek := 0, ea := 0 } = fns f X from HNX.out] at c2
    go_wp2_with (first
      | ((with_reducible refine (HNN.out _ H3.out HU.out).mono ?_); rintro r w1 ⟨rfl, hk⟩; have HK := Lib.hid hk; obtain ⟨f', d4⟩ : ∃ f', w1.cell? ⟨X, 2, none⟩ = some (fns f' X) := (by rcases HQ.out w1 hk with ⟨h, _⟩ | ⟨_, h⟩; cases h; exact h); clear hk)
      | fail)
    go_ret
    exact ⟨rfl, HK.out⟩
  · have HNN := Lib.hid HN; have HQ := Lib.hid hQ; clear HN hQ h
    go_enter Tryz.func234, Tryz.ntmps234
    go_upto_region 4 with (first
      | (go_at_call 235; (with_reducible refine (noneW_any _).mono ?_); rintro r w2 ⟨rfl, hb⟩; have H2 := Lib.hid (HB.out.step hb); have HS2 := Lib.hid hb; clear hb; obtain ⟨⟨e0, e1, e2⟩, e3, e4⟩ := H2.out.ev; obtain ⟨⟨g0, g1, g2⟩, g3, g4⟩ := H2.out.evf)
      | fail)
    have h3 := H2.out.pev 0 0
    obtain ⟨W, hW⟩ : ∃ W, W = evS w2 X 0 0 := ⟨_, rfl⟩
    rw [← hW] at h3
    have HU : Hid (UF (fun k => k = X) w W) := Lib.hid (by rw [hW]; exact (UF.of_below HS2.out).trans (UF.evS w2 X 0 0) (fun _ x => x) (fun _ _ x => x))
    unfold evS at hW
    rw [← hW]
    have H3 := Lib.hid h3
    clear hW h3 e0 e1 e2 e3 e4 g0 g1 g2 g3 g4
    have c2 := H3.out.c2
    rw [show Swc.nx { z with ek := 0, ea := 0 } = fns f X from HNX.out] at c2
    go_wp2_with (first
      | ((with_reducible refine (HNN.out _ H3.out HU.out).mono ?_); rintro r w1 ⟨rfl, hk⟩; have HK := Lib.hid hk; have d4 : w1.cell? ⟨X, 2, none⟩ = some .nilFunc := (by rcases HQ.out w1 hk with ⟨_, h⟩ | ⟨h, _⟩; exact h; cases h); clear hk)
      | fail)
    go_ret
    exact ⟨rfl, HK.out⟩
set_option maxHeartbeats 2000000 in
theorem sstep_off {mp : Option Addr} (v : Value) (h : Sb w X mp z) (hnx : z.nx = .nilFunc) :
    Calls Tryz.prog 234 #[ptr X, v] w fun e w' => e = .returned (.bool true) ∧ Sb w' X mp { z with ek := 0, ea := 0 } ∧ UF (fun k => k = X) w w' := by
  have HB := Lib.hid h
  have HNX := Lib.hid hnx
  clear hnx h
  go_enter Tryz.func234, Tryz.ntmps234
  go_upto_region 4 with (first
    | (go_at_call 235; (with_reducible refine (noneW_any _).mono ?_); rintro r w2 ⟨rfl, hb⟩; have H2 := Lib.hid (HB.out.step hb); have HS2 := Lib.hid hb; clear hb; obtain ⟨⟨e0, e1, e2⟩, e3, e4⟩ := H2.out.ev; obtain ⟨⟨g0, g1, g2⟩, g3, g4⟩ := H2.out.evf)
    | fail)
  have h3 := H2.out.pev 0 0
  obtain ⟨W, hW⟩ : ∃ W, W = evS w2 X 0 0 := ⟨_, rfl⟩
  rw [← hW] at h3
  have HU : Hid (UF (fun k => k = X) w W) := Lib.hid (by rw [hW]; exact (UF.of_below HS2.out).trans (UF.evS w2 X 0 0) (fun _ x => x) (fun _ _ x => x))
  unfold evS at hW
  rw [← hW]
  have H3 := Lib.hid h3
  clear hW h3 e0 e1 e2 e3 e4 g0 g1 g2 g3 g4
  have c2 := H3.out.c2
  rw [show Swc.nx { z with ek := 0, ea := 0 } = .nilFunc from HNX.out] at c2
  go_wp2_with (fail)
  go_ret
  exact ⟨rfl, H3.out, HU.out⟩
abbrev sc0 (cy : Int) (nx : Value) : Swc := ⟨cy, nx, 0, -1, 0, 0, none, 0, 0⟩
set_option maxHeartbeats 2000000 in
theorem newS_map (mN : Nat) (cy : Int) (w : World) :
    Calls Tryz.prog 100 #[.pointer (some ⟨mN, 0, none⟩), .int .u64 cy] w fun e w' => ∃ X, e = .returned (ptr X) ∧ w.heap.size ≤ X ∧ Sb w' X (some ⟨mN, 0, none⟩) (sc0 cy (fns 114 X)) ∧ Below w.heap.size w w' := by
  have hmf : ∀ (fn : Fn) (first cap : Array Value) (w : World), (Instr.makeFunc fn first cap).run Tryz.prog w = .ok (.func fn first cap) w := fun _ _ _ _ => rfl
  go_enter Tryz.func100, Tryz.ntmps100
  go_wp2
  go_ret
  exact ⟨w.heap.size, rfl, Nat.le_refl _, Go.heap_alloc_new _ _, below_alloc0 (Below.refl _ _) _⟩
end
def nxW (X : Nat) : Nat → Value
  | 1 => fns 114 X
  | 2 => fns 128 X
  | 3 => fns 164 X
  | 4 => fns 181 X
  | 5 => fns 193 X
  | 6 => fns 203 X
  | 7 => fns 165 X
  | _ => .nilFunc
abbrev swOf (m : Wn) (nx : Value) (pp : Option Addr) : Swc := ⟨m.cy, nx, m.w, m.part, m.v, m.last, pp, m.ek, m.ea⟩
def WKM (w : World) (X : Nat) (O Dp : Nat → Prop) (N : Nat) (m : Wn) : Prop :=
  X ≠ N ∧ O X ∧ (∀ k, O k → Dp k) ∧ (∀ k, Dp k → k < w.heap.size) ∧ m.pc ≤ 7 ∧ ∃ pp, Sb w X (some ⟨N, 0, none⟩) (swOf m (nxW X m.pc) pp) ∧
    (m.pc = 6 → ∃ M, pp = some ⟨M, 0, none⟩ ∧ MM w M (lvN N) m.x ∧ O M ∧ M ≠ X ∧ M ≠ N)
section
variable {w w' : World} {X N : Nat} {O Dp : Nat → Prop} {m : Wn}
theorem WKM.ins (h : WKM w X O Dp N m) : O X ∧ (∀ k, O k → Dp k) ∧ ∀ k, Dp k → k < w.heap.size := ⟨h.2.1, h.2.2.1, h.2.2.2.1⟩
theorem WKM.lt (h : WKM w X O Dp N m) : X < w.heap.size := h.ins.2.2 X (h.ins.2.1 X h.ins.1)
theorem WKM.keep (h : WKM w X O Dp N m) (hs : w.heap.size ≤ w'.heap.size) (hb : ∀ k, Dp k → w'.heap[k]? = w.heap[k]?) : WKM w' X O Dp N m := by
  obtain ⟨h1, h2, h3, h4, hp, pp, h5, h6⟩ := h
  refine ⟨h1, h2, h3, fun k hk => Nat.lt_of_lt_of_le (h4 k hk) hs, hp, pp, h5.same (hb X (h3 X h2)), fun e => ?_⟩
  obtain ⟨M, a, b, d, f, g⟩ := h6 e
  exact ⟨M, a, (hb M (h3 M d)).trans b, d, f, g⟩
theorem nxW_cases (X : Nat) {p : Nat} (h : p ≤ 7) : (p = 0 ∧ nxW X p = .nilFunc) ∨ (p ≠ 0 ∧ ∃ f, nxW X p = fns f X) := by
  have : p = 0 ∨ p = 1 ∨ p = 2 ∨ p = 3 ∨ p = 4 ∨ p = 5 ∨ p = 6 ∨ p = 7 := by omega
  rcases this with rfl | rfl | rfl | rfl | rfl | rfl | rfl | rfl
  · exact .inl ⟨rfl, rfl⟩
  all_goals exact .inr ⟨by simp, _, rfl⟩
theorem WKM.nx (h : WKM w X O Dp N m) : (decide (m.pc = 0) = true ∧ w.cell? ⟨X, 2, none⟩ = some .nilFunc) ∨ (decide (m.pc = 0) = false ∧ ∃ f, w.cell? ⟨X, 2, none⟩ = some (fns f X)) := by
  obtain ⟨h1, h2, h3, h4, hp, pp, h5, h6⟩ := h
  have c2 := h5.c2
  rcases nxW_cases X hp with ⟨a, b⟩ | ⟨a, f, b⟩
  · exact .inl ⟨by simpa using a, by rw [c2]; exact congrArg some b⟩
  · exact .inr ⟨by simpa using a, f, by rw [c2]; exact congrArg some b⟩
theorem WKM.event (h : WKM w X O Dp N m) : Calls Tryz.prog 233 #[ptr X] w fun a w' => a = .returned (evA m.ek m.ea) ∧ Below w.heap.size w w' := by
  obtain ⟨h1, h2, h3, h4, hp, pp, h5, h6⟩ := h
  exact eventW_any h5
end
structure WKW (c : Cfg) (t : Int) (m : Wn) : Prop where
  cy : 0 ≤ m.cy ∧ m.cy ≤ 18446744073709551615
  w : 0 ≤ m.w ∧ m.w ≤ 18446744073709551615
  pc : m.pc ≤ 7
  p2 : m.pc = 2 → low m.w < partsC c
  v : 3 ≤ m.pc → m.pc ≤ 6 → 1 ≤ m.v ∧ m.v ≤ m.last
  la : m.last ≤ nodesN c
  x : m.pc = 6 → Wm t m.x ∧ m.x.pc ≠ 0 ∧ m.x.k.links = nxtL c
  t0 : 0 ≤ t
theorem WKW.mono {c : Cfg} {t u : Int} {m : Wn} (h : WKW c t m) (k : t ≤ u) : WKW c u m := ⟨h.cy, h.w, h.pc, h.p2, h.v, h.la, fun e => ⟨(h.x e).1.mono k, (h.x e).2⟩, by have := h.t0; omega⟩
theorem parts_is {c : Cfg} (hc : OkC c) : (wOf c).parts = partsC c := by
  have h0 := (Lay.bds hc).n0; have h1 := hc.w0
  unfold Wg.parts partsC Lay.piecesOf
  rw [if_neg (by omega)]
  rfl
theorem wwin {L : List Int} (h : WW L) (a : Int) : 0 ≤ ldq L a ∧ ldq L a ≤ 18446744073709551615 := h.ldq a
theorem WKW.go {c : Cfg} {t : Int} {m m0 : Wn} {v : Int} (h : WKW c t m) (h1 : 1 ≤ v) (e1 : m0.cy = m.cy) (e2 : m0.w = m.w) (e3 : m0.last ≤ nodesN c) : WKW c t (wgo m0 v) := by
  have hpc : (wgo m0 v).pc = if v ≤ m0.last then 3 else 7 := rfl
  refine ⟨by show 0 ≤ m0.cy ∧ m0.cy ≤ _; rw [e1]; exact h.cy, by show 0 ≤ m0.w ∧ m0.w ≤ _; rw [e2]; exact h.w, by rw [hpc]; split <;> omega, fun e => ?_, fun a b => ?_, e3, fun e => ?_, h.t0⟩
  · rw [hpc] at e; split at e <;> omega
  · rw [hpc] at a b
    by_cases x : v ≤ m0.last
    · exact ⟨h1, x⟩
    · rw [if_neg x] at b; omega
  · rw [hpc] at e; split at e <;> omega
theorem part_last {c : Cfg} (hc : OkC c) (j : Int) : wmin ((j + 1) * c.sw) (nodesN c) ≤ nodesN c := by unfold wmin; split <;> omega
theorem WKW.step {c : Cfg} {t : Int} {m : Wn} {L : List Int} (hc : OkC c) (h : WKW c t m) (ww : WW L) : WKW c (t + 1) (wstp (wOf c) L m).2 ∧ WW (wstp (wOf c) L m).1 := by
  have hm := h.mono (u := t + 1) (by omega)
  have hpc := h.pc
  have hn0 := (Lay.bds hc).n0; have hn1 := (Lay.bds hc).n1
  have hp : m.pc = 0 ∨ m.pc = 1 ∨ m.pc = 2 ∨ m.pc = 3 ∨ m.pc = 4 ∨ m.pc = 5 ∨ m.pc = 6 ∨ m.pc = 7 := by omega
  have hq : ∀ p : Nat, p ≠ 2 → (3 ≤ p → p ≤ 5 ∧ 1 ≤ m.v ∧ m.v ≤ m.last) → p ≤ 7 → ∀ W : Int, 0 ≤ W ∧ W ≤ 18446744073709551615 → WKW c (t + 1) { wq m with pc := p, w := W } := fun p h2 h3 h7 W hW =>
    ⟨hm.cy, hW, h7, fun e => absurd e h2, fun a b => (h3 a).2, hm.la, fun e => by have := h3 (by show 3 ≤ p; have : p = 6 := e; omega); have : p = 6 := e; omega, hm.t0⟩
  rcases hp with p | p | p | p | p | p | p | p
  · have e : wstp (wOf c) L m = (L, wq m) := by simp [wstp, p]
    rw [e]
    exact ⟨⟨hm.cy, hm.w, hm.pc, hm.p2, hm.v, hm.la, hm.x, hm.t0⟩, ww⟩
  · have e : wstp (wOf c) L m = (L, { wq m with w := ldq L (wOf c).sw, pc := if hiw (ldq L (wOf c).sw) = m.cy % 4294967296 ∧ low (ldq L (wOf c).sw) < (wOf c).parts then 2 else 0 }) := by simp [wstp, p]
    rw [e]
    refine ⟨?_, ww⟩
    refine ⟨hm.cy, wwin ww _, by show (if _ then 2 else 0) ≤ 7; split <;> omega, fun e2 => ?_, fun a _ => ?_, hm.la, fun e2 => ?_, hm.t0⟩
    · have e2 : (if hiw (ldq L (wOf c).sw) = m.cy % 4294967296 ∧ low (ldq L (wOf c).sw) < (wOf c).parts then 2 else 0) = 2 := e2
      split at e2
      · rename_i x; rw [← parts_is hc]; exact x.2
      · omega
    · have a : 3 ≤ (if hiw (ldq L (wOf c).sw) = m.cy % 4294967296 ∧ low (ldq L (wOf c).sw) < (wOf c).parts then 2 else 0) := a
      split at a <;> omega
    · have e2 : (if hiw (ldq L (wOf c).sw) = m.cy % 4294967296 ∧ low (ldq L (wOf c).sw) < (wOf c).parts then 2 else 0) = 6 := e2
      split at e2 <;> omega
  · have hl := h.p2 p
    have hb := (Lay.parts_bd' hc).2.1
    have hw := h.w
    have l0 : 0 ≤ low m.w := by unfold low; omega
    by_cases hx : (0 ≤ (wOf c).sw ∧ (wOf c).sw < L.length) ∧ L.getD (wOf c).sw.toNat 0 = m.w
    · have e : wstp (wOf c) L m = (ptq L (wOf c).sw (m.w + 1), wgo { wq m with part := low m.w, last := wmin ((low m.w + 1) * (wOf c).per) (wOf c).n } (low m.w * (wOf c).per + 1)) := by unfold wstp; rw [if_neg (by omega), if_pos p, if_pos hx]
      rw [e]
      refine ⟨hm.go ?_ rfl rfl (part_last hc _), ww.put _ ?_⟩
      · have : 0 ≤ low m.w * c.sw := Int.mul_nonneg l0 (by have := hc.w0; omega)
        show 1 ≤ low m.w * c.sw + 1
        omega
      · unfold low at hl l0; omega
    · have e : wstp (wOf c) L m = (L, { wq m with pc := 0 }) := by unfold wstp; rw [if_neg (by omega), if_pos p, if_neg hx]
      rw [e]
      exact ⟨hq 0 (by omega) (by omega) (by omega) m.w h.w, ww⟩
  · have e : wstp (wOf c) L m = (L, if ldq L ((wOf c).st m.v) = 1 then { wq m with pc := 4 } else wgo (wq m) (m.v + 1)) := by simp [wstp, p]
    have hv := h.v (by omega) (by omega)
    rw [e]
    refine ⟨?_, ww⟩
    by_cases hx : ldq L ((wOf c).st m.v) = 1
    · simp only [if_pos hx]; exact hq 4 (by omega) (fun _ => ⟨by omega, hv⟩) (by omega) m.w h.w
    · simp only [if_neg hx]; exact hm.go (by omega) rfl rfl h.la
  · have e : wstp (wOf c) L m = (L, if ldq L ((wOf c).ma m.v) < m.cy then { wq m with pc := 5 } else wgo (wq m) (m.v + 1)) := by simp [wstp, p]
    have hv := h.v (by omega) (by omega)
    rw [e]
    refine ⟨?_, ww⟩
    by_cases hx : ldq L ((wOf c).ma m.v) < m.cy
    · simp only [if_pos hx]; exact hq 5 (by omega) (fun _ => ⟨by omega, hv⟩) (by omega) m.w h.w
    · simp only [if_neg hx]; exact hm.go (by omega) rfl rfl h.la
  · have e : wstp (wOf c) L m = (ptq L ((wOf c).st m.v) 0, { m with ek := 5, ea := m.v, x := mPush ((wOf c).hk ((wOf c).cl m.v)) m.v, pc := 6 }) := by simp [wstp, p]
    have hv := h.v (by omega) (by omega)
    rw [e]
    exact ⟨⟨hm.cy, hm.w, by simp, by simp, fun _ _ => hv, hm.la, fun _ => ⟨(wm_push _ _).mono (by have := h.t0; omega), by simp [mPush], rfl⟩, hm.t0⟩, ww.put _ (by omega)⟩
  · have hv := h.v (by omega) (by omega)
    obtain ⟨hx1, hx2, hx3⟩ := h.x p
    have e : wstp (wOf c) L m = ((sstp L m.x).1, if (sstp L m.x).2.pc = 0 then wgo { wq m with x := (sstp L m.x).2 } (m.v + 1) else { wq m with x := (sstp L m.x).2 }) := by simp [wstp, p]
    rw [e]
    refine ⟨?_, ww.step hx1⟩
    by_cases hz : (sstp L m.x).2.pc = 0
    · simp only [if_pos hz]; exact hm.go (by omega) rfl rfl h.la
    · simp only [if_neg hz]
      exact ⟨hm.cy, hm.w, hm.pc, fun e => by have e : m.pc = 2 := e; omega, fun _ _ => hv, hm.la, fun _ => ⟨hx1.step ww, hz, by show (sstp L m.x).2.k.links = _; rw [sstp_k]; exact hx3⟩, hm.t0⟩
  · have e : wstp (wOf c) L m = (ptq L (wOf c).dn ((ldq L (wOf c).dn + 1) % 18446744073709551616), { m with ek := 6, ea := m.part, pc := 0 }) := by simp [wstp, p]
    rw [e]
    exact ⟨⟨hm.cy, hm.w, by simp, by simp, fun a => by simp at a, hm.la, fun e => by simp at e, hm.t0⟩, ww.put _ (by omega)⟩
end Go.Proofs.YthoiaffeenhfgaaGreat

namespace Go.Proofs.YthoiaffeenhfgaaGreat
open Go.RowKit
set_option linter.unusedVariables false
set_option linter.unusedSimpArgs false
set_option maxRecDepth 100000
open Lay (plcc plc nodesN OkC Cfg kindV partsC)
def wcost (m : Wn) (cc : Int) : Int := if m.pc = 0 then cc else cc + 1
def WBehind (w : World) (S D : Nat) (N X : Nat) (O Dp : Nat → Prop) (L : List Int) (cc : Int) (m : Wn) (w' : World) : Prop :=
  (∃ O' D', WKM w' X O' D' N m ∧ (∀ k, O' k → O k ∨ w.heap.size ≤ k) ∧ (∀ k, D' k → Dp k ∨ w.heap.size ≤ k)) ∧ St w' S D L cc ∧ UF (fun k => k = S ∨ k = D ∨ O k) w w'
section
variable {w w1 w' : World} {X S D N : Nat} {c : Cfg} {O Dp : Nat → Prop} {m m' : Wn} {L L' : List Int} {cc cc' t : Int}
theorem WBehind.of (h : WKM w X O Dp N m) {z' : Swc} {pp : Option Addr} (hz : Ss w1 w' X S D N c z' L' cc') (u : UF (fun k => k = S ∨ k = D ∨ O k) w w1) (e : z' = swOf m' (nxW X m'.pc) pp) (hp : m'.pc ≤ 7) (n6 : m'.pc ≠ 6) : WBehind w S D N X O Dp L' cc' m' w' := by
  obtain ⟨h1, h2, h3, h4, _⟩ := id h
  subst e
  have s1 := u.size; have s2 := hz.u.size
  refine ⟨⟨O, Dp, ⟨h1, h2, h3, fun k hk => by have := h4 k hk; omega, hp, pp, hz.mem, fun e => absurd e n6⟩, fun k hk => .inl hk, fun k hk => .inl hk⟩, hz.st, ?_⟩
  exact u.trans hz.u (fun _ x => x) (fun k _ e => by rcases e with e | e | e; exact .inr (.inr (e ▸ h2)); exact .inl e; exact .inr (.inl e))
theorem WBehind.push (h : WKM w X O Dp N m) {z' : Swc} {M : Nat} (hz : Ss w1 w' X S D N c z' L' cc') (u : UF (fun k => k = X) w w1) (e : z' = swOf m' (nxW X m'.pc) (some ⟨M, 0, none⟩)) (p6 : m'.pc = 6)
    (ha : MM w' M (lvN N) m'.x) (hd : w1.heap.size ≤ M) (hN : N < w1.heap.size) : WBehind w S D N X O Dp L' cc' m' w' := by
  obtain ⟨h1, h2, h3, h4, _⟩ := id h
  subst e
  have hX := h.lt
  have s1 := u.size; have s2 := hz.u.size
  refine ⟨⟨fun k => O k ∨ k = M, fun k => Dp k ∨ k = M, ⟨h1, .inl h2, fun k hk => hk.imp (h3 k) id, fun k hk => ?_, by omega, _, hz.mem, fun _ => ⟨M, rfl, ha, .inr rfl, by omega, by omega⟩⟩, fun k hk => ?_, fun k hk => ?_⟩, hz.st, ?_⟩
  · rcases hk with hk | rfl
    · have := h4 k hk; omega
    · exact ha.lt
  · rcases hk with hk | rfl
    · exact .inl hk
    · exact .inr (by omega)
  · rcases hk with hk | rfl
    · exact .inl hk
    · exact .inr (by omega)
  · exact (u.trans hz.u (H := fun k => k = S ∨ k = D ∨ O k) (fun k e => by subst e; exact .inr (.inr h2)) (fun k _ e => by rcases e with e | e | e; exact .inr (.inr (e ▸ h2)); exact .inl e; exact .inr (.inl e)))
theorem nx_go (X : Nat) (v la : Int) : nxS X v la = nxW X (if v ≤ la then 3 else 7) := by unfold nxS; split <;> rfl
theorem adv_is (L : List Int) (a : Int) : adv L a 1 = ptq L a ((ldq L a + 1) % 18446744073709551616) := by
  unfold adv; rw [ptv_eq, ldv_eq, IntKind.wrap_u64]
theorem hk_is {c : Cfg} (hc : OkC c) {v : Int} (h1 : 1 ≤ v) (h2 : v ≤ nodesN c) : (wOf c).hk ((wOf c).cl v) = skN c (kindV c v) := by
  have := (node_kind hc h1 h2).1
  show (⟨plcc c 7 (((kindV c v).toNat : Nat) : Int) 0, nxtL c⟩ : Sk) = _
  rw [show (((kindV c v).toNat : Nat) : Int) = kindV c v by omega]
set_option maxHeartbeats 4000000 in
theorem step_wk (hc : OkC c) (h : WKM w X O Dp N m) (hs : St w S D L cc) (hm : Lay.IsMap w N c) (a1 : ¬ Dp S) (a2 : ¬ Dp D) (a3 : ¬ O N) (a4 : N ≠ S) (a5 : N ≠ D)
    (wm : WKW c t m) (ww : WW L) (h0 : 0 ≤ cc) (h1 : cc ≤ 900000000) (ht : t ≤ 900000000) :
    Calls Tryz.prog 234 #[ptr X, ptr S] w fun e w' => e = .returned (.bool (decide ((wstp (wOf c) L m).2.pc = 0))) ∧
      WBehind w S D N X O Dp (wstp (wOf c) L m).1 (wcost m cc) (wstp (wOf c) L m).2 w' := by
  obtain ⟨g1, g2, g3, g4, g5, pp, h5, h6⟩ := id h
  have hX := h.lt
  have hn1 := (Lay.bds hc).n1
  have dX : Dp X := g3 X g2
  have nS : X ≠ S := fun e => a1 (e ▸ dX)
  have nD : X ≠ D := fun e => a2 (e ▸ dX)
  obtain ⟨m0, hm0⟩ : ∃ m0 : Wn, m0 = wq m := ⟨_, rfl⟩
  have zs : ∀ {w1}, Sb w1 X (some ⟨N, 0, none⟩) { swOf m (nxW X m.pc) pp with ek := 0, ea := 0 } → UF (fun k => k = X) w w1 → Ss w1 w1 X S D N c (swOf m0 (nxW X m.pc) pp) L cc := fun {w1} hz u => by
    subst hm0
    exact ⟨hz, St_same hs (u.block S hs.ltS (Ne.symm nS)) (u.block D hs.row.lt (Ne.symm nD)), IsMap_same hm u.size (u.block N hm.1 (Ne.symm g1)), hc, ⟨nS, nD, Ne.symm g1, a4, a5⟩, .refl _ _⟩
  have hp : m.pc = 0 ∨ m.pc = 1 ∨ m.pc = 2 ∨ m.pc = 3 ∨ m.pc = 4 ∨ m.pc = 5 ∨ m.pc = 6 ∨ m.pc = 7 := by omega
  have fin : ∀ (f : Nat) (L' : List Int) (cc' : Int) (m' : Wn), nxW X m.pc = fns f X → (∀ a w, (callFunc f a).run Tryz.prog w = .ok (.enter f a) w) →
      (∀ w1, Ss w1 w1 X S D N c (swOf m0 (nxW X m.pc) pp) L cc → UF (fun k => k = X) w w1 → Calls Tryz.prog f #[ptr X, ptr S] w1 fun e w' => e = .returned (.tuple #[]) ∧ WBehind w S D N X O Dp L' cc' m' w') →
      Calls Tryz.prog 234 #[ptr X, ptr S] w fun e w' => e = .returned (.bool (decide (m'.pc = 0))) ∧ WBehind w S D N X O Dp L' cc' m' w' := fun f L' cc' m' hf hen hN => by
    refine sstep_raw h5 hf hen (decide (m'.pc = 0)) _ (fun w1 hz u => hN w1 (zs hz u) u) ?_
    rintro w' ⟨⟨O', D', hk, _⟩, _⟩
    exact hk.nx
  have uo : ∀ {w1}, UF (fun k => k = X) w w1 → UF (fun k => k = S ∨ k = D ∨ O k) w w1 := fun u => u.mono fun k _ e => by subst e; exact .inr (.inr g2)
  have ec : m.pc ≠ 0 → wcost m cc = cc + 1 := fun e => by unfold wcost; rw [if_neg e]
  rcases hp with p | p | p | p | p | p | p | p
  · have e : wstp (wOf c) L m = (L, m0) := by rw [hm0]; simp [wstp, p]
    rw [e]
    refine (sstep_off (ptr S) h5 (by show nxW X m.pc = _; rw [p]; rfl)).mono ?_
    rintro e w' ⟨rfl, hz, u⟩
    have hz' := zs hz u
    refine ⟨by subst hm0; simp [wq, p], ?_⟩
    have : wcost m cc = cc := by unfold wcost; rw [if_pos p]
    rw [this]
    exact .of h hz' (uo u) (by subst hm0; rfl) (by subst hm0; exact g5) (by subst hm0; show m.pc ≠ 6; omega)
  · rw [ec (by omega)]
    have e : wstp (wOf c) L m = (L, { wq m with w := ldq L 2, pc := if hiw (ldq L 2) = m.cy % 4294967296 ∧ low (ldq L 2) < partsC c then 2 else 0 }) := by
      rw [← parts_is hc, ← sweep2 c]
      unfold wstp; rw [if_pos p]; rfl
    rw [e]
    refine fin 114 _ _ _ (by rw [p]; rfl) (fun a w => by simp [go_sem]) fun w1 hz u => ?_
    refine (seeSweepS hz h0 (by omega) ww (by subst hm0; exact wm.cy)).mono ?_
    rintro e w' ⟨rfl, hk⟩
    subst hm0
    refine ⟨rfl, .of (pp := pp) h hk (uo u) ?_ ?_ ?_⟩
    · show Swc.mk _ (if hiw (ldq L 2) = m.cy % 4294967296 ∧ low (ldq L 2) < partsC c then fns 128 X else .nilFunc) _ _ _ _ _ _ _ = swOf _ (nxW X (if hiw (ldq L 2) = m.cy % 4294967296 ∧ low (ldq L 2) < partsC c then 2 else 0)) pp
      split <;> rfl
    · show (if _ then 2 else 0) ≤ 7; split <;> omega
    · show (if _ then 2 else 0) ≠ 6; split <;> omega
  · rw [ec (by omega)]
    by_cases hx : (0 ≤ (2 : Int) ∧ (2 : Int) < L.length) ∧ L.getD (2 : Int).toNat 0 = m.w
    · have e : wstp (wOf c) L m = (ptq L 2 (m.w + 1), wgo { wq m with part := low m.w, last := wmin ((low m.w + 1) * c.sw) (nodesN c) } (low m.w * c.sw + 1)) := by
        have hs2 : (wOf c).sw = 2 := sweep2 c
        unfold wstp; rw [if_neg (by omega), if_pos p, hs2, if_pos hx]; rfl
      rw [e]
      refine fin 128 _ _ _ (by rw [p]; rfl) (fun a w => by simp [go_sem]) fun w1 hz u => ?_
      refine (takePartS hz h0 (by omega) (by subst hm0; exact wm.w) (by subst hm0; exact wm.p2 p) (by subst hm0; exact (swB_iff ..).2 hx)).mono ?_
      rintro e w' ⟨rfl, hk⟩
      subst hm0
      refine ⟨rfl, .of (pp := pp) h hk (uo u) ?_ ?_ ?_⟩
      · rw [nx_go]; rfl
      · show (if _ then 3 else 7) ≤ 7; split <;> omega
      · show (if _ then 3 else 7) ≠ 6; split <;> omega
    · have e : wstp (wOf c) L m = (L, { wq m with pc := 0 }) := by
        have hs2 : (wOf c).sw = 2 := sweep2 c
        unfold wstp; rw [if_neg (by omega), if_pos p, hs2, if_neg hx]
      rw [e]
      refine fin 128 _ _ _ (by rw [p]; rfl) (fun a w => by simp [go_sem]) fun w1 hz u => ?_
      have hb : swB L 2 m.w = false := by
        cases hb : swB L 2 m.w with
        | false => rfl
        | true => exact absurd ((swB_iff ..).1 hb) hx
      refine (takePartNoS hz h0 (by omega) (by subst hm0; exact wm.w) (by subst hm0; exact wm.p2 p) (by subst hm0; exact hb)).mono ?_
      rintro e w' ⟨rfl, hk⟩
      subst hm0
      exact ⟨rfl, .of (pp := pp) h hk (uo u) rfl (by simp) (by simp)⟩
  · rw [ec (by omega)]
    have hv := wm.v (by omega) (by omega)
    have hl := wm.la
    have e : wstp (wOf c) L m = (L, if ldq L (plcc c 15 m.v 0) = 1 then { wq m with pc := 4 } else wgo (wq m) (m.v + 1)) := by
      simp [wstp, p]; rfl
    rw [e]
    refine fin 164 _ _ _ (by rw [p]; rfl) (fun a w => by simp [go_sem]) fun w1 hz u => ?_
    refine (seeStateS hz h0 (by omega) (by subst hm0; show 0 ≤ m.v; omega) (by subst hm0; show m.v ≤ 1000000; omega)).mono ?_
    rintro e w' ⟨rfl, hk⟩
    subst hm0
    refine ⟨rfl, .of (pp := pp) h hk (uo u) ?_ ?_ ?_⟩
    · show (if ldq L (plcc c 15 m.v 0) = 1 then _ else _) = _
      by_cases hx : ldq L (plcc c 15 m.v 0) = 1
      · simp only [if_pos hx]; rfl
      · simp only [if_neg hx]; rw [nx_go]; rfl
    · by_cases hx : ldq L (plcc c 15 m.v 0) = 1
      · simp only [if_pos hx]; omega
      · simp only [if_neg hx]; show (if _ then 3 else 7) ≤ 7; split <;> omega
    · by_cases hx : ldq L (plcc c 15 m.v 0) = 1
      · simp only [if_pos hx]; omega
      · simp only [if_neg hx]; show (if _ then 3 else 7) ≠ 6; split <;> omega
  · rw [ec (by omega)]
    have hv := wm.v (by omega) (by omega)
    have hl := wm.la
    have e : wstp (wOf c) L m = (L, if ldq L (plcc c 16 m.v 0) < m.cy then { wq m with pc := 5 } else wgo (wq m) (m.v + 1)) := by
      simp [wstp, p]; rfl
    rw [e]
    refine fin 181 _ _ _ (by rw [p]; rfl) (fun a w => by simp [go_sem]) fun w1 hz u => ?_
    refine (seeMarkS hz h0 (by omega) (by subst hm0; show 0 ≤ m.v; omega) (by subst hm0; show m.v ≤ 1000000; omega)).mono ?_
    rintro e w' ⟨rfl, hk⟩
    subst hm0
    refine ⟨rfl, .of (pp := pp) h hk (uo u) ?_ ?_ ?_⟩
    · show (if ldq L (plcc c 16 m.v 0) < m.cy then _ else _) = _
      by_cases hx : ldq L (plcc c 16 m.v 0) < m.cy
      · simp only [if_pos hx]; rfl
      · simp only [if_neg hx]; rw [nx_go]; rfl
    · by_cases hx : ldq L (plcc c 16 m.v 0) < m.cy
      · simp only [if_pos hx]; omega
      · simp only [if_neg hx]; show (if _ then 3 else 7) ≤ 7; split <;> omega
    · by_cases hx : ldq L (plcc c 16 m.v 0) < m.cy
      · simp only [if_pos hx]; omega
      · simp only [if_neg hx]; show (if _ then 3 else 7) ≠ 6; split <;> omega
  · rw [ec (by omega)]
    have hv := wm.v (by omega) (by omega)
    have hl := wm.la
    have e : wstp (wOf c) L m = (ptq L (plcc c 15 m.v 0) 0, { m with ek := 5, ea := m.v, x := mPush (skN c (kindV c m.v)) m.v, pc := 6 }) := by
      rw [← hk_is hc hv.1 (by omega)]
      simp [wstp, p]; rfl
    rw [e]
    have hkd := node_kind hc hv.1 (show m.v ≤ nodesN c by omega)
    refine fin 193 _ _ _ (by rw [p]; rfl) (fun a w => by simp [go_sem]) fun w1 hz u => ?_
    refine (freeNodeS hz h0 (by omega) (by subst hm0; show 0 ≤ m.v; omega) (by subst hm0; show m.v ≤ 1000000; omega) (by subst hm0; show -10 ≤ kindV c m.v ∧ kindV c m.v ≤ 10; omega)).mono ?_
    rintro e w' ⟨rfl, M, hmm, hM, hk⟩
    subst hm0
    exact ⟨rfl, .push (M := M) h hk u rfl rfl hmm hM hz.mp.1⟩
  · rw [ec (by omega)]
    have hv := wm.v (by omega) (by omega)
    have hl := wm.la
    obtain ⟨M, rfl, hmm, oM, nMX, nMN⟩ := h6 p
    obtain ⟨hx1, hx2, hx3⟩ := wm.x p
    have dM : Dp M := g3 M oM
    have mS : M ≠ S := fun e => a1 (e ▸ dM)
    have mD : M ≠ D := fun e => a2 (e ▸ dM)
    have e1 : (wstp (wOf c) L m).1 = (sstp L m.x).1 := by simp [wstp, p]
    have e2 : (wstp (wOf c) L m).2 = if (sstp L m.x).2.pc = 0 then wgo { m0 with x := (sstp L m.x).2 } (m.v + 1) else { m0 with x := (sstp L m.x).2 } := by rw [hm0]; simp [wstp, p]
    rw [e1, e2]
    have hstp : ∀ w1, Ss w1 w1 X S D N c (swOf m0 (nxW X m.pc) (some ⟨M, 0, none⟩)) L cc → UF (fun k => k = X) w w1 → Calls Tryz.prog 209 #[ptr M, ptr S] w1 fun e w' => e = .returned (.bool (decide ((sstp L m.x).2.pc = 0))) ∧ Mi w1 w' M S D (lvN N) N (sstp L m.x).2 (sstp L m.x).1 (cc + 1) := fun w1 hz u => by
      have hmm' : MM w1 M (lvN N) m.x := (u.block M hmm.lt nMX).trans hmm
      have k := step_any w1 (hmm'.mi hz.st (by rw [hx3]; exact lk_n hc hz.mp) mS mD ⟨Ne.symm nMN, a4, a5⟩) hx1 ww h0 (by omega) (by omega)
      have ecs : cst m.x cc = cc + 1 := by unfold cst; rw [if_neg hx2]
      rw [ecs] at k; exact k
    generalize sstp L m.x = y at hstp ⊢
    obtain ⟨L', x'⟩ := y
    dsimp only at hstp ⊢
    have zs2 : ∀ {w1 w2}, Ss w1 w1 X S D N c (swOf m0 (nxW X m.pc) (some ⟨M, 0, none⟩)) L cc → Mi w1 w2 M S D (lvN N) N x' L' (cc + 1) → Ss w2 w2 X S D N c (swOf m0 (nxW X m.pc) (some ⟨M, 0, none⟩)) L' (cc + 1) := fun {w1 w2} hz hb =>
      ⟨hz.mem.same (hb.u'.block X hz.mem.lt (Ne.symm nMX) nS nD), hb.st', IsMap_same hz.mp hb.u'.size (hb.u'.block N hz.mp.1 (Ne.symm nMN) a4 a5), hc, hz.n, .refl _ _⟩
    have uf1 : ∀ {w1 w2}, UF (fun k => k = X) w w1 → Mi w1 w2 M S D (lvN N) N x' L' (cc + 1) → UF (fun k => k = S ∨ k = D ∨ O k) w w2 := fun u hb => u.trans (UF.of_u3 hb.u') (fun k e => by subst e; exact .inr (.inr g2)) (fun k _ e => by rcases e with e | e | e; exact .inr (.inr (e ▸ oM)); exact .inl e; exact .inr (.inl e))
    by_cases hq : x'.pc = 0
    · rw [if_pos hq]
      rw [show decide (x'.pc = 0) = true by simpa using hq] at hstp
      refine fin 203 _ _ _ (by rw [p]; rfl) (fun a w => by simp [go_sem]) fun w1 hz u => ?_
      refine (push_end (c := c) (D := D) (L := L') (cc := cc + 1) hz.mem rfl (by subst hm0; show 0 ≤ m.v; omega) (by subst hm0; show m.v ≤ 1000000; omega) _ (hstp w1 hz u) (fun w2 hb => zs2 hz hb)).mono ?_
      rintro e w' ⟨rfl, w2, hb, hk⟩
      subst hm0
      refine ⟨rfl, .of (pp := some ⟨M, 0, none⟩) h hk (uf1 u hb) ?_ ?_ ?_⟩
      · rw [nx_go]; rfl
      · show (if _ then 3 else 7) ≤ 7; split <;> omega
      · show (if _ then 3 else 7) ≠ 6; split <;> omega
    · rw [if_neg hq]
      rw [show decide (x'.pc = 0) = false by simpa using hq] at hstp
      refine fin 203 _ _ _ (by rw [p]; rfl) (fun a w => by simp [go_sem]) fun w1 hz u => ?_
      refine (push_on hz.mem rfl _ (hstp w1 hz u)).mono ?_
      rintro e w' ⟨rfl, hb⟩
      have s1 := u.size; have s2 := hb.u'.size
      subst hm0
      exact ⟨rfl, ⟨O, Dp, ⟨g1, g2, g3, fun k hk => by have := g4 k hk; omega, g5, some ⟨M, 0, none⟩, (zs2 hz hb).mem, fun _ => ⟨M, rfl, hb.mm, oM, nMX, nMN⟩⟩, fun k hk => .inl hk, fun k hk => .inl hk⟩, hb.st', uf1 u hb⟩
  · rw [ec (by omega)]
    have e : wstp (wOf c) L m = (adv L 3 1, { m with ek := 6, ea := m.part, pc := 0 }) := by
      rw [adv_is, ← done3 c]
      simp [wstp, p]; rfl
    rw [e]
    refine fin 165 _ _ _ (by rw [p]; rfl) (fun a w => by simp [go_sem]) fun w1 hz u => ?_
    refine (countPartS hz h0 (by omega)).mono ?_
    rintro e w' ⟨rfl, hk⟩
    subst hm0
    exact ⟨rfl, .of (pp := pp) h hk (uo u) rfl (by simp) (by simp)⟩
end
section
variable {B S D N : Nat} {c : Cfg} {w0 w w' : World} {L : List Int} {k t : Int} {X lo : Nat} {m : Wn}
theorem wkm_new {w : World} {X N : Nat} {cy : Int} (h : Sb w X (some ⟨N, 0, none⟩) (sc0 cy (fns 114 X))) (hn : X ≠ N) : WKM w X (fun k => k = X) (fun k => k = X) N (wNew cy) :=
  ⟨hn, rfl, fun k h => h, fun k e => by subst e; exact h.lt, by simp [wNew], none, h, fun e => by simp [wNew] at e⟩
theorem wkw_new {c : Cfg} (hc : OkC c) {cy : Int} (h : 0 ≤ cy ∧ cy ≤ 18446744073709551615) : WKW c 0 (wNew cy) :=
  ⟨h, by simp [wNew], by simp [wNew], fun e => by simp [wNew] at e, fun e => by simp [wNew] at e, (show (0 : Int) ≤ nodesN c by have := (Lay.bds hc).n0; omega), fun e => by simp [wNew] at e, by omega⟩
end
end Go.Proofs.YthoiaffeenhfgaaGreat

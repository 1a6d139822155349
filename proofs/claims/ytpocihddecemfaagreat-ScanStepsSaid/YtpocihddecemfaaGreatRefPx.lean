
import Derived.Test.YtpocihddecemfaaGreatRefPs
namespace Go.Proofs.YtpocihddecemfaaGreat
open Go.RowKit
set_option linter.unusedVariables false
set_option linter.unusedSimpArgs false
set_option maxRecDepth 100000
open Lay (plcc plc shOf packN nodesN OkC Cfg Norm firstV Rep lenL things)
theorem rpstep_any {c : Cfg} (hc : OkC c) {t : Int} (Q : Nat → Prop) (A : Option Addr) (n cap : Nat) (R : Option Addr) (n' capR : Nat) (L : List Int) (m : Pm) (v : Value) (w : World)
    (hA : IsA w c A n) (hn : n' = L.length) (hn2 : n' ≤ 1000000) (hR : ReadsW Q w R L) (hQ : ∀ b, w.heap.size ≤ b → Q b) (hv : RPm Q w m v) (wm : PW c t m) (ww : WW L) (ht : t ≤ 900000000) :
    Calls Tryz.prog 89 #[aVal A n cap (packN c), .slice R n' capR, v] w (SomePs Q w n' (pstp (gOf c) L m).1 (pstp (gOf c) L m).2) := by
  obtain ⟨T, tn, tc, LA, ln, lc, rfl, h1, h2, h3, h4, h5, h6⟩ := hv
  obtain ⟨kd, pc, ts, j, p, x⟩ := m
  have hpc : pc ≤ 4 := wm.pc
  have hp : 0 ≤ p ∧ p ≤ 4294967295 := wm.p
  have htl : ts.length ≤ 4 := wm.tl
  have hj := wm.j
  have hb1 := (Lay.bds hc).p1
  dsimp only at h1 h2 h3 h4 hj
  have hll : (lnkL c).length ≤ 1000000 := by rw [lnk_len]; omega
  obtain ⟨L', y, hy⟩ : ∃ L' y, sstp L x = (L', y) := ⟨_, _, rfl⟩
  have hk : y.k = x.k := by have := sstp_k L x; rw [hy] at this; exact this
  have hcase : pc = 0 ∨ pc = 1 ∨ pc = 2 ∨ pc = 3 ∨ pc = 4 := by omega
  rcases hcase with rfl | rfl | rfl | rfl | rfl
  · have e : pstp (gOf c) L ⟨kd, 0, ts, j, p, x⟩ = (L, ⟨kd, 0, ts, j, p, x⟩) := by simp [pstp]
    rw [e]
    exact rps_0 Q A n cap (packN c) R n' capR L kd ts j p x T tn tc LA ln lc w hR h1 h2 h3 h4 h5 h6
  · obtain ⟨wx, kx, kk, px⟩ := wm.x1 rfl
    dsimp only at wx kx kk px
    have hln : ln ≤ 1000000 := by rw [h3, kx]; exact hll
    have yi := (wx.step ww).i
    rw [hy] at yi
    by_cases hp : y.pc = 0
    · by_cases hi : y.item = 0
      · have e : pstp (gOf c) L ⟨kd, 1, ts, j, p, x⟩ = (L', ⟨kd, 1, ts, j, 0, mPop (spK c)⟩) := by simp [pstp, hy, hp, hi]; rfl
        rw [e]
        exact rps_no1 hc Q A n cap R n' capR L L' kd ts j p x y T tn tc LA ln lc w hA hn hn2 hR hQ h1 h2 h3 h4 hln wx ww (by omega) hy hk yi hp hi h5 h6
      · have e : pstp (gOf c) L ⟨kd, 1, ts, j, p, x⟩ = (L', ⟨kd, 2, ts, j, y.item, y⟩) := by simp [pstp, hy, hp, hi]
        rw [e]
        exact rps_end1 hc Q A n cap R n' capR L L' kd ts j p x y T tn tc LA ln lc w hA hn hn2 hR hQ h1 h2 h3 h4 hln wx ww (by omega) hy hk yi hp hi h5 h6
    · have e : pstp (gOf c) L ⟨kd, 1, ts, j, p, x⟩ = (L', ⟨kd, 1, ts, j, p, y⟩) := by simp [pstp, hy, hp]
      rw [e]
      exact rps_on1 hc Q A n cap R n' capR L L' kd ts j p x y T tn tc LA ln lc w hA hn hn2 hR hQ h1 h2 h3 h4 hln wx ww (by omega) hy hk yi hp h5 h6
  · obtain ⟨jn, rfl⟩ := Int.eq_ofNat_of_zero_le hj.1
    have hjl := hj.2.2 rfl
    by_cases he : jn + 1 = ts.length
    · have e : pstp (gOf c) L ⟨kd, 2, ts, (jn : Int), p, x⟩ = (ptq L (plcc c 13 p (jn : Int)) (ts.getD jn 0), ⟨kd, 3, ts, (jn : Int) + 1, p, x⟩) := by
        have : ((jn : Int) + 1 = (ts.length : Int)) := by omega
        unfold pstp; simp only [if_pos this]; rfl
      rw [e]
      exact rps_put_end Q A n cap R n' capR L kd ts jn p x T tn tc LA ln lc w hA hn hn2 hR hQ h1 h2 h3 h4 (by omega) (by omega) (by omega) h5 h6
    · have e : pstp (gOf c) L ⟨kd, 2, ts, (jn : Int), p, x⟩ = (ptq L (plcc c 13 p (jn : Int)) (ts.getD jn 0), ⟨kd, 2, ts, (jn : Int) + 1, p, x⟩) := by
        have : ¬ ((jn : Int) + 1 = (ts.length : Int)) := by omega
        unfold pstp; simp only [if_neg this]; rfl
      rw [e]
      exact rps_put_on Q A n cap R n' capR L kd ts jn p x T tn tc LA ln lc w hA hn hn2 hR hQ h1 h2 h3 h4 (by omega) (by omega) (by omega) h5 h6
  · have e : pstp (gOf c) L ⟨kd, 3, ts, j, p, x⟩ = (ptq L (plcc c 11 p 0) (ts.length : Int), ⟨kd, 4, ts, j, p, mPush (poK c) p⟩) := by simp [pstp, gOf]
    rw [e]
    exact rps_many hc Q A n cap R n' capR L kd ts j p x T tn tc LA ln lc w hA hn hn2 hR hQ h1 h2 (by omega) hp h5 h6
  · obtain ⟨wx, kx, px⟩ := wm.x4 rfl
    dsimp only at wx kx px
    have hln : ln ≤ 1000000 := by rw [h3, kx]; exact hll
    have yi := (wx.step ww).i
    rw [hy] at yi
    by_cases hp : y.pc = 0
    · have e : pstp (gOf c) L ⟨kd, 4, ts, j, p, x⟩ = (L', ⟨kd, 0, ts, j, y.item, y⟩) := by simp [pstp, hy, hp]
      rw [e]
      exact rps_end4 hc Q A n cap R n' capR L L' kd ts j p x y T tn tc LA ln lc w hA hn hn2 hR hQ h1 h2 h3 h4 hln wx ww (by omega) hy hk yi hp h5 h6
    · have e : pstp (gOf c) L ⟨kd, 4, ts, j, p, x⟩ = (L', ⟨kd, 4, ts, j, p, y⟩) := by simp [pstp, hy, hp]
      rw [e]
      exact rps_on4 hc Q A n cap R n' capR L L' kd ts j p x y T tn tc LA ln lc w hA hn hn2 hR hQ h1 h2 h3 h4 hln wx ww (by omega) hy hk yi hp h5 h6
end Go.Proofs.YtpocihddecemfaaGreat

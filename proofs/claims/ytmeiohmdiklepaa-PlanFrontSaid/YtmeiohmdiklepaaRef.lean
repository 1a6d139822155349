/- The document's own Order, walked. -/
import Derived.Test.YtmeiohmdiklepaaOrder
import Derived.StillTailTactics
import Derived.Deep.Onto
namespace Go.Proofs.Ytmeiohmdiklepaa
open Go.RowKit
set_option linter.unusedVariables false

theorem bound_any (p : Int) (w : World) : Calls Try.prog 19 #[.int .i64 p] w fun e w' => e = .returned (.int .i64 (bnd p)) ∧ w = w' := by
  obtain ⟨q, hq⟩ : ∃ q, q = bnd p := ⟨_, rfl⟩
  rw [← hq]
  have HQ := Lib.hid hq; clear hq
  by_cases h1 : p < 1
  · go_enter Try.func19, Try.ntmps19
    go_wp2
    go_ret
    exact ⟨ret_int (by rw [HQ.out]; unfold bnd; omega), rfl⟩
  by_cases h2 : 1000 < p
  · go_enter Try.func19, Try.ntmps19
    go_wp2
    go_ret
    exact ⟨ret_int (by rw [HQ.out]; unfold bnd; omega), rfl⟩
  · go_enter Try.func19, Try.ntmps19
    go_wp2
    go_ret
    exact ⟨ret_int (by rw [HQ.out]; unfold bnd; omega), rfl⟩

/-- A row of the call's own, which holds these numbers. -/
def Own (B : Nat) (w0 wr : World) (v : Value) (l : List Int) : Prop :=
  wr.ownsRow B 3 1 v l.length (l.map (Value.int .i64)) ∧ Below B w0 wr

theorem own_step {B : Nat} {w0 wr w' : World} {v v' : Value} {l : List Int} {k : Int} {o : Obj} (h : Own B w0 wr v l) (hB : B ≤ w0.heap.size)
    (hown : w'.ownsRow B 3 1 v' (l.length + 1) (l.map (Value.int .i64) ++ [Value.int .i64 k])) (hg : (wr.alloc o).grownBy w' v.ownBlock) : Own B w0 w' v' (l ++ [k]) := by
  refine ⟨by simpa using hown, ?_⟩
  exact (h.2.alloc (Nat.le_trans hB h.2.size) o).grown hg (Nat.le_trans hB (by have := h.2.size; simp; omega)) (fun b hb => (h.1.lt b hb).1)

theorem own_slice {B : Nat} {w0 wr : World} {v : Value} {l : List Int} (h : Own B w0 wr v l) :
    (l = [] ∧ v = .slice none 0 0) ∨ ∃ g cap, v = .slice (some ⟨g, 0, none⟩) l.length cap ∧ l.length ≤ cap ∧ cap ≤ maxLen ∧ g < wr.heap.size ∧ B ≤ g ∧ ∀ i, i < l.length → wr.cell? ⟨g, i, none⟩ = some (.int .i64 (l.getD i 0)) := by
  obtain ⟨ho, hb⟩ := h
  have hlt := ho.lt
  have hcell := fun g (hg : v.ownBlock = some g) => ho.cells hg
  obtain ⟨hl, ⟨h1, h2⟩ | ⟨g, cap, cur, h1, h2, h3, h4, h5, h6, h7⟩⟩ := ho
  · exact .inl ⟨List.eq_nil_of_length_eq_zero h2, h1⟩
  · refine .inr ⟨g, cap, h1, h4, h5, (hlt g (by rw [h1]; rfl)).2, h2, fun i hi => ?_⟩
    have := hcell g (by rw [h1]; rfl) i (.int .i64 (l.getD i 0)) (by simp [hi])
    cases i <;> simpa [Addr.add] using this

theorem map_take_succ (ps : List Int) (k : Nat) (h : k < ps.length) : (ps.take (k + 1)).map bnd = (ps.take k).map bnd ++ [bnd (ps.getD k 0)] := by
  have e : ps.getD k 0 = ps[k] := by simp [List.getD, List.getElem?_eq_getElem h]
  rw [List.take_succ_eq_append_getElem h, List.map_append, e]
  rfl

theorem leastTo_le (d : List Int) : ∀ k, leastTo d k ≤ k
  | 0 => Nat.le_refl _
  | k + 1 => by unfold leastTo; have := leastTo_le d k; split <;> omega

/-- What the rounds hold: the dues in the block g, the turns behind. -/
def Rounds (ps : List Int) (L g cap2 C : Nat) (w : World) (v : Value) (j : Nat) (wr : World) : Prop :=
  wr.ownsRow w.heap.size 3 1 (.slice (some ⟨g, 0, none⟩) L cap2) L ((dueL ps j).map (Value.int .i64)) ∧ wr.ownsRow C 3 1 v j ((outL ps j).map (Value.int .i64)) ∧ Below w.heap.size w wr ∧ C ≤ wr.heap.size

set_option maxHeartbeats 2000000 in
set_option maxRecDepth 100000 in
theorem reforder_any (A : Option Addr) (cap : Nat) (ps : List Int) (n : Int) (w : World) (h : Reads w A ps) (h2 : ps.length ≤ 100) (hn : n ≤ 900) :
    Calls Try.prog 12 #[.slice A ps.length cap, .int .i64 n] w fun e w' => ∃ v, e = .returned v ∧ Own w.heap.size w w' v (orderL ps n) := by
  obtain ⟨L, hL⟩ : ∃ n, n = ps.length := ⟨_, rfl⟩
  by_cases hz : L = 0
  · have e : orderL ps n = [] := by unfold orderL; rw [if_pos (by omega)]
    rw [e, ← hL, hz]
    clear e hL hz
    go_enter Try.func12, Try.ntmps12
    go_wp2
    go_ret
    exact ⟨_, rfl, World.ownsRow_nil _ _ _ _, Below.refl _ _⟩
  have e : orderL ps n = outL ps n.toNat := by unfold orderL; rw [if_neg (by omega)]
  rw [e]
  have h0 : 0 < ps.length := by omega
  have hl2 : ((L : Int) == 0) = false := by rw [beq_eq_false_iff_ne]; omega
  have hl3 : (L == 0) = false := by rw [beq_eq_false_iff_ne]; omega
  have hL100 : L ≤ 100 := by omega
  rw [← hL]
  have HL := Lib.hid hL
  have hc0 : ∀ j, j < L → ∃ b off, A = some ⟨b, off, none⟩ ∧ b < w.heap.size ∧ w.cell? ⟨b, off + j, none⟩ = some (.int .i64 (ps.getD j 0)) := fun j hj => by
    obtain ⟨b, off, e, h1, h2⟩ := h (by have := HL.out; omega)
    exact ⟨b, off, e, h1, h2 j (by have := HL.out; omega)⟩
  have HR := Lib.hid hc0; clear h hc0 e hz hL
  obtain ⟨i0, hi, hz0, hz1, hz2⟩ := info_parts info3
  go_enter Try.func12, Try.ntmps12
  go_wp2
  go_loopw [6, 7] (fun v i wr => ∃ k : Nat, k ≤ L ∧ i = .int .i64 k ∧ Own w.heap.size w wr v ((ps.take k).map bnd)) (fun _ i _ => L - (intOf i).toNat)
  case atStart => exact ⟨0, Nat.zero_le _, rfl, World.ownsRow_nil _ _ _ _, Below.refl _ _⟩
  case round =>
    obtain ⟨k, hk, rfl, ho⟩ := hrel
    by_cases hkL : k < L
    · obtain ⟨b, off, rfl, hlt, hc⟩ := HR.out k hkL
      have hcell := (ho.2.cell (p := ⟨b, off + k, none⟩) hlt).trans hc
      obtain ⟨x, hx⟩ : ∃ x, x = ps.getD k 0 := ⟨_, rfl⟩
      rw [← hx] at hcell
      have HX := Lib.hid hx
      have hlen : ((ps.take k).map bnd).length = k := by simp; have := HL.out; omega
      obtain ⟨D, hD⟩ : ∃ D, D = (ps.take k).map bnd := ⟨_, rfl⟩
      rw [← hD] at ho hlen
      have HD := Lib.hid hD; clear hD
      have HLN := Lib.hid hlen
      have hsz := ho.2.size
      clear hx hc hlen
      go_wp2_with (first
        | (go_at_call 19; (with_reducible refine (bound_any _ _).mono ?_); rintro e w1 ⟨rfl, rfl⟩)
        | (at_builtin; refine wpList_append_own _ rfl _ _ 22 rfl w.heap.size 3 i0 (.int .i64 0) 1 8 Try.underlying22 hi hz0 hz1 hz2 rfl (by decide) _ _ _ rfl (ho.1.alloc _) ⟨wr.heap.size, 0, none⟩ 1 1 [.int .i64 (bnd x)] rfl rfl ?c1 ?c2 ?c3 ?c4 ?c5 ?_))
      case c1 =>
        intro j u hj
        match j, hj with
        | 0, hj => simp at hj; subst hj; simp [Addr.add]
      case c2 => intro u hu; simp at hu; subst hu; rfl
      case c3 => unfold maxLen; have := HLN.out; omega
      case c4 => have := HLN.out; omega
      case c5 => simp; omega
      intro v' w1 hown' hgrow _
      have R := own_step (k := bnd x) ho (Nat.le_refl _) hown' hgrow
      have R2 : Own w.heap.size w w1 v' ((ps.take (k + 1)).map bnd) := by rw [map_take_succ ps k (by have := HL.out; omega), ← HX.out, ← HD.out]; exact R
      clear hown' hgrow hcell R
      go_wp2
      go_roundw
      case rel => exact ⟨k + 1, by omega, by go_num, R2⟩
      case measure => simp [intOf]; omega
    · obtain rfl : k = L := by omega
      have hod : Own w.heap.size w wr u6 (dueL ps 0) := by
        have := ho
        rw [List.take_of_length_le (by have := HL.out; omega)] at this
        exact this
      have hdl : (dueL ps 0).length = k := by rw [due_len]; exact HL.out.symm
      have hkp : 1 ≤ k := by have := HL.out; omega
      rcases own_slice hod with ⟨e, _⟩ | ⟨g, cap2, rfl, hg1, hg2, hg3, hg4, _⟩
      · exact absurd e (by intro e; have := congrArg List.length e; rw [hdl] at this; simp at this; omega)
      have hrow : wr.ownsRow w.heap.size 3 1 (.slice (some ⟨g, 0, none⟩) k cap2) k ((dueL ps 0).map (Value.int .i64)) := by have := hod.1; rw [hdl] at this; exact this
      have hB0 := hod.2
      rw [hdl]
      rw [hdl] at hg1
      clear ho hod hdl
      obtain ⟨C, hC⟩ : ∃ C, C = wr.heap.size := ⟨_, rfl⟩
      have hgC : g < C := by omega
      have hR : Rounds ps k g cap2 C w (.slice none 0 0) 0 wr := ⟨hrow, World.ownsRow_nil _ _ _ _, hB0, by omega⟩
      have hwC : w.heap.size ≤ C := by have := hB0.size; omega
      clear hrow hB0 hC
      go_wp2
      go_loopw [5, 8] (fun v i wr => ∃ j : Nat, j ≤ n.toNat ∧ i = .int .i64 j ∧ Rounds ps k g cap2 C w v j wr) (fun _ i _ => n.toNat - (intOf i).toNat)
      case atStart => exact ⟨0, Nat.zero_le _, rfl, hR⟩
      case round =>
        clear hR
        obtain ⟨j, hj, rfl, hR⟩ := hrel
        by_cases hjn : (j : Int) < n
        · obtain ⟨d, hd⟩ : ∃ d, d = dueL ps j := ⟨_, rfl⟩
          have hdl : d.length = k := by rw [hd, due_len]; exact HL.out.symm
          have hcd : ∀ i, i < k → wr.cell? ⟨g, i, none⟩ = some (.int .i64 (d.getD i 0)) := fun i hi => (hR.1.cellAt i (by omega)).trans (by rw [← hd]; exact map_get d i (by omega))
          have HC := Lib.hid hcd
          have HD := Lib.hid hd
          have HR2 := Lib.hid hR
          clear hcd hd hR
          go_wp2
          go_loopw [9, 10] (fun a b wr2 => ∃ (i q : Nat), 1 ≤ i ∧ i ≤ k ∧ b = .int .i64 i ∧ a = .int .i64 (leastTo d (i - 1)) ∧ wr2 = wr.drewN q) (fun _ b _ => k - (intOf b).toNat)
          case atStart => exact ⟨1, 0, Nat.le_refl _, by omega, rfl, rfl, rfl⟩
          case round =>
            obtain ⟨i, q, hi1, hik, rfl, rfl, rfl⟩ := hrel
            obtain ⟨u, hu⟩ : ∃ u, u = leastTo d (i - 1) := ⟨_, rfl⟩
            have hui : u < i := by have := leastTo_le d (i - 1); omega
            rw [← hu]
            have HU := Lib.hid hu; clear hu
            by_cases hlt : i < k
            · have ci := HC.out i hlt
              have cu := HC.out u (by omega)
              have hk0 : (0 : Int) ≤ (i : Int) := by omega
              have hk1 : (i : Int) < (k : Int) := by omega
              have hu0 : (0 : Int) ≤ (u : Int) := by omega
              have hu1 : (u : Int) < (k : Int) := by omega
              obtain ⟨x, hx⟩ : ∃ x, x = d.getD i 0 := ⟨_, rfl⟩
              obtain ⟨y, hy⟩ : ∃ y, y = d.getD u 0 := ⟨_, rfl⟩
              rw [← hx] at ci
              rw [← hy] at cu
              have HX := Lib.hid hx
              have HY := Lib.hid hy
              clear hx hy
              have hst : leastTo d (i + 1 - 1) = if d.getD i 0 < d.getD (leastTo d (i - 1)) 0 then i else leastTo d (i - 1) := by
                obtain ⟨p, rfl⟩ : ∃ p, i = p + 1 := ⟨i - 1, by omega⟩
                rfl
              rw [← HU.out, ← HX.out, ← HY.out] at hst
              have HST := Lib.hid hst; clear hst
              by_cases hxy : x < y
              · go_wp2
                go_quiet (fail)
                go_wp2
                go_roundw
                case rel => exact ⟨i + 1, _, by omega, by omega, by go_num, by rw [HST.out, if_pos hxy], rfl⟩
                case measure => simp [intOf]; omega
              · go_wp2
                go_quiet (fail)
                go_wp2
                go_roundw
                case rel => exact ⟨i + 1, _, by omega, by omega, by go_num, by rw [HST.out, if_neg (by omega)], rfl⟩
                case measure => simp [intOf]; omega
            · obtain rfl : i = k := by omega
              have hwho : u = who ps j := by rw [HU.out]; unfold who least; rw [← HD.out, hdl]
              have hR := HR2.out
              obtain ⟨b, off, rfl, hbl, hcp0⟩ := HR.out u (by omega)
              have HCP := Lib.hid hcp0
              have hcu := HC.out u (by omega)
              have hlo := out_len ps j
              have hdb := due_bd ps h0 j u (by have := HL.out; omega)
              rw [← HD.out] at hdb
              have hsz := hR.2.2.2
              have hblk := hR.2.1.lt
              have hj2 : j ≤ 900 := by omega
              have hlt2 : b < wr.heap.size := by have := hR.2.2.1.size; omega
              have hrq : (wr.drewN q).ownsRow w.heap.size 3 1 (.slice (some ⟨g, 0, none⟩) i cap2) i ((dueL ps j).map (Value.int .i64)) := hR.1
              have hoq : (wr.drewN q).ownsRow C 3 1 u5 j ((outL ps j).map (Value.int .i64)) := hR.2.1
              have hbq : Below w.heap.size w (wr.drewN q) := below_drewN hR.2.2.1 q
              have hszq : C ≤ (wr.drewN q).heap.size := hsz
              generalize wr.drewN q = wq at hrq hoq hbq hszq ⊢
              have HW := Lib.hid hwho
              have HLO := Lib.hid hlo
              clear hwho hR hcp0 hcu hlo
              go_wp2_with (at_builtin; refine wpList_append_own _ rfl _ _ 22 rfl C 3 i0 (.int .i64 0) 1 8 Try.underlying22 hi hz0 hz1 hz2 rfl (by decide) _ _ _ rfl (hoq.alloc _) ⟨wq.heap.size, 0, none⟩ 1 1 [.int .i64 (u : Int)] rfl rfl ?d1 ?d2 ?d3 ?d4 ?d5 ?_)
              case d1 =>
                intro j u hj
                match j, hj with
                | 0, hj => simp at hj; subst hj; simp [Addr.add]
              case d2 => intro u hu; simp at hu; subst hu; rfl
              case d3 => unfold maxLen; omega
              case d4 => omega
              case d5 => simp; omega
              intro v' w1 hown' hgrow _
              have hne : ∀ r, u5.ownBlock = some r → C ≤ r ∧ r < wq.heap.size := fun r hr => hoq.lt r hr
              have hgq : g < wq.heap.size := by omega
              have hrow1 := (hrq.alloc (.cells #[.int .i64 (u : Int)] 3)).kept hgrow (by
                refine .inr fun e => ?_
                have := hne g e.symm
                omega)
              have hb1 := (hbq.alloc hbq.size (.cells #[.int .i64 (u : Int)] 3)).grown hgrow (by have := hbq.size; simp; omega) (fun r hr => by have := hne r hr; omega)
              have hblk1 := hown'.lt
              have hown1 : w1.ownsRow C 3 1 v' (j + 1) ((outL ps (j + 1)).map (Value.int .i64)) := by rw [out_succ, List.map_append, ← HW.out]; exact hown'
              have hcu1 : w1.cell? ⟨g, u, none⟩ = some (.int .i64 (d.getD u 0)) := (hrow1.cellAt u (by omega)).trans (by rw [← HD.out]; exact map_get d u (by omega))
              have hfu1 := hrow1.frozenAt u
              have hcp1 := (hb1.cell (p := ⟨b, off + u, none⟩) hbl).trans HCP.out
              have hst := hrow1.stored u (.int .i64 (d.getD u 0 + bnd (ps.getD u 0)))
              have hbs := hb1.setCell (p := ⟨g, u, none⟩) hg4 (.int .i64 (d.getD u 0 + bnd (ps.getD u 0)))
              have hdn : (d.set u (d.getD u 0 + bnd (ps.getD u 0))) = dueL ps (j + 1) := by rw [HW.out, HD.out]; rfl
              have HOut : Hid (Rounds ps i g cap2 C w v' (j + 1) (w1.setCell ⟨g, u, none⟩ (.int .i64 (d.getD u 0 + bnd (ps.getD u 0)))).drew) := Lib.hid (by
                refine ⟨?_, ?_, hbs.drew, ?_⟩
                · rw [← hdn, List.map_set]
                  have := hst.1
                  rw [← HD.out] at this
                  exact this
                · exact (hown1.kept (grown_trans hst.2 (grown_drew _ _)) (.inr (fun e => by have := (hblk1 g e).1; omega)))
                · have := hgrow.size; have := hst.2.size; simp at *; omega)
              have hbb := bnd_bd (ps.getD u 0)
              obtain ⟨x, hx⟩ : ∃ x, x = d.getD u 0 := ⟨_, rfl⟩
              obtain ⟨y, hy⟩ : ∃ y, y = ps.getD u 0 := ⟨_, rfl⟩
              rw [← hx, ← hy] at HOut
              rw [← hx] at hcu1 hdb
              rw [← hy] at hcp1 hbb
              clear hrow1 hown1 hst hbs hdn hown' hgrow hx hy hrq hoq hbq hb1
              have hu0 : (0 : Int) ≤ (u : Int) := by omega
              have hu1 : (u : Int) < (i : Int) := by omega
              have hwr : IntKind.i64.wrap (x + bnd y) = x + bnd y := IntWalk.i64_in _ (by omega)
              go_wp2
              go_still_tail 11, (by kernel_rfl)
              still_call ((bound_any y _).mono fun e w' ⟨he, hw⟩ => ⟨he, hw.symm⟩)
              repeat still_step
              refine wpStill_nil ?_
              change wpList _ _ _ _ _ w1.drew
              have HJ2 : j + 1 ≤ n.toNat := by omega
              clear hwr
              go_wp2
              go_roundw
              case rel => exact ⟨j + 1, HJ2, by go_num, HOut.out⟩
              case measure => simp [intOf]; omega
        · obtain rfl : j = n.toNat := by omega
          have e : (outL ps n.toNat).length = n.toNat := out_len _ _
          have HO : Hid (Own w.heap.size w wr u5 (outL ps n.toNat)) := Lib.hid ⟨by rw [e]; exact hR.2.1.mono hwC, hR.2.2.1⟩
          clear e hR
          go_wp2
          go_ret
          exact ⟨_, rfl, HO.out⟩
end Go.Proofs.Ytmeiohmdiklepaa

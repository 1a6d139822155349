/- The call of the law of what can't be come to. -/
import Derived.Test.YtjnkcomedcbenaaGOps5
namespace Go.Proofs.Ytjnkcomedcbenaa
open Go.RowKit
set_option linter.unusedVariables false

theorem gone_list {g : Gr} (hk : Ok g) (x : Op5) (v : Int) (h : v ∈ reachL (gPlay g x).1) (hv : v ≤ (g.nodes.length : Int)) : v ∈ reachL g :=
  (mem_reachL hk).2 (gone_play hk x ((mem_reachL (ok_play hk x)).1 h) hv)
theorem num_mem {l : List Int} {j : Nat} (h : j < l.length) : num l j ∈ l := by
  have : num l j = l[j] := by simp [num, List.getD, h]
  rw [this]; exact List.getElem_mem h
theorem rise_lt {l : List Int} (h : l.Pairwise (· < ·)) {i j : Nat} (hij : i < j) (hj : j < l.length) : num l i < num l j := by
  have h1 := (List.pairwise_iff_getElem.1 h) i j (by omega) hj hij
  have e1 : num l i = l[i] := by simp [num, List.getD, show i < l.length by omega]
  have e2 : num l j = l[j] := by simp [num, List.getD, hj]
  rw [e1, e2]; exact h1
/-- Where the pointer stops a rising list has what it has. -/
theorem found {l : List Int} (hr : l.Pairwise (· < ·)) {x : Int} (hx : x ∈ l) {k : Nat} (hk : ∀ i, i < k → num l i < x) : k < l.length ∧ (¬ num l k < x → num l k = x) := by
  obtain ⟨p, hp, rfl⟩ := List.getElem_of_mem hx
  have e : num l p = l[p] := by simp [num, List.getD, hp]
  have hkp : k ≤ p := by
    rcases Nat.lt_or_ge p k with h | h
    · have := hk p h; omega
    · exact h
  refine ⟨by omega, fun hn => ?_⟩
  rcases Nat.lt_or_ge k p with h | h
  · have := rise_lt hr h hp; omega
  · obtain rfl : k = p := by omega
    exact e

/-- A graph of the call's own, and a list that it told. -/
structure Gu (w0 w : World) (S : Nat) (T F : Nat → Prop) (g : Gr) (u : Value) (xs : List Int) : Prop where
  own : GOwn w0 w S T F g
  row : RowV (fun k => ¬ F k) w u xs
section
variable {w0 w w' : World} {S : Nat} {T F : Nat → Prop} {g g' : Gr} {u : Value} {xs : List Int}
theorem Gu.step (h : Gu w0 w S T F g u xs) (hb : Below w.heap.size w w') : Gu w0 w' S T F g u xs := ⟨h.own.step hb, h.row.kept (Kept.below hb)⟩
theorem row_op {F F' : Nat → Prop} (h : RowV (fun k => ¬ F k) w u xs) (hu : UpdF F w w') (hF : ∀ k, F' k → F k ∨ w.heap.size ≤ k) : RowV (fun k => ¬ F' k) w' u xs :=
  ((h.to (Q := fun k => ¬ F k ∧ ¬ F' k) fun b hlt hb => ⟨hb, fun hf => by
    rcases hF b hf with h1 | h1
    · exact hb h1
    · omega⟩).kept (hu.kept fun k h => h.1)).to fun b _ h => h.2
end

/-- And another list. -/
structure Gv (w0 w : World) (S : Nat) (T F : Nat → Prop) (g : Gr) (u : Value) (xs : List Int) (v : Value) (ys : List Int) : Prop where
  own : GOwn w0 w S T F g
  row : RowV (fun k => ¬ F k) w u xs
  row2 : RowV (fun k => ¬ F k) w v ys
theorem Gv.step {w0 w w' : World} {S : Nat} {T F : Nat → Prop} {g : Gr} {u v : Value} {xs ys : List Int} (h : Gv w0 w S T F g u xs v ys) (hb : Below w.heap.size w w') : Gv w0 w' S T F g u xs v ys := ⟨h.own.step hb, h.row.kept (Kept.below hb), h.row2.kept (Kept.below hb)⟩
/-- The cell of a list at a place. -/
theorem row_cell {P : Nat → Prop} {w : World} {A : Option Addr} {n c : Nat} {xs : List Int} (h : RowV P w (.slice A n c) xs) (j : Nat) (hj : j < xs.length) : ∃ b off, A = some ⟨b, off, none⟩ ∧ w.cell? ⟨b, off + j, none⟩ = some (.int .i64 (num xs j)) := by
  obtain ⟨B, d, e, hr, _⟩ := h
  cases e
  obtain ⟨b, off, e, _, hc⟩ := hr (by omega)
  exact ⟨b, off, e, hc j hj⟩

set_option maxHeartbeats 16000000 in
set_option maxRecDepth 100000 in
theorem walkGone (A : Option Addr) (n capA : Nat) (l : List Op5) (B : Option Addr) (m capB : Nat) (more : List Op5) (w : World) (ha : IsOps w A n capA l) (hb : IsOps w B m capB more) :
    Calls Try.prog 4 #[.slice A n capA, .slice B m capB] w fun e w' => e = .returned (.bool true) ∧ Below w.heap.size w w' := by
  obtain ⟨hra, hal, _, _, hwa⟩ := ha
  obtain ⟨hrb, hbl, _, _, hwb⟩ := hb
  by_cases h60 : 60 < n
  · have h60' : (60 : Int) < (n : Int) := by omega
    clear hra hal hwa hrb hbl hwb
    go_enter Try.func4, Try.ntmps4
    go_wp2_with (first
      | (go_at_call 10; (with_reducible refine (awake_any _).mono ?_); rintro r w1 ⟨rfl, hb⟩)
      | fail)
    go_ret
    exact ⟨rfl, hb⟩
  have h60' : ¬ (60 : Int) < (n : Int) := by omega
  by_cases h61 : 60 < m
  · have h61' : (60 : Int) < (m : Int) := by omega
    clear hra hal hwa hrb hbl hwb
    go_enter Try.func4, Try.ntmps4
    go_wp2_with (first
      | (go_at_call 10; (with_reducible refine (awake_any _).mono ?_); rintro r w1 ⟨rfl, hb⟩)
      | fail)
    go_ret
    exact ⟨rfl, hb⟩
  have h61' : ¬ (60 : Int) < (m : Int) := by omega
  have hn60 : n ≤ 60 := by omega
  have hm60 : m ≤ 60 := by omega
  have HA := Lib.hid hra; have HB := Lib.hid hrb; have HAL := Lib.hid hal; have HBL := Lib.hid hbl
  clear hra hrb hal hbl hwa hwb h60 h61
  obtain ⟨G0, hG0⟩ : ∃ G0, G0 = gNew 3 6 3 := ⟨_, rfl⟩
  have HG0 := Lib.hid hG0
  have HN0 : Hid (G0.nodes.length = 1) := Lib.hid (by rw [hG0]; rfl)
  clear hG0
  go_enter Try.func4, Try.ntmps4
  go_wp2_with (first
    | (go_at_call 10; (with_reducible refine (awake_any _).mono ?_); rintro r w1 ⟨rfl, hb⟩; have HBW := Lib.hid hb; clear hb)
    | (go_at_call 11; (with_reducible refine (new_q HBW.out 3 6 3 (by decide) (by decide)).mono ?_); rintro r w2 ⟨S, T, F, rfl, hg, -⟩; rw [← HG0.out] at hg; have HK := Lib.hid hg; clear hg HBW)
    | fail)
  go_loopw [7] (fun iv wr => ∃ (k : Nat) (T' F' : Nat → Prop), k ≤ n ∧ iv = .int .i64 (k : Int) ∧ GOwn w wr S T' F' (opsTo G0 l k)) (fun iv _ => n - (RowKit.intOf iv).toNat)
  case atStart => exact ⟨0, T, F, Nat.zero_le _, rfl, HK.out⟩
  case round =>
    clear HK
    obtain ⟨k, T', F', hk, rfl, hg⟩ := hrel
    by_cases hlt : k < n
    · obtain ⟨b, off, hA, c0, c1, c2, c3, c4⟩ := (HA.out.below hg.bel).at' k (by rw [HAL.out]; exact hlt)
      subst hA
      obtain ⟨x, hx⟩ : ∃ x, x = atO l k := ⟨_, rfl⟩
      rw [← hx] at c0 c1 c2 c3 c4
      have hsucc : (gPlay (opsTo G0 l k) x).1 = opsTo G0 l (k + 1) := by rw [hx]; rfl
      obtain ⟨g', y, z, hp⟩ : ∃ g' y z, gPlay (opsTo G0 l k) x = (g', y, z) := ⟨_, _, _, rfl⟩
      rw [hp] at hsucc
      have HP := Lib.hid hp; have HS : Hid (g' = opsTo G0 l (k + 1)) := Lib.hid hsucc
      have HNN : Hid ((opsTo G0 l k).nodes.length ≤ 1000) := Lib.hid (by have := (opsTo_near G0 l k).1; have := HN0.out; omega)
      have HG := Lib.hid hg
      obtain ⟨xd, xm, xa, xi, xb⟩ := x
      have hk0 : (0 : Int) ≤ (k : Int) := by omega
      have hk1 : (k : Int) < (n : Int) := by omega
      clear hx hp hsucc hg hlt
      go_wp2_with (first
        | (go_at_call 13; (with_reducible refine (play_q HG.out HNN.out ⟨xd, xm, xa, xi, xb⟩ HP.out).mono ?_); rintro r w3 ⟨T2, F2, rfl, hg, -⟩; rw [HS.out] at hg; have HG2 := Lib.hid hg; clear hg c0 c1 c2 c3 c4)
        | fail)
      go_roundw
      case rel => exact ⟨k + 1, T2, F2, by omega, by go_num, HG2.out⟩
      case measure => simp [RowKit.intOf]; omega
    · obtain rfl : k = n := by omega
      obtain ⟨G1, hG1⟩ : ∃ G1, G1 = opsTo G0 l k := ⟨_, rfl⟩
      rw [← hG1] at hg
      have HN1 : Hid (G1.nodes.length ≤ 61) := Lib.hid (by have := (opsTo_near G0 l k).1; have := HN0.out; rw [hG1]; omega)
      have HN2 : Hid (G1.nodes.length ≤ 1000) := Lib.hid (by have := HN1.out; omega)
      have HG := Lib.hid hg
      clear hg hG1 hlt
      go_wp2_with (first
        | (go_at_call 21; (with_reducible refine (reach_p HG.out.gp HG.out.ok HG.out.mo HN2.out).mono ?_); rintro r w4 ⟨u, rfl, hu, hb⟩; have HU : Hid (Gu w w4 S T' F' G1 u (reachL G1)) := Lib.hid ⟨HG.out.step hb, hu⟩; clear hu hb)
        | (go_at_call 19; (with_reducible refine (nodes_p HU.out.own.gp HU.out.own.ok HU.out.own.mo HN2.out).mono ?_); rintro r w5 ⟨rfl, hb⟩; have HU := Lib.hid (HU.out.step hb); clear hb)
        | fail)
      go_loopw [8, 9, 10] (fun uv nv iv wx => ∃ (i : Nat) (T F : Nat → Prop), i ≤ m ∧ iv = .int .i64 (i : Int) ∧ nv = .int .i64 ((opsTo G1 more i).nodes.length : Int) ∧ Gu w wx S T F (opsTo G1 more i) uv (reachL (opsTo G1 more i))) (fun _ _ iv _ => m - (RowKit.intOf iv).toNat)
      case atStart => exact ⟨0, T', F', Nat.zero_le _, rfl, rfl, HU.out⟩
      case round =>
        clear HU HG
        obtain ⟨i, T3, F3, hi, rfl, rfl, hgu⟩ := hrel
        rename_i u
        by_cases hlt : i < m
        · obtain ⟨Au, cu, rfl, -⟩ := hgu.row
          obtain ⟨b, off, hA, c0, c1, c2, c3, c4⟩ := (HB.out.below hgu.own.bel).at' i (by rw [HBL.out]; exact hlt)
          subst hA
          obtain ⟨x, hx⟩ : ∃ x, x = atO more i := ⟨_, rfl⟩
          rw [← hx] at c0 c1 c2 c3 c4
          have hsucc : (gPlay (opsTo G1 more i) x).1 = opsTo G1 more (i + 1) := by rw [hx]; rfl
          have hgl := fun v => gone_list hgu.own.ok x v
          have hok := hgu.own.ok
          rw [hsucc] at hgl
          obtain ⟨g', y, z, hp⟩ : ∃ g' y z, gPlay (opsTo G1 more i) x = (g', y, z) := ⟨_, _, _, rfl⟩
          rw [hp] at hsucc
          have hsucc' : g' = opsTo G1 more (i + 1) := hsucc
          have HP := Lib.hid hp; have HS := Lib.hid hsucc'
          have HNN : Hid ((opsTo G1 more i).nodes.length ≤ 1000) := Lib.hid (by have := (opsTo_near G1 more i).1; have := HN1.out; omega)
          have HNN2 : Hid ((opsTo G1 more (i + 1)).nodes.length ≤ 1000) := Lib.hid (by have := (opsTo_near G1 more (i + 1)).1; have := HN1.out; omega)
          obtain ⟨X, hX⟩ : ∃ X, X = reachL (opsTo G1 more i) := ⟨_, rfl⟩
          obtain ⟨Y, hY⟩ : ∃ Y, Y = reachL (opsTo G1 more (i + 1)) := ⟨_, rfl⟩
          obtain ⟨N, hN⟩ : ∃ N, N = (opsTo G1 more i).nodes.length := ⟨_, rfl⟩
          rw [← hX] at hgu hgl ⊢
          rw [← hY] at hgl
          rw [← hN] at hgl ⊢
          have HXr : Hid (X.Pairwise (· < ·)) := Lib.hid (by rw [hX]; exact reach_rise _ _)
          have HYr : Hid (Y.Pairwise (· < ·)) := Lib.hid (by rw [hY]; exact reach_rise _ _)
          obtain ⟨px, hpx⟩ : ∃ px, px = X.length := ⟨_, rfl⟩
          obtain ⟨py, hpy⟩ : ∃ py, py = Y.length := ⟨_, rfl⟩
          rw [← hpx] at hgu ⊢
          have HPX := Lib.hid hpx; have HPY := Lib.hid hpy; have HY := Lib.hid hY; have HGL := Lib.hid hgl
          have hpx1 : px ≤ 1000 := by rw [hpx, hX]; have := reach_len (opsTo G1 more i) (opsTo G1 more i).nodes.length; have := HNN.out; unfold reachL; omega
          have hpy1 : py ≤ 1000 := by rw [hpy, hY]; have := reach_len (opsTo G1 more (i + 1)) (opsTo G1 more (i + 1)).nodes.length; have := HNN2.out; unfold reachL; omega
          have HG := Lib.hid hgu
          obtain ⟨xd, xm, xa, xi, xb⟩ := x
          have hi0 : (0 : Int) ≤ (i : Int) := by omega
          have hi1 : (i : Int) < (m : Int) := by omega
          clear hx hp hsucc hsucc' hgu hlt hgl hok hX hY hN hpx hpy
          go_wp2_with (first
            | (go_at_call 13; (with_reducible refine (play_q HG.out.own HNN.out ⟨xd, xm, xa, xi, xb⟩ HP.out).mono ?_); rintro r w3 ⟨T4, F4, rfl, hg, hu, hF, -⟩; rw [HS.out] at hg; have HG2 : Hid (Gu w w3 S T4 F4 (opsTo G1 more (i + 1)) _ X) := Lib.hid ⟨hg, row_op HG.out.row hu hF⟩; clear hg hu hF c0 c1 c2 c3 c4)
            | (go_at_call 21; (with_reducible refine (reach_p HG2.out.own.gp HG2.out.own.ok HG2.out.own.mo HNN2.out).mono ?_); rintro r w6 ⟨v, rfl, hv, hb⟩; rw [← HY.out] at hv; obtain ⟨Av, cv, rfl, -⟩ := id hv; rw [← HPY.out] at hv ⊢; have HV : Hid (Gv w w6 S T4 F4 (opsTo G1 more (i + 1)) (.slice Au px cu) X (.slice Av py cv) Y) := Lib.hid ⟨HG2.out.own.step hb, HG2.out.row.kept (Kept.below hb), hv⟩; clear hv hb)
            | fail)
          go_loopw [12, 13] (fun kv jv wy => ∃ k j : Nat, k ≤ px ∧ j ≤ py ∧ kv = .int .i64 (k : Int) ∧ jv = .int .i64 (j : Int) ∧ (∀ i, i < k → ∀ j', j ≤ j' → j' < py → num X i < num Y j') ∧ Gv w wy S T4 F4 (opsTo G1 more (i + 1)) (.slice Au px cu) X (.slice Av py cv) Y) (fun _ jv _ => py - (RowKit.intOf jv).toNat)
          case atStart => exact ⟨0, 0, Nat.zero_le _, Nat.zero_le _, rfl, rfl, fun i h => by omega, HV.out⟩
          case round =>
            clear HV HG2 HG
            obtain ⟨k, j, hk, hj, rfl, rfl, hinv, hgv⟩ := hrel
            have HE : Hid (∀ wz, Gv w wz S T4 F4 (opsTo G1 more (i + 1)) (.slice Au px cu) X (.slice Av py cv) Y → Gu w wz S T4 F4 (opsTo G1 more (i + 1)) (.slice Av py cv) (reachL (opsTo G1 more (i + 1)))) := Lib.hid fun wz h => ⟨h.own, by rw [← HY.out]; exact h.row2⟩
            by_cases hjy : j < py
            · obtain ⟨b2, off2, rfl, hcy⟩ := row_cell hgv.row2 j (by rw [← HPY.out]; exact hjy)
              have hym : num Y j ∈ Y := num_mem (by rw [← HPY.out]; exact hjy)
              obtain ⟨x, hx⟩ : ∃ x, x = num Y j := ⟨_, rfl⟩
              rw [← hx] at hcy hym
              have hj0 : (0 : Int) ≤ (j : Int) := by omega
              have hj1 : (j : Int) < (py : Int) := by omega
              have hj2 : decide (j < py) = true := by simpa using hjy
              by_cases hxN : x ≤ (N : Int)
              · have hxX := HGL.out x (by rw [hx] at hym ⊢; exact hym) hxN
                have hlt0 : ∀ i, i < k → num X i < x := fun i hi => by rw [hx]; exact hinv i hi j (Nat.le_refl _) hjy
                have hxN2 : decide (x ≤ (N : Int)) = true := by simpa using hxN
                have HW := Lib.hid hgv; have H0 := Lib.hid hlt0; have HX := Lib.hid hx; have HM := Lib.hid hxX
                clear hgv hinv hx hym hjy hlt0 hxX
                go_wp2_with (fail)
                clear hcy
                go_loopw [12] (fun kv wz => ∃ k : Nat, k ≤ px ∧ kv = .int .i64 (k : Int) ∧ (∀ i, i < k → num X i < x) ∧ Gv w wz S T4 F4 (opsTo G1 more (i + 1)) (.slice Au px cu) X (.slice (some ⟨b2, off2, none⟩) py cv) Y) (fun kv _ => px - (RowKit.intOf kv).toNat)
                case atStart => exact ⟨k, hk, rfl, H0.out, HW.out⟩
                case round =>
                  clear HW H0
                  rename_i k0 _ _ _ _ _
                  obtain ⟨k, hk, rfl, hlt0, hgv⟩ := hrel
                  obtain ⟨hkl, hfound⟩ := found HXr.out HM.out hlt0
                  rw [← HPX.out] at hkl
                  obtain ⟨b1, off1, rfl, hcx⟩ := row_cell hgv.row k (by rw [← HPX.out]; exact hkl)
                  obtain ⟨b3, off3, e3, hcy⟩ := row_cell hgv.row2 j (by rw [← HPY.out]; omega)
                  cases e3
                  rw [← HX.out] at hcy
                  obtain ⟨y, hy⟩ : ∃ y, y = num X k := ⟨_, rfl⟩
                  rw [← hy] at hcx hfound
                  have hk0 : (0 : Int) ≤ (k : Int) := by omega
                  have hk1 : (k : Int) < (px : Int) := by omega
                  have hk2 : decide (k < px) = true := by simpa using hkl
                  have hk3 : decide (px ≤ k) = false := by simp; omega
                  have HW := Lib.hid hgv; have HL0 := Lib.hid hlt0; have HYE := Lib.hid hy
                  have hud : ∀ b, (undef = Value.bool b) = False := fun b => eq_false (fun h => by cases h)
                  have hud2 : ∀ b, (some undef = some (Value.bool b)) = False := fun b => eq_false (fun h => by cases h)
                  by_cases hyx : y < x
                  · have ht : decide (y < x) = true := by simpa using hyx
                    clear hgv hlt0 hfound hy
                    go_wp2_with (fail)
                    go_quiet (fail)
                    go_wp2_with (fail)
                    clear hcx hcy
                    go_roundw
                    case rel =>
                      refine ⟨k + 1, by omega, by go_num, fun i hi => ?_, HW.out.step (below_drewN (Below.refl _ _) _)⟩
                      by_cases e : i = k
                      · subst e; rw [← HYE.out]; exact hyx
                      · exact HL0.out i (by omega)
                    case measure => simp [RowKit.intOf]; omega
                  · have ht : decide (y < x) = false := by simpa using hyx
                    have hyx2 := hfound hyx
                    have ht2 : (y != x) = false := by simp [hyx2]
                    have HYX := Lib.hid hyx2
                    clear hgv hlt0 hfound hy hyx2 hyx
                    go_wp2_with (fail)
                    go_quiet (fail)
                    go_wp2_with (fail)
                    go_quiet (fail)
                    go_wp2_with (fail)
                    clear hcx hcy
                    go_roundw
                    case rel =>
                      refine ⟨k, j + 1, by omega, by omega, rfl, by go_num, fun i hi j' h1 h2 => ?_, (HW.out.step (below_drewN (Below.refl _ _) _))⟩
                      have h3 := HL0.out i hi
                      have h4 := rise_lt HYr.out (show j < j' by omega) (by rw [← HPY.out]; exact h2)
                      rw [← HX.out] at h4
                      omega
                    case measure => simp [RowKit.intOf]; omega
              · have hxN2 : decide (x ≤ (N : Int)) = false := by simpa using hxN
                have hxN3 : (N : Int) < x := by omega
                have HW := Lib.hid hgv
                clear hgv hinv hx hym hxN hjy
                go_wp2_with (first
                  | (go_at_call 19; (with_reducible refine (nodes_p HW.out.own.gp HW.out.own.ok HW.out.own.mo HNN2.out).mono ?_); rintro r w7 ⟨rfl, hb⟩; have HF := Lib.hid (HE.out _ (HW.out.step hb)); clear hb)
                  | fail)
                clear hcy
                go_roundw
                case rel => exact ⟨i + 1, T4, F4, by omega, by go_num, rfl, HF.out⟩
                case measure => simp [RowKit.intOf]; omega
            · obtain rfl : j = py := by omega
              have HW := Lib.hid hgv
              have hj2 : decide (j < j) = false := by simp
              clear hgv hinv hjy
              go_wp2_with (first
                | (go_at_call 19; (with_reducible refine (nodes_p HW.out.own.gp HW.out.own.ok HW.out.own.mo HNN2.out).mono ?_); rintro r w7 ⟨rfl, hb⟩; have HF := Lib.hid (HE.out _ (HW.out.step hb)); clear hb)
                | fail)
              go_roundw
              case rel => exact ⟨i + 1, T4, F4, by omega, by go_num, rfl, HF.out⟩
              case measure => simp [RowKit.intOf]; omega
        · obtain rfl : i = m := by omega
          have HF := Lib.hid hgu
          clear hgu hlt
          go_wp2_with (fail)
          go_ret
          exact ⟨rfl, HF.out.own.bel⟩
end Go.Proofs.Ytjnkcomedcbenaa

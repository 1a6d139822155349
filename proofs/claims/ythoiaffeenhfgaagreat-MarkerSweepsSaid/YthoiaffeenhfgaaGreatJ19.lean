/-  -/
import Derived.Test.YthoiaffeenhfgaaGreatPkD
namespace Go.Proofs.YthoiaffeenhfgaaGreat
open Go.RowKit
set_option linter.unusedVariables false
set_option linter.unusedSimpArgs false
open Lay (plcc plc shOf packN nodesN OkC Cfg Norm firstV Rep lenL things)
set_option maxHeartbeats 1000000 in
theorem pstep_raw (w : World) (X S f : Nat) (c5 : w.cell? ⟨X, 5, none⟩ = some (fnv f X)) (hen : ∀ a w, (callFunc f a).run Tryz.prog w = .ok (.enter f a) w) (b : Bool) (Q : World → Prop)
    (HN : Calls Tryz.prog f #[ptr X, ptr S] w fun e w' => e = .returned (.tuple #[]) ∧ Q w') (hQ : ∀ w', Q w' → (b = true ∧ w'.cell? ⟨X, 5, none⟩ = some .nilFunc) ∨ (b = false ∧ ∃ f', w'.cell? ⟨X, 5, none⟩ = some (fnv f' X))) :
    Calls Tryz.prog 60 #[ptr X, ptr S] w fun e w' => e = .returned (.bool b) ∧ Q w' := by
  cases b
  · have HNN := Lib.hid HN; have HQ := Lib.hid hQ; clear HN hQ
    go_enter Tryz.func60, Tryz.ntmps60
    go_wp2_with (first
      | ((with_reducible refine HNN.out.mono ?_); rintro r w1 ⟨rfl, hk⟩; have HK := Lib.hid hk; obtain ⟨f', d4⟩ : ∃ f', w1.cell? ⟨X, 5, none⟩ = some (fnv f' X) := (by rcases HQ.out w1 hk with ⟨h, _⟩ | ⟨_, h⟩; cases h; exact h); clear hk)
      | fail)
    go_ret
    exact ⟨rfl, HK.out⟩
  · have HNN := Lib.hid HN; have HQ := Lib.hid hQ; clear HN hQ
    go_enter Tryz.func60, Tryz.ntmps60
    go_wp2_with (first
      | ((with_reducible refine HNN.out.mono ?_); rintro r w1 ⟨rfl, hk⟩; have HK := Lib.hid hk; have d4 : w1.cell? ⟨X, 5, none⟩ = some .nilFunc := (by rcases HQ.out w1 hk with ⟨_, h⟩ | ⟨h, _⟩; exact h; cases h); clear hk)
      | fail)
    go_ret
    exact ⟨rfl, HK.out⟩
set_option maxHeartbeats 1000000 in
theorem pstep_off (w : World) (X : Nat) (v : Value) (c5 : w.cell? ⟨X, 5, none⟩ = some .nilFunc) :
    Calls Tryz.prog 60 #[ptr X, v] w fun e w' => e = .returned (.bool true) ∧ w = w' := by
  go_enter Tryz.func60, Tryz.ntmps60
  go_wp2
  go_ret
  exact ⟨rfl, rfl⟩
set_option maxHeartbeats 1000000 in
theorem packet_raw (w : World) (X : Nat) (pk : Int) (c6 : w.cell? ⟨X, 6, none⟩ = some (.int .i64 pk)) :
    Calls Tryz.prog 172 #[ptr X] w fun e w' => e = .returned (.int .i64 pk) ∧ w = w' := by
  go_enter Tryz.func172, Tryz.ntmps172
  go_wp2
  go_ret
  exact ⟨rfl, rfl⟩
theorem packet_pk {w : World} {X N : Nat} {O D : Nat → Prop} {c : Cfg} {m : Pm} {t : Int} (h : PKM w X O D c N m) (wm : PW c t m) :
    Calls Tryz.prog 172 #[ptr X] w fun e w' => e = .returned (.int .i64 (pPacket m)) ∧ w = w' := by
  obtain ⟨h1, h2, h3, h4, T, pu, tk, ot, nx, pk, h5, h6⟩ := h
  have c6 : w.cell? ⟨X, 6, none⟩ = some (.int .i64 pk) := by unfold Pmem at h5; simp [World.cell?, h5]
  have e : pPacket m = pk := by
    unfold pPacket
    rcases h6 with ⟨a, b, c⟩ | ⟨a, b, c, d⟩ | ⟨a, b, c, d⟩ | ⟨a, b, c, d⟩ | ⟨a, b, c, d⟩
    · rw [if_neg (by omega)]; exact c.symm
    all_goals rw [if_pos (by omega)]; exact c.symm
  rw [e]
  exact packet_raw w X pk c6
def pcost (m : Pm) (cc : Int) : Int := if m.pc = 0 then cc else cc + 1
def Behind (w : World) (S D : Nat) (c : Cfg) (N X : Nat) (O Dp : Nat → Prop) (L : List Int) (cc : Int) (m : Pm) (w' : World) : Prop :=
  (∃ O' D', PKM w' X O' D' c N m ∧ (∀ k, O' k → O k ∨ w.heap.size ≤ k) ∧ (∀ k, D' k → Dp k ∨ w.heap.size ≤ k)) ∧ St w' S D L cc ∧ UF (fun k => k = S ∨ k = D ∨ O k) w w'
theorem Pxs.start {w : World} {X S D N : Nat} {c : Cfg} {O Dp : Nat → Prop} {m : Pm} {T : Value} {pu tk : Int} {ot nx : Value} {pk : Int} {L : List Int} {cc : Int} (h0 : X ≠ N) (h1 : O X) (h2 : ∀ k, O k → Dp k) (h5 : Pmem w X N T pu tk ot nx pk) (hs : St w S D L cc) (hm : Lay.IsMap w N c) (a1 : ¬ Dp S) (a2 : ¬ Dp D) (a4 : N ≠ S) (a5 : N ≠ D) :
    Pxs w w X S D N c (fun k => k = S ∨ k = D ∨ O k) T pu tk ot nx pk L cc :=
  ⟨⟨h5, hm, Ne.symm h0, .inr (.inr h1), .refl _ _⟩, hs, ⟨fun e => a1 (e ▸ h2 X h1), fun e => a2 (e ▸ h2 X h1), a4, a5⟩, .inl rfl, .inr (.inl rfl)⟩
theorem Pxs.toB0 {w w' : World} {X S D N : Nat} {c : Cfg} {O Dp : Nat → Prop} {m : Pm} {T : Value} {pu tk : Int} {ot nx : Value} {pk : Int} {L : List Int} {cc : Int} (h : Pxs w w' X S D N c (fun k => k = S ∨ k = D ∨ O k) T pu tk ot nx pk L cc) (h1 : O X) (h2 : ∀ k, O k → Dp k) (h4 : ∀ k, Dp k → k < w.heap.size)
    (O' : Nat → Prop) (hO : O' X) (hO2 : ∀ k, O' k → (O k ∨ w.heap.size ≤ k) ∧ k < w'.heap.size) (hc : CellsT w' X N O' (fun k => Dp k ∨ O' k) m T pu tk ot nx pk) : Behind w S D c N X O Dp L cc m w' := by
  have hu := h.x.u.size
  refine ⟨⟨O', fun k => Dp k ∨ O' k, ⟨Ne.symm h.x.ne, hO, fun k hk => .inr hk, fun k hk => ?_, T, pu, tk, ot, nx, pk, h.x.mem, hc⟩, fun k hk => (hO2 k hk).1, fun k hk => ?_⟩, h.st, h.x.u⟩
  · rcases hk with hk | hk
    · have := h4 k hk; omega
    · exact (hO2 k hk).2
  · rcases hk with hk | hk
    · exact .inl hk
    · rcases (hO2 k hk).1 with a | a
      · exact .inl (h2 k a)
      · exact .inr a
end Go.Proofs.YthoiaffeenhfgaaGreat

namespace Go.Proofs.YthoiaffeenhfgaaGreat
open Go.RowKit
set_option linter.unusedVariables false
set_option linter.unusedSimpArgs false
open Lay (plcc plc shOf packN nodesN OkC Cfg Norm firstV Rep lenL things)
theorem RowT.uf {w w' : World} {T : Value} {O Dp O' D' : Nat → Prop} {S D : Nat} {ts : List Int} (h : RowT w T O Dp ts) (u : UF (fun k => k = S ∨ k = D ∨ O k) w w') (a1 : ¬ Dp S) (a2 : ¬ Dp D) (hD : ∀ k, Dp k → D' k) (hO : ∀ k, O' k → O k ∨ w.heap.size ≤ k) : RowT w' T O' D' ts := by
  obtain ⟨b, off, n, cap, h1, h2, h3, h4, h5, h6⟩ := h
  refine ⟨b, off, n, cap, h1, h2, Nat.lt_of_lt_of_le h3 u.size, hD b h4, fun hh => ?_, fun j hj => (World.cell?_of_block (w := w) (a := ⟨b, off + j, none⟩) (u.block b h3 ?_)).trans (h6 j hj)⟩
  · rcases hO b hh with x | x
    · exact h5 x
    · omega
  · intro hh
    rcases hh with rfl | rfl | hh
    · exact a1 h4
    · exact a2 h4
    · exact h5 hh
section
variable {w : World} {X S D N : Nat} {c : Cfg} {O Dp : Nat → Prop} {m : Pm} {L : List Int} {cc t : Int}
theorem pmem5 {T : Value} {pu tk : Int} {ot nx : Value} {pk : Int} (h : Pmem w X N T pu tk ot nx pk) : w.cell? ⟨X, 5, none⟩ = some nx := by unfold Pmem at h; simp [World.cell?, h]
theorem Behind.nx {w' : World} (h : Behind w S D c N X O Dp L cc m w') : (decide (m.pc = 0) = true ∧ w'.cell? ⟨X, 5, none⟩ = some .nilFunc) ∨ (decide (m.pc = 0) = false ∧ ∃ f', w'.cell? ⟨X, 5, none⟩ = some (fnv f' X)) := by
  obtain ⟨⟨O', D', ⟨_, _, _, _, T, pu, tk, ot, nx, pk, h5, h6⟩, _⟩, _⟩ := h
  have c5 := pmem5 h5
  rcases h6 with ⟨a, b, _⟩ | ⟨a, b, _⟩ | ⟨a, b, _⟩ | ⟨a, b, _⟩ | ⟨a, b, _⟩
  · exact .inl ⟨by simpa using a, by rw [c5, b]⟩
  all_goals exact .inr ⟨by simp [a], _, by rw [c5, b]⟩
theorem of_part {f : Nat} {T : Value} {pu tk : Int} {ot : Value} {pk : Int} {L' : List Int} {cc' : Int} {m' : Pm} (h5 : Pmem w X N T pu tk ot (fnv f X) pk) (hen : ∀ a w, (callFunc f a).run Tryz.prog w = .ok (.enter f a) w)
    (H : Calls Tryz.prog f #[ptr X, ptr S] w fun e w' => e = .returned (.tuple #[]) ∧ Behind w S D c N X O Dp L' cc' m' w') :
    Calls Tryz.prog 60 #[ptr X, ptr S] w fun e w' => e = .returned (.bool (decide (m'.pc = 0))) ∧ Behind w S D c N X O Dp L' cc' m' w' :=
  pstep_raw w X S f (pmem5 h5) hen _ _ H fun w' h => h.nx
theorem step_pk' (hc : OkC c) (h : PKM w X O Dp c N m) (hs : St w S D L cc) (hm : Lay.IsMap w N c) (a1 : ¬ Dp S) (a2 : ¬ Dp D) (a3 : ¬ O N) (a4 : N ≠ S) (a5 : N ≠ D)
    (wm : PW c t m) (ww : WW L) (h0 : 0 ≤ cc) (h1 : cc ≤ 900000000) (ht : t ≤ 900000000) :
    Calls Tryz.prog 60 #[ptr X, ptr S] w fun e w' => e = .returned (.bool (decide ((pstp (gOf c) L m).2.pc = 0))) ∧ Behind w S D c N X O Dp (pstp (gOf c) L m).1 (pcost m cc) (pstp (gOf c) L m).2 w' := by
  obtain ⟨g1, g2, g3, g4, T, pu, tk, ot, nx, pk, h5, h6⟩ := id h
  have wfp : (Lit.int .i64 m.p).wf = true := Lay.wf_i64 (by have := wm.p; omega) (by have := wm.p; omega)
  rcases h6 with ⟨p0, rfl, _⟩ | ⟨p1, rfl, rfl, rfl, sub, row⟩ | ⟨p2, rfl, rfl, rfl, rfl, row⟩ | ⟨p3, rfl, rfl, rfl, rfl, hj⟩ | ⟨p4, rfl, rfl, sub⟩
  · have e : pstp (gOf c) L m = (L, m) := by simp [pstp, p0]
    rw [e]
    refine (pstep_off w X (ptr S) (pmem5 h5)).mono ?_
    rintro e w' ⟨rfl, rfl⟩
    refine ⟨by simp [p0], ⟨O, Dp, h, fun k hk => .inl hk, fun k hk => .inl hk⟩, ?_, .refl _ _⟩
    unfold pcost; rw [if_pos p0]; exact hs
  · obtain ⟨M, rfl, hmm, oM, hMX, hMN⟩ := sub
    obtain ⟨wx, kx, kd, px⟩ := wm.x1 p1
    have hX := Pxs.start (m := m) g1 g2 g3 h5 hs hm a1 a2 a4 a5
    have hMS : M ≠ S := fun e => a1 (e ▸ g3 M oM)
    have hMD : M ≠ D := fun e => a2 (e ▸ g3 M oM)
    have hl : m.x.k.links = lnkL c := by rw [kx]; rfl
    have hcs : cst m.x cc = pcost m cc := by unfold cst pcost; rw [if_neg px, if_neg (by omega)]
    obtain ⟨⟨L1, m1⟩, hz⟩ : ∃ z : List Int × Sm, sstp L m.x = z := ⟨_, rfl⟩
    by_cases e1 : m1.pc = 0
    · by_cases e2 : m1.item = 0
      · have e : pstp (gOf c) L m = (L1, { m with x := mPop (spK c), p := 0 }) := by simp [pstp, p1, hz, e1, e2]; rfl
        rw [e]
        refine of_part h5 (by simp [go_sem]) ((take_again w hX hmm hl ⟨hMX, hMS, hMD, hMN⟩ (.inr (.inr oM)) hc wx ww h0 (by omega) (by omega) hz e1 e2).mono ?_)
        rintro r w' ⟨rfl, M', hM', mm', hx⟩
        have hXl := hX.x.lt
        refine ⟨rfl, ?_⟩
        rw [← hcs]
        refine hx.toB0 g2 g3 g4 (fun k => O k ∨ k = M') (.inl g2) (fun k hk => ?_) (.inr (.inl ⟨p1, rfl, rfl, rfl, ⟨M', rfl, mm', .inr rfl, by omega, by have := hm.1; omega⟩, row.uf hx.x.u a1 a2 (fun k hk => .inl hk) (fun k hk => ?_)⟩))
        · rcases hk with hk | rfl
          · exact ⟨.inl hk, by have := g4 k (g3 k hk); have := hx.x.u.size; omega⟩
          · exact ⟨.inr hM', mm'.lt⟩
        · rcases hk with hk | rfl
          · exact .inl hk
          · exact .inr hM'
      · have e : pstp (gOf c) L m = (L1, { m with x := m1, p := m1.item, pc := 2 }) := by simp [pstp, p1, hz, e1, e2]
        rw [e]
        refine of_part h5 (by simp [go_sem]) ((take_got w hX hmm hl ⟨hMX, hMS, hMD, hMN⟩ (.inr (.inr oM)) hc wx ww h0 (by omega) (by omega) hz e1 e2).mono ?_)
        rintro r w' ⟨rfl, hx⟩
        refine ⟨rfl, ?_⟩
        rw [← hcs]
        exact hx.toB0 g2 g3 g4 O g2 (fun k hk => ⟨.inl hk, by have := g4 k (g3 k hk); have := hx.x.u.size; omega⟩) (.inr (.inr (.inl ⟨rfl, rfl, rfl, rfl, rfl, row.uf hx.x.u a1 a2 (fun k hk => .inl hk) (fun k hk => .inl hk)⟩)))
    · have e : pstp (gOf c) L m = (L1, { m with x := m1 }) := by simp [pstp, p1, hz, e1]
      rw [e]
      refine of_part h5 (by simp [go_sem]) ((take_on w hX hmm hl ⟨hMX, hMS, hMD, hMN⟩ (.inr (.inr oM)) hc wx ww h0 (by omega) (by omega) hz e1).mono ?_)
      rintro r w' ⟨rfl, hx, mm'⟩
      refine ⟨rfl, ?_⟩
      rw [← hcs]
      exact hx.toB0 g2 g3 g4 O g2 (fun k hk => ⟨.inl hk, by have := g4 k (g3 k hk); have := hx.x.u.size; omega⟩) (.inr (.inl ⟨p1, rfl, rfl, rfl, ⟨M, rfl, mm', oM, hMX, hMN⟩, row.uf hx.x.u a1 a2 (fun k hk => .inl hk) (fun k hk => .inl hk)⟩))
  · have hX := Pxs.start (m := m) g1 g2 g3 h5 hs hm a1 a2 a4 a5
    have row' := row
    obtain ⟨b, off, n, cap, rfl, hn, hb, db, ob, hcell⟩ := row
    obtain ⟨j, hj⟩ : ∃ j : Nat, m.j = (j : Int) := ⟨m.j.toNat, by have := wm.j; omega⟩
    have hjl : j < m.ts.length := by have := wm.j.2.2 p2; omega
    have htl := wm.tl
    rw [hj] at h5 hX
    have e : pstp (gOf c) L m = (ptq L (plcc c 13 m.p j) (m.ts.getD j 0), { m with j := (j : Int) + 1, pc := if j + 1 = n then 3 else 2 }) := by
      have e2 : ((j : Int) + 1 = m.ts.length) = (j + 1 = n) := by rw [eq_iff_iff]; omega
      simp [pstp, p2, hj, e2]; rfl
    rw [e]
    have hco : pcost m cc = cc + 1 := by unfold pcost; rw [if_neg (by omega)]
    refine of_part h5 (by simp [go_sem]) ((putTask_any w hX hb (fun hh => by rcases hh with rfl | rfl | hh; exact a1 db; exact a2 db; exact ob hh) (hcell j hjl) (by omega) (by omega) hc h0 (by omega) wfp).mono ?_)
    rintro r w' ⟨rfl, hx⟩
    refine ⟨rfl, ?_⟩
    rw [ptv_eq] at hx
    rw [hco]
    have row2 := row'.uf (O' := O) (D' := fun k => Dp k ∨ O k) hx.x.u a1 a2 (fun k hk => .inl hk) (fun k hk => .inl hk)
    refine hx.toB0 g2 g3 g4 O g2 (fun k hk => ⟨.inl hk, by have := g4 k (g3 k hk); have := hx.x.u.size; omega⟩) ?_
    by_cases hl : j + 1 = n
    · rw [if_pos hl, if_pos hl]
      exact .inr (.inr (.inr (.inl ⟨rfl, rfl, rfl, rfl, rfl, by show (j : Int) + 1 = _; simp only; omega⟩)))
    · rw [if_neg hl, if_neg hl]
      exact .inr (.inr (.inl ⟨rfl, rfl, rfl, rfl, rfl, row2⟩))
  · have hX := Pxs.start (m := m) g1 g2 g3 h5 hs hm a1 a2 a4 a5
    have e : pstp (gOf c) L m = (ptq L (plcc c 11 m.p 0) m.j, { m with x := mPush (poK c) m.p, pc := 4 }) := by
      simp [pstp, p3, hj]; exact ⟨rfl, rfl⟩
    rw [e]
    have hco : pcost m cc = cc + 1 := by unfold pcost; rw [if_neg (by omega)]
    refine of_part h5 (by simp [go_sem]) ((putMany_any w hX hc h0 (by omega) wfp wm.j.1 wm.j.2.1).mono ?_)
    rintro r w' ⟨rfl, M', hM', mm', hx⟩
    refine ⟨rfl, ?_⟩
    rw [ptv_eq] at hx
    rw [hco]
    have hXl := hX.x.lt
    refine hx.toB0 g2 g3 g4 (fun k => O k ∨ k = M') (.inl g2) (fun k hk => ?_) (.inr (.inr (.inr (.inr ⟨rfl, rfl, rfl, M', rfl, mm', .inr rfl, by omega, by have := hm.1; omega⟩))))
    rcases hk with hk | rfl
    · exact ⟨.inl hk, by have := g4 k (g3 k hk); have := hx.x.u.size; omega⟩
    · exact ⟨.inr hM', mm'.lt⟩
  · obtain ⟨M, rfl, hmm, oM, hMX, hMN⟩ := sub
    obtain ⟨wx, hl, px⟩ := wm.x4 p4
    have hX := Pxs.start (m := m) g1 g2 g3 h5 hs hm a1 a2 a4 a5
    have hMS : M ≠ S := fun e => a1 (e ▸ g3 M oM)
    have hMD : M ≠ D := fun e => a2 (e ▸ g3 M oM)
    have hcs : cst m.x cc = pcost m cc := by unfold cst pcost; rw [if_neg px, if_neg (by omega)]
    obtain ⟨⟨L1, m1⟩, hz⟩ : ∃ z : List Int × Sm, sstp L m.x = z := ⟨_, rfl⟩
    by_cases e1 : m1.pc = 0
    · have e : pstp (gOf c) L m = (L1, { m with x := m1, p := m1.item, pc := 0 }) := by simp [pstp, p4, hz, e1]
      rw [e]
      refine of_part h5 (by simp [go_sem]) ((end_done w hX hmm hl ⟨hMX, hMS, hMD, hMN⟩ (.inr (.inr oM)) hc wx ww h0 (by omega) (by omega) hz e1).mono ?_)
      rintro r w' ⟨rfl, hx⟩
      refine ⟨rfl, ?_⟩
      rw [← hcs]
      exact hx.toB0 g2 g3 g4 O g2 (fun k hk => ⟨.inl hk, by have := g4 k (g3 k hk); have := hx.x.u.size; omega⟩) (.inl ⟨rfl, rfl, rfl⟩)
    · have e : pstp (gOf c) L m = (L1, { m with x := m1 }) := by simp [pstp, p4, hz, e1]
      rw [e]
      refine of_part h5 (by simp [go_sem]) ((end_on w hX hmm hl ⟨hMX, hMS, hMD, hMN⟩ (.inr (.inr oM)) hc wx ww h0 (by omega) (by omega) hz e1).mono ?_)
      rintro r w' ⟨rfl, hx, mm'⟩
      refine ⟨rfl, ?_⟩
      rw [← hcs]
      exact hx.toB0 g2 g3 g4 O g2 (fun k hk => ⟨.inl hk, by have := g4 k (g3 k hk); have := hx.x.u.size; omega⟩) (.inr (.inr (.inr (.inr ⟨p4, rfl, rfl, M, rfl, mm', oM, hMX, hMN⟩))))
theorem step_pk {c : Cfg} (hc : OkC c) {w : World} {X S D N : Nat} {O Dp : Nat → Prop} {m : Pm} {L : List Int} {cc t : Int} (h : PKM w X O Dp c N m) (hs : St w S D L cc) (hm : Lay.IsMap w N c) (a1 : ¬ Dp S) (a2 : ¬ Dp D) (a3 : ¬ O N) (a4 : N ≠ S) (a5 : N ≠ D)
    (wm : PW c t m) (ww : WW L) (h0 : 0 ≤ cc) (h1 : cc ≤ 900000000) (ht : t ≤ 900000000) :
    Calls Tryz.prog 60 #[ptr X, ptr S] w fun e w' => e = .returned (.bool (decide ((pstp (gOf c) L m).2.pc = 0))) ∧
      (∃ O' D', PKM w' X O' D' c N (pstp (gOf c) L m).2 ∧ (∀ k, O' k → O k ∨ w.heap.size ≤ k) ∧ (∀ k, D' k → Dp k ∨ w.heap.size ≤ k)) ∧ St w' S D (pstp (gOf c) L m).1 (pcost m cc) ∧ UF (fun k => k = S ∨ k = D ∨ O k) w w' :=
  (step_pk' hc h hs hm a1 a2 a3 a4 a5 wm ww h0 h1 ht).mono fun _ _ ⟨a, b, c, d⟩ => ⟨a, b, c, d⟩
end
end Go.Proofs.YthoiaffeenhfgaaGreat

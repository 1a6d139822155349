/-  -/
import Derived.Test.YthoiaffeenhfgaaGreatJ20
namespace Go.Proofs.YthoiaffeenhfgaaGreat
open Go.RowKit
set_option linter.unusedVariables false
set_option linter.unusedSimpArgs false
set_option maxRecDepth 100000
open Lay (plcc plc shOf packN nodesN OkC Cfg Norm firstV Rep lenL things)
@[go_sem] theorem fld_mr (a0 a1 a2 a3 a4 a5 a6 a7 a8 a9 a10 a11 : Int) (w : World) : (Instr.field 24 (.agg #[.int .i64 a0, .int .i64 a1, .int .i64 a2, .int .i64 a3, .int .i64 a4, .int .i64 a5, .int .i64 a6, .int .i64 a7, .int .i64 a8, .int .i64 a9, .int .i64 a10, .int .i64 a11]) 1).run Tryz.prog w = .ok (.int .i64 a5) w := by kernel_rfl
theorem link_neg {c : Cfg} (hc : OkC c) (p : Int) : decide (plcc c 12 p 0 < 0) = decide (p < 1 ∨ ((pkn c : Nat) : Int) < p) := by
  have hn := pkn_is hc
  have h0 := (Lay.bds hc).p0
  by_cases h : 1 ≤ p ∧ p ≤ packN c
  · have := (gp_of hc).s.lk p h.1 (by omega)
    have e : atOf (gOf c).sp.links p = plcc c 12 p 0 := lnk_at hc p
    rw [e] at this
    rw [decide_eq_false (by omega), decide_eq_false (by omega)]
  · rw [← Lay.plc_link hc p, Lay.wordL, if_neg (by omega), decide_eq_true (by decide), decide_eq_true (by omega)]
def Bec (w1 : World) (X N : Nat) (c : Cfg) (m : Km) (w' : World) : Prop :=
  ∃ nx dv pv, Kb w' X N m.i m.draw m.bag.p m.bag.t m.bag.n nx dv pv m.task m.found ∧ UF (fun b => b = X) w1 w' ∧
   ((m.pc = 0 ∧ nx = .nilFunc) ∨ (m.pc = 2 ∧ nx = fnv 140 X) ∨
    ((m.pc = 3 ∧ nx = fnv 160 X ∨ m.pc = 4 ∧ nx = fnv 158 X) ∧ m.p.pc ≠ 0 ∧ ∃ X2 O2 D2, pv = ptr X2 ∧ PKM w' X2 O2 D2 c N m.p ∧ (∀ k, O2 k → w1.heap.size ≤ k) ∧ (∀ k, D2 k → w1.heap.size ≤ k)) ∨
    (m.pc = 6 ∧ nx = fnv 189 X ∧ m.d.pc ≠ 0 ∧ ∃ M, dv = ptr M ∧ Dg.MM w' M m.d ∧ w1.heap.size ≤ M))
theorem UF.x {X : Nat} {w w1 w2 : World} (a : UF (fun b => b = X) w w1) (b : UF (fun b => b = X) w1 w2) : UF (fun b => b = X) w w2 := a.trans b (fun _ x => x) (fun _ _ x => x)
theorem Bec.back {w w1 w2 : World} {X N : Nat} {c : Cfg} {m : Km} (h : Bec w1 X N c m w2) (u : UF (fun b => b = X) w w1) : Bec w X N c m w2 := by
  obtain ⟨nx, dv, pv, hk, hu, h⟩ := h
  refine ⟨nx, dv, pv, hk, u.x hu, ?_⟩
  have hs := u.size
  rcases h with h | h | ⟨a, b, X2, O2, D2, e, hp, ho, hd⟩ | ⟨a, b, b2, M, e, hm, hl⟩
  · exact .inl h
  · exact .inr (.inl h)
  · exact .inr (.inr (.inl ⟨a, b, X2, O2, D2, e, hp, fun k hk => Nat.le_trans hs (ho k hk), fun k hk => Nat.le_trans hs (hd k hk)⟩))
  · exact .inr (.inr (.inr ⟨a, b, b2, M, e, hm, Nat.le_trans hs hl⟩))
theorem pk_far {w : World} {X X2 N j : Nat} {O2 D2 : Nat → Prop} {c : Cfg} {m : Pm} {y : Value} (h : PKM w X2 O2 D2 c N m) (hn : ¬ D2 X) : PKM (w.setCell ⟨X, j, none⟩ y) X2 O2 D2 c N m :=
  h.keep (by simp) fun k hk => heap_setCell_other w ⟨X, j, none⟩ k _ (fun (e : k = X) => hn (e ▸ hk))
section
variable {c : Cfg} {w : World} {X N : Nat} {nx dv pv : Value} {m : Km}
set_option maxHeartbeats 4000000 in
theorem askPool_any (hc : OkC c) (h : Kb w X N m.i m.draw m.bag.p m.bag.t m.bag.n nx dv pv m.task m.found) (hm : Lay.IsMap w N c) :
    Calls Tryz.prog 138 #[ptr X] w fun e w' => e = .returned (.tuple #[]) ∧ Bec w X N c (kask (gOf c) m) w' := by
  have hmf : ∀ (fn : Fn) (first cap : Array Value) (w : World), (Instr.makeFunc fn first cap).run Tryz.prog w = .ok (.func fn first cap) w := fun _ _ _ _ => rfl
  have HK := Lib.hid h; have HM := Lib.hid hm; have HC := Lib.hid hc
  obtain ⟨q0, q1, q2, q3, q4, q5⟩ := h.cc
  clear h hm hc
  go_enter Tryz.func138, Tryz.ntmps138
  go_wp2_with (first
    | (go_at_call 157; (with_reducible refine (take_pk HC.out N _ HM.out).mono ?_); rintro r w1 ⟨X2, O2, D2, rfl, hp, ho, hd, hb⟩; have HK1 := Lib.hid (HK.out.step hb); have HP := Lib.hid hp; have HO := Lib.hid ho; have HD := Lib.hid hd; have HB := Lib.hid hb; clear hp ho hd hb; have q8 := HK1.out.c8; have f8 := HK1.out.f 8; have HK2 := Lib.hid (HK1.out.p8 (ptr X2)); have q6 := HK2.out.c6; have f6 := HK2.out.f 6; have HK3 := Lib.hid (HK2.out.p6 (fnv 158 X)))
    | fail)
  go_returns
  have hn : ¬ D2 X := fun hd => by
    have hl := HK.out.lt
    rcases HD.out X hd with a | a
    · omega
    · exact a.elim
  exact ⟨rfl, _, _, _, HK3.out, ((UF.of_below HB.out).x (UF.set _ X _ _)).x (UF.set _ X _ _), .inr (.inr (.inl ⟨.inr ⟨rfl, rfl⟩, by simp [kask, pTake], X2, O2, D2, rfl, pk_far (pk_far HP.out hn) hn, HO.out, fun k hk => (HD.out k hk).resolve_right id⟩))⟩
theorem map_set {w : World} {X N : Nat} {c : Cfg} (hm : Lay.IsMap w N c) (hn : X ≠ N) (j : Nat) (y : Value) : Lay.IsMap (w.setCell ⟨X, j, none⟩ y) N c :=
  IsMap_same hm (by simp) (heap_setCell_other w ⟨X, j, none⟩ N y (fun (e : N = X) => hn e.symm))
theorem uf_set3 {w : World} {X a b d : Nat} (x y z : Value) : UF (fun k => k = X) w (((w.setCell ⟨X, a, none⟩ x).setCell ⟨X, b, none⟩ y).setCell ⟨X, d, none⟩ z) := ((UF.set w X a x).x (UF.set _ X b y)).x (UF.set _ X d z)
def kdrop (n : Nat) (g : Pg) (m : Km) : Km := if m.bag.p < 1 ∨ (n : Int) < m.bag.p then kask g { m with bag := bg0 } else { m with bag := bg0, p := pBack n g m.bag.p, pc := 3 }
set_option maxHeartbeats 4000000 in
theorem dropBag_any (hc : OkC c) (h : Kb w X N m.i m.draw m.bag.p m.bag.t m.bag.n nx dv pv m.task m.found) (hm : Lay.IsMap w N c) (hn : X ≠ N) (hw : (Lit.int .i64 m.bag.p).wf = true) :
    Calls Tryz.prog 141 #[ptr X] w fun e w' => e = .returned (.tuple #[]) ∧ Bec w X N c (kdrop (pkn c) (gOf c) m) w' := by
  have hmf : ∀ (fn : Fn) (first cap : Array Value) (w : World), (Instr.makeFunc fn first cap).run Tryz.prog w = .ok (.func fn first cap) w := fun _ _ _ _ => rfl
  have hl := link_neg hc m.bag.p
  have HK := Lib.hid h; have HM := Lib.hid hm; have HC := Lib.hid hc; have HNX := Lib.hid hn
  have HW := Lib.hid hw
  obtain ⟨q0, q1, q2, q3, q4, q5⟩ := h.cc
  clear h hm hc hw hn
  by_cases hb : m.bag.p < 1 ∨ ((pkn c : Nat) : Int) < m.bag.p
  · rw [show kdrop (pkn c) (gOf c) m = kask (gOf c) { m with bag := bg0 } by unfold kdrop; rw [if_pos hb]]
    rw [decide_eq_true hb] at hl
    clear hb
    go_enter Tryz.func141, Tryz.ntmps141
    go_wp2_with (first
      | (go_at_call 124; (with_reducible refine (none_anyE _).mono ?_); rintro r w1 ⟨rfl, hb⟩; have HK1 := Lib.hid (HK.out.step hb); have HM1 := Lib.hid (HM.out.below hb); have HB := Lib.hid hb; clear hb q0 q1 q2 q3 q4 q5; obtain ⟨q0, q1, q2, q3, q4, q5⟩ := HK1.out.cc; have f3 := HK1.out.f 3; have f4 := HK1.out.f 4; have f5 := HK1.out.f 5; have HK2 := Lib.hid (HK1.out.pb 0 0 0); have HM2 := Lib.hid (map_set (map_set (map_set HM1.out HNX.out 3 (.int .i64 0)) HNX.out 4 (.int .i64 0)) HNX.out 5 (.int .i64 0)))
      | (go_at_call 53; (with_reducible refine (Lay.link_m HC.out N m.bag.p HW.out _ HM2.out).mono ?_); rintro r w2 ⟨rfl, hb⟩; have HK3 := Lib.hid (HK2.out.step hb); have HM3 := Lib.hid (HM2.out.below hb); have HB3 := Lib.hid hb; clear hb q0 q1 q2 q3 q4 q5)
      | (go_at_call 138; (with_reducible refine (askPool_any (m := { m with bag := bg0 }) HC.out HK3.out HM3.out).mono ?_); rintro r w4 ⟨rfl, hb⟩; have HBB := Lib.hid hb; clear hb)
      | fail)
    go_returns
    exact ⟨rfl, HBB.out.back (((UF.of_below HB.out).x (uf_set3 _ _ _)).x (UF.of_below HB3.out))⟩
  · have hpc : (pBack (pkn c) (gOf c) m.bag.p).pc ≠ 0 := by unfold pBack; rw [if_neg hb]; simp
    rw [show kdrop (pkn c) (gOf c) m = { m with bag := bg0, p := pBack (pkn c) (gOf c) m.bag.p, pc := 3 } by unfold kdrop; rw [if_neg hb]]
    rw [decide_eq_false hb] at hl
    clear hb
    go_enter Tryz.func141, Tryz.ntmps141
    go_wp2_with (first
      | (go_at_call 124; (with_reducible refine (none_anyE _).mono ?_); rintro r w1 ⟨rfl, hb⟩; have HK1 := Lib.hid (HK.out.step hb); have HM1 := Lib.hid (HM.out.below hb); have HB := Lib.hid hb; clear hb q0 q1 q2 q3 q4 q5; obtain ⟨q0, q1, q2, q3, q4, q5⟩ := HK1.out.cc; have f3 := HK1.out.f 3; have f4 := HK1.out.f 4; have f5 := HK1.out.f 5; have HK2 := Lib.hid (HK1.out.pb 0 0 0); have HM2 := Lib.hid (map_set (map_set (map_set HM1.out HNX.out 3 (.int .i64 0)) HNX.out 4 (.int .i64 0)) HNX.out 5 (.int .i64 0)))
      | (go_at_call 53; (with_reducible refine (Lay.link_m HC.out N m.bag.p HW.out _ HM2.out).mono ?_); rintro r w2 ⟨rfl, hb⟩; have HK3 := Lib.hid (HK2.out.step hb); have HM3 := Lib.hid (HM2.out.below hb); have HB3 := Lib.hid hb; clear hb q0 q1 q2 q3 q4 q5; obtain ⟨q0, q1, q2, q3, q4, q5⟩ := HK3.out.cc)
      | (go_at_call 159; (with_reducible refine (back_pk HC.out N m.bag.p _ HM3.out HW.out).mono ?_); rintro r w4 ⟨X2, O2, D2, rfl, hp, ho, hd, hb⟩; have HK4 := Lib.hid (HK3.out.step hb); have HP := Lib.hid hp; have HO := Lib.hid ho; have HD := Lib.hid hd; have HB4 := Lib.hid hb; clear hp ho hd hb q0 q1 q2 q3 q4 q5; have q8 := HK4.out.c8; have f8 := HK4.out.f 8; have HK5 := Lib.hid (HK4.out.p8 (ptr X2)); have q6 := HK5.out.c6; have f6 := HK5.out.f 6; have HK6 := Lib.hid (HK5.out.p6 (fnv 160 X)))
      | fail)
    go_returns
    have hn : ¬ D2 X := fun hd => by
      have hl := HK3.out.lt
      rcases HD.out X hd with a | a
      · omega
      · exact a.elim
    have s1 := HB.out.size
    have s2 := HB3.out.size
    simp at s2
    exact ⟨rfl, _, _, _, HK6.out, ((((UF.of_below HB.out).x (uf_set3 _ _ _)).x (UF.of_below HB3.out)).x (UF.of_below HB4.out)).x ((UF.set _ X _ _).x (UF.set _ X _ _)), .inr (.inr (.inl ⟨.inl ⟨rfl, rfl⟩, hpc, X2, O2, D2, rfl, pk_far (pk_far HP.out hn) hn, fun k hk => by have := HO.out k hk; omega, fun k hk => by have := (HD.out k hk).resolve_right id; omega⟩))⟩
set_option maxHeartbeats 4000000 in
theorem useBag_any (hc : OkC c) (h : Kb w X N m.i m.draw m.bag.p m.bag.t m.bag.n nx dv pv m.task m.found) (hm : Lay.IsMap w N c) (hn : X ≠ N) (hw : (Lit.int .i64 m.bag.p).wf = true) :
    Calls Tryz.prog 123 #[ptr X] w fun e w' => e = .returned (.tuple #[]) ∧ Bec w X N c (kbag (pkn c) (gOf c) m) w' := by
  have hmf : ∀ (fn : Fn) (first cap : Array Value) (w : World), (Instr.makeFunc fn first cap).run Tryz.prog w = .ok (.func fn first cap) w := fun _ _ _ _ => rfl
  have HK := Lib.hid h; have HM := Lib.hid hm; have HC := Lib.hid hc; have HNX := Lib.hid hn
  have HW := Lib.hid hw
  have q345 : ∀ w1, Below w.heap.size w w1 → w1.cell? ⟨X, 3, none⟩ = some (.int .i64 m.bag.p) ∧ w1.cell? ⟨X, 4, none⟩ = some (.int .i64 m.bag.t) ∧ w1.cell? ⟨X, 5, none⟩ = some (.int .i64 m.bag.n) := fun w1 hb => by
    obtain ⟨_, _, _, q3, q4, q5⟩ := (HK.out.step hb).cc
    exact ⟨q3, q4, q5⟩
  have HQ := Lib.hid q345
  have HB0 := Lib.hid (Below.refl w.heap.size w)
  clear h hm hc hw hn q345
  by_cases hz : m.bag.p = 0 ∧ m.bag.t = 0 ∧ m.bag.n = 0
  · rw [show kbag (pkn c) (gOf c) m = kask (gOf c) m by unfold kbag; rw [if_pos hz]]
    go_enter Tryz.func123, Tryz.ntmps123
    go_wp2
    go_region_held3 (fun w' => w'.cell? ⟨X, 3, none⟩ = some (.int .i64 m.bag.p) ∧ w'.cell? ⟨X, 4, none⟩ = some (.int .i64 m.bag.t) ∧ w'.cell? ⟨X, 5, none⟩ = some (.int .i64 m.bag.n))
      (first | exact HQ.out _ HB1.out | exact HQ.out _ HB0.out.drew | go_keep)
      (first
        | (go_at_call 124; (with_reducible refine (none_anyE _).mono ?_); rintro r w1 ⟨rfl, hb⟩; have HB1 := Lib.hid (HB0.out.drew.trans hb); clear hb)
        | fail)
    all_goals
      go_wp2_with (first
        | (go_at_call 138; (with_reducible refine (askPool_any HC.out (HK.out.step HB1.out) (HM.out.below HB1.out)).mono ?_); rintro r w4 ⟨rfl, hb⟩; have HBB := Lib.hid hb; clear hb)
        | fail)
      go_returns
      exact ⟨rfl, HBB.out.back (UF.of_below HB1.out)⟩
  · have ez : decide (m.bag.p = 0 ∧ m.bag.t = 0 ∧ m.bag.n = 0) = false := decide_eq_false hz
    by_cases ht : m.bag.p ≠ 0 ∧ m.bag.t < m.bag.n
    · rw [show kbag (pkn c) (gOf c) m = { m with pc := 2 } by unfold kbag; rw [if_neg hz, if_pos ht]]
      have HT := Lib.hid (decide_eq_true ht)
      clear ht hz
      go_enter Tryz.func123, Tryz.ntmps123
      go_wp2
      go_region_held3 (fun w' => w'.cell? ⟨X, 3, none⟩ = some (.int .i64 m.bag.p) ∧ w'.cell? ⟨X, 4, none⟩ = some (.int .i64 m.bag.t) ∧ w'.cell? ⟨X, 5, none⟩ = some (.int .i64 m.bag.n))
        (first | exact HQ.out _ HB1.out | exact HQ.out _ HB0.out.drew | go_keep)
        (first
          | (go_at_call 124; (with_reducible refine (none_anyE _).mono ?_); rintro r w1 ⟨rfl, hb⟩; have HB1 := Lib.hid (HB0.out.drew.trans hb); clear hb)
          | fail)
      all_goals
        have q := HQ.out _ HB1.out
        obtain ⟨q3, q4, q5⟩ := q
        go_wp2_with (first
          | (go_at_call 139; (with_reducible refine (hasTask_any _ _ _ _).mono ?_); rintro r w4 ⟨rfl, hb⟩; rw [HT.out]; have HB4 := Lib.hid hb; have HK4 := Lib.hid ((HK.out.step HB1.out).step hb); clear hb q3 q4 q5; have q6 := HK4.out.c6; have f6 := HK4.out.f 6; have HK5 := Lib.hid (HK4.out.p6 (fnv 140 X)))
          | fail)
        go_returns
        exact ⟨rfl, _, _, _, HK5.out, ((UF.of_below HB1.out).x (UF.of_below HB4.out)).x (UF.set _ X _ _), .inr (.inl ⟨rfl, rfl⟩)⟩
    · rw [show kbag (pkn c) (gOf c) m = kdrop (pkn c) (gOf c) m by unfold kbag; rw [if_neg hz, if_neg ht]; rfl]
      have HT := Lib.hid (decide_eq_false ht)
      clear ht hz
      go_enter Tryz.func123, Tryz.ntmps123
      go_wp2
      go_region_held3 (fun w' => w'.cell? ⟨X, 3, none⟩ = some (.int .i64 m.bag.p) ∧ w'.cell? ⟨X, 4, none⟩ = some (.int .i64 m.bag.t) ∧ w'.cell? ⟨X, 5, none⟩ = some (.int .i64 m.bag.n))
        (first | exact HQ.out _ HB1.out | exact HQ.out _ HB0.out.drew | go_keep)
        (first
          | (go_at_call 124; (with_reducible refine (none_anyE _).mono ?_); rintro r w1 ⟨rfl, hb⟩; have HB1 := Lib.hid (HB0.out.drew.trans hb); clear hb)
          | fail)
      all_goals
        have q := HQ.out _ HB1.out
        obtain ⟨q3, q4, q5⟩ := q
        go_wp2_with (first
          | (go_at_call 139; (with_reducible refine (hasTask_any _ _ _ _).mono ?_); rintro r w4 ⟨rfl, hb⟩; rw [HT.out]; have HB4 := Lib.hid hb; have HK4 := Lib.hid ((HK.out.step HB1.out).step hb); have HM4 := Lib.hid ((HM.out.below HB1.out).below hb); clear hb q3 q4 q5)
          | (go_at_call 141; (with_reducible refine (dropBag_any HC.out HK4.out HM4.out HNX.out HW.out).mono ?_); rintro r w5 ⟨rfl, hb⟩; have HBB := Lib.hid hb; clear hb)
          | fail)
        go_returns
        exact ⟨rfl, HBB.out.back ((UF.of_below HB1.out).x (UF.of_below HB4.out))⟩
theorem mr_rng {c : Cfg} (hc : OkC c) : 1 ≤ c.mr ∧ c.mr ≤ 1000 := by
  obtain ⟨a0, a1, b0, b1, c0, c1, d0, d1, e0, e1, s0, k0, k1, u0, u1, q0, q1, h0, h1, f0, f1, r0, r1, w0, w1⟩ := hc
  omega
theorem kvic_rng {all i draw : Int} (h : all ≤ 1000) : -1 ≤ kvic all i draw ∧ kvic all i draw ≤ 1000 := by
  unfold kvic kback
  by_cases h2 : all < 2
  · rw [if_pos h2]; omega
  · rw [if_neg h2]
    have h3 := Int.emod_nonneg draw (show all ≠ 0 by omega)
    have h4 := Int.emod_lt_of_pos draw (show 0 < all by omega)
    split
    · split <;> omega
    · omega
set_option maxHeartbeats 4000000 in
theorem chooseVictim_any (hc : OkC c) (h : Kb w X N m.i m.draw m.bag.p m.bag.t m.bag.n nx dv pv m.task m.found) (hm : Lay.IsMap w N c) (hn : X ≠ N) (hd : -9223372036854775808 ≤ m.draw ∧ m.draw ≤ 9223372036854775807) :
    Calls Tryz.prog 173 #[ptr X] w fun e w' => e = .returned (.tuple #[]) ∧ Bec w X N c (kvict (eOf c) c.mr m) w' := by
  have hmf : ∀ (fn : Fn) (first cap : Array Value) (w : World), (Instr.makeFunc fn first cap).run Tryz.prog w = .ok (.func fn first cap) w := fun _ _ _ _ => rfl
  have HK := Lib.hid h; have HM := Lib.hid hm; have HC := Lib.hid hc; have HNX := Lib.hid hn
  have HD := Lib.hid hd
  have hr := mr_rng hc
  have HR := Lib.hid (show -9223372036854775808 ≤ c.mr ∧ c.mr ≤ 9223372036854775807 by omega)
  have hv := kvic_rng (i := m.i) (draw := m.draw) hr.2
  have HVW := Lib.hid (Lay.wf_i64 (v := kvic c.mr m.i m.draw) (by omega) (by omega))
  obtain ⟨v, ev⟩ : ∃ v, kvic c.mr m.i m.draw = v := ⟨_, rfl⟩
  have HV := Lib.hid ev
  have q012 : ∀ w1, Below w.heap.size w w1 → w1.cell? ⟨X, 0, none⟩ = some (Lay.mapP N) ∧ w1.cell? ⟨X, 1, none⟩ = some (.int .i64 m.i) ∧ w1.cell? ⟨X, 2, none⟩ = some (.int .i64 m.draw) := fun w1 hb => by
    obtain ⟨q0, q1, q2, _⟩ := (HK.out.step hb).cc
    exact ⟨q0, q1, q2⟩
  have HQ := Lib.hid q012
  have HB0 := Lib.hid (Below.refl w.heap.size w)
  clear h hm hc hn q012 hd hr hv
  by_cases hz : v < 0
  · rw [show kvict (eOf c) c.mr m = { m with pc := 0 } by unfold kvict; rw [ev, if_pos hz]]
    clear ev
    go_enter Tryz.func173, Tryz.ntmps173
    go_wp2
    go_region_held3 (fun w' => w'.cell? ⟨X, 0, none⟩ = some (Lay.mapP N) ∧ w'.cell? ⟨X, 1, none⟩ = some (.int .i64 m.i) ∧ w'.cell? ⟨X, 2, none⟩ = some (.int .i64 m.draw))
      (first | exact HQ.out _ HB1.out | exact HQ.out _ HB0.out.drew | go_keep)
      (first
        | (go_at_call 58; (with_reducible refine (Lay.config_m N _ (HM.out.below HB0.out.drew)).mono ?_); rintro r w1 ⟨rfl, hb⟩; have HB1 := Lib.hid (HB0.out.drew.trans hb); clear hb)
        | (go_at_call 186; (with_reducible refine (victim_any _ _ _ _ HR.out HD.out).mono ?_); rintro r w2 ⟨rfl, rfl⟩; rw [HV.out])
        | fail)
    all_goals
      go_wp2_with (first
        | (go_at_call 187; (with_reducible refine (giveUp_any (HK.out.step HB1.out)).mono ?_); rintro r w4 ⟨rfl, hk, hu⟩; have HK4 := Lib.hid hk; have HU := Lib.hid hu; clear hk hu)
        | fail)
      go_returns
      exact ⟨rfl, _, _, _, HK4.out, (UF.of_below HB1.out).x HU.out, .inl ⟨rfl, rfl⟩⟩
  · rw [show kvict (eOf c) c.mr m = { m with pc := 6, d := Dg.mSteal (eOf c v) } by unfold kvict; rw [ev, if_neg hz]]
    have HVW2 := Lib.hid (show (Lit.int .i64 v).wf = true from ev ▸ HVW.out)
    clear ev
    go_enter Tryz.func173, Tryz.ntmps173
    go_wp2
    go_region_held3 (fun w' => w'.cell? ⟨X, 0, none⟩ = some (Lay.mapP N) ∧ w'.cell? ⟨X, 1, none⟩ = some (.int .i64 m.i) ∧ w'.cell? ⟨X, 2, none⟩ = some (.int .i64 m.draw))
      (first | exact HQ.out _ HB1.out | exact HQ.out _ HB0.out.drew | go_keep)
      (first
        | (go_at_call 58; (with_reducible refine (Lay.config_m N _ (HM.out.below HB0.out.drew)).mono ?_); rintro r w1 ⟨rfl, hb⟩; have HB1 := Lib.hid (HB0.out.drew.trans hb); clear hb)
        | (go_at_call 186; (with_reducible refine (victim_any _ _ _ _ HR.out HD.out).mono ?_); rintro r w2 ⟨rfl, rfl⟩; rw [HV.out])
        | fail)
    all_goals
      have q := HQ.out _ HB1.out
      obtain ⟨q0, q1, q2⟩ := q
      go_wp2_with (first
        | (go_at_call 72; (with_reducible refine (ends_any HC.out N v HVW2.out _ (HM.out.below HB1.out)).mono ?_); rintro r w4 ⟨rfl, hb⟩; have HB4 := Lib.hid hb; clear hb q0 q1 q2)
        | (go_at_call 188; (with_reducible refine (Dg.steal_any (eOf c v) _).mono ?_); rintro r w5 ⟨M, rfl, hM, hmm, hb⟩; have HB5 := Lib.hid hb; have HMM := Lib.hid hmm; have HLT := Lib.hid hM; have HK5 := Lib.hid (((HK.out.step HB1.out).step HB4.out).step hb); clear hb hmm hM; have q7 := HK5.out.c7; have f7 := HK5.out.f 7; have HK6 := Lib.hid (HK5.out.p7 (ptr M)); have q6 := HK6.out.c6; have f6 := HK6.out.f 6; have HK7 := Lib.hid (HK6.out.p6 (fnv 189 X)))
        | fail)
      go_returns
      have s1 := HB1.out.size
      have s4 := HB4.out.size
      have hl := HK.out.lt
      have hM := HLT.out
      have hne : M ≠ X := by omega
      exact ⟨rfl, _, _, _, HK7.out, (((UF.of_below HB1.out).x (UF.of_below HB4.out)).x (UF.of_below HB5.out)).x ((UF.set _ X _ _).x (UF.set _ X _ _)), .inr (.inr (.inr ⟨rfl, rfl, by simp [Dg.mSteal], M, rfl, dmm_same (dmm_same HMM.out (heap_setCell_other _ ⟨X, 7, none⟩ M _ hne)) (heap_setCell_other _ ⟨X, 6, none⟩ M _ hne), by omega⟩))⟩
end
end Go.Proofs.YthoiaffeenhfgaaGreat

namespace Go.Proofs.YthoiaffeenhfgaaGreat
open Go.RowKit
set_option linter.unusedVariables false
set_option linter.unusedSimpArgs false
set_option maxRecDepth 100000
open Lay (plcc plc shOf packN nodesN OkC Cfg Norm firstV Rep lenL things)
set_option maxHeartbeats 1000000 in
theorem kstep_raw (w : World) (X S f : Nat) (c6 : w.cell? ⟨X, 6, none⟩ = some (fnv f X)) (hen : ∀ a w, (callFunc f a).run Tryz.prog w = .ok (.enter f a) w) (b : Bool) (Q : World → Prop)
    (HN : Calls Tryz.prog f #[ptr X, ptr S] w fun e w' => e = .returned (.tuple #[]) ∧ Q w') (hQ : ∀ w', Q w' → (b = true ∧ w'.cell? ⟨X, 6, none⟩ = some .nilFunc) ∨ (b = false ∧ ∃ f', w'.cell? ⟨X, 6, none⟩ = some (fnv f' X))) :
    Calls Tryz.prog 231 #[ptr X, ptr S] w fun e w' => e = .returned (.bool b) ∧ Q w' := by
  cases b
  · have HNN := Lib.hid HN; have HQ := Lib.hid hQ; clear HN hQ
    go_enter Tryz.func231, Tryz.ntmps231
    go_wp2_with (first
      | ((with_reducible refine HNN.out.mono ?_); rintro r w1 ⟨rfl, hk⟩; have HK := Lib.hid hk; obtain ⟨f', d4⟩ : ∃ f', w1.cell? ⟨X, 6, none⟩ = some (fnv f' X) := (by rcases HQ.out w1 hk with ⟨h, _⟩ | ⟨_, h⟩; cases h; exact h); clear hk)
      | fail)
    go_ret
    exact ⟨rfl, HK.out⟩
  · have HNN := Lib.hid HN; have HQ := Lib.hid hQ; clear HN hQ
    go_enter Tryz.func231, Tryz.ntmps231
    go_wp2_with (first
      | ((with_reducible refine HNN.out.mono ?_); rintro r w1 ⟨rfl, hk⟩; have HK := Lib.hid hk; have d4 : w1.cell? ⟨X, 6, none⟩ = some .nilFunc := (by rcases HQ.out w1 hk with ⟨_, h⟩ | ⟨h, _⟩; exact h; cases h); clear hk)
      | fail)
    go_ret
    exact ⟨rfl, HK.out⟩
set_option maxHeartbeats 1000000 in
theorem kstep_off (w : World) (X : Nat) (v : Value) (c6 : w.cell? ⟨X, 6, none⟩ = some .nilFunc) :
    Calls Tryz.prog 231 #[ptr X, v] w fun e w' => e = .returned (.bool true) ∧ w = w' := by
  go_enter Tryz.func231, Tryz.ntmps231
  go_wp2
  go_ret
  exact ⟨rfl, rfl⟩
theorem kb_new (w : World) (N : Nat) (i draw b0 b1 b2 : Int) : Kb (w.alloc (.cells #[Lay.mapP N, .int .i64 i, .int .i64 draw, .int .i64 b0, .int .i64 b1, .int .i64 b2, .nilFunc, .pointer none, .pointer none, .int .u64 0, .bool false] 136)) w.heap.size N i draw b0 b1 b2 .nilFunc (.pointer none) (.pointer none) 0 false := Go.heap_alloc_new _ _
def B3 (w : World) (X : Nat) (a b c : Int) : Prop := w.heap[X]? = some (.cells #[.int .i64 a, .int .i64 b, .int .i64 c] 47 (0, 0))
def B4 (w : World) (X : Nat) (a b c d : Int) : Prop := w.heap[X]? = some (.cells #[.int .i64 a, .int .i64 b, .int .i64 c, .int .i64 d] 109 (0, 0))
section
variable {w w' : World} {X : Nat} {a b c d : Int}
theorem B3.lt (h : B3 w X a b c) : X < w.heap.size := (Array.getElem?_eq_some_iff.1 h).1
theorem B4.lt (h : B4 w X a b c d) : X < w.heap.size := (Array.getElem?_eq_some_iff.1 h).1
theorem B3.step (h : B3 w X a b c) (hb : Below w.heap.size w w') : B3 w' X a b c := (hb.block X h.lt).trans h
theorem B4.step (h : B4 w X a b c d) (hb : Below w.heap.size w w') : B4 w' X a b c d := (hb.block X h.lt).trans h
theorem B4.set (h : B4 w X a b c d) (Y : Nat) (hn : X ≠ Y) (j : Nat) (y : Value) : B4 (w.setCell ⟨Y, j, none⟩ y) X a b c d := (heap_setCell_other w ⟨Y, j, none⟩ X y hn).trans h
theorem B3.cc (h : B3 w X a b c) : w.cell? ⟨X, 0, none⟩ = some (.int .i64 a) ∧ w.cell? ⟨X, 1, none⟩ = some (.int .i64 b) ∧ w.cell? ⟨X, 2, none⟩ = some (.int .i64 c) := by
  have := h; unfold B3 at this; simp [World.cell?, this]
theorem B4.cc (h : B4 w X a b c d) : w.cell? ⟨X, 0, none⟩ = some (.int .i64 a) ∧ w.cell? ⟨X, 1, none⟩ = some (.int .i64 b) ∧ w.cell? ⟨X, 2, none⟩ = some (.int .i64 c) ∧ w.cell? ⟨X, 3, none⟩ = some (.int .i64 d) := by
  have := h; unfold B4 at this; simp [World.cell?, this]
theorem B3.new (w : World) (a b c : Int) : B3 (w.alloc (.cells #[.int .i64 a, .int .i64 b, .int .i64 c] 47)) w.heap.size a b c := Go.heap_alloc_new _ _
theorem B4.new (w : World) (a b c d : Int) : B4 (w.alloc (.cells #[.int .i64 a, .int .i64 b, .int .i64 c, .int .i64 d] 109)) w.heap.size a b c d := Go.heap_alloc_new _ _
end
set_option maxHeartbeats 4000000 in
theorem newK_raw {c : Cfg} (hc : OkC c) (N : Nat) (i draw : Int) (b : Bg) (hi : (Lit.int .i64 i).wf = true) (w : World) (hm : Lay.IsMap w N c) (h : 0 ≤ plcc c 8 i 0) :
    Calls Tryz.prog 97 #[Lay.mapP N, .int .i64 i, bgV b.p b.t b.n, .int .i64 draw] w fun e w' => ∃ X M, e = .returned (ptr X) ∧ w.heap.size ≤ X ∧ w.heap.size ≤ M ∧ M ≠ X ∧ Kb w' X N i draw b.p (kbd b.t) (kbd b.n) (fnv 109 X) (ptr M) (.pointer none) 0 false ∧ Dg.MM w' M (Dg.mPop (eOf c i)) ∧ Below w.heap.size w w' := by
  have hmf : ∀ (fn : Fn) (first cap : Array Value) (w : World), (Instr.makeFunc fn first cap).run Tryz.prog w = .ok (.func fn first cap) w := fun _ _ _ _ => rfl
  obtain ⟨X, hX⟩ : ∃ X, X = w.heap.size + 1 := ⟨_, rfl⟩
  obtain ⟨W0, hW⟩ : ∃ W0, W0 = (w.alloc (.cells #[.int .i64 b.p, .int .i64 b.t, .int .i64 b.n] 47)).alloc (.cells #[Lay.mapP N, .int .i64 i, .int .i64 draw, .int .i64 b.p, .int .i64 b.t, .int .i64 b.n, .nilFunc, .pointer none, .pointer none, .int .u64 0, .bool false] 136) := ⟨_, rfl⟩
  have HA0 : Hid (Kb W0 X N i draw b.p b.t b.n .nilFunc (.pointer none) (.pointer none) 0 false) := Lib.hid (by
    rw [hW, hX]
    have := kb_new (w.alloc (.cells #[.int .i64 b.p, .int .i64 b.t, .int .i64 b.n] 47)) N i draw b.p b.t b.n
    rwa [show (w.alloc (.cells #[.int .i64 b.p, .int .i64 b.t, .int .i64 b.n] 47)).heap.size = w.heap.size + 1 by simp] at this)
  have HB0 : Hid (Below w.heap.size w W0) := Lib.hid (by rw [hW]; exact below_alloc0 (below_alloc0 (Below.refl w.heap.size w) _) _)
  have HG0 : Hid (B3 W0 w.heap.size b.p b.t b.n) := Lib.hid (by rw [hW]; exact (B3.new w b.p b.t b.n).step (below_alloc0 (Below.refl _ _) _))
  have HM := Lib.hid hm
  have HC := Lib.hid hc
  have HI := Lib.hid hi
  obtain ⟨e, he⟩ : ∃ e, e = eOf c i := ⟨_, rfl⟩
  obtain ⟨e0, e1, e2, e3⟩ := e
  have ee : enC c i = .agg #[.int .i64 e0, .int .i64 e1, .int .i64 e2, .int .i64 e3] := by unfold enC; rw [← he]
  have d1 : decide (e0 < 0) = false := by
    have : e0 = plcc c 8 i 0 := congrArg Dg.En.top he
    rw [this]; simpa using h
  rw [← he]
  have HE := Lib.hid ee
  rw [hW, hX] at HA0
  rw [hW] at HB0 HG0
  clear hm hc hi he ee h hW hX W0 X
  go_enter Tryz.func97, Tryz.ntmps97
  go_wp2_with (first
    | (go_at_call 72; (with_reducible refine (ends_any HC.out N i HI.out _ (HM.out.below HB0.out)).mono ?_); rintro r w1 ⟨rfl, hb⟩; rw [HE.out]; have HA1 := Lib.hid ((HA0.out.step hb).step (below_alloc0 (Below.refl w1.heap.size w1) (.cells #[.int .i64 e0, .int .i64 e1, .int .i64 e2, .int .i64 e3] 109))); have HB1 := Lib.hid (below_alloc0 (below_step HB0.out HB0.out.size hb) (.cells #[.int .i64 e0, .int .i64 e1, .int .i64 e2, .int .i64 e3] 109)); have HG1 := Lib.hid ((HG0.out.step hb).step (below_alloc0 (Below.refl w1.heap.size w1) (.cells #[.int .i64 e0, .int .i64 e1, .int .i64 e2, .int .i64 e3] 109))); have HO1 := Lib.hid (B4.new w1 e0 e1 e2 e3); obtain ⟨g0, g1, g2⟩ := HG1.out.cc; have HL1 := Lib.hid (HA0.out.step hb).lt; clear hb)
    | (go_at_call 107; (with_reducible refine (bounded_any _ _ _ _).mono ?_); rintro r w2 ⟨rfl, hb⟩; have HA2 := Lib.hid (HA1.out.step hb); have HB2 := Lib.hid (below_step HB1.out HB1.out.size hb); have HO2 := Lib.hid (HO1.out.step hb); clear hb g0 g1 g2; obtain ⟨_, _, _, q3, q4, q5⟩ := HA2.out.cc; have f3 := HA2.out.f 3; have f4 := HA2.out.f 4; have f5 := HA2.out.f 5; have HA3 := Lib.hid (HA2.out.pb b.p (kbd b.t) (kbd b.n)); have HO3 := Lib.hid (((HO2.out.set (w.heap.size + 1) (by have := HL1.out; omega) 3 (.int .i64 b.p)).set (w.heap.size + 1) (by have := HL1.out; omega) 4 (.int .i64 (kbd b.t))).set (w.heap.size + 1) (by have := HL1.out; omega) 5 (.int .i64 (kbd b.n))); obtain ⟨o0, o1, o2, o3⟩ := HO3.out.cc)
    | (go_at_call 108; (with_reducible refine (Dg.pop_any ⟨e0, e1, e2, e3⟩ _).mono ?_); rintro r w4 ⟨M, rfl, hM, hmm, hb⟩; have HA4 := Lib.hid (HA3.out.step hb); have HB4 := Lib.hid hb; have HMM := Lib.hid hmm; have HLT := Lib.hid hM; clear hb hmm hM o0 o1 o2 o3; have q7 := HA4.out.c7; have f7 := HA4.out.f 7; have HA5 := Lib.hid (HA4.out.p7 (ptr M)); have q6 := HA5.out.c6; have f6 := HA5.out.f 6; have HA6 := Lib.hid (HA5.out.p6 (fnv 109 (w.heap.size + 1))))
    | fail)
  go_ret
  have hl := HLT.out
  have hs := HB1.out.size
  have hs2 := HB2.out.size
  have ha := HA2.out.lt
  simp at hl
  have hne : M ≠ w.heap.size + 1 := by omega
  have b4 : Below w.heap.size w w4 := below_step (below_uf HB2.out (Nat.le_refl _) (uf_set3 (X := w.heap.size + 1) (a := 3) (b := 4) (d := 5) (.int .i64 b.p) (.int .i64 (kbd b.t)) (.int .i64 (kbd b.n))) (fun k e => by omega)) (by simp; exact hs2) HB4.out
  exact ⟨w.heap.size + 1, M, rfl, Nat.le_succ _, by omega, hne, HA6.out, dmm_same (dmm_same HMM.out (heap_setCell_other w4 ⟨w.heap.size + 1, 7, none⟩ M _ hne)) (heap_setCell_other _ ⟨w.heap.size + 1, 6, none⟩ M _ hne), below_uf (below_uf b4 (Nat.le_refl _) (UF.set _ _ 7 _) (fun k e => by omega)) (Nat.le_refl _) (UF.set _ _ 6 _) (fun k e => by omega)⟩
end Go.Proofs.YthoiaffeenhfgaaGreat

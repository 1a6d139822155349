/- A marker that looks for a task: what it turns to next; walked. A marker that looks for a task: what it knows are words. -/
import Derived.Test.YtnfbjebhpljikaaGreatSeM
import Derived.Test.YtnfbjebhpljikaaGreatJ21
namespace Go.Proofs.YtnfbjebhpljikaaGreat
open Go.RowKit
set_option linter.unusedVariables false
set_option linter.unusedSimpArgs false
set_option maxRecDepth 100000
open Lay (plcc plc shOf packN nodesN OkC Cfg Norm firstV Rep lenL things)

@[go_sem] theorem fld_mr (a0 a1 a2 a3 a4 a5 a6 a7 a8 a9 a10 a11 : Int) (w : World) : (Instr.field 27 (.agg #[.int .i64 a0, .int .i64 a1, .int .i64 a2, .int .i64 a3, .int .i64 a4, .int .i64 a5, .int .i64 a6, .int .i64 a7, .int .i64 a8, .int .i64 a9, .int .i64 a10, .int .i64 a11]) 1).run Tryz.prog w = .ok (.int .i64 a5) w := by kernel_rfl
theorem link_neg {c : Cfg} (hc : OkC c) (p : Int) : decide (plcc c 12 p 0 < 0) = decide (p < 1 ∨ ((pkn c : Nat) : Int) < p) := by
  have hn := pkn_is hc
  have h0 := (Lay.bds hc).p0
  by_cases h : 1 ≤ p ∧ p ≤ packN c
  · have := (gp_of hc).s.lk p h.1 (by omega)
    have e : atOf (gOf c).sp.links p = plcc c 12 p 0 := lnk_at hc p
    rw [e] at this
    rw [decide_eq_false (by omega), decide_eq_false (by omega)]
  · rw [← Lay.plc_link hc p, Lay.wordL, if_neg (by omega), decide_eq_true (by decide), decide_eq_true (by omega)]
/-- Behind what turns it to something else. -/
def Bec (w1 : World) (X N : Nat) (c : Cfg) (m : Km) (w' : World) : Prop :=
  ∃ nx dv pv, Kb w' X N m.i m.draw m.bag.p m.bag.t m.bag.n nx dv pv m.task m.found ∧ UF (fun b => b = X) w1 w' ∧
   ((m.pc = 0 ∧ nx = .nilFunc) ∨ (m.pc = 2 ∧ nx = fnv 87 X) ∨
    ((m.pc = 3 ∧ nx = fnv 104 X ∨ m.pc = 4 ∧ nx = fnv 102 X) ∧ m.p.pc ≠ 0 ∧ ∃ X2 O2 D2, pv = ptr X2 ∧ PKM w' X2 O2 D2 c N m.p ∧ (∀ k, O2 k → w1.heap.size ≤ k) ∧ (∀ k, D2 k → w1.heap.size ≤ k)) ∨
    (m.pc = 6 ∧ nx = fnv 133 X ∧ m.d.pc ≠ 0 ∧ ∃ M, dv = ptr M ∧ Dg.MM w' M m.d ∧ w1.heap.size ≤ M))
theorem UF.x {X : Nat} {w w1 w2 : World} (a : UF (fun b => b = X) w w1) (b : UF (fun b => b = X) w1 w2) : UF (fun b => b = X) w w2 := a.trans b (fun _ x => x) (fun _ _ x => x)
theorem Bec.back {w w1 w2 : World} {X N : Nat} {c : Cfg} {m : Km} (h : Bec w1 X N c m w2) (u : UF (fun b => b = X) w w1) : Bec w X N c m w2 := by
  obtain ⟨nx, dv, pv, hk, hu, h⟩ := h
  refine ⟨nx, dv, pv, hk, u.x hu, ?_⟩
  have hs := u.size
  rcases h with h | h | ⟨a, b, X2, O2, D2, e, hp, ho, hd⟩ | ⟨a, b, b2, M, e, hm, hl⟩
  · exact .inl h
  · exact .inr (.inl h)
  · exact .inr (.inr (.inl ⟨a, b, X2, O2, D2, e, hp, fun k hk => Nat.le_trans hs (ho k hk), fun k hk => Nat.le_trans hs (hd k hk)⟩))
  · exact .inr (.inr (.inr ⟨a, b, b2, M, e, hm, Nat.le_trans hs hl⟩))
theorem pk_far {w : World} {X X2 N j : Nat} {O2 D2 : Nat → Prop} {c : Cfg} {m : Pm} {y : Value} (h : PKM w X2 O2 D2 c N m) (hn : ¬ D2 X) : PKM (w.setCell ⟨X, j, none⟩ y) X2 O2 D2 c N m :=
  h.keep (by simp) fun k hk => heap_setCell_other w ⟨X, j, none⟩ k _ (fun (e : k = X) => hn (e ▸ hk))

section
variable {c : Cfg} {w : World} {X N : Nat} {nx dv pv : Value} {m : Km}
set_option maxHeartbeats 4000000 in
theorem askPool_any (hc : OkC c) (h : Kb w X N m.i m.draw m.bag.p m.bag.t m.bag.n nx dv pv m.task m.found) (hm : Lay.IsMap w N c) :
    Calls Tryz.prog 85 #[ptr X] w fun e w' => e = .returned (.tuple #[]) ∧ Bec w X N c (kask (gOf c) m) w' := by
  have hmf : ∀ (fn : Fn) (first cap : Array Value) (w : World), (Instr.makeFunc fn first cap).run Tryz.prog w = .ok (.func fn first cap) w := fun _ _ _ _ => rfl
  have HK := Lib.hid h; have HM := Lib.hid hm; have HC := Lib.hid hc
  obtain ⟨q0, q1, q2, q3, q4, q5⟩ := h.cc
  clear h hm hc
  go_enter Tryz.func85, Tryz.ntmps85
  go_wp2_with (first
    | (go_at_call 101; (with_reducible refine (take_pk HC.out N _ HM.out).mono ?_); rintro r w1 ⟨X2, O2, D2, rfl, hp, ho, hd, hb⟩; have HK1 := Lib.hid (HK.out.step hb); have HP := Lib.hid hp; have HO := Lib.hid ho; have HD := Lib.hid hd; have HB := Lib.hid hb; clear hp ho hd hb; have q8 := HK1.out.c8; have f8 := HK1.out.f 8; have HK2 := Lib.hid (HK1.out.p8 (ptr X2)); have q6 := HK2.out.c6; have f6 := HK2.out.f 6; have HK3 := Lib.hid (HK2.out.p6 (fnv 102 X)))
    | fail)
  go_returns
  have hn : ¬ D2 X := fun hd => by
    have hl := HK.out.lt
    rcases HD.out X hd with a | a
    · omega
    · exact a.elim
  exact ⟨rfl, _, _, _, HK3.out, ((UF.of_below HB.out).x (UF.set _ X _ _)).x (UF.set _ X _ _), .inr (.inr (.inl ⟨.inr ⟨rfl, rfl⟩, by simp [kask, pTake], X2, O2, D2, rfl, pk_far (pk_far HP.out hn) hn, HO.out, fun k hk => (HD.out k hk).resolve_right id⟩))⟩
theorem map_set {w : World} {X N : Nat} {c : Cfg} (hm : Lay.IsMap w N c) (hn : X ≠ N) (j : Nat) (y : Value) : Lay.IsMap (w.setCell ⟨X, j, none⟩ y) N c :=
  IsMap_same hm (by simp) (heap_setCell_other w ⟨X, j, none⟩ N y (fun (e : N = X) => hn e.symm))
theorem uf_set3 {w : World} {X a b d : Nat} (x y z : Value) : UF (fun k => k = X) w (((w.setCell ⟨X, a, none⟩ x).setCell ⟨X, b, none⟩ y).setCell ⟨X, d, none⟩ z) := ((UF.set w X a x).x (UF.set _ X b y)).x (UF.set _ X d z)
def kdrop (n : Nat) (g : Pg) (m : Km) : Km := if m.bag.p < 1 ∨ (n : Int) < m.bag.p then kask g { m with bag := bg0 } else { m with bag := bg0, p := pBack n g m.bag.p, pc := 3 }
set_option maxHeartbeats 4000000 in
theorem dropBag_any (hc : OkC c) (h : Kb w X N m.i m.draw m.bag.p m.bag.t m.bag.n nx dv pv m.task m.found) (hm : Lay.IsMap w N c) (hn : X ≠ N) (hw : (Lit.int .i64 m.bag.p).wf = true) :
    Calls Tryz.prog 88 #[ptr X] w fun e w' => e = .returned (.tuple #[]) ∧ Bec w X N c (kdrop (pkn c) (gOf c) m) w' := by
  have hmf : ∀ (fn : Fn) (first cap : Array Value) (w : World), (Instr.makeFunc fn first cap).run Tryz.prog w = .ok (.func fn first cap) w := fun _ _ _ _ => rfl
  have hl := link_neg hc m.bag.p
  have HK := Lib.hid h; have HM := Lib.hid hm; have HC := Lib.hid hc; have HNX := Lib.hid hn
  have HW := Lib.hid hw
  obtain ⟨q0, q1, q2, q3, q4, q5⟩ := h.cc
  clear h hm hc hw hn
  by_cases hb : m.bag.p < 1 ∨ ((pkn c : Nat) : Int) < m.bag.p
  · rw [show kdrop (pkn c) (gOf c) m = kask (gOf c) { m with bag := bg0 } by unfold kdrop; rw [if_pos hb]]
    rw [decide_eq_true hb] at hl
    clear hb
    go_enter Tryz.func88, Tryz.ntmps88
    go_wp2_with (first
      | (go_at_call 47; (with_reducible refine (none_any _).mono ?_); rintro r w1 ⟨rfl, hb⟩; have HK1 := Lib.hid (HK.out.step hb); have HM1 := Lib.hid (HM.out.below hb); have HB := Lib.hid hb; clear hb q0 q1 q2 q3 q4 q5; obtain ⟨q0, q1, q2, q3, q4, q5⟩ := HK1.out.cc; have f3 := HK1.out.f 3; have f4 := HK1.out.f 4; have f5 := HK1.out.f 5; have HK2 := Lib.hid (HK1.out.pb 0 0 0); have HM2 := Lib.hid (map_set (map_set (map_set HM1.out HNX.out 3 (.int .i64 0)) HNX.out 4 (.int .i64 0)) HNX.out 5 (.int .i64 0)))
      | (go_at_call 39; (with_reducible refine (Lay.link_m HC.out N m.bag.p HW.out _ HM2.out).mono ?_); rintro r w2 ⟨rfl, hb⟩; have HK3 := Lib.hid (HK2.out.step hb); have HM3 := Lib.hid (HM2.out.below hb); have HB3 := Lib.hid hb; clear hb q0 q1 q2 q3 q4 q5)
      | (go_at_call 85; (with_reducible refine (askPool_any (m := { m with bag := bg0 }) HC.out HK3.out HM3.out).mono ?_); rintro r w4 ⟨rfl, hb⟩; have HBB := Lib.hid hb; clear hb)
      | fail)
    go_returns
    exact ⟨rfl, HBB.out.back (((UF.of_below HB.out).x (uf_set3 _ _ _)).x (UF.of_below HB3.out))⟩
  · have hpc : (pBack (pkn c) (gOf c) m.bag.p).pc ≠ 0 := by unfold pBack; rw [if_neg hb]; simp
    rw [show kdrop (pkn c) (gOf c) m = { m with bag := bg0, p := pBack (pkn c) (gOf c) m.bag.p, pc := 3 } by unfold kdrop; rw [if_neg hb]]
    rw [decide_eq_false hb] at hl
    clear hb
    go_enter Tryz.func88, Tryz.ntmps88
    go_wp2_with (first
      | (go_at_call 47; (with_reducible refine (none_any _).mono ?_); rintro r w1 ⟨rfl, hb⟩; have HK1 := Lib.hid (HK.out.step hb); have HM1 := Lib.hid (HM.out.below hb); have HB := Lib.hid hb; clear hb q0 q1 q2 q3 q4 q5; obtain ⟨q0, q1, q2, q3, q4, q5⟩ := HK1.out.cc; have f3 := HK1.out.f 3; have f4 := HK1.out.f 4; have f5 := HK1.out.f 5; have HK2 := Lib.hid (HK1.out.pb 0 0 0); have HM2 := Lib.hid (map_set (map_set (map_set HM1.out HNX.out 3 (.int .i64 0)) HNX.out 4 (.int .i64 0)) HNX.out 5 (.int .i64 0)))
      | (go_at_call 39; (with_reducible refine (Lay.link_m HC.out N m.bag.p HW.out _ HM2.out).mono ?_); rintro r w2 ⟨rfl, hb⟩; have HK3 := Lib.hid (HK2.out.step hb); have HM3 := Lib.hid (HM2.out.below hb); have HB3 := Lib.hid hb; clear hb q0 q1 q2 q3 q4 q5; obtain ⟨q0, q1, q2, q3, q4, q5⟩ := HK3.out.cc)
      | (go_at_call 103; (with_reducible refine (back_pk HC.out N m.bag.p _ HM3.out HW.out).mono ?_); rintro r w4 ⟨X2, O2, D2, rfl, hp, ho, hd, hb⟩; have HK4 := Lib.hid (HK3.out.step hb); have HP := Lib.hid hp; have HO := Lib.hid ho; have HD := Lib.hid hd; have HB4 := Lib.hid hb; clear hp ho hd hb q0 q1 q2 q3 q4 q5; have q8 := HK4.out.c8; have f8 := HK4.out.f 8; have HK5 := Lib.hid (HK4.out.p8 (ptr X2)); have q6 := HK5.out.c6; have f6 := HK5.out.f 6; have HK6 := Lib.hid (HK5.out.p6 (fnv 104 X)))
      | fail)
    go_returns
    have hn : ¬ D2 X := fun hd => by
      have hl := HK3.out.lt
      rcases HD.out X hd with a | a
      · omega
      · exact a.elim
    have s1 := HB.out.size
    have s2 := HB3.out.size
    simp at s2
    exact ⟨rfl, _, _, _, HK6.out, ((((UF.of_below HB.out).x (uf_set3 _ _ _)).x (UF.of_below HB3.out)).x (UF.of_below HB4.out)).x ((UF.set _ X _ _).x (UF.set _ X _ _)), .inr (.inr (.inl ⟨.inl ⟨rfl, rfl⟩, hpc, X2, O2, D2, rfl, pk_far (pk_far HP.out hn) hn, fun k hk => by have := HO.out k hk; omega, fun k hk => by have := (HD.out k hk).resolve_right id; omega⟩))⟩
set_option maxHeartbeats 4000000 in
theorem useBag_any (hc : OkC c) (h : Kb w X N m.i m.draw m.bag.p m.bag.t m.bag.n nx dv pv m.task m.found) (hm : Lay.IsMap w N c) (hn : X ≠ N) (hw : (Lit.int .i64 m.bag.p).wf = true) :
    Calls Tryz.prog 73 #[ptr X] w fun e w' => e = .returned (.tuple #[]) ∧ Bec w X N c (kbag (pkn c) (gOf c) m) w' := by
  have hmf : ∀ (fn : Fn) (first cap : Array Value) (w : World), (Instr.makeFunc fn first cap).run Tryz.prog w = .ok (.func fn first cap) w := fun _ _ _ _ => rfl
  have HK := Lib.hid h; have HM := Lib.hid hm; have HC := Lib.hid hc; have HNX := Lib.hid hn
  have HW := Lib.hid hw
  have q345 : ∀ w1, Below w.heap.size w w1 → w1.cell? ⟨X, 3, none⟩ = some (.int .i64 m.bag.p) ∧ w1.cell? ⟨X, 4, none⟩ = some (.int .i64 m.bag.t) ∧ w1.cell? ⟨X, 5, none⟩ = some (.int .i64 m.bag.n) := fun w1 hb => by
    obtain ⟨_, _, _, q3, q4, q5⟩ := (HK.out.step hb).cc
    exact ⟨q3, q4, q5⟩
  have HQ := Lib.hid q345
  have HB0 := Lib.hid (Below.refl w.heap.size w)
  clear h hm hc hw hn q345
  by_cases hz : m.bag.p = 0 ∧ m.bag.t = 0 ∧ m.bag.n = 0
  · rw [show kbag (pkn c) (gOf c) m = kask (gOf c) m by unfold kbag; rw [if_pos hz]]
    go_enter Tryz.func73, Tryz.ntmps73
    go_wp2
    go_region_held3 (fun w' => w'.cell? ⟨X, 3, none⟩ = some (.int .i64 m.bag.p) ∧ w'.cell? ⟨X, 4, none⟩ = some (.int .i64 m.bag.t) ∧ w'.cell? ⟨X, 5, none⟩ = some (.int .i64 m.bag.n))
      (first | exact HQ.out _ HB1.out | exact HQ.out _ HB0.out.drew | go_keep)
      (first
        | (go_at_call 47; (with_reducible refine (none_any _).mono ?_); rintro r w1 ⟨rfl, hb⟩; have HB1 := Lib.hid (HB0.out.drew.trans hb); clear hb)
        | fail)
    all_goals
      go_wp2_with (first
        | (go_at_call 85; (with_reducible refine (askPool_any HC.out (HK.out.step HB1.out) (HM.out.below HB1.out)).mono ?_); rintro r w4 ⟨rfl, hb⟩; have HBB := Lib.hid hb; clear hb)
        | fail)
      go_returns
      exact ⟨rfl, HBB.out.back (UF.of_below HB1.out)⟩
  · have ez : decide (m.bag.p = 0 ∧ m.bag.t = 0 ∧ m.bag.n = 0) = false := decide_eq_false hz
    by_cases ht : m.bag.p ≠ 0 ∧ m.bag.t < m.bag.n
    · rw [show kbag (pkn c) (gOf c) m = { m with pc := 2 } by unfold kbag; rw [if_neg hz, if_pos ht]]
      have HT := Lib.hid (decide_eq_true ht)
      clear ht hz
      go_enter Tryz.func73, Tryz.ntmps73
      go_wp2
      go_region_held3 (fun w' => w'.cell? ⟨X, 3, none⟩ = some (.int .i64 m.bag.p) ∧ w'.cell? ⟨X, 4, none⟩ = some (.int .i64 m.bag.t) ∧ w'.cell? ⟨X, 5, none⟩ = some (.int .i64 m.bag.n))
        (first | exact HQ.out _ HB1.out | exact HQ.out _ HB0.out.drew | go_keep)
        (first
          | (go_at_call 47; (with_reducible refine (none_any _).mono ?_); rintro r w1 ⟨rfl, hb⟩; have HB1 := Lib.hid (HB0.out.drew.trans hb); clear hb)
          | fail)
      all_goals
        have q := HQ.out _ HB1.out
        obtain ⟨q3, q4, q5⟩ := q
        go_wp2_with (first
          | (go_at_call 86; (with_reducible refine (hasTask_any _ _ _ _).mono ?_); rintro r w4 ⟨rfl, hb⟩; rw [HT.out]; have HB4 := Lib.hid hb; have HK4 := Lib.hid ((HK.out.step HB1.out).step hb); clear hb q3 q4 q5; have q6 := HK4.out.c6; have f6 := HK4.out.f 6; have HK5 := Lib.hid (HK4.out.p6 (fnv 87 X)))
          | fail)
        go_returns
        exact ⟨rfl, _, _, _, HK5.out, ((UF.of_below HB1.out).x (UF.of_below HB4.out)).x (UF.set _ X _ _), .inr (.inl ⟨rfl, rfl⟩)⟩
    · rw [show kbag (pkn c) (gOf c) m = kdrop (pkn c) (gOf c) m by unfold kbag; rw [if_neg hz, if_neg ht]; rfl]
      have HT := Lib.hid (decide_eq_false ht)
      clear ht hz
      go_enter Tryz.func73, Tryz.ntmps73
      go_wp2
      go_region_held3 (fun w' => w'.cell? ⟨X, 3, none⟩ = some (.int .i64 m.bag.p) ∧ w'.cell? ⟨X, 4, none⟩ = some (.int .i64 m.bag.t) ∧ w'.cell? ⟨X, 5, none⟩ = some (.int .i64 m.bag.n))
        (first | exact HQ.out _ HB1.out | exact HQ.out _ HB0.out.drew | go_keep)
        (first
          | (go_at_call 47; (with_reducible refine (none_any _).mono ?_); rintro r w1 ⟨rfl, hb⟩; have HB1 := Lib.hid (HB0.out.drew.trans hb); clear hb)
          | fail)
      all_goals
        have q := HQ.out _ HB1.out
        obtain ⟨q3, q4, q5⟩ := q
        go_wp2_with (first
          | (go_at_call 86; (with_reducible refine (hasTask_any _ _ _ _).mono ?_); rintro r w4 ⟨rfl, hb⟩; rw [HT.out]; have HB4 := Lib.hid hb; have HK4 := Lib.hid ((HK.out.step HB1.out).step hb); have HM4 := Lib.hid ((HM.out.below HB1.out).below hb); clear hb q3 q4 q5)
          | (go_at_call 88; (with_reducible refine (dropBag_any HC.out HK4.out HM4.out HNX.out HW.out).mono ?_); rintro r w5 ⟨rfl, hb⟩; have HBB := Lib.hid hb; clear hb)
          | fail)
        go_returns
        exact ⟨rfl, HBB.out.back ((UF.of_below HB1.out).x (UF.of_below HB4.out))⟩
theorem mr_rng {c : Cfg} (hc : OkC c) : 1 ≤ c.mr ∧ c.mr ≤ 1000 := by
  obtain ⟨a0, a1, b0, b1, c0, c1, d0, d1, e0, e1, s0, k0, k1, u0, u1, q0, q1, h0, h1, f0, f1, r0, r1, w0, w1⟩ := hc
  omega
theorem kvic_rng {all i draw : Int} (h : all ≤ 1000) : -1 ≤ kvic all i draw ∧ kvic all i draw ≤ 1000 := by
  unfold kvic kback
  by_cases h2 : all < 2
  · rw [if_pos h2]; omega
  · rw [if_neg h2]
    have h3 := Int.emod_nonneg draw (show all ≠ 0 by omega)
    have h4 := Int.emod_lt_of_pos draw (show 0 < all by omega)
    split
    · split <;> omega
    · omega
set_option maxHeartbeats 4000000 in
theorem chooseVictim_any (hc : OkC c) (h : Kb w X N m.i m.draw m.bag.p m.bag.t m.bag.n nx dv pv m.task m.found) (hm : Lay.IsMap w N c) (hn : X ≠ N) (hd : -9223372036854775808 ≤ m.draw ∧ m.draw ≤ 9223372036854775807) :
    Calls Tryz.prog 116 #[ptr X] w fun e w' => e = .returned (.tuple #[]) ∧ Bec w X N c (kvict (eOf c) c.mr m) w' := by
  have hmf : ∀ (fn : Fn) (first cap : Array Value) (w : World), (Instr.makeFunc fn first cap).run Tryz.prog w = .ok (.func fn first cap) w := fun _ _ _ _ => rfl
  have HK := Lib.hid h; have HM := Lib.hid hm; have HC := Lib.hid hc; have HNX := Lib.hid hn
  have HD := Lib.hid hd
  have hr := mr_rng hc
  have HR := Lib.hid (show -9223372036854775808 ≤ c.mr ∧ c.mr ≤ 9223372036854775807 by omega)
  have hv := kvic_rng (i := m.i) (draw := m.draw) hr.2
  have HVW := Lib.hid (Lay.wf_i64 (v := kvic c.mr m.i m.draw) (by omega) (by omega))
  obtain ⟨v, ev⟩ : ∃ v, kvic c.mr m.i m.draw = v := ⟨_, rfl⟩
  have HV := Lib.hid ev
  have q012 : ∀ w1, Below w.heap.size w w1 → w1.cell? ⟨X, 0, none⟩ = some (Lay.mapP N) ∧ w1.cell? ⟨X, 1, none⟩ = some (.int .i64 m.i) ∧ w1.cell? ⟨X, 2, none⟩ = some (.int .i64 m.draw) := fun w1 hb => by
    obtain ⟨q0, q1, q2, _⟩ := (HK.out.step hb).cc
    exact ⟨q0, q1, q2⟩
  have HQ := Lib.hid q012
  have HB0 := Lib.hid (Below.refl w.heap.size w)
  clear h hm hc hn q012 hd hr hv
  by_cases hz : v < 0
  · rw [show kvict (eOf c) c.mr m = { m with pc := 0 } by unfold kvict; rw [ev, if_pos hz]]
    clear ev
    go_enter Tryz.func116, Tryz.ntmps116
    go_wp2
    go_region_held3 (fun w' => w'.cell? ⟨X, 0, none⟩ = some (Lay.mapP N) ∧ w'.cell? ⟨X, 1, none⟩ = some (.int .i64 m.i) ∧ w'.cell? ⟨X, 2, none⟩ = some (.int .i64 m.draw))
      (first | exact HQ.out _ HB1.out | exact HQ.out _ HB0.out.drew | go_keep)
      (first
        | (go_at_call 66; (with_reducible refine (Lay.config_m N _ (HM.out.below HB0.out.drew)).mono ?_); rintro r w1 ⟨rfl, hb⟩; have HB1 := Lib.hid (HB0.out.drew.trans hb); clear hb)
        | (go_at_call 6; (with_reducible refine (victim_any _ _ _ _ HR.out HD.out).mono ?_); rintro r w2 ⟨rfl, rfl⟩; rw [HV.out])
        | fail)
    all_goals
      go_wp2_with (first
        | (go_at_call 131; (with_reducible refine (giveUp_any (HK.out.step HB1.out)).mono ?_); rintro r w4 ⟨rfl, hk, hu⟩; have HK4 := Lib.hid hk; have HU := Lib.hid hu; clear hk hu)
        | fail)
      go_returns
      exact ⟨rfl, _, _, _, HK4.out, (UF.of_below HB1.out).x HU.out, .inl ⟨rfl, rfl⟩⟩
  · rw [show kvict (eOf c) c.mr m = { m with pc := 6, d := Dg.mSteal (eOf c v) } by unfold kvict; rw [ev, if_neg hz]]
    have HVW2 := Lib.hid (show (Lit.int .i64 v).wf = true from ev ▸ HVW.out)
    clear ev
    go_enter Tryz.func116, Tryz.ntmps116
    go_wp2
    go_region_held3 (fun w' => w'.cell? ⟨X, 0, none⟩ = some (Lay.mapP N) ∧ w'.cell? ⟨X, 1, none⟩ = some (.int .i64 m.i) ∧ w'.cell? ⟨X, 2, none⟩ = some (.int .i64 m.draw))
      (first | exact HQ.out _ HB1.out | exact HQ.out _ HB0.out.drew | go_keep)
      (first
        | (go_at_call 66; (with_reducible refine (Lay.config_m N _ (HM.out.below HB0.out.drew)).mono ?_); rintro r w1 ⟨rfl, hb⟩; have HB1 := Lib.hid (HB0.out.drew.trans hb); clear hb)
        | (go_at_call 6; (with_reducible refine (victim_any _ _ _ _ HR.out HD.out).mono ?_); rintro r w2 ⟨rfl, rfl⟩; rw [HV.out])
        | fail)
    all_goals
      have q := HQ.out _ HB1.out
      obtain ⟨q0, q1, q2⟩ := q
      go_wp2_with (first
        | (go_at_call 43; (with_reducible refine (ends_any HC.out N v HVW2.out _ (HM.out.below HB1.out)).mono ?_); rintro r w4 ⟨rfl, hb⟩; have HB4 := Lib.hid hb; clear hb q0 q1 q2)
        | (go_at_call 132; (with_reducible refine (Dg.steal_any (eOf c v) _).mono ?_); rintro r w5 ⟨M, rfl, hM, hmm, hb⟩; have HB5 := Lib.hid hb; have HMM := Lib.hid hmm; have HLT := Lib.hid hM; have HK5 := Lib.hid (((HK.out.step HB1.out).step HB4.out).step hb); clear hb hmm hM; have q7 := HK5.out.c7; have f7 := HK5.out.f 7; have HK6 := Lib.hid (HK5.out.p7 (ptr M)); have q6 := HK6.out.c6; have f6 := HK6.out.f 6; have HK7 := Lib.hid (HK6.out.p6 (fnv 133 X)))
        | fail)
      go_returns
      have s1 := HB1.out.size
      have s4 := HB4.out.size
      have hl := HK.out.lt
      have hM := HLT.out
      have hne : M ≠ X := by omega
      exact ⟨rfl, _, _, _, HK7.out, (((UF.of_below HB1.out).x (UF.of_below HB4.out)).x (UF.of_below HB5.out)).x ((UF.set _ X _ _).x (UF.set _ X _ _)), .inr (.inr (.inr ⟨rfl, rfl, by simp [Dg.mSteal], M, rfl, dmm_same (dmm_same HMM.out (heap_setCell_other _ ⟨X, 7, none⟩ M _ hne)) (heap_setCell_other _ ⟨X, 6, none⟩ M _ hne), by omega⟩))⟩
end
end Go.Proofs.YtnfbjebhpljikaaGreat

namespace Go.Proofs.YtnfbjebhpljikaaGreat
open Go.RowKit
set_option linter.unusedVariables false
set_option linter.unusedSimpArgs false
set_option maxRecDepth 100000
open Lay (plcc plc shOf packN nodesN OkC Cfg Norm firstV Rep lenL things)

/-- What a pop, a steal knows are words. -/
structure DX (d : Dg.Mc) : Prop where
  kd : d.kind = 2 ∨ d.kind = 3
  ok : Dg.EnOk d.e
  b : 0 ≤ d.b ∧ d.b ≤ 18446744073709551615
  w : 0 ≤ d.w ∧ d.w ≤ 18446744073709551615
  t : 0 ≤ d.t
theorem DX.pop {e : Dg.En} (ok : Dg.EnOk e) : DX (Dg.mPop e) := ⟨.inl rfl, ok, by simp [Dg.mPop], by simp [Dg.mPop], by simp [Dg.mPop]⟩
theorem DX.steal {e : Dg.En} (ok : Dg.EnOk e) : DX (Dg.mSteal e) := ⟨.inr rfl, ok, by simp [Dg.mSteal], by simp [Dg.mSteal], by simp [Dg.mSteal]⟩
theorem DX.step {L : List Int} {m : Dg.Mc} (h : DX m) (ww : WW L) : DX (Dg.stp L m).2 ∧ WW (Dg.stp L m).1 := by
  obtain ⟨hk, hok, hb, hw, ht⟩ := h
  have u := u64w_rng
  have l := ww.ldq
  by_cases hp : m.pc = 0
  · rw [Dg.stp_no hp]; exact ⟨⟨hk, hok, hb, hw, ht⟩, ww⟩
  · have key : ∀ P : List Int × Dg.Mc → Prop, (∀ L' m', WW L' → m'.kind = m.kind → m'.e = m.e → (0 ≤ m'.b ∧ m'.b ≤ 18446744073709551615) → (0 ≤ m'.w ∧ m'.w ≤ 18446744073709551615) → 0 ≤ m'.t → P (L', m')) → P (Dg.stp L m) := by
      intro P hP
      rcases hk with hk | hk
      · have es : Dg.stp L m = Dg.popS L m := by simp [Dg.stp, hp, hk]
        rw [es]
        unfold Dg.popS Dg.fin
        repeat' refine Dg.ite_ind (P := P) ?_ ?_
        all_goals apply hP
        all_goals try (by_cases hwon : m.won = true <;> simp only [hwon, if_true, if_false, Bool.false_eq_true])
        all_goals first
          | exact ww
          | exact hb
          | exact hw
          | exact ht
          | exact u _
          | exact l _
          | exact (l _).1
          | exact ww.put _ hb
          | exact ww.put _ (u _)
          | exact ⟨Int.le_refl 0, (by decide : (0 : Int) ≤ 18446744073709551615)⟩
      · have es : Dg.stp L m = Dg.stealS L m := by simp [Dg.stp, hp, hk]
        rw [es]
        unfold Dg.stealS Dg.fin
        repeat' refine Dg.ite_ind (P := P) ?_ ?_
        all_goals apply hP
        all_goals first
          | exact ww
          | exact hb
          | exact hw
          | exact ht
          | exact u _
          | exact l _
          | exact (l _).1
          | exact ww.put _ hb
          | exact ww.put _ (u _)
          | rfl
          | exact ⟨Int.le_refl 0, (by decide : (0 : Int) ≤ 18446744073709551615)⟩
    exact key (fun z => DX z.2 ∧ WW z.1) fun L' m' a b c d e f => ⟨⟨by rw [b]; exact hk, by rw [c]; exact hok, d, e, f⟩, a⟩
/-- What a machine knows are words; t: how often a part of the pool's has begun at most. -/
structure KW (c : Cfg) (t : Int) (m : Km) : Prop where
  pc : m.pc ≤ 6
  dr : -9223372036854775808 ≤ m.draw ∧ m.draw ≤ 9223372036854775807
  bp : (Lit.int .i64 m.bag.p).wf = true
  bt : m.pc ≠ 0 → 0 ≤ m.bag.t ∧ m.bag.t ≤ 4 ∧ 0 ≤ m.bag.n ∧ m.bag.n ≤ 4
  b2 : m.pc = 2 → m.bag.t < m.bag.n
  d : m.pc = 1 ∨ m.pc = 6 → DX m.d
  p : m.pc = 3 ∨ m.pc = 4 ∨ m.pc = 5 → PW c t m.p
  p5 : m.pc = 5 → m.p.pc = 0
  tk : 0 ≤ m.task ∧ m.task ≤ 18446744073709551615
  t0 : 0 ≤ t
section
variable {c : Cfg} {t u : Int} {m : Km} {L : List Int}
theorem KW.mono (h : KW c t m) (k : t ≤ u) : KW c u m := ⟨h.pc, h.dr, h.bp, h.bt, h.b2, h.d, fun e => (h.p e).mono k, h.p5, h.tk, by have := h.t0; omega⟩
theorem wf_0 : (Lit.int .i64 0).wf = true := by decide
theorem kw_ask {b : Bg} (h : KW c t m) (hb : (Lit.int .i64 b.p).wf = true) (hr : 0 ≤ b.t ∧ b.t ≤ 4 ∧ 0 ≤ b.n ∧ b.n ≤ 4) : KW c t (kask (gOf c) { m with bag := b }) := by
  have t0 := h.t0
  refine ⟨by simp [kask], h.dr, hb, fun _ => hr, fun e => by simp [kask] at e, fun e => by simp [kask] at e, fun _ => (pw_take c).mono t0, fun e => by simp [kask] at e, h.tk, t0⟩
theorem kw_bag (h : KW c t m) (h0 : m.pc ≠ 0) (n : Nat) : KW c t (kbag n (gOf c) m) := by
  have t0 := h.t0
  have bt := h.bt h0
  unfold kbag
  split
  · exact kw_ask (b := m.bag) h h.bp bt
  · split
    · rename_i ht
      exact ⟨by simp, h.dr, h.bp, fun _ => bt, fun _ => ht.2, fun e => by simp at e, fun e => by simp at e, fun e => by simp at e, h.tk, t0⟩
    · split
      · exact kw_ask (b := bg0) h wf_0 (by simp [bg0])
      · exact ⟨by simp, h.dr, wf_0, fun _ => by simp [bg0], fun e => by simp at e, fun e => by simp at e, fun _ => (pw_back c n m.bag.p).mono t0, fun e => by simp at e, h.tk, t0⟩
theorem KW.new {e : Dg.En} {i draw : Int} {b : Bg} (ok : Dg.EnOk e) (hd : -9223372036854775808 ≤ draw ∧ draw ≤ 9223372036854775807) (hb : (Lit.int .i64 b.p).wf = true) : KW c 0 (kNew e i b draw) := by
  have k : ∀ x, 0 ≤ kbd x ∧ kbd x ≤ 4 := fun x => by unfold kbd; split <;> (try split) <;> omega
  have k1 := k b.t
  have k2 := k b.n
  exact ⟨by simp [kNew], hd, hb, fun _ => ⟨k1.1, k1.2, k2.1, k2.2⟩, fun e => by simp [kNew] at e, fun _ => DX.pop ok, fun e => by simp [kNew] at e, fun e => by simp [kNew] at e, by simp [kNew], by omega⟩
theorem kw_own (hc : OkC c) (h : KW c t m) (hp : m.pc = 1 ∨ m.pc = 6) {d : Dg.Mc} (hd : DX d) (n : Nat) : KW c t (kown n (gOf c) m d) := by
  have t0 := h.t0
  have hm : KW c t { m with d := d } := ⟨h.pc, h.dr, h.bp, h.bt, h.b2, fun _ => hd, h.p, h.p5, h.tk, t0⟩
  unfold kown
  split
  · split
    · exact ⟨by simp [kfin], h.dr, h.bp, fun e => by simp [kfin] at e, fun e => by simp [kfin] at e, fun e => by simp [kfin] at e, fun e => by simp [kfin] at e, fun e => by simp [kfin] at e, hd.w, t0⟩
    · split
      · exact kw_bag hm (by show m.pc ≠ 0; omega) n
      · exact ⟨by simp, h.dr, h.bp, fun e => by simp at e, fun e => by simp at e, fun e => by simp at e, fun e => by simp at e, fun e => by simp at e, h.tk, t0⟩
  · exact hm
theorem kw_pak (hc : OkC c) (h : KW c t m) (hp : m.pc = 3 ∨ m.pc = 4) {p : Pm} (hd : PW c u p) (htu : t ≤ u) : KW c u (kpak (gOf c) (eOf c) c.mr m p) := by
  have t0 := h.t0
  have hm : KW c u { m with p := p } := ⟨h.pc, h.dr, h.bp, h.bt, h.b2, h.d, fun _ => hd, fun e => by have e : m.pc = 5 := e; omega, h.tk, by omega⟩
  have bt := h.bt (by omega)
  unfold kpak
  split
  · rename_i hp0
    split
    · exact kw_ask (m := { m with p := p }) (b := m.bag) hm h.bp bt
    · split
      · unfold kvict
        split
        · exact ⟨by simp, h.dr, h.bp, fun e => by simp at e, fun e => by simp at e, fun e => by simp at e, fun e => by simp at e, fun e => by simp at e, h.tk, by omega⟩
        · exact ⟨by simp, h.dr, h.bp, fun _ => bt, fun e => by simp at e, fun _ => DX.steal (eok_of hc _), fun e => by simp at e, fun e => by simp at e, h.tk, by omega⟩
      · exact ⟨by simp, h.dr, h.bp, fun _ => bt, fun e => by simp at e, fun e => by simp at e, fun _ => hd, fun _ => hp0, h.tk, by omega⟩
  · exact hm
theorem KW.step (hc : OkC c) (h : KW c t m) (ww : WW L) : KW c (t + 1) (kstp (pkn c) (gOf c) (eOf c) c.mr L m).2 ∧ WW (kstp (pkn c) (gOf c) (eOf c) c.mr L m).1 := by
  have t0 := h.t0
  unfold kstp
  by_cases p1 : m.pc = 1 ∨ m.pc = 6
  · rw [if_pos p1]
    obtain ⟨k1, k2⟩ := (h.d p1).step ww
    exact ⟨(kw_own hc h p1 k1 _).mono (by omega), k2⟩
  · rw [if_neg p1]
    by_cases p2 : m.pc = 2
    · rw [if_pos p2]
      exact ⟨⟨by simp [kfin], h.dr, h.bp, fun e => by simp [kfin] at e, fun e => by simp [kfin] at e, fun e => by simp [kfin] at e, fun e => by simp [kfin] at e, fun e => by simp [kfin] at e, ww.ldq _, by omega⟩, ww⟩
    · rw [if_neg p2]
      by_cases p3 : m.pc = 3 ∨ m.pc = 4
      · rw [if_pos p3]
        obtain ⟨k1, k2⟩ := (h.p (by omega)).step ww
        exact ⟨kw_pak hc h p3 k1 (by omega), k2⟩
      · rw [if_neg p3]
        by_cases p5 : m.pc = 5
        · rw [if_pos p5]
          have hp := (h.p (by omega)).p
          have k : 0 ≤ k4 (ldq L ((gOf c).mn m.p.p)) ∧ k4 (ldq L ((gOf c).mn m.p.p)) ≤ 4 := by
            have := ww.ldq ((gOf c).mn m.p.p)
            unfold k4; split <;> omega
          have hm : KW c t { m with bag := ⟨m.p.p, 0, k4 (ldq L ((gOf c).mn m.p.p))⟩ } := ⟨h.pc, h.dr, Lay.wf_i64 (by dsimp only; omega) (by dsimp only; omega), fun _ => by dsimp only; omega, fun e => absurd e p2, h.d, h.p, h.p5, h.tk, t0⟩
          exact ⟨(kw_bag hm (by show m.pc ≠ 0; omega) _).mono (by omega), ww⟩
        · rw [if_neg p5]
          exact ⟨h.mono (by omega), ww⟩
end
end Go.Proofs.YtnfbjebhpljikaaGreat

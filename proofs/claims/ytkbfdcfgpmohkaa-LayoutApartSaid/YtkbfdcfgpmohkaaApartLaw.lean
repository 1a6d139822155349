/- The call of the law of things apart. -/
import Derived.Test.YtkbfdcfgpmohkaaChecks
import Derived.Test.YtkbfdcfgpmohkaaThings
namespace Go.Proofs.Ytkbfdcfgpmohkaa
open Go.RowKit
set_option linter.unusedVariables false

theorem info4 : (Try.prog.info? 4).map (fun i => (i.zero, i.size, i.bytes)) = some (some (.bool false), 1, 1) := by kernel_rfl

/-- Which places were seen. -/
def seenL (k n : Nat) : List Value := (List.range n).map fun j => .bool (decide (j < k))
theorem seen_get (k n j : Nat) (h : j < n) : (seenL k n)[j]? = some (.bool (decide (j < k))) := by simp [seenL, h]
theorem seen_set (k n : Nat) (h : k < n) : (seenL k n).set k (.bool true) = seenL (k + 1) n := by
  apply List.ext_getElem?
  intro j
  by_cases hj : j < n
  · by_cases e : j = k
    · subst e; simp [seenL, h]
    · rw [List.getElem?_set_ne (Ne.symm e), seen_get k n j hj, seen_get (k + 1) n j hj]
      congr 3; simp; omega
  · simp [seenL, hj]
theorem seen_zero (n : Nat) : seenL 0 n = List.replicate n (.bool false) := by
  apply List.ext_getElem?
  intro j
  by_cases hj : j < n
  · rw [seen_get 0 n j hj]; simp [hj]
  · simp [seenL, hj]
/-- The row of what was seen. -/
def Seen (w0 : World) (n k : Nat) (wr : World) : Prop :=
  wr.ownsRow w0.heap.size 4 1 (.slice (some ⟨w0.heap.size, 0, none⟩) n n) n (seenL k n) ∧ Below w0.heap.size w0 wr
theorem Seen.step {w0 wr w' : World} {n k : Nat} (h : Seen w0 n k wr) (hb : Below wr.heap.size wr w') : Seen w0 n k w' :=
  ⟨h.1.kept (grown_of_below (row := none) hb) (.inr (by intro e; cases e)), below_step h.2 h.2.size hb⟩
theorem Seen.bel {w0 wr : World} {n k : Nat} (h : Seen w0 n k wr) : Below w0.heap.size w0 wr := h.2
theorem Seen.cell {w0 wr : World} {n k : Nat} (h : Seen w0 n k wr) (j : Nat) (hj : j < n) : wr.cell? ⟨w0.heap.size, j, none⟩ = some (.bool (decide (j < k))) ∧ wr.frozen? ⟨w0.heap.size, j, none⟩ = false := by
  refine ⟨?_, h.1.frozenAt j⟩
  rw [h.1.cellAt j (by omega)]; exact seen_get k n j hj
theorem Seen.set {w0 wr : World} {n k : Nat} (h : Seen w0 n k wr) (hk : k < n) : Seen w0 n (k + 1) (wr.setCell ⟨w0.heap.size, k, none⟩ (.bool true)) := by
  have s := (h.1.stored k (.bool true)).1
  rw [seen_set k n hk] at s
  exact ⟨s, h.2.setCell (Nat.le_refl _) _⟩
theorem KQ.belowB {w : World} {B N : Nat} {c : Cfg} {w0 w' : World} (h : KQ w B N c w0) (hb : Below w0.heap.size w0 w') : KQ w B N c w' := h.step hb

theorem things_ok {s : Sh} (k : Nat) (hk : k < (things s).length) : 0 ≤ (gt (things s) k).k ∧ (gt (things s) k).k ≤ 18 := by
  have e := seg_all s k hk
  obtain ⟨t, ht⟩ : ∃ t, gt (things s) k = t := ⟨_, rfl⟩
  rw [ht] at e ⊢
  constructor
  · apply Classical.byContradiction; intro hn
    unfold plc at e; rw [if_pos (by omega)] at e; omega
  · apply Classical.byContradiction; intro hn
    unfold plc at e
    rw [if_neg (by omega), if_neg (by omega), if_neg (by omega), if_neg (by omega), if_neg (by omega), if_neg (by omega), if_neg (by omega), if_neg (by omega), if_neg (by omega), if_neg (by omega), if_neg (by omega), if_neg (by omega)] at e
    omega

theorem mem_num {s : Sh} {t : Th} (h : t ∈ things s) : 0 ≤ t.a ∧ (t.a ≤ 18 ∨ t.a ≤ s.U ∨ t.a ≤ s.M ∨ t.a ≤ s.P ∨ t.a ≤ s.r.length) := by
  have hm : ∀ D n, t ∈ marksTo D n → 0 ≤ t.a ∧ t.a ≤ n := by
    intro D n
    induction n with
    | zero => intro h; simp [marksTo] at h
    | succ n ih =>
      intro h
      rw [marksTo, List.mem_append] at h
      rcases h with h | h
      · have := ih h; omega
      · simp [mark1, entries] at h
        rcases h with rfl | rfl | ⟨j, _, rfl⟩ <;> simp <;> omega
  have hp : ∀ n, t ∈ packsTo n → 0 ≤ t.a ∧ t.a ≤ n := by
    intro n
    induction n with
    | zero => intro h; simp [packsTo] at h
    | succ n ih =>
      intro h
      rw [packsTo, List.mem_append] at h
      rcases h with h | h
      · have := ih h; omega
      · simp [pack1, tasks] at h
        rcases h with rfl | rfl | ⟨j, _, rfl⟩ <;> simp <;> omega
  have hv : ∀ r n, t ∈ nodesTo r n → 0 ≤ t.a ∧ t.a ≤ n := by
    intro r n
    induction n with
    | zero => intro h; simp [nodesTo] at h
    | succ n ih =>
      intro h
      rw [nodesTo, List.mem_append] at h
      rcases h with h | h
      · have := ih h; omega
      · simp [node1, slots] at h
        rcases h with rfl | rfl | rfl | rfl | ⟨j, _, rfl⟩ <;> simp <;> omega
  unfold things at h
  simp only [List.mem_append] at h
  rcases h with ((((h | h) | h) | h) | h) | h
  · simp [singles] at h; obtain ⟨j, _, rfl⟩ := h; simp
  · simp [acks] at h; obtain ⟨j, hj, rfl⟩ := h; simp; omega
  · simp [heads] at h; obtain ⟨j, hj, rfl⟩ := h; simp; omega
  · have := hm _ _ h; omega
  · have := hp _ h; omega
  · have := hv _ _ h; omega
theorem gt_mem {l : List Th} {k : Nat} (h : k < l.length) : gt l k ∈ l := by
  simp only [gt, List.getD, List.getElem?_eq_getElem h, Option.getD_some]; exact List.getElem_mem h
theorem things_wf {c : Cfg} (h : OkC c) (k : Nat) (hk : k < (things (shOf c)).length) : (Lit.int .i64 (gt (things (shOf c)) k).a).wf = true := by
  have m := mem_num (gt_mem hk)
  have hl := shr_len h
  have hb := bds h
  have n1 := hb.n1; have p1 := hb.p1; have p0 := hb.p0; have u1 := h.u1; have k1 := h.k1
  have hU : (((shOf c).U : Nat) : Int) = (c.mu.toNat : Int) := rfl
  have hM : (((shOf c).M : Nat) : Int) = (c.mr.toNat : Int) := rfl
  have hP : (((shOf c).P : Nat) : Int) = ((packN c).toNat : Int) := rfl
  exact wf_i64 (by omega) (by omega)

set_option maxHeartbeats 8000000 in
set_option maxRecDepth 100000 in
theorem walkApart (c : Cfg) (w : World) : Calls Try.prog 7 #[cfgV c] w fun e w' => e = .returned (.bool true) ∧ Below w.heap.size w w' := by
  have HK := Lib.hid (KC.start c 24 w w (Below.refl _ _))
  by_cases h : OkC c
  case neg =>
    have H := Lib.hid h; clear h
    go_enter Try.func7, Try.ntmps7
    go_wp2_with (first
      | (go_at_call 10; (with_reducible refine (awake_any _).mono ?_); rintro r w1 ⟨rfl, hb1⟩; have HK := Lib.hid (HK.out.step hb1); clear hb1; obtain ⟨klt, q0, q1, q2, q3, q4, q5, q6, q7, q8, q9, q10, q11, qb⟩ := HK.out)
      | (go_at_call 12; (with_reducible refine (model_any c _).mono ?_); rintro r w2 ⟨rfl, hb2⟩; have HK := Lib.hid (HK.out.step hb2); clear hb2 klt q0 q1 q2 q3 q4 q5 q6 q7 q8 q9 q10 q11 qb; obtain ⟨klt, q0, q1, q2, q3, q4, q5, q6, q7, q8, q9, q10, q11, qb⟩ := HK.out)
      | (go_at_call 11; (with_reducible refine (rcheck_any c _).mono ?_); rintro r w3 ⟨x, rfl, hx, hb3⟩; obtain rfl := hx.2 H.out; have HK := Lib.hid (HK.out.step hb3); clear hb3 hx klt q0 q1 q2 q3 q4 q5 q6 q7 q8 q9 q10 q11 qb; obtain ⟨klt, q0, q1, q2, q3, q4, q5, q6, q7, q8, q9, q10, q11, qb⟩ := HK.out)
      | fail)
    go_ret
    exact ⟨rfl, HK.out.bel⟩
  case pos =>
    have H := Lib.hid h
    obtain ⟨i0, hi, hz0, hz1, hz2⟩ := info_parts info4
    obtain ⟨n, hn⟩ : ∃ n : Nat, n = (things (shOf c)).length := ⟨_, rfl⟩
    have hnc : (n : Int) = at55 c := by rw [hn, things_len]; exact lenL_eq h
    have hn7 : n ≤ 7000 := by have := (bds h).t55'; omega
    have HTL := Lib.hid hn; have HNC := Lib.hid hnc.symm
    obtain ⟨T, hT⟩ : ∃ T, T = things (shOf c) := ⟨_, rfl⟩
    have hok : ∀ k, k < n → (0 ≤ (gt T k).k ∧ (gt T k).k ≤ 18) ∧ (Lit.int .i64 (gt T k).a).wf = true ∧ plcc c (gt T k).k (gt T k).a (gt T k).b = (k : Int) := fun k hk => by
      rw [hn] at hk
      rw [hT]
      refine ⟨things_ok k hk, things_wf h k hk, ?_⟩
      have e := seg_all (shOf c) k hk
      rw [Nat.zero_add] at e; exact e
    have HOK := Lib.hid hok; have HT := Lib.hid hT
    clear h hn hnc hok hT
    go_enter Try.func7, Try.ntmps7
    go_wp2_with (first
    | (go_at_call 10; (with_reducible refine (awake_any _).mono ?_); rintro r w1 ⟨rfl, hb1⟩; have HK := Lib.hid (HK.out.step hb1); clear hb1; obtain ⟨klt, q0, q1, q2, q3, q4, q5, q6, q7, q8, q9, q10, q11, qb⟩ := HK.out)
    | (go_at_call 12; (with_reducible refine (model_any c _).mono ?_); rintro r w2 ⟨rfl, hb2⟩; have HK := Lib.hid (HK.out.step hb2); (try have HQ := Lib.hid (HQ.out.step hb2)); clear hb2 klt q0 q1 q2 q3 q4 q5 q6 q7 q8 q9 q10 q11 qb; obtain ⟨klt, q0, q1, q2, q3, q4, q5, q6, q7, q8, q9, q10, q11, qb⟩ := HK.out)
    | (go_at_call 11; (with_reducible refine (rcheck_any c _).mono ?_); rintro r w3 ⟨x, rfl, hx, hb3⟩; obtain rfl := hx.1 H.out; have HK := Lib.hid (HK.out.step hb3); clear hb3 hx klt q0 q1 q2 q3 q4 q5 q6 q7 q8 q9 q10 q11 qb; obtain ⟨klt, q0, q1, q2, q3, q4, q5, q6, q7, q8, q9, q10, q11, qb⟩ := HK.out)
    | (go_at_call 13; (with_reducible refine (new_yes H.out _).mono ?_); rintro r w4 ⟨N, rfl, hm, hb4⟩; have HK := Lib.hid (HK.out.step hb4); have HQ : Hid (KQ w w.heap.size N c _) := Lib.hid ⟨hm, HK.out⟩; clear hb4 hm klt q0 q1 q2 q3 q4 q5 q6 q7 q8 q9 q10 q11 qb; obtain ⟨klt, q0, q1, q2, q3, q4, q5, q6, q7, q8, q9, q10, q11, qb⟩ := HK.out)
    | (go_at_call 16; (with_reducible refine (things_any H.out _).mono ?_); rintro r w5 ⟨v5, rfl, ho5⟩; have hb5 := ho5.2; obtain ⟨A, cap, rfl, hl5, _, _, _⟩ := ho5.reads; rw [← HTL.out]; have HL := Lib.hid hl5; have HK := Lib.hid (HK.out.step hb5); have HQ := Lib.hid (HQ.out.step hb5); clear hb5 hl5 ho5 klt q0 q1 q2 q3 q4 q5 q6 q7 q8 q9 q10 q11 qb; obtain ⟨klt, q0, q1, q2, q3, q4, q5, q6, q7, q8, q9, q10, q11, qb⟩ := HK.out)
    | (go_at_call 17; (with_reducible refine (len_m H.out _ _ HQ.out.m).mono ?_); rintro r w6 ⟨rfl, hb6⟩; rw [HNC.out]; have HL := Lib.hid (HL.out.below hb6); have HQ := Lib.hid (HQ.out.step hb6))
    | (at_make; refine wpList_make_full _ rfl _ _ 55 rfl (World.heap _).size 4 i0 (.bool false) 1 Try.underlying55 hi hz0 hz1 .i64 .i64 _ _ n rfl rfl rfl rfl (by rw [hz2]; omega) (by unfold maxLen; omega) (Nat.le_refl _) ?_)
    | fail)
    intro w7 hown hgrow
    have hS : Seen w6 n 0 w7 := ⟨by rw [seen_zero]; simpa [toList_madeCells_one, Value.cells] using hown, (Below.refl _ _).grown hgrow (Nat.le_refl _) (fun k hk => by cases hk)⟩
    have HS := Lib.hid hS
    have HL := Lib.hid (by have := HL.out; rw [← HT.out] at this; exact this)
    have hTn : T.length = n := by rw [HT.out]; exact HTL.out.symm
    have HTN := Lib.hid hTn
    clear hown hgrow hS hi hz0 hz1 hz2 hTn hb6
    clear klt q0 q1 q2 q3 q4 q5 q6 q7 q8 q9 q10 q11 qb
    go_wp2_with (fail)
    go_loopw [9] (fun i wr => ∃ k : Nat, k ≤ n ∧ i = .int .i64 (k : Int) ∧ Seen w6 n k wr) (fun i _ => n - (intOf i).toNat)
    case atStart => exact ⟨0, Nat.zero_le _, rfl, HS.out⟩
    case round =>
      clear HS
      obtain ⟨k, hk, rfl, hs⟩ := hrel
      by_cases hlt : k < n
      · obtain ⟨b, off, rfl, hbl, hcell⟩ := HL.out (by rw [HTN.out]; omega)
        obtain ⟨t0, t1, t2⟩ := hcell k (by rw [HTN.out]; omega)
        have t0 := (hs.2.cell (p := ⟨b, off + k * 3, none⟩) hbl).trans t0
        have t1 : wr.cell? ⟨b, off + k * 3 + 1, none⟩ = _ := (hs.2.cell (p := ⟨b, off + (k * 3 + 1), none⟩) hbl).trans t1
        have t2 : wr.cell? ⟨b, off + k * 3 + 2, none⟩ = _ := (hs.2.cell (p := ⟨b, off + (k * 3 + 2), none⟩) hbl).trans t2
        obtain ⟨⟨x0, x1⟩, ywf, hp⟩ := HOK.out k hlt
        obtain ⟨t, ht⟩ : ∃ t, t = gt T k := ⟨_, rfl⟩
        rw [← ht] at t0 t1 t2 x0 x1 ywf hp
        obtain ⟨x, y, z⟩ := t
        simp only at t0 t1 t2 x0 x1 ywf hp
        have HWF := Lib.hid ywf; have HP := Lib.hid hp; have HSS := Lib.hid hs
        have hk0 : (0 : Int) ≤ (k : Int) := by omega
        have hk1 : (k : Int) < (n : Int) := by omega
        clear hs ywf hp ht hcell hbl
        go_wp2_with (first
          | (go_at_call 18; (with_reducible refine (at_any H.out _ _ _ _ x0 x1 HWF.out _ (HQ.out.belowB HSS.out.bel).m).mono ?_); rintro r w8 ⟨rfl, hb8⟩; rw [HP.out]; have HSS := Lib.hid (HSS.out.step hb8); obtain ⟨c1, c2⟩ := HSS.out.cell k hlt; rw [decide_eq_false (Nat.lt_irrefl k)] at c1; have HS2 := Lib.hid (HSS.out.set hlt))
          | fail)
        go_roundw
        case rel => exact ⟨k + 1, by omega, by go_num, HS2.out⟩
        case measure => simp [intOf]; omega
      · have hkn : ¬ (k : Int) < (n : Int) := by omega
        have HSS := Lib.hid hs
        clear hs hlt
        go_wp2_with (fail)
        go_ret
        exact ⟨rfl, HQ.out.k.bel.trans (HSS.out.bel.mono HQ.out.k.bel.size)⟩
end Go.Proofs.Ytkbfdcfgpmohkaa

/- What a pool holds; a packet of two, alone: step by step. Packets' machines that are finished at once; the document's example: walked. A store of the call's own under a map, and packets' machines over it: a step, and all steps. -/
import Derived.Test.YtponbnbgiiepdaaGreatJ15
import Derived.Test.YtponbnbgiiepdaaGreatJ18
import Derived.Test.YtponbnbgiiepdaaGreatJ16
import Derived.Test.YtponbnbgiiepdaaGreatJ21
namespace Go.Proofs.YtponbnbgiiepdaaGreat
open Go.RowKit
set_option linter.unusedVariables false
set_option linter.unusedSimpArgs false
open Lay (plcc plc shOf packN nodesN OkC Cfg Norm firstV Rep lenL things)

theorem nodup_le : ∀ (n : Nat) (Q : List Int), Q.Nodup → (∀ q ∈ Q, 1 ≤ q ∧ q ≤ (n : Int)) → Q.length ≤ n
  | 0, Q, _, h => by
    cases Q with
    | nil => simp
    | cons q Q => have := h q (by simp); omega
  | n + 1, Q, hd, h => by
    have h2 := nodup_le n (Q.erase ((n + 1 : Nat) : Int)) (hd.erase _) (fun q hq => by
      have hm := (hd.mem_erase_iff).1 hq
      have := h q hm.2
      have hne := hm.1
      omega)
    rw [List.length_erase] at h2
    split at h2 <;> omega
section
variable {c : Cfg} {L : List Int}
theorem pkT_cont (G : Gp (pkn c) L.length (gOf c)) {q : Int} {ts : List Int} (hq : 1 ≤ q ∧ q ≤ pkn c) (h : Cont (gOf c) L q ts) : pkT c L q (cnt4 (ldq L (plcc c 11 q 0))) = ts := by
  have m := G.m q hq.1 hq.2
  have e1 : ldq L (plcc c 11 q 0) = ts.length := by
    have h1 : 0 ≤ plcc c 11 q 0 ∧ plcc c 11 q 0 < L.length := ⟨m.1, m.2.1⟩
    rw [ld_in h1]; exact h.many
  have hf := h.few
  have e2 : cnt4 (ts.length : Int) = ts.length := by unfold cnt4; split <;> omega
  rw [e1, e2]
  apply List.ext_getElem?
  intro i
  unfold pkT
  by_cases hi : i < ts.length
  · have t := G.t q i hq.1 hq.2 (by omega) (by omega)
    have h1 : 0 ≤ plcc c 13 q i ∧ plcc c 13 q i < L.length := ⟨t.1, t.2.1⟩
    have h2 := h.task i hi
    have h3 : L.getD (plcc c 13 q i).toNat 0 = ts.getD i 0 := h2
    simp only [List.getElem?_map, List.getElem?_range hi, Option.map_some]
    rw [ld_in h1, h3, List.getD, List.getElem?_eq_getElem hi]; simp
  · rw [List.getElem?_eq_none (by simpa using hi), List.getElem?_eq_none (by simpa using hi)]
theorem heldT_cts (G : Gp (pkn c) L.length (gOf c)) : ∀ {Q : List Int} {l : List (List Int)}, Cts (gOf c) L Q l → (∀ q ∈ Q, 1 ≤ q ∧ q ≤ (pkn c : Int)) → heldT c L Q = l.flatten
  | [], [], _, _ => rfl
  | q :: Q, t :: l, h, hr => by
    have ih := heldT_cts G h.2 (fun y hy => hr y (by simp [hy]))
    have e := pkT_cont G (hr q (by simp)) h.1
    unfold heldT at ih ⊢
    rw [List.flatMap_cons, e, ih, List.flatten_cons]
  | [], _ :: _, h, _ => h.elim
  | _ :: _, [], h, _ => h.elim
theorem heldL_stk {T : Int} {Q : List Int} (hc : OkC c) (H : Stk (pkn c) (poK c) L T Q) : heldL c L = heldT c L Q := by
  have hn := pkn_is hc
  have hl := nodup_le _ _ H.nd H.rng
  unfold heldL
  have e : walkQ L (poK c) (packN c).toNat (plcc c 4 0 0) = Q := walk_stk H _ (by show Q.length ≤ _; omega)
  rw [e]
theorem heldL_pa {i : Int} {l : List (List Int)} {out : List Int} (hc : OkC c) (H : PA (pkn c) (gOf c) L i l out) : heldL c L = l.flatten := by
  obtain ⟨Ts, Qs, Tp, Qp, G, Hs, Hp, t1, t2, p1, hct⟩ := H
  rw [heldL_stk hc Hp]
  exact heldT_cts G hct Hp.rng
end

section
variable {n : Nat} {g : Pg} {L : List Int} {Ts Tp : Int} {Qs Qp : List Int}
/-- A packet of two: nine steps; taken: three. -/
theorem put_two {p a b : Int} (G : Gp n L.length g) (Hs : Stk n g.sp L Ts (p :: Qs)) (Hp : Stk n g.po L Tp Qp) (h9 : Ts + 1 < 100000) (h8 : Tp + 1 < 100000) (hnp : p ∉ Qp) :
    (pruns g 8 L (pPut g [a, b])).2.pc = 4 ∧ (pruns g 9 L (pPut g [a, b])).2.pc = 0 ∧ (pruns g 9 L (pPut g [a, b])).2.p = p ∧ Stk n g.po (pruns g 9 L (pPut g [a, b])).1 (Tp + 1) (p :: Qp) := by
  have hr := Hs.rng p (by simp)
  obtain ⟨y1, r1⟩ := first_pop (g := g) Hs h9 [a, b] 0 0
  obtain ⟨L1, hL1⟩ : ∃ x, x = ptq L g.sp.head ((Ts + 1) * 4294967296 + Qs.headD 0) := ⟨_, rfl⟩
  rw [← hL1] at r1
  have len1 : L1.length = L.length := by rw [hL1]; exact pt_len ..
  have Hp1 : Stk n g.po L1 Tp Qp := by
    rw [hL1]
    exact Hp.word G.hne fun q hq e => by
      have b := Hp.rng q hq
      rw [G.links] at e
      exact (G.s.lk q b.1 b.2).2.2 e.symm
  have r2 := tasks_run (g := g) p y1 [a, b] [a, b] L1 0 (by simp) (by simp) (by simp)
  obtain ⟨L2, hL2⟩ : ∃ x, x = tput g p L1 0 [a, b] := ⟨_, rfl⟩
  simp only [Int.natCast_zero] at r2
  rw [← hL2] at r2
  have r2' : pruns g 2 L1 ⟨1, 2, [a, b], 0, p, y1⟩ = (L2, ⟨1, 3, [a, b], 2, p, y1⟩) := r2
  have len2 : L2.length = L.length := by rw [hL2, tput_len]; exact len1
  have oth2 : ∀ q : Int, 0 ≤ q → (∀ i : Int, 0 ≤ i → i < 4 → q ≠ g.tk p i) → L2.getD q.toNat 0 = L1.getD q.toNat 0 := fun q h0 h => by
    rw [hL2]; exact tput_other p h0 [a, b] L1 0 (fun i a b => h i a (by simp at b; omega))
  have Hp2 : Stk n g.po L2 Tp Qp := Hp1.same (by omega) (oth2 _ G.p.hd.1 (fun i a b => (G.t p i hr.1 hr.2 a b).2.2.2.symm))
    (fun q hq => by have b := Hp1.rng q hq; unfold lkw; rw [G.links]; exact oth2 _ (G.s.lk q b.1 b.2).1 (fun i a c => (G.tl p i q hr.1 hr.2 a c b.1 b.2).symm))
  obtain ⟨L3, hL3⟩ : ∃ x, x = ptq L2 (g.mn p) 2 := ⟨_, rfl⟩
  have r3 : pruns g 1 L2 ⟨1, 3, [a, b], 2, p, y1⟩ = (L3, ⟨1, 4, [a, b], 2, p, mPush g.po p⟩) := by
    rw [hL3]; simp [pruns, pstp]
  have hm := G.m p hr.1 hr.2
  have Hp3 : Stk n g.po L3 Tp Qp := by
    rw [hL3]; exact Hp2.word hm.2.2.2 (fun q hq => by rw [G.links]; exact G.ml p q hr.1 hr.2 (Hp2.rng q hq).1 (Hp2.rng q hq).2)
  obtain ⟨y4, r4⟩ := last_push (g := g) Hp3 h8 hr.1 hr.2 1 [a, b] 2 p
  have e0 : pPut g [a, b] = ⟨1, 1, [a, b], 0, 0, mPop g.sp⟩ := by unfold pPut; rw [if_neg (by simp)]; rfl
  have r6 : pruns g 6 L (pPut g [a, b]) = (L3, ⟨1, 4, [a, b], 2, p, mPush g.po p⟩) := by
    rw [e0, show 6 = 3 + (2 + 1) from rfl, pruns_add, r1]
    simp only
    rw [pruns_add, r2']
    simp only
    exact r3
  have hs := Hp3.g.small
  have ei : mPush g.po p = ⟨1, 1, g.po, p, 0, 0, 0⟩ := by unfold mPush; rw [itemOf_is ⟨hr.1, by omega⟩]
  obtain ⟨pa, pb, pc⟩ := push_run Hp3 h8 hr.1 hr.2 0
  have pt := Hp3.put (v := Qp.headD 0) hr.1 hr.2 hnp
  have Hp4 := pt.1.push h8 hr.1 hr.2 hnp pt.2
  refine ⟨?_, ?_, ?_, ?_⟩
  · rw [show 8 = 6 + 2 from rfl, pruns_add, r6, ei]
    simp only [pruns]
    rw [last_on pa (by simp)]
    simp only
    rw [last_on pb (by simp)]
  · rw [show 9 = 6 + 3 from rfl, pruns_add, r6]
    simp only
    rw [r4]
  · rw [show 9 = 6 + 3 from rfl, pruns_add, r6]
    simp only
    rw [r4]
  · rw [show 9 = 6 + 3 from rfl, pruns_add, r6]
    simp only
    rw [r4]
    exact Hp4
theorem take_one {p : Int} (Hp : Stk n g.po L Tp (p :: Qp)) (h8 : Tp + 1 < 100000) :
    (pruns g 2 L (pTake g)).2.pc = 4 ∧ (pruns g 3 L (pTake g)).2.pc = 0 ∧ (pruns g 3 L (pTake g)).2.p = p := by
  obtain ⟨y, r⟩ := last_pop (g := g) Hp h8 2 [] 0 0
  obtain ⟨pa, pb, pc⟩ := pop_run Hp h8 0
  refine ⟨?_, ?_, ?_⟩
  · show (pruns g 2 L ⟨2, 4, [], 0, 0, ⟨2, 1, g.po, 0, 0, 0, 0⟩⟩).2.pc = 4
    simp only [pruns]
    rw [last_on pa (by simp)]
    simp only
    rw [last_on pb (by simp)]
  · rw [show pTake g = ⟨2, 4, [], 0, 0, mPop g.po⟩ from rfl, r]
  · rw [show pTake g = ⟨2, 4, [], 0, 0, mPop g.po⟩ from rfl, r]
/-- Not finished ahead of where it is not. -/
theorem not_yet {i j : Nat} {m : Pm} (h : i ≤ j) (hj : (pruns g j L m).2.pc ≠ 0) : (pruns g i L m).2.pc ≠ 0 := fun e => by
  apply hj
  obtain ⟨d, rfl⟩ : ∃ d, j = i + d := ⟨j - i, by omega⟩
  rw [pruns_add]
  rw [pruns_done e]
  exact e
theorem done_still {i j : Nat} {m : Pm} (h : i ≤ j) (hi : (pruns g i L m).2.pc = 0) : pruns g j L m = pruns g i L m := by
  obtain ⟨d, rfl⟩ : ∃ d, j = i + d := ⟨j - i, by omega⟩
  rw [pruns_add, pruns_done hi]
end
end Go.Proofs.YtponbnbgiiepdaaGreat

namespace Go.Proofs.YtponbnbgiiepdaaGreat
open Go.RowKit
set_option linter.unusedVariables false
set_option linter.unusedSimpArgs false
open Lay (plcc plc shOf packN nodesN OkC Cfg Norm firstV Rep lenL things)

/-- A machine that is finished, with no packet. -/
def PKI (w : World) (X : Nat) : Prop := ∃ mv T pu tk ot, w.heap[X]? = some (.cells #[mv, T, .int .i64 pu, .int .i64 tk, ot, .nilFunc, .int .i64 0] 164 (0, 0))
theorem PKI.lt {w : World} {X : Nat} (h : PKI w X) : X < w.heap.size := by obtain ⟨_, _, _, _, _, h⟩ := h; exact (Array.getElem?_eq_some_iff.1 h).1
theorem PKI.keep {w w' : World} {X : Nat} (h : PKI w X) (hb : Below w.heap.size w w') : PKI w' X := by
  have hl := h.lt
  obtain ⟨mv, T, pu, tk, ot, h⟩ := h
  exact ⟨mv, T, pu, tk, ot, (hb.block X hl).trans h⟩
theorem PKI.step {w : World} {X : Nat} (h : PKI w X) (v : Value) : Calls Tryz.prog 126 #[ptr X, v] w fun e w' => e = .returned (.bool true) ∧ w = w' := by
  obtain ⟨mv, T, pu, tk, ot, h⟩ := h
  exact pstep_off w X v (by simp [World.cell?, h])
def NewI (w : World) (e : Ending) (w' : World) : Prop := ∃ X, e = .returned (ptr X) ∧ PKI w' X ∧ w.heap.size ≤ X ∧ Below w.heap.size w w'
theorem newI_is {w w1 : World} (mv T ot : Value) (pu tk : Int) (hb : Below w.heap.size w w1) : NewI w (.returned (ptr w1.heap.size)) (w1.alloc (.cells #[mv, T, .int .i64 pu, .int .i64 tk, ot, .nilFunc, .int .i64 0] 164)) :=
  ⟨w1.heap.size, rfl, ⟨mv, T, pu, tk, ot, by show (w1.heap.push _)[w1.heap.size]? = _; simp⟩, hb.size, below_step hb hb.size (below_alloc0 (Below.refl _ _) _)⟩
theorem NewI.more {w w1 w2 : World} {e : Ending} (h : NewI w e w1) (hb : Below w1.heap.size w1 w2) : NewI w e w2 := by
  obtain ⟨X, rfl, h1, h2, h3⟩ := h
  exact ⟨X, rfl, h1.keep hb, h2, below_step h3 h3.size hb⟩
theorem newI_of {w w' : World} {c : Cfg} {N : Nat} {E : Nat → Prop} {m : Pm} {e : Ending} (h : NewP w c N E m e w') (hp : m.pc = 0) (h0 : m.p = 0) : NewI w e w' := by
  obtain ⟨X, O, D, rfl, ⟨_, hO, _, _, T, pu, tk, ot, nx, pk, h5, h6⟩, ho, hd, hb⟩ := h
  refine ⟨X, rfl, ⟨Lay.mapP N, T, pu, tk, ot, ?_⟩, ho X hO, hb⟩
  rcases h6 with ⟨_, rfl, rfl⟩ | ⟨a, _⟩ | ⟨a, _⟩ | ⟨a, _⟩ | ⟨a, _⟩
  · unfold Pmem at h5; rw [h5, h0]
  all_goals omega
set_option maxRecDepth 100000 in
set_option maxHeartbeats 4000000 in
theorem put_nilmap (A : Option Addr) (n cap : Nat) (zs : List Int) (w : World) (hn : n = zs.length) (hr : Reads .u64 w A zs) (hl : n ≤ 1000) (hcap : n ≤ cap) : Calls Tryz.prog 108 #[.pointer none, .slice A n cap] w (NewI w) := by
  obtain ⟨k, hk⟩ : ∃ k : Nat, Lay.imin (n : Int) 4 = (k : Int) := ⟨(Lay.imin (n : Int) 4).toNat, by unfold Lay.imin; split <;> omega⟩
  have hk1 : k ≤ n ∧ k ≤ 4 ∧ k = (zs.take 4).length := by rw [List.length_take]; unfold Lay.imin at hk; split at hk <;> omega
  have e4 := slice_front A n cap k (by omega)
  have hr4 : Reads .u64 w A (zs.take 4) := fun h0 => by
    obtain ⟨b, off, e, hb, hcell⟩ := hr (by simp at h0; omega)
    refine ⟨b, off, e, hb, fun j hj => ?_⟩
    have hj4 : j < 4 := by simp at hj; omega
    rw [hcell j (by simp at hj; omega)]; simp [List.getD, List.getElem?_take, hj4]
  have HR := Lib.hid hr4; have HK := Lib.hid hk1
  by_cases h0 : n = 0
  · have hk0 : k = 0 := by omega
    subst hk0 h0
    have hk' : Lay.imin (0 : Int) 4 = 0 := by decide
    have e4' : ∀ w, (Instr.slice 41 (.slice A 0 cap) none (some (.int .i64 0)) none).run Tryz.prog w = .ok (.slice A 0 cap) w := e4
    clear e4 hn hr hl hcap hk hk1 hr4
    go_enter Tryz.func108, Tryz.ntmps108
    go_wp2_with (first
      | (go_at_call 123; (with_reducible refine (clone_any A 0 cap (zs.take 4) _ HK.out.2.2 HR.out (by decide)).mono ?_); rintro r w1 ⟨v, rfl, ho⟩; obtain ⟨A1, c1, hv, _⟩ := ho.blk; rw [← HK.out.2.2] at hv; subst hv; have HB := Lib.hid ho.2; clear ho)
      | fail)
    go_ret
    exact newI_is _ _ _ _ _ HB.out
  · clear hn hr hcap hk1 hr4
    go_enter Tryz.func108, Tryz.ntmps108
    go_wp2_with (first
      | (go_at_call 123; (with_reducible refine (clone_any A k cap (zs.take 4) _ HK.out.2.2 HR.out (by have := HK.out.1; omega)).mono ?_); rintro r w1 ⟨v, rfl, ho⟩; obtain ⟨A1, c1, hv, _⟩ := ho.blk; rw [← HK.out.2.2] at hv; subst hv; have HB := Lib.hid ho.2; clear ho)
      | fail)
    go_ret
    exact newI_is _ _ _ _ _ HB.out
set_option maxHeartbeats 1000000 in
theorem packets_nilmap (w : World) : Calls Tryz.prog 29 #[.pointer none] w fun e w' => e = .returned (.int .i64 0) ∧ Below w.heap.size w w' := by
  go_enter Tryz.func29, Tryz.ntmps29
  go_wp2
  go_ret
  exact ⟨rfl, below_alloc0 (Below.refl _ _) _⟩
theorem put_none {c : Cfg} (hc : OkC c) (N : Nat) (w : World) (A : Option Addr) (cap : Nat) (hm : Lay.IsMap w N c) : Calls Tryz.prog 108 #[Lay.mapP N, .slice A 0 cap] w (NewI w) :=
  (put_pk hc N A 0 cap [] w hm rfl (fun h0 => by simp at h0) (by simp) (by decide) (Nat.zero_le _)).mono fun _ _ h => newI_of h rfl rfl
end Go.Proofs.YtponbnbgiiepdaaGreat

namespace Go.Proofs.YtponbnbgiiepdaaGreat
open Go.RowKit
set_option linter.unusedVariables false
set_option linter.unusedSimpArgs false
open Lay (plcc plc shOf packN nodesN OkC Cfg Norm firstV Rep lenL things)

section
variable {B S D N : Nat} {c : Cfg} {w0 w w' : World} {L : List Int} {k t : Int} {X lo : Nat} {m : Pm}
/-- A machine in memory whose blocks are not below lo, apart from the store. -/
def PKX (lo : Nat) (w : World) (X S D : Nat) (c : Cfg) (N : Nat) (m : Pm) : Prop := ∃ O Dp, PKM w X O Dp c N m ∧ (∀ b, O b → lo ≤ b) ∧ ¬ Dp S ∧ ¬ Dp D
theorem PKX.of_new {E : Nat → Prop} {e : Ending} (h : PO B S D N c w0 w L k) (hn : NewP w c N E m e w') (e1 : ¬ E S) (e2 : ¬ E D) : ∃ X, e = .returned (ptr X) ∧ PKX w.heap.size w' X S D c N m ∧ PO B S D N c w0 w' L k ∧ Below w.heap.size w w' := by
  obtain ⟨X, O, Dp, rfl, hp, ho, hd, hb⟩ := hn
  have hl := h.lt
  exact ⟨X, rfl, ⟨O, Dp, hp, ho, fun d => by rcases hd S d with x | x; omega; exact e1 x, fun d => by rcases hd D d with x | x; omega; exact e2 x⟩, h.step hb, hb⟩
/-- A step of it. -/
theorem step_po (h : PO B S D N c w0 w L k) (hx : PKX lo w X S D c N m) (hlo : S < lo ∧ D < lo ∧ N < lo ∧ B ≤ lo ∧ lo ≤ w.heap.size) (wm : PW c t m) (hk : k ≤ 800000000) (ht : t ≤ 800000000) :
    Calls Tryz.prog 126 #[ptr X, ptr S] w fun e w' => e = .returned (.bool (decide ((pstp (gOf c) L m).2.pc = 0))) ∧ PO B S D N c w0 w' (pstp (gOf c) L m).1 (k + 1) ∧ PKX lo w' X S D c N (pstp (gOf c) L m).2 ∧
      UF (fun b => b = S ∨ b = D ∨ lo ≤ b) w w' := by
  obtain ⟨cc, h0, h1, hs⟩ := h.st
  obtain ⟨O, Dp, hp, ho, hS, hD⟩ := hx
  have hl := h.lt
  have hB := h.lo
  refine (step_pk h.ok hp hs h.mp hS hD (fun hh => by have := ho N hh; omega) h.ns.1 h.ns.2 wm h.ww h0 (by omega) (by omega)).mono ?_
  rintro e w' ⟨rfl, ⟨O', D', hp', ho', hd'⟩, hs', u⟩
  have u2 : UF (fun b => b = S ∨ b = D ∨ lo ≤ b) w w' := u.mono fun b _ hb => by
    rcases hb with hb | hb | hb
    · exact .inl hb
    · exact .inr (.inl hb)
    · exact .inr (.inr (ho b hb))
  refine ⟨rfl, ⟨⟨pcost m cc, ?_, ?_, hs'⟩, IsMap_same h.mp u2.size (u2.block N hl.2.2 (by have := h.ns; omega)), h.ok, h.ns, h.lo, (wm.step h.ww).2, below_uf h.bel h.lo.2.2 u2 (fun b hb => by omega)⟩, ⟨O', D', hp', fun b hb => ?_, fun hh => ?_, fun hh => ?_⟩, u2⟩
  · unfold pcost; split <;> omega
  · unfold pcost; split <;> omega
  · rcases ho' b hb with x | x
    · exact ho b x
    · omega
  · rcases hd' S hh with x | x
    · exact hS x
    · omega
  · rcases hd' D hh with x | x
    · exact hD x
    · omega
theorem pruns_succ (g : Pg) (i : Nat) (L : List Int) (m : Pm) : pstp g (pruns g i L m).1 (pruns g i L m).2 = pruns g (i + 1) L m := by
  rw [pruns_add g i 1]; rfl
theorem pw_runs {c : Cfg} : ∀ (i : Nat) {L : List Int} {m : Pm} {t : Int}, WW L → PW c t m → WW (pruns (gOf c) i L m).1 ∧ PW c (t + i) (pruns (gOf c) i L m).2
  | 0, L, m, t, h, h2 => ⟨h, (show PW c (t + ((0 : Nat) : Int)) m from h2.mono (by omega))⟩
  | i + 1, L, m, t, h, h2 => by
    have ih := pw_runs i h h2
    rw [← pruns_succ]
    have s := ih.2.step ih.1
    exact ⟨s.2, s.1.mono (by omega)⟩
/-- Behind i steps. -/
structure PRn (B S D N : Nat) (c : Cfg) (w0 w1 w : World) (lo X : Nat) (L : List Int) (m : Pm) (i : Nat) (k : Int) : Prop where
  po : PO B S D N c w0 w (pruns (gOf c) i L m).1 (k + i)
  mm : PKX lo w X S D c N (pruns (gOf c) i L m).2
  u : UF (fun b => b = S ∨ b = D ∨ lo ≤ b) w1 w
theorem PRn.start (h : PO B S D N c w0 w L k) (hx : PKX lo w X S D c N m) : PRn B S D N c w0 w w lo X L m 0 k := by
  refine ⟨?_, ?_, .refl _ _⟩
  · show PO B S D N c w0 w L (k + ((0 : Nat) : Int)); exact h.more (by omega)
  · exact hx
theorem run_step {w1 : World} {i : Nat} (h : PRn B S D N c w0 w1 w lo X L m i k) (hlo : S < lo ∧ D < lo ∧ N < lo ∧ B ≤ lo ∧ lo ≤ w1.heap.size) (wm : PW c t m) (ww : WW L) (hk : k + i ≤ 800000000) (ht : t + i ≤ 800000000) :
    Calls Tryz.prog 126 #[ptr X, ptr S] w fun e w' => e = .returned (.bool (decide ((pruns (gOf c) (i + 1) L m).2.pc = 0))) ∧ PRn B S D N c w0 w1 w' lo X L m (i + 1) k := by
  have hsz := h.u.size
  refine (step_po h.po h.mm ⟨hlo.1, hlo.2.1, hlo.2.2.1, hlo.2.2.2.1, by omega⟩ (pw_runs i ww wm).2 hk ht).mono ?_
  rintro e w' ⟨rfl, h1, h2, h3⟩
  rw [pruns_succ] at h1 h2 ⊢
  exact ⟨rfl, h1.more (by omega), h2, h.u.trans h3 (fun _ x => x) (fun _ _ x => x)⟩
end
attribute [local irreducible] pruns

end Go.Proofs.YtponbnbgiiepdaaGreat

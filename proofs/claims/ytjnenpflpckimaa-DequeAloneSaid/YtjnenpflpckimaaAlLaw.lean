/- The law of a deque that is used by one alone, walked. -/
import Derived.Test.YtjnenpflpckimaaAlPure
import Derived.Test.YtjnenpflpckimaaOnBeg
namespace Go.Proofs.Ytjnenpflpckimaa
open Go.RowKit
set_option linter.unusedVariables false
set_option linter.unusedSimpArgs false
attribute [local irreducible] runs

/-- What is known at the loop's head: Q is in the deque, P in the list. -/
structure AL (S D E : Nat) (w wr : World) (n : Nat) (i k : Int) (L Q : List Int) (v : Value) (P : List Int) : Prop where
  ex : ∃ T β, Dq (n + 1) L T β β Q ∧ β ≤ i
  nn : NN L
  ok : Ok w.heap.size S D E w wr (ek n) L k
  q : QV S D wr v P
section
variable {S D E M : Nat} {w wr w' : World} {n : Nat} {i k : Int} {L Q P : List Int} {v : Value} {m : Mc}
theorem AL.step (h : AL S D E w wr n i k L Q v P) (hb : Below wr.heap.size wr w') : AL S D E w w' n i k L Q v P := ⟨h.ex, h.nn, h.ok.step hb, h.q.below hb⟩
theorem AL.cells (h : AL S D E w wr n i k L Q v P) : wr.cell? ⟨E, 0, none⟩ = some (.int .i64 0) ∧ wr.cell? ⟨E, 1, none⟩ = some (.int .i64 1) ∧ wr.cell? ⟨E, 2, none⟩ = some (.int .i64 2) ∧ wr.cell? ⟨E, 3, none⟩ = some (.int .i64 ((n : Int) + 1)) := h.ok.cells
theorem AL.full (h : AL S D E w wr n i k L Q v P) : Q.length ≤ n + 1 := by
  obtain ⟨T, β, d, _⟩ := h.ex
  have := d.q; have := d.full; omega
/-- A machine is begun. -/
structure AM (S D E M : Nat) (w wr : World) (n : Nat) (i k : Int) (L Q : List Int) (v : Value) (m : Mc) : Prop where
  a : AL S D E w wr n i k L Q v Q
  m : MM wr M m
  l : S < M ∧ D < M
  b : ∀ b off n c, v = .slice (some ⟨b, off, none⟩) n c → b ≠ M
theorem AL.begin (h : AL S D E w wr n i k L Q v Q) (hM : wr.heap.size ≤ M) (hm : MM w' M m) (hb : Below wr.heap.size wr w') : AM S D E M w w' n i k L Q v m :=
  ⟨h.step hb, hm, h.ok.new hM, fun b off n c e => by have := h.q.blk b off n c e; omega⟩
theorem am_whole (h : AM S D E M w wr n i k L Q v m) (ws : Ws L m) (hk : k ≤ 900000000) :
    Calls Try.prog 10 #[ptr M, ptr S] wr fun a w' => a = .returned (.tuple #[.int .i64 (rOf (runs 8 L m).2), .int .u64 (xOf (runs 8 L m).2)]) ∧ Ok w.heap.size S D E w w' (ek n) (runs 8 L m).1 (k + 8) ∧ QV S D w' v Q ∧ NN (runs 8 L m).1 := by
  refine (whole_ok h.a.ok h.m h.l.1 h.l.2 ws hk).mono ?_
  rintro a w1 ⟨rfl, o, u⟩
  exact ⟨rfl, o, h.a.q.u3' h.b u, (ws.runs 8).nn⟩
inductive PuEv (S D E : Nat) (w w' : World) (n : Nat) (i k z : Int) (Q : List Int) (v : Value) : Int → Int → Prop
  | pushed (L' : List Int) (x : Int) (hq : Q.length < n + 1) (h : AL S D E w w' n (i + 1) (k + 8) L' (Q ++ [z]) v Q) : PuEv S D E w w' n i k z Q v 1 x
  | full (L' : List Int) (x : Int) (hq : Q.length = n + 1) (h : AL S D E w w' n (i + 1) (k + 8) L' Q v Q) : PuEv S D E w w' n i k z Q v 2 x
theorem am_push {z : Int} (h : AM S D E M w wr n i k L Q v (mPush (ek n) z)) (hz : 0 ≤ z) (hn : n ≤ 99) (hi : i ≤ 500) (hk : k ≤ 900000) :
    Calls Try.prog 10 #[ptr M, ptr S] wr fun a w' => ∃ o x, a = .returned (.tuple #[.int .i64 o, .int .u64 x]) ∧ PuEv S D E w w' n i k z Q v o x := by
  obtain ⟨T, β, d, hβ⟩ := h.a.ex
  refine (am_whole h (ws_push h.a.nn (ek_ok n hn) hz) (by omega)).mono ?_
  rintro a w1 ⟨rfl, o, q, nn⟩
  obtain ⟨T', β', Q', d', p, hb, ev⟩ := push_alone d (by omega) z
  rw [ek_eq] at d' p ev
  generalize runs 8 L (mPush (ek n) z) = r at o nn d' p ev
  obtain ⟨r1, r2⟩ := rOf_no p
  refine ⟨_, _, rfl, ?_⟩
  have hf := h.a.full
  rcases ev with ⟨ho, rfl, hl⟩ | ⟨ho, rfl, hl⟩
  · rw [r1, ho]; exact .pushed _ _ hl ⟨⟨T', β', d', by omega⟩, nn, o, q⟩
  · rw [r1, ho]; exact .full _ _ (by omega) ⟨⟨T', β', d', by omega⟩, nn, o, q⟩
/-- A pop, a steal of none. -/
theorem am_none (h : AM S D E M w wr n i k L [] v m) (hm : m = mPop (ek n) ∨ m = mSteal (ek n)) (hn : n ≤ 99) (hi : i ≤ 500) (hk : k ≤ 900000) :
    Calls Try.prog 10 #[ptr M, ptr S] wr fun a w' => a = .returned (.tuple #[.int .i64 3, .int .u64 0]) ∧ ∃ L', AL S D E w w' n (i + 1) (k + 8) L' [] v [] := by
  obtain ⟨T, β, d, hβ⟩ := h.a.ex
  have ws : Ws L m := by rcases hm with rfl | rfl <;> first | exact ws_pop h.a.nn (ek_ok n hn) | exact ws_steal h.a.nn (ek_ok n hn)
  refine (am_whole h ws (by omega)).mono ?_
  rintro a w1 ⟨rfl, o, q, nn⟩
  have key : (runs 8 L m).2.pc = 0 ∧ (runs 8 L m).2.out = 3 ∧ (runs 8 L m).2.w = 0 ∧ ∃ T' β', Dq (n + 1) (runs 8 L m).1 T' β' β' [] ∧ β' ≤ i + 1 := by
    rcases hm with rfl | rfl
    · obtain ⟨T', β', Q', d', p, hb, ev⟩ := pop_alone d (by omega)
      rw [ek_eq] at d' p ev
      rcases ev with ⟨ho, e⟩ | ⟨ho, rfl, _, hw⟩
      · have := congrArg List.length e; simp at this
      · exact ⟨p, ho, hw, T', β', d', by omega⟩
    · obtain ⟨T', Q', d', p, ev⟩ := steal_alone d 8 (by omega)
      rw [ek_eq] at d' p ev
      rcases ev with ⟨_, rfl, ho, hw⟩ | ⟨ho, e⟩
      · exact ⟨p, ho, hw, T', β, d', by omega⟩
      · cases e
  obtain ⟨p, ho, hw, T', β', d', hb⟩ := key
  obtain ⟨r1, r2⟩ := rOf_no p
  rw [r1, r2, ho, hw]
  exact ⟨rfl, _, ⟨T', β', d', hb⟩, nn, o, q⟩
/-- A pop of some. -/
theorem am_pop (h : AM S D E M w wr n i k L Q v (mPop (ek n))) (h0 : 0 < Q.length) (hn : n ≤ 99) (hi : i ≤ 500) (hk : k ≤ 900000) :
    Calls Try.prog 10 #[ptr M, ptr S] wr fun a w' => a = .returned (.tuple #[.int .i64 1, .int .u64 (Q.getD (Q.length - 1) 0)]) ∧ ∃ L', AL S D E w w' n (i + 1) (k + 8) L' Q.dropLast v Q := by
  obtain ⟨T, β, d, hβ⟩ := h.a.ex
  refine (am_whole h (ws_pop h.a.nn (ek_ok n hn)) (by omega)).mono ?_
  rintro a w1 ⟨rfl, o, q, nn⟩
  obtain ⟨T', β', Q', d', p, hb, ev⟩ := pop_alone d (by omega)
  rw [ek_eq] at d' p ev
  generalize runs 8 L (mPop (ek n)) = r at o nn d' p ev
  obtain ⟨r1, r2⟩ := rOf_no p
  rcases ev with ⟨ho, e⟩ | ⟨_, _, e, _⟩
  · have e1 : Q.getD (Q.length - 1) 0 = r.2.w := by rw [e]; simp [List.getD]
    have e2 : Q.dropLast = Q' := by rw [e]; simp
    rw [r1, r2, ho, e1, e2]
    exact ⟨rfl, _, ⟨T', β', d', by omega⟩, nn, o, q⟩
  · rw [e] at h0; simp at h0
theorem am_steal (h : AM S D E M w wr n i k L Q v (mSteal (ek n))) (h0 : 0 < Q.length) (hn : n ≤ 99) (hi : i ≤ 500) (hk : k ≤ 900000) :
    Calls Try.prog 10 #[ptr M, ptr S] wr fun a w' => a = .returned (.tuple #[.int .i64 1, .int .u64 (Q.getD 0 0)]) ∧ ∃ L', AL S D E w w' n (i + 1) (k + 8) L' Q.tail v Q := by
  obtain ⟨T, β, d, hβ⟩ := h.a.ex
  refine (am_whole h (ws_steal h.a.nn (ek_ok n hn)) (by omega)).mono ?_
  rintro a w1 ⟨rfl, o, q, nn⟩
  obtain ⟨T', Q', d', p, ev⟩ := steal_alone d 8 (by omega)
  rw [ek_eq] at d' p ev
  generalize runs 8 L (mSteal (ek n)) = r at o nn d' p ev
  obtain ⟨r1, r2⟩ := rOf_no p
  rcases ev with ⟨e, _⟩ | ⟨ho, e⟩
  · rw [e] at h0; simp at h0
  · have e1 : Q.getD 0 0 = r.2.w := by rw [e]; simp
    have e2 : Q.tail = Q' := by rw [e]; simp
    rw [r1, r2, ho, e1, e2]
    exact ⟨rfl, _, ⟨T', β, d', by omega⟩, nn, o, q⟩
/-- The list is another one. -/
theorem AL.list (h : AL S D E w wr n i k L Q v P) {v' : Value} {P' : List Int} (hq : QV S D wr v' P') : AL S D E w wr n i k L Q v' P' := ⟨h.ex, h.nn, h.ok, hq⟩
theorem AL.app (h : AL S D E w wr n i k L Q v P) {v' : Value} {P' : List Int} (hq : QV S D w' v' P') (hu : ∃ b, S < b ∧ D < b ∧ Upd b b wr w') : AL S D E w w' n i k L Q v' P' := by
  obtain ⟨b, h1, h2, u⟩ := hu
  exact ⟨h.ex, h.nn, h.ok.upd u h1 h2, hq⟩
theorem AL.start (h : Ok w.heap.size S D E w wr (ek n) (List.replicate (n + 3) 0) 0) (hn : n ≤ 99) : AL S D E w wr n 0 0 (List.replicate (n + 3) 0) [] (.slice none 0 0) [] := by
  refine ⟨⟨0, 0, ⟨by omega, by omega, by simp; omega, ?_, ?_, by omega, by simp, by omega, by omega, fun i hi => by simp at hi⟩, by omega⟩, fun x hx => by rw [List.eq_of_mem_replicate hx]; exact Int.le_refl 0, h, .inl ⟨rfl, rfl⟩⟩
  · simp only [List.getD, List.getElem?_replicate]; rw [if_pos (by omega)]; rfl
  · simp only [List.getD, List.getElem?_replicate]; rw [if_pos (by omega)]; rfl
end
theorem u8_four {z : Int} (h0 : 0 ≤ z) : ∃ y, z.tmod 4 = y ∧ z % 4 = y ∧ (y = 0 ∨ y = 1 ∨ y = 2 ∨ y = 3) := ⟨z % 4, by rw [Int.tmod_eq_emod_of_nonneg h0], rfl, by omega⟩
theorem reads_boxQ (w : World) (o : Obj) (L : List Int) : Reads .u64 ((w.alloc o).alloc (.cells (L.map (Value.int .u64)).toArray 29)) (some ⟨w.heap.size + 1, 0, none⟩) L := by
  have h := (row_new (w.alloc o) L).reads
  have e : (w.alloc o).heap.size = w.heap.size + 1 := by simp
  rwa [e] at h

set_option maxHeartbeats 16000000 in
set_option maxRecDepth 100000 in
theorem walkAlone (a : Int) (Y : Option Addr) (np capY : Nat) (zs : List Int) (w : World) (wa : (Lit.int .u8 a).wf = true) (hz : IsRow .u8 w Y np capY zs) :
    Calls Try.prog 3 #[.int .u8 a, .slice Y np capY] w fun e w' => e = .returned (.bool true) ∧ Below w.heap.size w w' := by
  obtain ⟨hr, hrl, _, _, _, hwf⟩ := reads_row hz
  clear hz
  obtain ⟨Z, hZ⟩ : ∃ Z, Z = zs.take np := ⟨_, rfl⟩
  rw [← hZ] at hr hrl hwf
  have ha : 0 ≤ a ∧ a ≤ 255 := by simp [Lit.wf, IntKind.min, IntKind.max, IntKind.bits, IntKind.signed] at wa; omega
  obtain ⟨n, hn1, hn2, hn3⟩ : ∃ n : Nat, a.tmod 8 = (n : Int) ∧ a % 8 = (n : Int) ∧ n ≤ 7 := ⟨(a % 8).toNat, by rw [Int.tmod_eq_emod_of_nonneg ha.1]; omega, by omega, by omega⟩
  have HR := Lib.hid hr; have HL := Lib.hid hrl; have HW := Lib.hid hwf
  clear hr hwf hZ wa hrl
  by_cases h100 : 100 < np
  · have h100' : (100 : Int) < (np : Int) := by omega
    go_enter Try.func3, Try.ntmps3
    go_wp2_with (first
      | (go_at_call 8; (with_reducible refine (awake_any _).mono ?_); rintro r w1 ⟨rfl, hb⟩)
      | fail)
    go_ret
    exact ⟨rfl, hb⟩
  have h100' : ¬ (100 : Int) < (np : Int) := by omega
  have hmk : ∀ w : World, (Instr.makeSlice 28 (.int .i64 (2 + ((n : Int) + 1))) (.int .i64 (2 + ((n : Int) + 1)))).run Try.prog w = .ok (.slice (some ⟨w.heap.size, 0, none⟩) (n + 3) (n + 3)) (w.alloc (.cells ((List.replicate (n + 3) (0 : Int)).map (Value.int .u64)).toArray 29)) := fun w => by
    have := make_words (n + 3) w (by omega)
    rwa [show ((n + 3 : Nat) : Int) = 2 + ((n : Int) + 1) by omega] at this
  have HRB := Lib.hid (fun (w : World) => reads_boxQ w (.cells #[.int .i64 0, .int .i64 1, .int .i64 2, .int .i64 ((n : Int) + 1)] 25) (List.replicate (n + 3) 0))
  have HBW := Lib.hid (fun (w w1 : World) (hb : Below w.heap.size w w1) => (show Below w.heap.size w ((w1.alloc (.cells #[.int .i64 0, .int .i64 1, .int .i64 2, .int .i64 ((n : Int) + 1)] 25)).alloc (.cells ((List.replicate (n + 3) (0 : Int)).map (Value.int .u64)).toArray 29)) from below_alloc0 (below_alloc0 hb _) _))
  have HBX := Lib.hid (fun (w1 : World) => (box_kept (box_new w1 #[.int .i64 0, .int .i64 1, .int .i64 2, .int .i64 ((n : Int) + 1)] 25) (below_al _ (.cells ((List.replicate (n + 3) (0 : Int)).map (Value.int .u64)).toArray 29))))
  obtain ⟨U1, hU1⟩ : ∃ U, U = ((List.replicate (n + 3) (0 : Int)).map (Value.int .u64)).toArray := ⟨_, rfl⟩
  rw [← hU1] at hmk HRB HBW HBX
  have HU : Hid (n + 3 = (List.replicate (n + 3) (0 : Int)).length) := Lib.hid (by simp)
  have hn3' : n + 3 ≤ 1000000 := by omega
  have hn99 : n ≤ 99 := by omega
  clear hU1
  go_enter Try.func3, Try.ntmps3
  go_wp2_with (first
    | (go_at_call 8; (with_reducible refine (awake_any _).mono ?_); rintro r w1 ⟨rfl, hb⟩; have HB := Lib.hid hb; clear hb)
    | (go_at_call 9; (with_reducible refine (new_any _ (n + 3) (n + 3) (List.replicate (n + 3) 0) _ HU.out (HRB.out w1) hn3').mono ?_); intro a2 w2 hk; have hz : ∃ S D, a2 = .returned (ptr S) ∧ Ok w.heap.size S D w1.heap.size w w2 (ek n) (List.replicate (n + 3) 0) 0 := Ok.start (e := ek n) (HBW.out w w1 HB.out) (Nat.le_refl _) (HBX.out w1) hk; clear hk; obtain ⟨S, D, rfl, hk⟩ := hz; have HA := Lib.hid (AL.start hk hn99); clear hk)
    | fail)
  clear HRB HBW HBX HU HB
  go_loopw [9, 10] (fun l i wr => ∃ j : Nat, j ≤ np ∧ i = .int .i64 (j : Int) ∧ ∃ L Q, AL S D w1.heap.size w wr n j (8 * j) L Q l Q) (fun _ i _ => np - (intOf i).toNat)
  case atStart => exact ⟨0, Nat.zero_le _, rfl, _, _, HA.out⟩
  case round =>
    clear HA
    obtain ⟨j, hj, rfl, L, Q, hl⟩ := hrel
    by_cases hlt : j < np
    · obtain ⟨b0, off0, rfl, hbl, hc⟩ := HR.out (by have := HL.out; omega)
      have c1 := hc j (by have := HL.out; omega)
      have hbel := hl.ok.bel
      have c2 := (hbel.cell (p := ⟨b0, off0 + j, none⟩) hbl).trans c1
      obtain ⟨z, hz⟩ : ∃ z, z = Z.getD j 0 := ⟨_, rfl⟩
      rw [← hz] at c2
      have hzw : 0 ≤ z := by
        have hkz : j < Z.length := by have := HL.out; omega
        have := HW.out z (by rw [hz, List.getD, List.getElem?_eq_getElem hkz]; exact List.getElem_mem hkz)
        simp [Lit.wf, IntKind.min, IntKind.max, IntKind.bits, IntKind.signed] at this; omega
      obtain ⟨y, hy, hy2, hy3⟩ := u8_four hzw
      obtain ⟨x0, x1, x2, x3⟩ := hl.cells
      have hQf := hl.full
      obtain ⟨AA, cc, hvl⟩ := hl.q.len
      subst hvl
      have HA := Lib.hid hl
      have hj0 : (0 : Int) ≤ (j : Int) := by omega
      have hj1 : (j : Int) < (np : Int) := by omega
      have hj2 : (j : Int) ≤ 500 := by omega
      have hj8 : (8 * j : Int) ≤ 900000 := by omega
      have E1 := Lib.hid (show ((j + 1 : Nat) : Int) = (j : Int) + 1 by omega)
      have E8 := Lib.hid (show (8 * ((j : Int) + 1)) = 8 * (j : Int) + 8 by omega)
      obtain ⟨ln, hln⟩ : ∃ ln, ln = Q.length := ⟨_, rfl⟩
      have HLN := Lib.hid hln
      rw [← hln]
      rw [← hln] at hQf HA
      clear hc c1 hbel hz hl hzw hlt hbl hln
      rcases hy3 with hy0 | hy0 | hy0 | hy0
      · subst hy0
        go_wp2_with (first
          | (go_at_call 11; (with_reducible refine (push_any (ek n) ((j : Int) + 1) _).mono ?_); intro r w4 hk; obtain ⟨M, rfl, hM, hm, hb⟩ := hk; have HM := Lib.hid (HA.out.begin hM hm hb); clear hM hm hb)
          | (go_at_call 10; (with_reducible refine (am_push HM.out (by omega) hn99 hj2 hj8).mono ?_); rintro r w5 ⟨o, x, rfl, ev⟩; rcases ev with ⟨L', x', hq, h⟩ | ⟨L', x', hq, h⟩ <;> have HF := Lib.hid h <;> clear h <;> first | (rw [← HLN.out] at hq; have hlq : ((ln : Int) == (n : Int) + 1) = false := (by rw [beq_eq_false_iff_ne]; omega); have HQV := Lib.hid (HF.out.q.below (below_al w5 (.cells #[.int .u64 ((j : Int) + 1)] 29))); have HSZ := Lib.hid (show S < (w5.alloc (.cells #[.int .u64 ((j : Int) + 1)] 29)).heap.size ∧ D < (w5.alloc (.cells #[.int .u64 ((j : Int) + 1)] 29)).heap.size from (HF.out.step (below_al w5 _)).ok.ltS); have HXC := Lib.hid (show (w5.alloc (.cells #[.int .u64 ((j : Int) + 1)] 29)).cell? ⟨w5.heap.size, 0, none⟩ = some (.int .u64 ((j : Int) + 1)) from World.cell?_alloc_at _ _ _ _ rfl); have HQL := Lib.hid (show Q.length ≤ 1000 from (by have := HLN.out; omega))) | (have hlq : ((ln : Int) == (n : Int) + 1) = true := (by rw [beq_iff_eq]; have := HLN.out; omega)))
          | (at_builtin; refine append_q rfl _ _ rfl HQV.out HSZ.out HXC.out HQL.out rfl rfl ?_; intro v' w6 hq6 hu6; have HE := Lib.hid ((HF.out.step (below_al w5 _)).app hq6 hu6); clear hq6 hu6)
          | fail)
        all_goals go_roundw
        all_goals first
          | exact ⟨j + 1, by omega, by go_num, _, _, by rw [E1.out, E8.out]; exact HE.out⟩
          | exact ⟨j + 1, by omega, by go_num, _, _, by rw [E1.out, E8.out]; exact HF.out⟩
          | (simp [intOf]; omega)
      · subst hy0
        go_wp2_with (first
          | (go_at_call 11; (with_reducible refine (push_any (ek n) ((j : Int) + 1) _).mono ?_); intro r w4 hk; obtain ⟨M, rfl, hM, hm, hb⟩ := hk; have HM := Lib.hid (HA.out.begin hM hm hb); clear hM hm hb)
          | (go_at_call 10; (with_reducible refine (am_push HM.out (by omega) hn99 hj2 hj8).mono ?_); rintro r w5 ⟨o, x, rfl, ev⟩; rcases ev with ⟨L', x', hq, h⟩ | ⟨L', x', hq, h⟩ <;> have HF := Lib.hid h <;> clear h <;> first | (rw [← HLN.out] at hq; have hlq : ((ln : Int) == (n : Int) + 1) = false := (by rw [beq_eq_false_iff_ne]; omega); have HQV := Lib.hid (HF.out.q.below (below_al w5 (.cells #[.int .u64 ((j : Int) + 1)] 29))); have HSZ := Lib.hid (show S < (w5.alloc (.cells #[.int .u64 ((j : Int) + 1)] 29)).heap.size ∧ D < (w5.alloc (.cells #[.int .u64 ((j : Int) + 1)] 29)).heap.size from (HF.out.step (below_al w5 _)).ok.ltS); have HXC := Lib.hid (show (w5.alloc (.cells #[.int .u64 ((j : Int) + 1)] 29)).cell? ⟨w5.heap.size, 0, none⟩ = some (.int .u64 ((j : Int) + 1)) from World.cell?_alloc_at _ _ _ _ rfl); have HQL := Lib.hid (show Q.length ≤ 1000 from (by have := HLN.out; omega))) | (have hlq : ((ln : Int) == (n : Int) + 1) = true := (by rw [beq_iff_eq]; have := HLN.out; omega)))
          | (at_builtin; refine append_q rfl _ _ rfl HQV.out HSZ.out HXC.out HQL.out rfl rfl ?_; intro v' w6 hq6 hu6; have HE := Lib.hid ((HF.out.step (below_al w5 _)).app hq6 hu6); clear hq6 hu6)
          | fail)
        all_goals go_roundw
        all_goals first
          | exact ⟨j + 1, by omega, by go_num, _, _, by rw [E1.out, E8.out]; exact HE.out⟩
          | exact ⟨j + 1, by omega, by go_num, _, _, by rw [E1.out, E8.out]; exact HF.out⟩
          | (simp [intOf]; omega)
      · subst hy0
        by_cases hq0 : ln = 0
        · subst hq0
          have hQ : Q = [] := List.eq_nil_of_length_eq_zero HLN.out.symm
          subst hQ
          go_wp2_with (first
            | (go_at_call 12; (with_reducible refine (pop_any (ek n) _).mono ?_); intro r w4 hk; obtain ⟨M, rfl, hM, hm, hb⟩ := hk; have HM := Lib.hid (HA.out.begin hM hm hb); clear hM hm hb)
            | (go_at_call 10; (with_reducible refine (am_none HM.out (.inl rfl) hn99 hj2 hj8).mono ?_); rintro r w5 ⟨rfl, L', h⟩; have HF := Lib.hid h; clear h)
            | fail)
          go_roundw
          case rel => exact ⟨j + 1, by omega, by go_num, _, _, by rw [E1.out, E8.out]; exact HF.out⟩
          case measure => simp [intOf]; omega
        · obtain ⟨p, rfl⟩ : ∃ p, ln = p + 1 := ⟨ln - 1, by omega⟩
          have HP : Hid (Q.length = p + 1) := Lib.hid HLN.out.symm
          have HQ0 : Hid (0 < Q.length) := Lib.hid (by have := HP.out; omega)
          have hne : ((p : Int) + 1 == 0) = false := by rw [beq_eq_false_iff_ne]; omega
          obtain ⟨zz, hzz⟩ : ∃ zz, zz = Q.getD (Q.length - 1) 0 := ⟨_, rfl⟩
          have HZZ := Lib.hid hzz.symm
          have hqv := HA.out.q
          obtain ⟨b, off, cap, hv, hlc, hcm, _⟩ := (QV.has hqv HQ0.out)
          rw [HP.out] at hv hlc
          cases hv
          have hp1 : p + 1 ≤ cc := hlc
          clear hqv hzz hcm hq0
          have hpn : (0 : Int) ≤ (p : Int) := by omega
          have hsl := fun w => slice_drop28 b off p cc hp1 w
          go_wp2_with (first
            | (go_at_call 12; (with_reducible refine (pop_any (ek n) _).mono ?_); intro r w4 hk; obtain ⟨M, rfl, hM, hm, hb⟩ := hk; have HM := Lib.hid (HA.out.begin hM hm hb); clear hM hm hb)
            | (go_at_call 10; (with_reducible refine (am_pop HM.out HQ0.out hn99 hj2 hj8).mono ?_); rintro r w5 ⟨rfl, L', h⟩; rw [HZZ.out]; obtain ⟨b2, off2, cap2, hv2, _, _, hcell, hdrop, htail⟩ := (QV.has h.q HQ0.out); rw [HP.out] at hv2; cases hv2; have cz := hcell p (by have := HP.out; omega); rw [show Q.getD p 0 = Q.getD (Q.length - 1) 0 from (by rw [HP.out, Nat.add_sub_cancel])] at cz; rw [HZZ.out] at cz; rw [HP.out, Nat.add_sub_cancel] at hdrop htail; have HF := Lib.hid (h.list hdrop); clear h hcell hdrop htail)
            | fail)
          go_roundw
          case rel => exact ⟨j + 1, by omega, by go_num, _, _, by rw [E1.out, E8.out]; exact HF.out⟩
          case measure => simp [intOf]; omega
      · subst hy0
        by_cases hq0 : ln = 0
        · subst hq0
          have hQ : Q = [] := List.eq_nil_of_length_eq_zero HLN.out.symm
          subst hQ
          go_wp2_with (first
            | (go_at_call 13; (with_reducible refine (steal_any (ek n) _).mono ?_); intro r w4 hk; obtain ⟨M, rfl, hM, hm, hb⟩ := hk; have HM := Lib.hid (HA.out.begin hM hm hb); clear hM hm hb)
            | (go_at_call 10; (with_reducible refine (am_none HM.out (.inr rfl) hn99 hj2 hj8).mono ?_); rintro r w5 ⟨rfl, L', h⟩; have HF := Lib.hid h; clear h)
            | fail)
          go_roundw
          case rel => exact ⟨j + 1, by omega, by go_num, _, _, by rw [E1.out, E8.out]; exact HF.out⟩
          case measure => simp [intOf]; omega
        · obtain ⟨p, rfl⟩ : ∃ p, ln = p + 1 := ⟨ln - 1, by omega⟩
          have HP : Hid (Q.length = p + 1) := Lib.hid HLN.out.symm
          have HQ0 : Hid (0 < Q.length) := Lib.hid (by have := HP.out; omega)
          have hne : ((p : Int) + 1 == 0) = false := by rw [beq_eq_false_iff_ne]; omega
          obtain ⟨zz, hzz⟩ : ∃ zz, zz = Q.getD 0 0 := ⟨_, rfl⟩
          have HZZ := Lib.hid hzz.symm
          have hqv := HA.out.q
          obtain ⟨b, off, cap, hv, hlc, hcm, _⟩ := (QV.has hqv HQ0.out)
          rw [HP.out] at hv hlc
          cases hv
          have hp1 : p + 1 ≤ cc := hlc
          clear hqv hzz hcm hq0
          have hpn : (0 : Int) ≤ (p : Int) := by omega
          have hsl := fun w => slice_tail28 b off (p + 1) cc (by omega) hp1 w
          rw [Nat.add_sub_cancel] at hsl
          go_wp2_with (first
            | (go_at_call 13; (with_reducible refine (steal_any (ek n) _).mono ?_); intro r w4 hk; obtain ⟨M, rfl, hM, hm, hb⟩ := hk; have HM := Lib.hid (HA.out.begin hM hm hb); clear hM hm hb)
            | (go_at_call 10; (with_reducible refine (am_steal HM.out HQ0.out hn99 hj2 hj8).mono ?_); rintro r w5 ⟨rfl, L', h⟩; rw [HZZ.out]; obtain ⟨b2, off2, cap2, hv2, _, _, hcell, hdrop, htail⟩ := (QV.has h.q HQ0.out); rw [HP.out] at hv2; cases hv2; have cz := hcell 0 (by have := HP.out; omega); rw [Nat.add_zero] at cz; rw [HZZ.out] at cz; rw [HP.out, Nat.add_sub_cancel] at hdrop htail; have HF := Lib.hid (h.list htail); clear h hcell hdrop htail)
            | fail)
          go_roundw
          case rel => exact ⟨j + 1, by omega, by go_num, _, _, by rw [E1.out, E8.out]; exact HF.out⟩
          case measure => simp [intOf]; omega
    · obtain rfl : j = np := by omega
      go_wp2
      go_ret
      exact ⟨rfl, hl.ok.bel⟩
end Go.Proofs.Ytjnenpflpckimaa

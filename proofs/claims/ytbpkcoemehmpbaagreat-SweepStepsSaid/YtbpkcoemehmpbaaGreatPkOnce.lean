/- Three that put packets, take them and put them back. -/
import Derived.Test.YtbpkcoemehmpbaaGreatPkPure
namespace Go.Proofs.YtbpkcoemehmpbaaGreat
set_option linter.unusedVariables false
set_option linter.unusedSimpArgs false

/-- The numbers 1 to n. -/
def En (n : Nat) : List Int := (List.range n).map fun (i : Nat) => ((i + 1 : Nat) : Int)
theorem mem_En {n : Nat} {x : Int} : x ∈ En n ↔ 1 ≤ x ∧ x ≤ n := by
  simp only [En, List.mem_map, List.mem_range]
  constructor
  · rintro ⟨i, h, rfl⟩; omega
  · intro h; exact ⟨(x - 1).toNat, by omega, by omega⟩
theorem nd_En (n : Nat) : (En n).Nodup := by
  unfold En
  refine List.Pairwise.map _ (fun a b h => ?_) (List.nodup_range (n := n))
  omega
theorem len_En (n : Nat) : (En n).length = n := by simp [En]
theorem En_succ (n : Nat) : En (n + 1) = En n ++ [((n + 1 : Nat) : Int)] := by simp [En, List.range_succ]

/-- How often a machine can be begun yet: it turns a head as often. -/
theorem fut_low (g : Pg) (L : List Int) (m : Pm) : fut m ≤ fut (pstp g L m).2 + 1 := by
  unfold pstp
  by_cases h1 : m.pc = 1
  · rw [if_pos h1]
    have : fut m = 2 := by simp [fut, h1]
    rw [this]
    split
    · split
      · simp [fut, h1]
      · simp [fut]
    · simp [fut, h1]
  · rw [if_neg h1]
    have hle : fut m ≤ 1 := by unfold fut; split <;> simp_all
    have h0 : ∀ x, 0 ≤ fut x := fun x => by unfold fut; repeat' split
                                            all_goals omega
    have := h0 (if m.pc = 2 then (ptq L (g.tk m.p m.j) (m.ts.getD m.j.toNat 0), { m with j := m.j + 1, pc := if m.j + 1 = m.ts.length then 3 else 2 })
      else if m.pc = 3 then (ptq L (g.mn m.p) m.ts.length, { m with x := mPush g.po m.p, pc := 4 })
      else if m.pc = 4 then ((sstp L m.x).1, if (sstp L m.x).2.pc = 0 then { m with x := (sstp L m.x).2, p := (sstp L m.x).2.item, pc := 0 } else { m with x := (sstp L m.x).2 })
      else (L, m)).2
    omega
theorem pstp_kind (g : Pg) (L : List Int) (m : Pm) : (pstp g L m).2.kind = m.kind := by
  unfold pstp; repeat' split
  all_goals rfl
/-- Packets that a machine hasn't are as they were. -/
theorem own_same {n : Nat} {g : Pg} {L L' : List Int} {h : List Int} {x : Int} (G : Gp n L.length g) (hf : ∀ q : Int, 0 ≤ q → L'.getD q.toNat 0 = L.getD q.toNat 0 ∨ OwnW g h q)
    (hr : ∀ y ∈ h, 1 ≤ y ∧ y ≤ (n : Int)) (hx : 1 ≤ x ∧ x ≤ (n : Int)) (hn : x ∉ h) : lkw g.sp L' x = lkw g.sp L x ∧ tw g L' x = tw g L x ∧ mw g L' x = mw g L x := by
  have a := G.s.lk x hx.1 hx.2
  have a2 := G.p.lk x hx.1 hx.2
  rw [G.links] at a2
  have b := G.t x 0 hx.1 hx.2 (by omega) (by omega)
  have c := G.m x hx.1 hx.2
  refine ⟨?_, ?_, ?_⟩
  · rcases hf _ a.1 with e | e | e | ⟨y, hy, e | e | e⟩
    · exact e
    · exact absurd e a.2.2
    · exact absurd e a2.2.2
    · have := G.s.inj x y hx.1 hx.2 (hr y hy).1 (hr y hy).2 e
      exact absurd (this ▸ hy) hn
    · exact absurd e.symm (G.ml y x (hr y hy).1 (hr y hy).2 hx.1 hx.2)
    · exact absurd e.symm (G.tl y 0 x (hr y hy).1 (hr y hy).2 (by omega) (by omega) hx.1 hx.2)
  · rcases hf _ b.1 with e | e | e | ⟨y, hy, e | e | e⟩
    · exact e
    · exact absurd e b.2.2.1
    · exact absurd e b.2.2.2
    · exact absurd e (G.tl x 0 y hx.1 hx.2 (by omega) (by omega) (hr y hy).1 (hr y hy).2)
    · exact absurd e (G.tm x 0 y hx.1 hx.2 (by omega) (by omega) (hr y hy).1 (hr y hy).2)
    · have := (G.ti x 0 y 0 hx.1 hx.2 (by omega) (by omega) (hr y hy).1 (hr y hy).2 (by omega) (by omega) e).1
      exact absurd (this ▸ hy) hn
  · rcases hf _ c.1 with e | e | e | ⟨y, hy, e | e | e⟩
    · exact e
    · exact absurd e c.2.2.1
    · exact absurd e c.2.2.2
    · exact absurd e (G.ml x y hx.1 hx.2 (hr y hy).1 (hr y hy).2)
    · have := G.mi x y hx.1 hx.2 (hr y hy).1 (hr y hy).2 e
      exact absurd (this ▸ hy) hn
    · exact absurd e.symm (G.tm y 0 x (hr y hy).1 (hr y hy).2 (by omega) (by omega) hx.1 hx.2)
/-- How many packets a machine has that it took. -/
def hasn (m : Pm) (h : List Int) : Int := if m.pc ≠ 0 ∧ m.kind = 1 then 0 else h.length
theorem Th.few {n : Nat} {g : Pg} {L : List Int} {Ts Tp : Int} {Qs Qp : List Int} {m : Pm} {h w : List Int} (P : Th n g L Ts Qs Tp Qp m h w) : (h.length : Int) ≤ w.length + hasn m h ∧ (m.pc = 1 → (h.length : Int) + 1 ≤ w.length + hasn m h) := by
  cases P <;> simp [hasn]
theorem Th.top {n : Nat} {g : Pg} {L : List Int} {Ts Tp : Int} {Qs Qp : List Int} {m : Pm} {h w : List Int} (P : Th n g L Ts Qs Tp Qp m h w) : pdue Ts Tp m ≤ 10 ∧ (m.pc ≠ 0 → 1 ≤ pdue Ts Tp m) ∧ 0 ≤ fut m ∧ fut m ≤ 2 := by
  have lo : ∀ T (x : Sm), x.pc ≤ 3 → x.pc ≠ 0 → 1 ≤ due T x := fun T x h h2 => by unfold due; repeat' split
                                                                                  all_goals omega
  cases P with
  | idle => simp [pdue, fut]
  | put1 t p x hX hk hp => have := due_top Ts x hX.pc_le; have := lo Ts x hX.pc_le hp; simp [pdue, fut]; omega
  | put2 => simp [pdue, fut]
  | put3 => simp [pdue, fut]
  | put4 t p x hr ht hm hX hk hi hp => have := due_top Tp x hX.pc_le; have := lo Tp x hX.pc_le hp; simp [pdue, fut]; omega
  | take ts j p x hX hk hp => have := due_top Tp x hX.pc_le; have := lo Tp x hX.pc_le hp; simp [pdue, fut]; omega
  | back ts j p0 p x hr hX hk hi hp => have := due_top Ts x hX.pc_le; have := lo Ts x hX.pc_le hp; simp [pdue, fut]; omega
/-- Three machines, what each has, and is about to put; S: the tasks that were seen; put: how many were put. -/
structure Pw (n : Nat) (g : Pg) (L : List Int) (i : Int) (put : Nat) (S : List Int) (a b c : Pm) (ha hb hc wa wb wc : List Int) (ra rb rc : Int) : Prop where
  ex : ∃ Ts Qs Tp Qp, Stk n g.sp L Ts Qs ∧ Stk n g.po L Tp Qp ∧ Ts ≤ i ∧ Tp ≤ i ∧ Th n g L Ts Qs Tp Qp a ha wa ∧ Th n g L Ts Qs Tp Qp b hb wb ∧ Th n g L Ts Qs Tp Qp c hc wc ∧
    (Qs ++ (Qp ++ (ha ++ (hb ++ hc)))).Perm (En n) ∧ (S ++ (Qp.map (tw g L) ++ (wa ++ (wb ++ wc)))).Perm (En put) ∧ (∀ q ∈ Qp, mw g L q = 1) ∧
    pdue Ts Tp a + 3 * (fut b + fut c) ≤ ra ∧ pdue Ts Tp b + 3 * (fut a + fut c) ≤ rb ∧ pdue Ts Tp c + 3 * (fut a + fut b) ≤ rc
  G : Gp n L.length g
  pn : put ≤ n
  cnt : hasn a ha + hasn b hb + hasn c hc ≤ S.length
  bd : 2 * (put : Int) ≤ i + fut a + fut b + fut c
section
variable {n : Nat} {g : Pg} {L : List Int} {i : Int} {put : Nat} {S : List Int} {a b c : Pm} {ha hb hc wa wb wc : List Int} {ra rb rc : Int}
theorem Pw.swap1 (H : Pw n g L i put S a b c ha hb hc wa wb wc ra rb rc) : Pw n g L i put S b a c hb ha hc wb wa wc rb ra rc := by
  obtain ⟨Ts, Qs, Tp, Qp, Hs, Hp, hT, hT2, sa, sb, sc, p1, p2, hm, r1, r2, r3⟩ := H.ex
  refine ⟨⟨Ts, Qs, Tp, Qp, Hs, Hp, hT, hT2, sb, sa, sc, ?_, ?_, hm, r2, r1, by omega⟩, H.G, H.pn, by have := H.cnt; omega, by have := H.bd; omega⟩
  · refine List.perm_iff_count.2 fun z => ?_
    have := p1.count_eq z
    simp only [List.count_append] at this ⊢; omega
  · refine List.perm_iff_count.2 fun z => ?_
    have := p2.count_eq z
    simp only [List.count_append] at this ⊢; omega
theorem Pw.swap2 (H : Pw n g L i put S a b c ha hb hc wa wb wc ra rb rc) : Pw n g L i put S c b a hc hb ha wc wb wa rc rb ra := by
  obtain ⟨Ts, Qs, Tp, Qp, Hs, Hp, hT, hT2, sa, sb, sc, p1, p2, hm, r1, r2, r3⟩ := H.ex
  refine ⟨⟨Ts, Qs, Tp, Qp, Hs, Hp, hT, hT2, sc, sb, sa, ?_, ?_, hm, by omega, by omega, by omega⟩, H.G, H.pn, by have := H.cnt; omega, by have := H.bd; omega⟩
  · refine List.perm_iff_count.2 fun z => ?_
    have := p1.count_eq z
    simp only [List.count_append] at this ⊢; omega
  · refine List.perm_iff_count.2 fun z => ?_
    have := p2.count_eq z
    simp only [List.count_append] at this ⊢; omega
/-- Nobody is further from the end than 22 steps. -/
theorem Pw.top (H : Pw n g L i put S a b c ha hb hc wa wb wc ra rb rc) : Pw n g L i put S a b c ha hb hc wa wb wc 22 22 22 := by
  obtain ⟨Ts, Qs, Tp, Qp, Hs, Hp, hT, hT2, sa, sb, sc, p1, p2, hm, r1, r2, r3⟩ := H.ex
  have := sa.top
  have := sb.top
  have := sc.top
  exact ⟨⟨Ts, Qs, Tp, Qp, Hs, Hp, hT, hT2, sa, sb, sc, p1, p2, hm, by omega, by omega, by omega⟩, H.G, H.pn, H.cnt, H.bd⟩
theorem Pw.more {i' ra' rb' rc' : Int} (H : Pw n g L i put S a b c ha hb hc wa wb wc ra rb rc) (hi : i ≤ i') (h1 : ra ≤ ra') (h2 : rb ≤ rb') (h3 : rc ≤ rc') : Pw n g L i' put S a b c ha hb hc wa wb wc ra' rb' rc' := by
  obtain ⟨Ts, Qs, Tp, Qp, Hs, Hp, hT, hT2, sa, sb, sc, p1, p2, hm, r1, r2, r3⟩ := H.ex
  exact ⟨⟨Ts, Qs, Tp, Qp, Hs, Hp, by omega, by omega, sa, sb, sc, p1, p2, hm, by omega, by omega, by omega⟩, H.G, H.pn, H.cnt, by have := H.bd; omega⟩
/-- One that is under way has steps left. -/
theorem Pw.left (H : Pw n g L i put S a b c ha hb hc wa wb wc ra rb rc) (hp : a.pc ≠ 0) : 1 ≤ ra := by
  obtain ⟨Ts, Qs, Tp, Qp, Hs, Hp, hT, hT2, sa, sb, sc, p1, p2, hm, r1, r2, r3⟩ := H.ex
  have := sa.top.2.1 hp
  have := sb.top
  have := sc.top
  omega
theorem Pw.rng (H : Pw n g L i put S a b c ha hb hc wa wb wc ra rb rc) : (∀ x ∈ ha, 1 ≤ x ∧ x ≤ (n : Int)) ∧ ∀ t ∈ S, 1 ≤ t ∧ t ≤ (put : Int) := by
  obtain ⟨Ts, Qs, Tp, Qp, Hs, Hp, hT, hT2, sa, sb, sc, p1, p2, hm, r1, r2, r3⟩ := H.ex
  exact ⟨fun x hx => mem_En.1 (p1.mem_iff.1 (by simp [hx])), fun t ht => mem_En.1 (p2.mem_iff.1 (by simp [ht]))⟩
/-- A step of the first one. -/
theorem Pw.step (H : Pw n g L i put S a b c ha hb hc wa wb wc ra rb rc) (hp : a.pc ≠ 0) (hi : i + 1 < 100000) :
    ((pstp g L a).2.pc ≠ 0 ∧ ∃ ha', (a.kind ≠ 1 → ha' = ha) ∧ Pw n g (pstp g L a).1 (i + 1) put S (pstp g L a).2 b c ha' hb hc wa wb wc (ra - 1) rb rc) ∨
    ((pstp g L a).2.pc = 0 ∧ a.kind = 1 ∧ Pw n g (pstp g L a).1 (i + 1) put S (pstp g L a).2 b c [] hb hc [] wb wc (ra - 1) rb rc) ∨
    ((pstp g L a).2.pc = 0 ∧ a.kind = 2 ∧ (1 ≤ (pstp g L a).2.p ∧ (pstp g L a).2.p ≤ n) ∧ mw g (pstp g L a).1 (pstp g L a).2.p = 1 ∧ (1 ≤ tw g (pstp g L a).1 (pstp g L a).2.p ∧ tw g (pstp g L a).1 (pstp g L a).2.p ≤ put) ∧
      Pw n g (pstp g L a).1 (i + 1) put (S ++ [tw g (pstp g L a).1 (pstp g L a).2.p]) (pstp g L a).2 b c [(pstp g L a).2.p] hb hc [] wb wc (ra - 1) rb rc) ∨
    ((pstp g L a).2.pc = 0 ∧ a.kind = 2 ∧ (pstp g L a).2.p = 0 ∧ Pw n g (pstp g L a).1 (i + 1) put S (pstp g L a).2 b c [] hb hc [] wb wc (ra - 1) rb rc) ∨
    ((pstp g L a).2.pc = 0 ∧ a.kind = 3 ∧ Pw n g (pstp g L a).1 (i + 1) put S (pstp g L a).2 b c [] hb hc [] wb wc (ra - 1) rb rc) := by
  have hfl := fut_low g L a
  obtain ⟨Ts, Qs, Tp, Qp, Hs, Hp, hT, hT2, sa, sb, sc, p1, p2, hm, r1, r2, r3⟩ := H.ex
  have G := H.G
  have hpn := H.pn
  have hcnt := H.cnt
  have hbd := H.bd
  have hnd : (Qs ++ (Qp ++ (ha ++ (hb ++ hc)))).Nodup := p1.nodup_iff.2 (nd_En n)
  have hmem : ∀ x, x ∈ Qs ++ (Qp ++ (ha ++ (hb ++ hc))) → 1 ≤ x ∧ x ≤ (n : Int) := fun x hx => mem_En.1 (p1.mem_iff.1 hx)
  have hra : ∀ y ∈ ha, 1 ≤ y ∧ y ≤ (n : Int) := fun y hy => hmem y (by simp [hy])
  have n1 := List.nodup_append.1 hnd
  have n2 := List.nodup_append.1 n1.2.1
  have n3 := List.nodup_append.1 n2.2.1
  have hd : ∀ x ∈ ha, x ∉ Qs ∧ x ∉ Qp := fun x hx => ⟨fun h => n1.2.2 _ h x (by simp [hx]) rfl, fun h => n2.2.2 _ h x (by simp [hx]) rfl⟩
  have hne : a.pc = 1 → Qs ≠ [] := fun h1 h2 => by
    have l1 := p1.length_eq
    have l2 := p2.length_eq
    rw [h2] at l1
    simp only [List.length_append, List.length_map, List.length_nil, len_En] at l1 l2
    have f1 := sa.few.2 h1
    have f2 := sb.few.1
    have f3 := sc.few.1
    omega
  obtain ⟨Ts', Qs', Tp', Qp', h', w', Hs', Hp', sa', hln, t1, t2, t3, t4, t5, t6, t7, ev, own, hdu, hfu, hkd⟩ := pk_step G Hs Hp sa hp (by omega) (by omega) hd hne
  have G' : Gp n (pstp g L a).1.length g := by rw [hln]; exact G
  have two : (pdue Ts' Tp' b ≤ pdue Ts Tp b + (if Ts' = Ts ∧ Tp' = Tp then 0 else 3)) ∧ (pdue Ts' Tp' c ≤ pdue Ts Tp c + (if Ts' = Ts ∧ Tp' = Tp then 0 else 3)) := ⟨pdue_mono sb t7, pdue_mono sc t7⟩
  have q1 : pdue Ts' Tp' (pstp g L a).2 + 3 * (fut b + fut c) ≤ ra - 1 := by omega
  have q2 : pdue Ts' Tp' b + 3 * (fut (pstp g L a).2 + fut c) ≤ rb := by have := two.1; split at this <;> split at hfu <;> first | omega | contradiction
  have q3 : pdue Ts' Tp' c + 3 * (fut (pstp g L a).2 + fut b) ≤ rc := by have := two.2; split at this <;> split at hfu <;> first | omega | contradiction
  have hbd' : 2 * (put : Int) ≤ (i + 1) + fut (pstp g L a).2 + fut b + fut c := by omega
  have sameQ : ∀ q, q ∈ Qp → tw g (pstp g L a).1 q = tw g L q ∧ mw g (pstp g L a).1 q = mw g L q := fun q hq =>
    (own_same G own hra (hmem q (by simp [hq])) (fun h => (hd q h).2 hq)).2
  -- the others
  have off : ∀ x, x ∈ hb ++ hc → (x ∉ Qs' ∧ x ∉ Qp') ∧ lkw g.sp (pstp g L a).1 x = lkw g.sp L x ∧ tw g (pstp g L a).1 x = tw g L x ∧ mw g (pstp g L a).1 x = mw g L x := fun x hx => by
    have hxA : x ∉ ha := fun h => n3.2.2 _ h x hx rfl
    have hxS : x ∉ Qs := fun h => n1.2.2 _ h x (by simp only [List.mem_append] at hx ⊢; exact .inr (.inr hx)) rfl
    have hxP : x ∉ Qp := fun h => n2.2.2 _ h x (by simp only [List.mem_append] at hx ⊢; exact .inr hx) rfl
    refine ⟨?_, own_same G own hra (hmem x (by simp only [List.mem_append] at hx ⊢; exact .inr (.inr (.inr hx)))) hxA⟩
    cases ev with
    | on e1 e2 e3 => rw [e2, e3]; exact ⟨hxS, hxP⟩
    | got q e1 e2 e3 e4 => rw [e4]; exact ⟨fun h => hxS (by rw [e3]; simp [h]), hxP⟩
    | put p t e1 e2 e3 e4 e5 => rw [e3, e4]; exact ⟨hxS, fun h => (List.mem_cons.1 h).elim (fun e => hxA (by rw [e5, e]; simp)) hxP⟩
    | took p e1 e2 e3 e4 => rw [e3]; exact ⟨hxS, fun h => hxP (by rw [e4]; simp [h])⟩
    | none e1 e2 e3 e4 => rw [e3, e4]; exact ⟨hxS, hxP⟩
    | back p e1 e2 e3 e4 e5 => rw [e3, e4]; exact ⟨fun h => (List.mem_cons.1 h).elim (fun e => hxA (by rw [e5, e]; simp)) hxS, hxP⟩
  have sb' := sb.mono (L' := (pstp g L a).1) G.links t1 t3 t4 t6 (fun x hx => by have := off x (by simp [hx]); exact ⟨this.1.1, this.1.2, this.2⟩)
  have sc' := sc.mono (L' := (pstp g L a).1) G.links t1 t3 t4 t6 (fun x hx => by have := off x (by simp [hx]); exact ⟨this.1.1, this.1.2, this.2⟩)
  have kk := pstp_kind g L a
  cases ev with
  | on e1 e2 e3 e4 e5 =>
    subst e2 e3 e4 e5
    refine .inl ⟨e1, h', fun _ => rfl, ⟨⟨_, _, _, _, Hs', Hp', by omega, by omega, sa', sb', sc', p1, ?_, fun q hq => (sameQ q hq).2.trans (hm q hq), q1, q2, q3⟩, G', hpn, ?_, hbd'⟩⟩
    · rw [List.map_congr_left (fun q hq => (sameQ q hq).1)]; exact p2
    · have : hasn (pstp g L a).2 h' = hasn a h' := by
        unfold hasn; rw [kk]
        by_cases hk1 : a.kind = 1
        · rw [if_pos ⟨e1, hk1⟩, if_pos ⟨hp, hk1⟩]
        · rw [if_neg (fun h => hk1 h.2), if_neg (fun h => hk1 h.2)]
      rw [this]; exact hcnt
  | got q e1 e2 e3 e4 e5 e6 e7 =>
    subst e4 e5 e6 e7
    refine .inl ⟨e1, [q], fun h => absurd e2 h, ⟨⟨_, _, _, _, Hs', Hp', by omega, by omega, sa', sb', sc', ?_, ?_, fun q hq => (sameQ q hq).2.trans (hm q hq), q1, q2, q3⟩, G', hpn, ?_, hbd'⟩⟩
    · refine List.perm_iff_count.2 fun z => ?_
      have := p1.count_eq z
      rw [e3] at this
      simp only [List.count_append, List.count_cons, List.count_nil] at this ⊢; omega
    · rw [List.map_congr_left (fun q hq => (sameQ q hq).1)]; exact p2
    · have : hasn (pstp g L a).2 [q] = 0 := by simp [hasn, kk, e1, e2]
      have h2 : hasn a [] = 0 := by simp [hasn]
      omega
  | put p t e1 e2 e3 e4 e5 e6 e7 e8 e9 e10 =>
    subst e3 e5 e6 e7 e8
    refine .inr (.inl ⟨e1, e2, ⟨⟨_, _, _, _, Hs', Hp', by omega, by omega, sa', sb', sc', ?_, ?_, fun q hq => ?_, q1, q2, q3⟩, G', hpn, ?_, hbd'⟩⟩)
    · refine List.perm_iff_count.2 fun z => ?_
      have := p1.count_eq z
      rw [e4]
      simp only [List.count_append, List.count_cons, List.count_nil] at this ⊢; omega
    · refine List.perm_iff_count.2 fun z => ?_
      have := p2.count_eq z
      rw [e4, List.map_cons, e9, List.map_congr_left (fun q hq => (sameQ q hq).1)]
      simp only [List.count_append, List.count_cons, List.count_nil] at this ⊢; omega
    · rw [e4] at hq
      rcases List.mem_cons.1 hq with e | hq
      · rw [e]; exact e10
      · exact (sameQ q hq).2.trans (hm q hq)
    · have : hasn (pstp g L a).2 [] = 0 := by simp [hasn]
      have h2 : hasn a [p] = 0 := by simp [hasn, hp, e2]
      omega
  | took p e1 e2 e3 e4 e5 e6 e7 e8 e9 =>
    subst e3 e5 e6 e7 e8
    have hpr := hmem p (by rw [e4]; simp)
    have sp := sameQ p (by rw [e4]; simp)
    have htk : tw g (pstp g L a).1 p ∈ En put := p2.mem_iff.1 (by rw [e4, sp.1]; simp)
    have htk2 := mem_En.1 htk
    rw [e9]
    refine .inr (.inr (.inl ⟨e1, e2, hpr, sp.2.trans (hm p (by rw [e4]; simp)), htk2, ⟨⟨_, _, _, _, Hs', Hp', by omega, by omega, sa', sb', sc', ?_, ?_, fun q hq => ?_, q1, q2, q3⟩, G', hpn, ?_, hbd'⟩⟩))
    · refine List.perm_iff_count.2 fun z => ?_
      have := p1.count_eq z
      rw [e4] at this
      simp only [List.count_append, List.count_cons, List.count_nil] at this ⊢; omega
    · refine List.perm_iff_count.2 fun z => ?_
      have := p2.count_eq z
      rw [e4, List.map_cons] at this
      rw [sp.1, List.map_congr_left (fun q hq => (sameQ q (by rw [e4]; simp [hq])).1)]
      simp only [List.count_append, List.count_cons, List.count_nil] at this ⊢; omega
    · have : q ∈ Qp := by rw [e4]; simp [hq]
      exact (sameQ q this).2.trans (hm q this)
    · have : hasn (pstp g L a).2 [p] = 1 := by simp [hasn, e1]
      have h2 : hasn a [] = 0 := by simp [hasn]
      simp only [List.length_append, List.length_cons, List.length_nil]
      omega
  | none e1 e2 e3 e4 e5 e6 e7 e8 e9 =>
    subst e3 e4 e5 e6 e7 e8
    refine .inr (.inr (.inr (.inl ⟨e1, e2, e9, ⟨⟨_, _, _, _, Hs', Hp', by omega, by omega, sa', sb', sc', p1, ?_, fun q hq => (sameQ q hq).2.trans (hm q hq), q1, q2, q3⟩, G', hpn, ?_, hbd'⟩⟩)))
    · rw [List.map_congr_left (fun q hq => (sameQ q hq).1)]; exact p2
    · have : hasn (pstp g L a).2 [] = 0 := by simp [hasn]
      have h2 : hasn a [] = 0 := by simp [hasn]
      omega
  | back p e1 e2 e3 e4 e5 e6 e7 e8 =>
    subst e4 e5 e6 e7 e8
    refine .inr (.inr (.inr (.inr ⟨e1, e2, ⟨⟨_, _, _, _, Hs', Hp', by omega, by omega, sa', sb', sc', ?_, ?_, fun q hq => (sameQ q hq).2.trans (hm q hq), q1, q2, q3⟩, G', hpn, ?_, hbd'⟩⟩)))
    · refine List.perm_iff_count.2 fun z => ?_
      have := p1.count_eq z
      rw [e3]
      simp only [List.count_append, List.count_cons, List.count_nil] at this ⊢; omega
    · rw [List.map_congr_left (fun q hq => (sameQ q hq).1)]; exact p2
    · have : hasn (pstp g L a).2 [] = 0 := by simp [hasn]
      have h2 : 0 ≤ hasn a [p] := by unfold hasn; split <;> omega
      omega

/-- What an idle machine has: nothing, or one packet. -/
theorem Pw.idle (H : Pw n g L i put S a b c ha hb hc wa wb wc ra rb rc) (hp : a.pc = 0) : wa = [] ∧ (ha = [] ∨ ∃ p, ha = [p] ∧ 1 ≤ p ∧ p ≤ n) := by
  have hr := H.rng.1
  obtain ⟨Ts, Qs, Tp, Qp, Hs, Hp, hT, hT2, sa, sb, sc, p1, p2, hm, r1, r2, r3⟩ := H.ex
  cases sa with
  | idle kd ts j p x h hl =>
    refine ⟨rfl, ?_⟩
    match ha, hl with
    | [], _ => exact .inl rfl
    | [p], _ => exact .inr ⟨p, rfl, hr p (by simp)⟩
    | _ :: _ :: _, hl => simp at hl
  | put1 => simp at hp
  | put2 => simp at hp
  | put3 => simp at hp
  | put4 => simp at hp
  | take => simp at hp
  | back => simp at hp
theorem itemOf_is {p : Int} (h : 1 ≤ p ∧ p ≤ 100000) : itemOf p = p := by unfold itemOf; rw [if_neg (by omega)]
/-- A machine is begun: a put, a take, one that puts back. -/
theorem Pw.puts (H : Pw n g L i put S a b c [] hb hc wa wb wc ra rb rc) (hp : a.pc = 0) (hn : put + 1 ≤ n) :
    Pw n g L i (put + 1) S (pPut g [((put + 1 : Nat) : Int)]) b c [] hb hc [((put + 1 : Nat) : Int)] wb wc 22 22 22 := by
  have hw := (H.idle hp).1
  subst hw
  obtain ⟨Ts, Qs, Tp, Qp, Hs, Hp, hT, hT2, sa, sb, sc, p1, p2, hm, r1, r2, r3⟩ := H.ex
  have e : pPut g [((put + 1 : Nat) : Int)] = ⟨1, 1, [((put + 1 : Nat) : Int)], 0, 0, mPop g.sp⟩ := by simp [pPut]
  rw [e]
  have sa2 : Th n g L Ts Qs Tp Qp ⟨1, 1, [((put + 1 : Nat) : Int)], 0, 0, mPop g.sp⟩ [] [((put + 1 : Nat) : Int)] := .put1 _ _ _ (.pop1 ..) rfl (by simp [mPop])
  have f0 : fut a = 0 := by simp [fut, hp]
  have f2 : fut ⟨1, 1, [((put + 1 : Nat) : Int)], 0, 0, mPop g.sp⟩ = 2 := by simp [fut]
  have hb1 := H.bd
  have hc1 := H.cnt
  have := sa2.top
  have := sb.top
  have := sc.top
  refine ⟨⟨Ts, Qs, Tp, Qp, Hs, Hp, hT, hT2, sa2, sb, sc, p1, ?_, hm, by omega, by omega, by omega⟩, H.G, hn, ?_, by omega⟩
  · rw [En_succ]
    refine List.perm_iff_count.2 fun z => ?_
    have := p2.count_eq z
    simp only [List.count_append, List.count_cons, List.count_nil] at this ⊢; omega
  · have h1 : hasn a [] = 0 := by simp [hasn]
    have h2 : hasn ⟨1, 1, [((put + 1 : Nat) : Int)], 0, 0, mPop g.sp⟩ [] = 0 := by simp [hasn]
    omega
theorem Pw.take (H : Pw n g L i put S a b c [] hb hc wa wb wc ra rb rc) (hp : a.pc = 0) : Pw n g L i put S (pTake g) b c [] hb hc [] wb wc 22 22 22 := by
  have hw := (H.idle hp).1
  subst hw
  obtain ⟨Ts, Qs, Tp, Qp, Hs, Hp, hT, hT2, sa, sb, sc, p1, p2, hm, r1, r2, r3⟩ := H.ex
  have sa2 : Th n g L Ts Qs Tp Qp (pTake g) [] [] := .take _ _ _ _ (.pop1 ..) rfl (by simp [mPop])
  have f0 : fut a = 0 := by simp [fut, hp]
  have f2 : fut (pTake g) = 1 := by simp [fut, pTake]
  have hb1 := H.bd
  have hc1 := H.cnt
  have := sa2.top
  have := sb.top
  have := sc.top
  refine ⟨⟨Ts, Qs, Tp, Qp, Hs, Hp, hT, hT2, sa2, sb, sc, p1, p2, hm, by omega, by omega, by omega⟩, H.G, H.pn, ?_, by omega⟩
  have h1 : hasn a [] = 0 := by simp [hasn]
  have h2 : hasn (pTake g) [] = 0 := by simp [hasn]
  omega
theorem Pw.back {p : Int} (H : Pw n g L i put S a b c [p] hb hc wa wb wc ra rb rc) (hp : a.pc = 0) : Pw n g L i put S (pBack n g p) b c [p] hb hc [] wb wc 22 22 22 := by
  have hw := (H.idle hp).1
  have hr := H.rng.1 p (by simp)
  subst hw
  obtain ⟨Ts, Qs, Tp, Qp, Hs, Hp, hT, hT2, sa, sb, sc, p1, p2, hm, r1, r2, r3⟩ := H.ex
  have hs := H.G.s.small
  have ei : itemOf p = p := itemOf_is ⟨hr.1, by omega⟩
  have e : pBack n g p = ⟨3, 4, [], 0, 0, mPush g.sp p⟩ := by unfold pBack; rw [if_neg (by omega)]
  have hnd : (Qs ++ (Qp ++ ([p] ++ (hb ++ hc)))).Nodup := p1.nodup_iff.2 (nd_En n)
  have hnS : p ∉ Qs := fun h => (List.nodup_append.1 hnd).2.2 _ h p (by simp) rfl
  have hX : Sp n g.sp L Ts Qs (mPush g.sp p) := by unfold mPush; rw [ei]; exact .push1 _ _ _ _ hr.1 hr.2 hnS
  have sa2 : Th n g L Ts Qs Tp Qp ⟨3, 4, [], 0, 0, mPush g.sp p⟩ [p] [] := .back _ _ _ _ _ hr hX rfl ei (by simp [mPush])
  rw [e]
  have f0 : fut a = 0 := by simp [fut, hp]
  have f2 : fut ⟨3, 4, [], 0, 0, mPush g.sp p⟩ = 1 := by simp [fut]
  have hb1 := H.bd
  have hc1 := H.cnt
  have := sa2.top
  have := sb.top
  have := sc.top
  refine ⟨⟨Ts, Qs, Tp, Qp, Hs, Hp, hT, hT2, sa2, sb, sc, p1, p2, hm, by omega, by omega, by omega⟩, H.G, H.pn, ?_, by omega⟩
  have h1 : hasn a [p] = 1 := by simp [hasn, hp]
  have h2 : hasn ⟨3, 4, [], 0, 0, mPush g.sp p⟩ [p] = 1 := by simp [hasn]
  omega
/-- At the end: what was seen, and what the pool has, is what was put. -/
theorem Pw.end (H : Pw n g L i put S a b c ha hb hc wa wb wc ra rb rc) (h1 : a.pc = 0) (h2 : b.pc = 0) (h3 : c.pc = 0) :
    ∃ T Q, Stk n g.po L T Q ∧ (S ++ Q.map (tw g L)).Perm (En put) ∧ (∀ q ∈ Q, mw g L q = 1 ∧ 1 ≤ tw g L q ∧ tw g L q ≤ put) ∧ Q.length ≤ n := by
  have w1 := (H.idle h1).1
  have w2 := (H.swap1.idle h2).1
  have w3 := (H.swap2.idle h3).1
  subst w1 w2 w3
  obtain ⟨Ts, Qs, Tp, Qp, Hs, Hp, hT, hT2, sa, sb, sc, p1, p2, hm, r1, r2, r3⟩ := H.ex
  simp only [List.append_nil] at p2
  refine ⟨Tp, Qp, Hp, p2, fun q hq => ⟨hm q hq, mem_En.1 (p2.mem_iff.1 ?_)⟩, ?_⟩
  · rw [List.mem_append]; exact .inr (List.mem_map.2 ⟨q, hq, rfl⟩)
  · have := p1.length_eq
    simp only [List.length_append, len_En] at this; omega
theorem count_nd {t : Int} : ∀ {l : List Int}, l.Nodup → t ∈ l → l.count t = 1
  | [], _, h => by cases h
  | x :: l, hn, h => by
    obtain ⟨h1, h2⟩ := List.nodup_cons.1 hn
    by_cases e : x = t
    · subst e
      rw [List.count_cons_self, List.count_eq_zero.2 h1]
    · rw [List.count_cons_of_ne (by simpa using e)]
      exact count_nd h2 ((List.mem_cons.1 h).resolve_left (fun e2 => e e2.symm))
theorem seen_once {S R : List Int} {put : Nat} (h : (S ++ R).Perm (En put)) {t : Int} (h1 : 1 ≤ t) (h2 : t ≤ put) : S.count t + R.count t = 1 := by
  rw [← List.count_append, h.count_eq]
  exact count_nd (nd_En put) (mem_En.2 ⟨h1, h2⟩)
/-- At first: all packets are spare. -/
theorem Pw.begin (G : Gp n L.length g) (Hs : Stk n g.sp L 0 (En n)) (Hp : Stk n g.po L 0 []) {a b c : Pm} (h1 : a.pc = 0) (h2 : b.pc = 0) (h3 : c.pc = 0) : Pw n g L 0 0 [] a b c [] [] [] [] [] [] 22 22 22 := by
  have idl : ∀ m : Pm, m.pc = 0 → Th n g L 0 (En n) 0 [] m [] [] := fun m h => by
    obtain ⟨kd, pc, ts, j, p, x⟩ := m
    simp only at h; subst h
    exact .idle _ _ _ _ _ _ (by simp)
  have z : ∀ m : Pm, m.pc = 0 → fut m = 0 ∧ pdue 0 0 m = 0 ∧ hasn m [] = 0 := fun m h => ⟨by simp [fut, h], by simp [pdue, h], by simp [hasn]⟩
  have za := z a h1
  have zb := z b h2
  have zc := z c h3
  refine ⟨⟨0, En n, 0, [], Hs, Hp, by omega, by omega, idl a h1, idl b h2, idl c h3, by simp, by simp [En], by simp, by omega, by omega, by omega⟩, G, by omega, by simp only [List.length_nil]; omega, by omega⟩
end
end Go.Proofs.YtbpkcoemehmpbaaGreat

/- Three that put packets, take them and put them back. Packets that are put, taken and put back one at a time. -/
import Derived.Test.YtpocihddecemfaaGreatJ6
namespace Go.Proofs.YtpocihddecemfaaGreat
set_option linter.unusedVariables false
set_option linter.unusedSimpArgs false

/-- The numbers 1 to n. -/
def En (n : Nat) : List Int := (List.range n).map fun (i : Nat) => ((i + 1 : Nat) : Int)
theorem mem_En {n : Nat} {x : Int} : x ∈ En n ↔ 1 ≤ x ∧ x ≤ n := by
  simp only [En, List.mem_map, List.mem_range]
  constructor
  · rintro ⟨i, h, rfl⟩; omega
  · intro h; exact ⟨(x - 1).toNat, by omega, by omega⟩
theorem nd_En (n : Nat) : (En n).Nodup := by
  unfold En
  refine List.Pairwise.map _ (fun a b h => ?_) (List.nodup_range (n := n))
  omega
theorem len_En (n : Nat) : (En n).length = n := by simp [En]
theorem En_succ (n : Nat) : En (n + 1) = En n ++ [((n + 1 : Nat) : Int)] := by simp [En, List.range_succ]

/-- How often a machine can be begun yet: it turns a head as often. -/
theorem fut_low (g : Pg) (L : List Int) (m : Pm) : fut m ≤ fut (pstp g L m).2 + 1 := by
  unfold pstp
  by_cases h1 : m.pc = 1
  · rw [if_pos h1]
    have : fut m = 2 := by simp [fut, h1]
    rw [this]
    split
    · split
      · simp [fut, h1]
      · simp [fut]
    · simp [fut, h1]
  · rw [if_neg h1]
    have hle : fut m ≤ 1 := by unfold fut; split <;> simp_all
    have h0 : ∀ x, 0 ≤ fut x := fun x => by unfold fut; repeat' split
                                            all_goals omega
    have := h0 (if m.pc = 2 then (ptq L (g.tk m.p m.j) (m.ts.getD m.j.toNat 0), { m with j := m.j + 1, pc := if m.j + 1 = m.ts.length then 3 else 2 })
      else if m.pc = 3 then (ptq L (g.mn m.p) m.ts.length, { m with x := mPush g.po m.p, pc := 4 })
      else if m.pc = 4 then ((sstp L m.x).1, if (sstp L m.x).2.pc = 0 then { m with x := (sstp L m.x).2, p := (sstp L m.x).2.item, pc := 0 } else { m with x := (sstp L m.x).2 })
      else (L, m)).2
    omega
theorem pstp_kind (g : Pg) (L : List Int) (m : Pm) : (pstp g L m).2.kind = m.kind := by
  unfold pstp; repeat' split
  all_goals rfl
/-- Packets that a machine hasn't are as they were. -/
theorem own_same {n : Nat} {g : Pg} {L L' : List Int} {h : List Int} {x : Int} (G : Gp n L.length g) (hf : ∀ q : Int, 0 ≤ q → L'.getD q.toNat 0 = L.getD q.toNat 0 ∨ OwnW g h q)
    (hr : ∀ y ∈ h, 1 ≤ y ∧ y ≤ (n : Int)) (hx : 1 ≤ x ∧ x ≤ (n : Int)) (hn : x ∉ h) : lkw g.sp L' x = lkw g.sp L x ∧ tw g L' x = tw g L x ∧ mw g L' x = mw g L x := by
  have a := G.s.lk x hx.1 hx.2
  have a2 := G.p.lk x hx.1 hx.2
  rw [G.links] at a2
  have b := G.t x 0 hx.1 hx.2 (by omega) (by omega)
  have c := G.m x hx.1 hx.2
  refine ⟨?_, ?_, ?_⟩
  · rcases hf _ a.1 with e | e | e | ⟨y, hy, e | e | e⟩
    · exact e
    · exact absurd e a.2.2
    · exact absurd e a2.2.2
    · have := G.s.inj x y hx.1 hx.2 (hr y hy).1 (hr y hy).2 e
      exact absurd (this ▸ hy) hn
    · exact absurd e.symm (G.ml y x (hr y hy).1 (hr y hy).2 hx.1 hx.2)
    · exact absurd e.symm (G.tl y 0 x (hr y hy).1 (hr y hy).2 (by omega) (by omega) hx.1 hx.2)
  · rcases hf _ b.1 with e | e | e | ⟨y, hy, e | e | e⟩
    · exact e
    · exact absurd e b.2.2.1
    · exact absurd e b.2.2.2
    · exact absurd e (G.tl x 0 y hx.1 hx.2 (by omega) (by omega) (hr y hy).1 (hr y hy).2)
    · exact absurd e (G.tm x 0 y hx.1 hx.2 (by omega) (by omega) (hr y hy).1 (hr y hy).2)
    · have := (G.ti x 0 y 0 hx.1 hx.2 (by omega) (by omega) (hr y hy).1 (hr y hy).2 (by omega) (by omega) e).1
      exact absurd (this ▸ hy) hn
  · rcases hf _ c.1 with e | e | e | ⟨y, hy, e | e | e⟩
    · exact e
    · exact absurd e c.2.2.1
    · exact absurd e c.2.2.2
    · exact absurd e (G.ml x y hx.1 hx.2 (hr y hy).1 (hr y hy).2)
    · have := G.mi x y hx.1 hx.2 (hr y hy).1 (hr y hy).2 e
      exact absurd (this ▸ hy) hn
    · exact absurd e.symm (G.tm y 0 x (hr y hy).1 (hr y hy).2 (by omega) (by omega) hx.1 hx.2)
/-- How many packets a machine has that it took. -/
def hasn (m : Pm) (h : List Int) : Int := if m.pc ≠ 0 ∧ m.kind = 1 then 0 else h.length
theorem Th.few {n : Nat} {g : Pg} {L : List Int} {Ts Tp : Int} {Qs Qp : List Int} {m : Pm} {h w : List Int} (P : Th n g L Ts Qs Tp Qp m h w) : (h.length : Int) ≤ w.length + hasn m h ∧ (m.pc = 1 → (h.length : Int) + 1 ≤ w.length + hasn m h) := by
  cases P <;> simp [hasn]
theorem Th.top {n : Nat} {g : Pg} {L : List Int} {Ts Tp : Int} {Qs Qp : List Int} {m : Pm} {h w : List Int} (P : Th n g L Ts Qs Tp Qp m h w) : pdue Ts Tp m ≤ 10 ∧ (m.pc ≠ 0 → 1 ≤ pdue Ts Tp m) ∧ 0 ≤ fut m ∧ fut m ≤ 2 := by
  have lo : ∀ T (x : Sm), x.pc ≤ 3 → x.pc ≠ 0 → 1 ≤ due T x := fun T x h h2 => by unfold due; repeat' split
                                                                                  all_goals omega
  cases P with
  | idle => simp [pdue, fut]
  | put1 t p x hX hk hp => have := due_top Ts x hX.pc_le; have := lo Ts x hX.pc_le hp; simp [pdue, fut]; omega
  | put2 => simp [pdue, fut]
  | put3 => simp [pdue, fut]
  | put4 t p x hr ht hm hX hk hi hp => have := due_top Tp x hX.pc_le; have := lo Tp x hX.pc_le hp; simp [pdue, fut]; omega
  | take ts j p x hX hk hp => have := due_top Tp x hX.pc_le; have := lo Tp x hX.pc_le hp; simp [pdue, fut]; omega
  | back ts j p0 p x hr hX hk hi hp => have := due_top Ts x hX.pc_le; have := lo Ts x hX.pc_le hp; simp [pdue, fut]; omega
/-- Three machines, what each has, and is about to put; S: the tasks that were seen; put: how many were put. -/
structure Pw (n : Nat) (g : Pg) (L : List Int) (i : Int) (put : Nat) (S : List Int) (a b c : Pm) (ha hb hc wa wb wc : List Int) (ra rb rc : Int) : Prop where
  ex : ∃ Ts Qs Tp Qp, Stk n g.sp L Ts Qs ∧ Stk n g.po L Tp Qp ∧ Ts ≤ i ∧ Tp ≤ i ∧ Th n g L Ts Qs Tp Qp a ha wa ∧ Th n g L Ts Qs Tp Qp b hb wb ∧ Th n g L Ts Qs Tp Qp c hc wc ∧
    (Qs ++ (Qp ++ (ha ++ (hb ++ hc)))).Perm (En n) ∧ (S ++ (Qp.map (tw g L) ++ (wa ++ (wb ++ wc)))).Perm (En put) ∧ (∀ q ∈ Qp, mw g L q = 1) ∧
    pdue Ts Tp a + 3 * (fut b + fut c) ≤ ra ∧ pdue Ts Tp b + 3 * (fut a + fut c) ≤ rb ∧ pdue Ts Tp c + 3 * (fut a + fut b) ≤ rc
  G : Gp n L.length g
  pn : put ≤ n
  cnt : hasn a ha + hasn b hb + hasn c hc ≤ S.length
  bd : 2 * (put : Int) ≤ i + fut a + fut b + fut c
section
variable {n : Nat} {g : Pg} {L : List Int} {i : Int} {put : Nat} {S : List Int} {a b c : Pm} {ha hb hc wa wb wc : List Int} {ra rb rc : Int}
theorem Pw.swap1 (H : Pw n g L i put S a b c ha hb hc wa wb wc ra rb rc) : Pw n g L i put S b a c hb ha hc wb wa wc rb ra rc := by
  obtain ⟨Ts, Qs, Tp, Qp, Hs, Hp, hT, hT2, sa, sb, sc, p1, p2, hm, r1, r2, r3⟩ := H.ex
  refine ⟨⟨Ts, Qs, Tp, Qp, Hs, Hp, hT, hT2, sb, sa, sc, ?_, ?_, hm, r2, r1, by omega⟩, H.G, H.pn, by have := H.cnt; omega, by have := H.bd; omega⟩
  · refine List.perm_iff_count.2 fun z => ?_
    have := p1.count_eq z
    simp only [List.count_append] at this ⊢; omega
  · refine List.perm_iff_count.2 fun z => ?_
    have := p2.count_eq z
    simp only [List.count_append] at this ⊢; omega
theorem Pw.swap2 (H : Pw n g L i put S a b c ha hb hc wa wb wc ra rb rc) : Pw n g L i put S c b a hc hb ha wc wb wa rc rb ra := by
  obtain ⟨Ts, Qs, Tp, Qp, Hs, Hp, hT, hT2, sa, sb, sc, p1, p2, hm, r1, r2, r3⟩ := H.ex
  refine ⟨⟨Ts, Qs, Tp, Qp, Hs, Hp, hT, hT2, sc, sb, sa, ?_, ?_, hm, by omega, by omega, by omega⟩, H.G, H.pn, by have := H.cnt; omega, by have := H.bd; omega⟩
  · refine List.perm_iff_count.2 fun z => ?_
    have := p1.count_eq z
    simp only [List.count_append] at this ⊢; omega
  · refine List.perm_iff_count.2 fun z => ?_
    have := p2.count_eq z
    simp only [List.count_append] at this ⊢; omega
/-- Nobody is further from the end than 22 steps. -/
theorem Pw.top (H : Pw n g L i put S a b c ha hb hc wa wb wc ra rb rc) : Pw n g L i put S a b c ha hb hc wa wb wc 22 22 22 := by
  obtain ⟨Ts, Qs, Tp, Qp, Hs, Hp, hT, hT2, sa, sb, sc, p1, p2, hm, r1, r2, r3⟩ := H.ex
  have := sa.top
  have := sb.top
  have := sc.top
  exact ⟨⟨Ts, Qs, Tp, Qp, Hs, Hp, hT, hT2, sa, sb, sc, p1, p2, hm, by omega, by omega, by omega⟩, H.G, H.pn, H.cnt, H.bd⟩
theorem Pw.more {i' ra' rb' rc' : Int} (H : Pw n g L i put S a b c ha hb hc wa wb wc ra rb rc) (hi : i ≤ i') (h1 : ra ≤ ra') (h2 : rb ≤ rb') (h3 : rc ≤ rc') : Pw n g L i' put S a b c ha hb hc wa wb wc ra' rb' rc' := by
  obtain ⟨Ts, Qs, Tp, Qp, Hs, Hp, hT, hT2, sa, sb, sc, p1, p2, hm, r1, r2, r3⟩ := H.ex
  exact ⟨⟨Ts, Qs, Tp, Qp, Hs, Hp, by omega, by omega, sa, sb, sc, p1, p2, hm, by omega, by omega, by omega⟩, H.G, H.pn, H.cnt, by have := H.bd; omega⟩
/-- One that is under way has steps left. -/
theorem Pw.left (H : Pw n g L i put S a b c ha hb hc wa wb wc ra rb rc) (hp : a.pc ≠ 0) : 1 ≤ ra := by
  obtain ⟨Ts, Qs, Tp, Qp, Hs, Hp, hT, hT2, sa, sb, sc, p1, p2, hm, r1, r2, r3⟩ := H.ex
  have := sa.top.2.1 hp
  have := sb.top
  have := sc.top
  omega
theorem Pw.rng (H : Pw n g L i put S a b c ha hb hc wa wb wc ra rb rc) : (∀ x ∈ ha, 1 ≤ x ∧ x ≤ (n : Int)) ∧ ∀ t ∈ S, 1 ≤ t ∧ t ≤ (put : Int) := by
  obtain ⟨Ts, Qs, Tp, Qp, Hs, Hp, hT, hT2, sa, sb, sc, p1, p2, hm, r1, r2, r3⟩ := H.ex
  exact ⟨fun x hx => mem_En.1 (p1.mem_iff.1 (by simp [hx])), fun t ht => mem_En.1 (p2.mem_iff.1 (by simp [ht]))⟩
/-- A step of the first one. -/
theorem Pw.step (H : Pw n g L i put S a b c ha hb hc wa wb wc ra rb rc) (hp : a.pc ≠ 0) (hi : i + 1 < 100000) :
    ((pstp g L a).2.pc ≠ 0 ∧ ∃ ha', (a.kind ≠ 1 → ha' = ha) ∧ Pw n g (pstp g L a).1 (i + 1) put S (pstp g L a).2 b c ha' hb hc wa wb wc (ra - 1) rb rc) ∨
    ((pstp g L a).2.pc = 0 ∧ a.kind = 1 ∧ Pw n g (pstp g L a).1 (i + 1) put S (pstp g L a).2 b c [] hb hc [] wb wc (ra - 1) rb rc) ∨
    ((pstp g L a).2.pc = 0 ∧ a.kind = 2 ∧ (1 ≤ (pstp g L a).2.p ∧ (pstp g L a).2.p ≤ n) ∧ mw g (pstp g L a).1 (pstp g L a).2.p = 1 ∧ (1 ≤ tw g (pstp g L a).1 (pstp g L a).2.p ∧ tw g (pstp g L a).1 (pstp g L a).2.p ≤ put) ∧
      Pw n g (pstp g L a).1 (i + 1) put (S ++ [tw g (pstp g L a).1 (pstp g L a).2.p]) (pstp g L a).2 b c [(pstp g L a).2.p] hb hc [] wb wc (ra - 1) rb rc) ∨
    ((pstp g L a).2.pc = 0 ∧ a.kind = 2 ∧ (pstp g L a).2.p = 0 ∧ Pw n g (pstp g L a).1 (i + 1) put S (pstp g L a).2 b c [] hb hc [] wb wc (ra - 1) rb rc) ∨
    ((pstp g L a).2.pc = 0 ∧ a.kind = 3 ∧ Pw n g (pstp g L a).1 (i + 1) put S (pstp g L a).2 b c [] hb hc [] wb wc (ra - 1) rb rc) := by
  have hfl := fut_low g L a
  obtain ⟨Ts, Qs, Tp, Qp, Hs, Hp, hT, hT2, sa, sb, sc, p1, p2, hm, r1, r2, r3⟩ := H.ex
  have G := H.G
  have hpn := H.pn
  have hcnt := H.cnt
  have hbd := H.bd
  have hnd : (Qs ++ (Qp ++ (ha ++ (hb ++ hc)))).Nodup := p1.nodup_iff.2 (nd_En n)
  have hmem : ∀ x, x ∈ Qs ++ (Qp ++ (ha ++ (hb ++ hc))) → 1 ≤ x ∧ x ≤ (n : Int) := fun x hx => mem_En.1 (p1.mem_iff.1 hx)
  have hra : ∀ y ∈ ha, 1 ≤ y ∧ y ≤ (n : Int) := fun y hy => hmem y (by simp [hy])
  have n1 := List.nodup_append.1 hnd
  have n2 := List.nodup_append.1 n1.2.1
  have n3 := List.nodup_append.1 n2.2.1
  have hd : ∀ x ∈ ha, x ∉ Qs ∧ x ∉ Qp := fun x hx => ⟨fun h => n1.2.2 _ h x (by simp [hx]) rfl, fun h => n2.2.2 _ h x (by simp [hx]) rfl⟩
  have hne : a.pc = 1 → Qs ≠ [] := fun h1 h2 => by
    have l1 := p1.length_eq
    have l2 := p2.length_eq
    rw [h2] at l1
    simp only [List.length_append, List.length_map, List.length_nil, len_En] at l1 l2
    have f1 := sa.few.2 h1
    have f2 := sb.few.1
    have f3 := sc.few.1
    omega
  obtain ⟨Ts', Qs', Tp', Qp', h', w', Hs', Hp', sa', hln, t1, t2, t3, t4, t5, t6, t7, ev, own, hdu, hfu, hkd⟩ := pk_step G Hs Hp sa hp (by omega) (by omega) hd hne
  have G' : Gp n (pstp g L a).1.length g := by rw [hln]; exact G
  have two : (pdue Ts' Tp' b ≤ pdue Ts Tp b + (if Ts' = Ts ∧ Tp' = Tp then 0 else 3)) ∧ (pdue Ts' Tp' c ≤ pdue Ts Tp c + (if Ts' = Ts ∧ Tp' = Tp then 0 else 3)) := ⟨pdue_mono sb t7, pdue_mono sc t7⟩
  have q1 : pdue Ts' Tp' (pstp g L a).2 + 3 * (fut b + fut c) ≤ ra - 1 := by omega
  have q2 : pdue Ts' Tp' b + 3 * (fut (pstp g L a).2 + fut c) ≤ rb := by have := two.1; split at this <;> split at hfu <;> first | omega | contradiction
  have q3 : pdue Ts' Tp' c + 3 * (fut (pstp g L a).2 + fut b) ≤ rc := by have := two.2; split at this <;> split at hfu <;> first | omega | contradiction
  have hbd' : 2 * (put : Int) ≤ (i + 1) + fut (pstp g L a).2 + fut b + fut c := by omega
  have sameQ : ∀ q, q ∈ Qp → tw g (pstp g L a).1 q = tw g L q ∧ mw g (pstp g L a).1 q = mw g L q := fun q hq =>
    (own_same G own hra (hmem q (by simp [hq])) (fun h => (hd q h).2 hq)).2
  -- the others
  have off : ∀ x, x ∈ hb ++ hc → (x ∉ Qs' ∧ x ∉ Qp') ∧ lkw g.sp (pstp g L a).1 x = lkw g.sp L x ∧ tw g (pstp g L a).1 x = tw g L x ∧ mw g (pstp g L a).1 x = mw g L x := fun x hx => by
    have hxA : x ∉ ha := fun h => n3.2.2 _ h x hx rfl
    have hxS : x ∉ Qs := fun h => n1.2.2 _ h x (by simp only [List.mem_append] at hx ⊢; exact .inr (.inr hx)) rfl
    have hxP : x ∉ Qp := fun h => n2.2.2 _ h x (by simp only [List.mem_append] at hx ⊢; exact .inr hx) rfl
    refine ⟨?_, own_same G own hra (hmem x (by simp only [List.mem_append] at hx ⊢; exact .inr (.inr (.inr hx)))) hxA⟩
    cases ev with
    | on e1 e2 e3 => rw [e2, e3]; exact ⟨hxS, hxP⟩
    | got q e1 e2 e3 e4 => rw [e4]; exact ⟨fun h => hxS (by rw [e3]; simp [h]), hxP⟩
    | put p t e1 e2 e3 e4 e5 => rw [e3, e4]; exact ⟨hxS, fun h => (List.mem_cons.1 h).elim (fun e => hxA (by rw [e5, e]; simp)) hxP⟩
    | took p e1 e2 e3 e4 => rw [e3]; exact ⟨hxS, fun h => hxP (by rw [e4]; simp [h])⟩
    | none e1 e2 e3 e4 => rw [e3, e4]; exact ⟨hxS, hxP⟩
    | back p e1 e2 e3 e4 e5 => rw [e3, e4]; exact ⟨fun h => (List.mem_cons.1 h).elim (fun e => hxA (by rw [e5, e]; simp)) hxS, hxP⟩
  have sb' := sb.mono (L' := (pstp g L a).1) G.links t1 t3 t4 t6 (fun x hx => by have := off x (by simp [hx]); exact ⟨this.1.1, this.1.2, this.2⟩)
  have sc' := sc.mono (L' := (pstp g L a).1) G.links t1 t3 t4 t6 (fun x hx => by have := off x (by simp [hx]); exact ⟨this.1.1, this.1.2, this.2⟩)
  have kk := pstp_kind g L a
  cases ev with
  | on e1 e2 e3 e4 e5 =>
    subst e2 e3 e4 e5
    refine .inl ⟨e1, h', fun _ => rfl, ⟨⟨_, _, _, _, Hs', Hp', by omega, by omega, sa', sb', sc', p1, ?_, fun q hq => (sameQ q hq).2.trans (hm q hq), q1, q2, q3⟩, G', hpn, ?_, hbd'⟩⟩
    · rw [List.map_congr_left (fun q hq => (sameQ q hq).1)]; exact p2
    · have : hasn (pstp g L a).2 h' = hasn a h' := by
        unfold hasn; rw [kk]
        by_cases hk1 : a.kind = 1
        · rw [if_pos ⟨e1, hk1⟩, if_pos ⟨hp, hk1⟩]
        · rw [if_neg (fun h => hk1 h.2), if_neg (fun h => hk1 h.2)]
      rw [this]; exact hcnt
  | got q e1 e2 e3 e4 e5 e6 e7 =>
    subst e4 e5 e6 e7
    refine .inl ⟨e1, [q], fun h => absurd e2 h, ⟨⟨_, _, _, _, Hs', Hp', by omega, by omega, sa', sb', sc', ?_, ?_, fun q hq => (sameQ q hq).2.trans (hm q hq), q1, q2, q3⟩, G', hpn, ?_, hbd'⟩⟩
    · refine List.perm_iff_count.2 fun z => ?_
      have := p1.count_eq z
      rw [e3] at this
      simp only [List.count_append, List.count_cons, List.count_nil] at this ⊢; omega
    · rw [List.map_congr_left (fun q hq => (sameQ q hq).1)]; exact p2
    · have : hasn (pstp g L a).2 [q] = 0 := by simp [hasn, kk, e1, e2]
      have h2 : hasn a [] = 0 := by simp [hasn]
      omega
  | put p t e1 e2 e3 e4 e5 e6 e7 e8 e9 e10 =>
    subst e3 e5 e6 e7 e8
    refine .inr (.inl ⟨e1, e2, ⟨⟨_, _, _, _, Hs', Hp', by omega, by omega, sa', sb', sc', ?_, ?_, fun q hq => ?_, q1, q2, q3⟩, G', hpn, ?_, hbd'⟩⟩)
    · refine List.perm_iff_count.2 fun z => ?_
      have := p1.count_eq z
      rw [e4]
      simp only [List.count_append, List.count_cons, List.count_nil] at this ⊢; omega
    · refine List.perm_iff_count.2 fun z => ?_
      have := p2.count_eq z
      rw [e4, List.map_cons, e9, List.map_congr_left (fun q hq => (sameQ q hq).1)]
      simp only [List.count_append, List.count_cons, List.count_nil] at this ⊢; omega
    · rw [e4] at hq
      rcases List.mem_cons.1 hq with e | hq
      · rw [e]; exact e10
      · exact (sameQ q hq).2.trans (hm q hq)
    · have : hasn (pstp g L a).2 [] = 0 := by simp [hasn]
      have h2 : hasn a [p] = 0 := by simp [hasn, hp, e2]
      omega
  | took p e1 e2 e3 e4 e5 e6 e7 e8 e9 =>
    subst e3 e5 e6 e7 e8
    have hpr := hmem p (by rw [e4]; simp)
    have sp := sameQ p (by rw [e4]; simp)
    have htk : tw g (pstp g L a).1 p ∈ En put := p2.mem_iff.1 (by rw [e4, sp.1]; simp)
    have htk2 := mem_En.1 htk
    rw [e9]
    refine .inr (.inr (.inl ⟨e1, e2, hpr, sp.2.trans (hm p (by rw [e4]; simp)), htk2, ⟨⟨_, _, _, _, Hs', Hp', by omega, by omega, sa', sb', sc', ?_, ?_, fun q hq => ?_, q1, q2, q3⟩, G', hpn, ?_, hbd'⟩⟩))
    · refine List.perm_iff_count.2 fun z => ?_
      have := p1.count_eq z
      rw [e4] at this
      simp only [List.count_append, List.count_cons, List.count_nil] at this ⊢; omega
    · refine List.perm_iff_count.2 fun z => ?_
      have := p2.count_eq z
      rw [e4, List.map_cons] at this
      rw [sp.1, List.map_congr_left (fun q hq => (sameQ q (by rw [e4]; simp [hq])).1)]
      simp only [List.count_append, List.count_cons, List.count_nil] at this ⊢; omega
    · have : q ∈ Qp := by rw [e4]; simp [hq]
      exact (sameQ q this).2.trans (hm q this)
    · have : hasn (pstp g L a).2 [p] = 1 := by simp [hasn, e1]
      have h2 : hasn a [] = 0 := by simp [hasn]
      simp only [List.length_append, List.length_cons, List.length_nil]
      omega
  | none e1 e2 e3 e4 e5 e6 e7 e8 e9 =>
    subst e3 e4 e5 e6 e7 e8
    refine .inr (.inr (.inr (.inl ⟨e1, e2, e9, ⟨⟨_, _, _, _, Hs', Hp', by omega, by omega, sa', sb', sc', p1, ?_, fun q hq => (sameQ q hq).2.trans (hm q hq), q1, q2, q3⟩, G', hpn, ?_, hbd'⟩⟩)))
    · rw [List.map_congr_left (fun q hq => (sameQ q hq).1)]; exact p2
    · have : hasn (pstp g L a).2 [] = 0 := by simp [hasn]
      have h2 : hasn a [] = 0 := by simp [hasn]
      omega
  | back p e1 e2 e3 e4 e5 e6 e7 e8 =>
    subst e4 e5 e6 e7 e8
    refine .inr (.inr (.inr (.inr ⟨e1, e2, ⟨⟨_, _, _, _, Hs', Hp', by omega, by omega, sa', sb', sc', ?_, ?_, fun q hq => (sameQ q hq).2.trans (hm q hq), q1, q2, q3⟩, G', hpn, ?_, hbd'⟩⟩)))
    · refine List.perm_iff_count.2 fun z => ?_
      have := p1.count_eq z
      rw [e3]
      simp only [List.count_append, List.count_cons, List.count_nil] at this ⊢; omega
    · rw [List.map_congr_left (fun q hq => (sameQ q hq).1)]; exact p2
    · have : hasn (pstp g L a).2 [] = 0 := by simp [hasn]
      have h2 : 0 ≤ hasn a [p] := by unfold hasn; split <;> omega
      omega

/-- What an idle machine has: nothing, or one packet. -/
theorem Pw.idle (H : Pw n g L i put S a b c ha hb hc wa wb wc ra rb rc) (hp : a.pc = 0) : wa = [] ∧ (ha = [] ∨ ∃ p, ha = [p] ∧ 1 ≤ p ∧ p ≤ n) := by
  have hr := H.rng.1
  obtain ⟨Ts, Qs, Tp, Qp, Hs, Hp, hT, hT2, sa, sb, sc, p1, p2, hm, r1, r2, r3⟩ := H.ex
  cases sa with
  | idle kd ts j p x h hl =>
    refine ⟨rfl, ?_⟩
    match ha, hl with
    | [], _ => exact .inl rfl
    | [p], _ => exact .inr ⟨p, rfl, hr p (by simp)⟩
    | _ :: _ :: _, hl => simp at hl
  | put1 => simp at hp
  | put2 => simp at hp
  | put3 => simp at hp
  | put4 => simp at hp
  | take => simp at hp
  | back => simp at hp
theorem itemOf_is {p : Int} (h : 1 ≤ p ∧ p ≤ 100000) : itemOf p = p := by unfold itemOf; rw [if_neg (by omega)]
/-- A machine is begun: a put, a take, one that puts back. -/
theorem Pw.puts (H : Pw n g L i put S a b c [] hb hc wa wb wc ra rb rc) (hp : a.pc = 0) (hn : put + 1 ≤ n) :
    Pw n g L i (put + 1) S (pPut g [((put + 1 : Nat) : Int)]) b c [] hb hc [((put + 1 : Nat) : Int)] wb wc 22 22 22 := by
  have hw := (H.idle hp).1
  subst hw
  obtain ⟨Ts, Qs, Tp, Qp, Hs, Hp, hT, hT2, sa, sb, sc, p1, p2, hm, r1, r2, r3⟩ := H.ex
  have e : pPut g [((put + 1 : Nat) : Int)] = ⟨1, 1, [((put + 1 : Nat) : Int)], 0, 0, mPop g.sp⟩ := by simp [pPut]
  rw [e]
  have sa2 : Th n g L Ts Qs Tp Qp ⟨1, 1, [((put + 1 : Nat) : Int)], 0, 0, mPop g.sp⟩ [] [((put + 1 : Nat) : Int)] := .put1 _ _ _ (.pop1 ..) rfl (by simp [mPop])
  have f0 : fut a = 0 := by simp [fut, hp]
  have f2 : fut ⟨1, 1, [((put + 1 : Nat) : Int)], 0, 0, mPop g.sp⟩ = 2 := by simp [fut]
  have hb1 := H.bd
  have hc1 := H.cnt
  have := sa2.top
  have := sb.top
  have := sc.top
  refine ⟨⟨Ts, Qs, Tp, Qp, Hs, Hp, hT, hT2, sa2, sb, sc, p1, ?_, hm, by omega, by omega, by omega⟩, H.G, hn, ?_, by omega⟩
  · rw [En_succ]
    refine List.perm_iff_count.2 fun z => ?_
    have := p2.count_eq z
    simp only [List.count_append, List.count_cons, List.count_nil] at this ⊢; omega
  · have h1 : hasn a [] = 0 := by simp [hasn]
    have h2 : hasn ⟨1, 1, [((put + 1 : Nat) : Int)], 0, 0, mPop g.sp⟩ [] = 0 := by simp [hasn]
    omega
theorem Pw.take (H : Pw n g L i put S a b c [] hb hc wa wb wc ra rb rc) (hp : a.pc = 0) : Pw n g L i put S (pTake g) b c [] hb hc [] wb wc 22 22 22 := by
  have hw := (H.idle hp).1
  subst hw
  obtain ⟨Ts, Qs, Tp, Qp, Hs, Hp, hT, hT2, sa, sb, sc, p1, p2, hm, r1, r2, r3⟩ := H.ex
  have sa2 : Th n g L Ts Qs Tp Qp (pTake g) [] [] := .take _ _ _ _ (.pop1 ..) rfl (by simp [mPop])
  have f0 : fut a = 0 := by simp [fut, hp]
  have f2 : fut (pTake g) = 1 := by simp [fut, pTake]
  have hb1 := H.bd
  have hc1 := H.cnt
  have := sa2.top
  have := sb.top
  have := sc.top
  refine ⟨⟨Ts, Qs, Tp, Qp, Hs, Hp, hT, hT2, sa2, sb, sc, p1, p2, hm, by omega, by omega, by omega⟩, H.G, H.pn, ?_, by omega⟩
  have h1 : hasn a [] = 0 := by simp [hasn]
  have h2 : hasn (pTake g) [] = 0 := by simp [hasn]
  omega
theorem Pw.back {p : Int} (H : Pw n g L i put S a b c [p] hb hc wa wb wc ra rb rc) (hp : a.pc = 0) : Pw n g L i put S (pBack n g p) b c [p] hb hc [] wb wc 22 22 22 := by
  have hw := (H.idle hp).1
  have hr := H.rng.1 p (by simp)
  subst hw
  obtain ⟨Ts, Qs, Tp, Qp, Hs, Hp, hT, hT2, sa, sb, sc, p1, p2, hm, r1, r2, r3⟩ := H.ex
  have hs := H.G.s.small
  have ei : itemOf p = p := itemOf_is ⟨hr.1, by omega⟩
  have e : pBack n g p = ⟨3, 4, [], 0, 0, mPush g.sp p⟩ := by unfold pBack; rw [if_neg (by omega)]
  have hnd : (Qs ++ (Qp ++ ([p] ++ (hb ++ hc)))).Nodup := p1.nodup_iff.2 (nd_En n)
  have hnS : p ∉ Qs := fun h => (List.nodup_append.1 hnd).2.2 _ h p (by simp) rfl
  have hX : Sp n g.sp L Ts Qs (mPush g.sp p) := by unfold mPush; rw [ei]; exact .push1 _ _ _ _ hr.1 hr.2 hnS
  have sa2 : Th n g L Ts Qs Tp Qp ⟨3, 4, [], 0, 0, mPush g.sp p⟩ [p] [] := .back _ _ _ _ _ hr hX rfl ei (by simp [mPush])
  rw [e]
  have f0 : fut a = 0 := by simp [fut, hp]
  have f2 : fut ⟨3, 4, [], 0, 0, mPush g.sp p⟩ = 1 := by simp [fut]
  have hb1 := H.bd
  have hc1 := H.cnt
  have := sa2.top
  have := sb.top
  have := sc.top
  refine ⟨⟨Ts, Qs, Tp, Qp, Hs, Hp, hT, hT2, sa2, sb, sc, p1, p2, hm, by omega, by omega, by omega⟩, H.G, H.pn, ?_, by omega⟩
  have h1 : hasn a [p] = 1 := by simp [hasn, hp]
  have h2 : hasn ⟨3, 4, [], 0, 0, mPush g.sp p⟩ [p] = 1 := by simp [hasn]
  omega
/-- At the end: what was seen, and what the pool has, is what was put. -/
theorem Pw.end (H : Pw n g L i put S a b c ha hb hc wa wb wc ra rb rc) (h1 : a.pc = 0) (h2 : b.pc = 0) (h3 : c.pc = 0) :
    ∃ T Q, Stk n g.po L T Q ∧ (S ++ Q.map (tw g L)).Perm (En put) ∧ (∀ q ∈ Q, mw g L q = 1 ∧ 1 ≤ tw g L q ∧ tw g L q ≤ put) ∧ Q.length ≤ n := by
  have w1 := (H.idle h1).1
  have w2 := (H.swap1.idle h2).1
  have w3 := (H.swap2.idle h3).1
  subst w1 w2 w3
  obtain ⟨Ts, Qs, Tp, Qp, Hs, Hp, hT, hT2, sa, sb, sc, p1, p2, hm, r1, r2, r3⟩ := H.ex
  simp only [List.append_nil] at p2
  refine ⟨Tp, Qp, Hp, p2, fun q hq => ⟨hm q hq, mem_En.1 (p2.mem_iff.1 ?_)⟩, ?_⟩
  · rw [List.mem_append]; exact .inr (List.mem_map.2 ⟨q, hq, rfl⟩)
  · have := p1.length_eq
    simp only [List.length_append, len_En] at this; omega
theorem count_nd {t : Int} : ∀ {l : List Int}, l.Nodup → t ∈ l → l.count t = 1
  | [], _, h => by cases h
  | x :: l, hn, h => by
    obtain ⟨h1, h2⟩ := List.nodup_cons.1 hn
    by_cases e : x = t
    · subst e
      rw [List.count_cons_self, List.count_eq_zero.2 h1]
    · rw [List.count_cons_of_ne (by simpa using e)]
      exact count_nd h2 ((List.mem_cons.1 h).resolve_left (fun e2 => e e2.symm))
theorem seen_once {S R : List Int} {put : Nat} (h : (S ++ R).Perm (En put)) {t : Int} (h1 : 1 ≤ t) (h2 : t ≤ put) : S.count t + R.count t = 1 := by
  rw [← List.count_append, h.count_eq]
  exact count_nd (nd_En put) (mem_En.2 ⟨h1, h2⟩)
/-- At first: all packets are spare. -/
theorem Pw.begin (G : Gp n L.length g) (Hs : Stk n g.sp L 0 (En n)) (Hp : Stk n g.po L 0 []) {a b c : Pm} (h1 : a.pc = 0) (h2 : b.pc = 0) (h3 : c.pc = 0) : Pw n g L 0 0 [] a b c [] [] [] [] [] [] 22 22 22 := by
  have idl : ∀ m : Pm, m.pc = 0 → Th n g L 0 (En n) 0 [] m [] [] := fun m h => by
    obtain ⟨kd, pc, ts, j, p, x⟩ := m
    simp only at h; subst h
    exact .idle _ _ _ _ _ _ (by simp)
  have z : ∀ m : Pm, m.pc = 0 → fut m = 0 ∧ pdue 0 0 m = 0 ∧ hasn m [] = 0 := fun m h => ⟨by simp [fut, h], by simp [pdue, h], by simp [hasn]⟩
  have za := z a h1
  have zb := z b h2
  have zc := z c h3
  refine ⟨⟨0, En n, 0, [], Hs, Hp, by omega, by omega, idl a h1, idl b h2, idl c h3, by simp, by simp [En], by simp, by omega, by omega, by omega⟩, G, by omega, by simp only [List.length_nil]; omega, by omega⟩
end
end Go.Proofs.YtpocihddecemfaaGreat

namespace Go.Proofs.YtpocihddecemfaaGreat
set_option linter.unusedVariables false
set_option linter.unusedSimpArgs false

def pruns (g : Pg) : Nat → List Int → Pm → List Int × Pm
  | 0, L, m => (L, m)
  | k + 1, L, m => pruns g k (pstp g L m).1 (pstp g L m).2
theorem pruns_done {g : Pg} {m : Pm} (h : m.pc = 0) (L : List Int) : ∀ k, pruns g k L m = (L, m)
  | 0 => rfl
  | k + 1 => by
    have : pstp g L m = (L, m) := by simp [pstp, h]
    simp only [pruns, this]; exact pruns_done h L k
theorem pruns_add (g : Pg) : ∀ (a b : Nat) (L : List Int) (m : Pm), pruns g (a + b) L m = pruns g b (pruns g a L m).1 (pruns g a L m).2
  | 0, b, L, m => by simp [pruns]
  | a + 1, b, L, m => by
    rw [show a + 1 + b = (a + b) + 1 by omega]
    simp only [pruns]; exact pruns_add g a b _ _
section
variable {n : Nat} {g : Pg} {k : Sk} {L : List Int} {T : Int} {Q : List Int}
/-- A stack's machine, alone: its steps. -/
theorem push_run (H : Stk n k L T Q) (h9 : T + 1 < 100000) {x : Int} (h0 : 1 ≤ x) (h1 : x ≤ n) (t : Int) :
    sstp L ⟨1, 1, k, x, 0, 0, t⟩ = (L, ⟨1, 2, k, x, T * 4294967296 + Q.headD 0, Q.headD 0, t + 1⟩) ∧
    sstp L ⟨1, 2, k, x, T * 4294967296 + Q.headD 0, Q.headD 0, t + 1⟩ = (ptq L (atOf k.links x) (Q.headD 0), ⟨1, 3, k, x, T * 4294967296 + Q.headD 0, Q.headD 0, t + 1⟩) ∧
    sstp (ptq L (atOf k.links x) (Q.headD 0)) ⟨1, 3, k, x, T * 4294967296 + Q.headD 0, Q.headD 0, t + 1⟩ = (ptq (ptq L (atOf k.links x) (Q.headD 0)) k.head ((T + 1) * 4294967296 + x), ⟨1, 0, k, x, T * 4294967296 + Q.headD 0, Q.headD 0, t + 1⟩) := by
  have a := H.ld0
  have b := H.low.1
  refine ⟨?_, by simp [sstp], ?_⟩
  · simp only [sstp]
    rw [if_neg (by decide), if_pos trivial, if_pos trivial, a, b]
  · have c := turn_is H h9 x
    have hx := H.g.lk x h0 h1
    have hh : (ptq L (atOf k.links x) (Q.headD 0)).getD k.head.toNat 0 = T * 4294967296 + Q.headD 0 := by
      rw [pt_other H.g.hd.1 (fun e => hx.2.2 e.symm)]; exact H.head
    have d := swap_yes (L := ptq L (atOf k.links x) (Q.headD 0)) (m := ⟨1, 3, k, x, T * 4294967296 + Q.headD 0, Q.headD 0, t + 1⟩) x (by rw [pt_len]; exact H.g.hd) hh
    simp only [c] at d
    exact d
theorem pop_run {q : Int} (H : Stk n k L T (q :: Q)) (h9 : T + 1 < 100000) (t : Int) :
    sstp L ⟨2, 1, k, 0, 0, 0, t⟩ = (L, ⟨2, 2, k, q, T * 4294967296 + q, 0, t + 1⟩) ∧
    sstp L ⟨2, 2, k, q, T * 4294967296 + q, 0, t + 1⟩ = (L, ⟨2, 3, k, q, T * 4294967296 + q, Q.headD 0, t + 1⟩) ∧
    sstp L ⟨2, 3, k, q, T * 4294967296 + q, Q.headD 0, t + 1⟩ = (ptq L k.head ((T + 1) * 4294967296 + Q.headD 0), ⟨2, 0, k, q, T * 4294967296 + q, Q.headD 0, t + 1⟩) := by
  have a := H.ld0
  have b := H.low.1
  have hr := H.rng q (by simp)
  have hrQ : ∀ x ∈ Q, 1 ≤ x ∧ x ≤ (n : Int) := fun x hx => H.rng x (by simp [hx])
  have hd := headD_rng hrQ
  have hs := H.g.small
  simp only [List.headD_cons] at a b
  refine ⟨?_, ?_, ?_⟩
  · rw [pop_first (m := ⟨2, 1, k, 0, 0, 0, t⟩) rfl rfl a, b, if_neg (by omega)]
  · have : low (ldq L (atOf k.links q)) = Q.headD 0 := by rw [H.ldx hr.1 hr.2, H.second]; unfold low; omega
    simp [sstp, this]
  · have c := turn_is H h9 (Q.headD 0)
    simp only [List.headD_cons] at c
    have hh := H.head
    simp only [List.headD_cons] at hh
    have d := swap_yes (m := ⟨2, 3, k, q, T * 4294967296 + q, Q.headD 0, t + 1⟩) (Q.headD 0) H.g.hd hh
    simp only [c] at d
    exact d
theorem none_run (H : Stk n k L T []) (t : Int) : sstp L ⟨2, 1, k, 0, 0, 0, t⟩ = (L, ⟨2, 0, k, 0, T * 4294967296, 0, t + 1⟩) := by
  have a := H.ld0
  simp only [List.headD_nil, Int.add_zero] at a
  rw [pop_first (m := ⟨2, 1, k, 0, 0, 0, t⟩) rfl rfl a, if_pos (by unfold low; omega)]

/-- The last part, and the first one. -/
theorem last_on {kd : Nat} {ts : List Int} {j p : Int} {x x' : Sm} {L L' : List Int} (h : sstp L x = (L', x')) (hp : x'.pc ≠ 0) : pstp g L ⟨kd, 4, ts, j, p, x⟩ = (L', ⟨kd, 4, ts, j, p, x'⟩) := by
  simp [pstp, h, hp]
theorem last_end {kd : Nat} {ts : List Int} {j p : Int} {x x' : Sm} {L L' : List Int} (h : sstp L x = (L', x')) (hp : x'.pc = 0) : pstp g L ⟨kd, 4, ts, j, p, x⟩ = (L', ⟨kd, 0, ts, j, x'.item, x'⟩) := by
  simp [pstp, h, hp]
theorem first_on {ts : List Int} {j p : Int} {x x' : Sm} {L L' : List Int} (h : sstp L x = (L', x')) (hp : x'.pc ≠ 0) : pstp g L ⟨1, 1, ts, j, p, x⟩ = (L', ⟨1, 1, ts, j, p, x'⟩) := by
  simp [pstp, h, hp]
theorem first_end {ts : List Int} {j p : Int} {x x' : Sm} {L L' : List Int} (h : sstp L x = (L', x')) (hp : x'.pc = 0) (hi : x'.item ≠ 0) : pstp g L ⟨1, 1, ts, j, p, x⟩ = (L', ⟨1, 2, ts, j, x'.item, x'⟩) := by
  simp [pstp, h, hp, hi]
/-- A push, a pop as the last part. -/
theorem last_push (H : Stk n k L T Q) (h9 : T + 1 < 100000) {x : Int} (h0 : 1 ≤ x) (h1 : x ≤ n) (kd : Nat) (ts : List Int) (j p : Int) :
    ∃ y, pruns g 3 L ⟨kd, 4, ts, j, p, mPush k x⟩ = (ptq (ptq L (atOf k.links x) (Q.headD 0)) k.head ((T + 1) * 4294967296 + x), ⟨kd, 0, ts, j, x, y⟩) := by
  have hs := H.g.small
  have e : mPush k x = ⟨1, 1, k, x, 0, 0, 0⟩ := by unfold mPush; rw [itemOf_is ⟨h0, by omega⟩]
  obtain ⟨a, b, c⟩ := push_run H h9 h0 h1 0
  rw [e]
  simp only [pruns]
  rw [last_on a (by simp)]
  simp only
  rw [last_on b (by simp)]
  simp only
  rw [last_end c rfl]
  exact ⟨_, rfl⟩
theorem last_pop {q : Int} (H : Stk n k L T (q :: Q)) (h9 : T + 1 < 100000) (kd : Nat) (ts : List Int) (j p : Int) :
    ∃ y, pruns g 3 L ⟨kd, 4, ts, j, p, mPop k⟩ = (ptq L k.head ((T + 1) * 4294967296 + Q.headD 0), ⟨kd, 0, ts, j, q, y⟩) := by
  obtain ⟨a, b, c⟩ := pop_run H h9 0
  simp only [pruns, mPop]
  rw [last_on a (by simp)]
  simp only
  rw [last_on b (by simp)]
  simp only
  rw [last_end c rfl]
  exact ⟨_, rfl⟩
theorem last_none (H : Stk n k L T []) (kd : Nat) (ts : List Int) (j p : Int) : ∃ y, pruns g 1 L ⟨kd, 4, ts, j, p, mPop k⟩ = (L, ⟨kd, 0, ts, j, 0, y⟩) := by
  have a := none_run H 0
  simp only [pruns, mPop]
  rw [last_end a rfl]
  exact ⟨_, rfl⟩
theorem first_pop {q : Int} (H : Stk n k L T (q :: Q)) (h9 : T + 1 < 100000) (ts : List Int) (j p : Int) :
    ∃ y, pruns g 3 L ⟨1, 1, ts, j, p, mPop k⟩ = (ptq L k.head ((T + 1) * 4294967296 + Q.headD 0), ⟨1, 2, ts, j, q, y⟩) := by
  have hr := H.rng q (by simp)
  obtain ⟨a, b, c⟩ := pop_run H h9 0
  simp only [pruns, mPop]
  rw [first_on a (by simp)]
  simp only
  rw [first_on b (by simp)]
  simp only
  rw [first_end c rfl (by simp only; omega)]
  exact ⟨_, rfl⟩
/-- The tasks from j on. -/
def tput (g : Pg) (p : Int) : List Int → Int → List Int → List Int
  | L, _, [] => L
  | L, j, t :: r => tput g p (ptq L (g.tk p j) t) (j + 1) r
theorem tput_len (p : Int) : ∀ (r : List Int) (L : List Int) (j : Int), (tput g p L j r).length = L.length
  | [], _, _ => rfl
  | t :: r, L, j => by simp only [tput]; rw [tput_len p r]; exact pt_len ..
theorem tput_other (p : Int) {q : Int} (h0 : 0 ≤ q) : ∀ (r : List Int) (L : List Int) (j : Int), (∀ i : Int, j ≤ i → i < j + r.length → q ≠ g.tk p i) → (tput g p L j r).getD q.toNat 0 = L.getD q.toNat 0
  | [], _, _, _ => rfl
  | t :: r, L, j, h => by
    simp only [tput]
    simp only [List.length_cons] at h
    rw [tput_other p h0 r _ (j + 1) (fun i a b => h i (by omega) (by omega))]
    exact pt_other h0 (h j (by omega) (by omega))
theorem tput_at {N : Nat} (G : Gp n N g) {p : Int} (hp : 1 ≤ p ∧ p ≤ n) : ∀ (r : List Int) (L : List Int) (j : Int), L.length = N → 0 ≤ j → j + r.length ≤ 4 → ∀ i : Nat, i < r.length → (tput g p L j r).getD (g.tk p (j + i)).toNat 0 = r.getD i 0
  | [], _, _, _, _, _, i, hi => by simp at hi
  | t :: r, L, j, hN, h0, h4, 0, hi => by
    simp only [List.length_cons] at h4
    have a := G.t p j hp.1 hp.2 h0 (by omega)
    simp only [tput, List.getD_cons_zero]
    rw [show j + ((0 : Nat) : Int) = j by omega]
    rw [tput_other p a.1 r _ (j + 1) (fun i' b c e => by
      have := (G.ti p j p i' hp.1 hp.2 h0 (by omega) hp.1 hp.2 (by omega) (by omega) e).2
      omega)]
    exact pt_same ⟨a.1, by rw [hN]; exact a.2.1⟩
  | t :: r, L, j, hN, h0, h4, i + 1, hi => by
    simp only [List.length_cons] at h4 hi
    simp only [tput, List.getD_cons_succ]
    rw [show j + ((i + 1 : Nat) : Int) = (j + 1) + (i : Int) by omega]
    exact tput_at G hp r _ (j + 1) (by rw [pt_len]; exact hN) (by omega) (by omega) i (by omega)
theorem tasks_run (p : Int) (x : Sm) (ts : List Int) : ∀ (r : List Int) (L : List Int) (j : Nat), j + r.length = ts.length → r ≠ [] → ts.drop j = r → pruns g r.length L ⟨1, 2, ts, j, p, x⟩ = (tput g p L j r, ⟨1, 3, ts, ts.length, p, x⟩)
  | [], _, _, _, h, _ => absurd rfl h
  | t :: r, L, j, hl, _, hd => by
    simp only [List.length_cons] at hl
    have ht : ts.getD j 0 = t := by
      have : ts[j]? = some t := by
        have := congrArg (fun l => l[0]?) hd
        simpa using this
      simp [List.getD, this]
    have e : pstp g L ⟨1, 2, ts, j, p, x⟩ = (ptq L (g.tk p j) t, ⟨1, if (j : Int) + 1 = ts.length then 3 else 2, ts, (j : Int) + 1, p, x⟩) := by
      simp [pstp, ← ht]
    simp only [List.length_cons, pruns, e, tput]
    by_cases hr : r = []
    · subst hr
      simp only [List.length_nil] at hl ⊢
      simp only [pruns, tput]
      rw [if_pos (by omega), show ((j : Int) + 1) = (ts.length : Int) by omega]
    · have : 0 < r.length := List.length_pos_iff.2 hr
      rw [if_neg (by omega)]
      have := tasks_run p x ts r (ptq L (g.tk p j) t) (j + 1) (by omega) hr (by
        have := congrArg List.tail hd
        simpa [List.drop_drop] using this)
      simpa using this

/-- What a packet holds. -/
structure Cont (g : Pg) (L : List Int) (q : Int) (ts : List Int) : Prop where
  many : mw g L q = ts.length
  few : ts.length ≤ 4
  task : ∀ i : Nat, i < ts.length → L.getD (g.tk q i).toNat 0 = ts.getD i 0
def Cts (g : Pg) (L : List Int) : List Int → List (List Int) → Prop
  | [], [] => True
  | q :: Q, t :: l => Cont g L q t ∧ Cts g L Q l
  | _, _ => False
/-- What packets hold is as it was. -/
def Kept (n : Nat) (g : Pg) (L L' : List Int) (P : Int → Prop) : Prop := ∀ q : Int, 1 ≤ q → q ≤ n → P q → mw g L' q = mw g L q ∧ ∀ i : Int, 0 ≤ i → i < 4 → L'.getD (g.tk q i).toNat 0 = L.getD (g.tk q i).toNat 0
theorem Kept.trans {P : Int → Prop} {L L1 L2 : List Int} (a : Kept n g L L1 P) (b : Kept n g L1 L2 P) : Kept n g L L2 P :=
  fun q h0 h1 hp => ⟨(b q h0 h1 hp).1.trans (a q h0 h1 hp).1, fun i i0 i1 => ((b q h0 h1 hp).2 i i0 i1).trans ((a q h0 h1 hp).2 i i0 i1)⟩
theorem Kept.word {P : Int → Prop} {L : List Int} {p v : Int} {N : Nat} (G : Gp n N g) (h : ∀ q : Int, 1 ≤ q → q ≤ n → P q → g.mn q ≠ p ∧ ∀ i : Int, 0 ≤ i → i < 4 → g.tk q i ≠ p) : Kept n g L (ptq L p v) P :=
  fun q h0 h1 hp => ⟨pt_other (G.m q h0 h1).1 (h q h0 h1 hp).1, fun i i0 i1 => pt_other (G.t q i h0 h1 i0 i1).1 ((h q h0 h1 hp).2 i i0 i1)⟩
theorem Kept.sph {P : Int → Prop} {L : List Int} {v : Int} {N : Nat} (G : Gp n N g) : Kept n g L (ptq L g.sp.head v) P :=
  .word G fun q h0 h1 _ => ⟨(G.m q h0 h1).2.2.1, fun i i0 i1 => (G.t q i h0 h1 i0 i1).2.2.1⟩
theorem Kept.poh {P : Int → Prop} {L : List Int} {v : Int} {N : Nat} (G : Gp n N g) : Kept n g L (ptq L g.po.head v) P :=
  .word G fun q h0 h1 _ => ⟨(G.m q h0 h1).2.2.2, fun i i0 i1 => (G.t q i h0 h1 i0 i1).2.2.2⟩
theorem Kept.lnk {P : Int → Prop} {L : List Int} {v y : Int} {N : Nat} (G : Gp n N g) (hy : 1 ≤ y ∧ y ≤ n) : Kept n g L (ptq L (atOf g.sp.links y) v) P :=
  .word G fun q h0 h1 _ => ⟨G.ml q y h0 h1 hy.1 hy.2, fun i i0 i1 => G.tl q i y h0 h1 i0 i1 hy.1 hy.2⟩
theorem Cont.kept {L L' : List Int} {P : Int → Prop} {q : Int} {ts : List Int} (h : Cont g L q ts) (k : Kept n g L L' P) (hq : 1 ≤ q ∧ q ≤ n) (hp : P q) : Cont g L' q ts := by
  have a := k q hq.1 hq.2 hp
  exact ⟨a.1.trans h.many, h.few, fun i hi => (a.2 i (by omega) (by have := h.few; omega)).trans (h.task i hi)⟩
theorem Cts.kept {L L' : List Int} {P : Int → Prop} (k : Kept n g L L' P) : ∀ {Q : List Int} {l : List (List Int)}, Cts g L Q l → (∀ q ∈ Q, (1 ≤ q ∧ q ≤ (n : Int)) ∧ P q) → Cts g L' Q l
  | [], [], _, _ => trivial
  | q :: Q, t :: l, h, hr => ⟨h.1.kept k (hr q (by simp)).1 (hr q (by simp)).2, Cts.kept k h.2 (fun y hy => hr y (by simp [hy]))⟩
  | [], _ :: _, h, _ => h.elim
  | _ :: _, [], h, _ => h.elim
theorem Cts.len {L : List Int} : ∀ {Q : List Int} {l : List (List Int)}, Cts g L Q l → Q.length = l.length
  | [], [], _ => rfl
  | q :: Q, t :: l, h => by simp [Cts.len h.2]
  | [], _ :: _, h => h.elim
  | _ :: _, [], h => h.elim
/-- Memory, as one at a time leaves it; l: what the pool holds, the last one first; out: what was taken. -/
def PA (n : Nat) (g : Pg) (L : List Int) (i : Int) (l : List (List Int)) (out : List Int) : Prop :=
  ∃ Ts Qs Tp Qp, Gp n L.length g ∧ Stk n g.sp L Ts Qs ∧ Stk n g.po L Tp Qp ∧ Ts ≤ i ∧ Tp ≤ i ∧ (Qs ++ (Qp ++ out)).Perm (En n) ∧ Cts g L Qp l
theorem PA.put {L : List Int} {i : Int} {l : List (List Int)} {out : List Int} (H : PA n g L i l out) (hi : i + 1 < 100000) {ts : List Int} (h1 : ts ≠ []) (h4 : ts.length ≤ 4) (hlt : l.length + out.length < n) :
    (pruns g 14 L (pPut g ts)).2.pc = 0 ∧ (1 ≤ (pruns g 14 L (pPut g ts)).2.p ∧ (pruns g 14 L (pPut g ts)).2.p ≤ n) ∧ PA n g (pruns g 14 L (pPut g ts)).1 (i + 1) (ts :: l) out := by
  obtain ⟨Ts, Qs, Tp, Qp, G, Hs, Hp, t1, t2, p1, hc⟩ := H
  have hpos : 0 < ts.length := List.length_pos_iff.2 h1
  cases Qs with
  | nil =>
    have := p1.length_eq
    have := hc.len
    simp only [List.length_append, List.length_nil, len_En] at *; omega
  | cons p Qs =>
    have hr := Hs.rng p (by simp)
    have hnd : ((p :: Qs) ++ (Qp ++ out)).Nodup := p1.nodup_iff.2 (nd_En n)
    have hnp : p ∉ Qp := fun h => (List.nodup_append.1 hnd).2.2 p (by simp) p (by simp [h]) rfl
    have hnq : p ∉ Qs := (List.nodup_cons.1 Hs.nd).1
    have e0 : pPut g ts = ⟨1, 1, ts, 0, 0, mPop g.sp⟩ := by unfold pPut; rw [if_neg h1, List.take_of_length_le h4]
    obtain ⟨y1, r1⟩ := first_pop (g := g) Hs (by omega) ts 0 0
    have H1 := Hs.pop (by omega)
    obtain ⟨L1, hL1⟩ : ∃ x, x = ptq L g.sp.head ((Ts + 1) * 4294967296 + Qs.headD 0) := ⟨_, rfl⟩
    rw [← hL1] at r1 H1
    have k1 : Kept n g L L1 (fun q => q ≠ p) := by rw [hL1]; exact .sph G
    have len1 : L1.length = L.length := by rw [hL1]; exact pt_len ..
    have Hp1 : Stk n g.po L1 Tp Qp := by
      rw [hL1]
      exact Hp.word G.hne fun q hq e => by
        have b := Hp.rng q hq
        rw [G.links] at e
        exact (G.s.lk q b.1 b.2).2.2 e.symm
    -- the tasks
    have r2 := tasks_run (g := g) p y1 ts ts L1 0 (by simp) h1 (by simp)
    obtain ⟨L2, hL2⟩ : ∃ x, x = tput g p L1 0 ts := ⟨_, rfl⟩
    simp only [Int.natCast_zero] at r2
    rw [← hL2] at r2
    have len2 : L2.length = L.length := by rw [hL2, tput_len]; exact len1
    have oth2 : ∀ q : Int, 0 ≤ q → (∀ i : Int, 0 ≤ i → i < 4 → q ≠ g.tk p i) → L2.getD q.toNat 0 = L1.getD q.toNat 0 := fun q h0 h => by
      rw [hL2]; exact tput_other p h0 ts L1 0 (fun i a b => h i a (by omega))
    have H2 : Stk n g.sp L2 (Ts + 1) Qs := H1.same (by omega) (oth2 _ G.s.hd.1 (fun i a b => (G.t p i hr.1 hr.2 a b).2.2.1.symm))
      (fun q hq => by have b := H1.rng q hq; exact oth2 _ (G.s.lk q b.1 b.2).1 (fun i a c => (G.tl p i q hr.1 hr.2 a c b.1 b.2).symm))
    have Hp2 : Stk n g.po L2 Tp Qp := Hp1.same (by omega) (oth2 _ G.p.hd.1 (fun i a b => (G.t p i hr.1 hr.2 a b).2.2.2.symm))
      (fun q hq => by have b := Hp1.rng q hq; unfold lkw; rw [G.links]; exact oth2 _ (G.s.lk q b.1 b.2).1 (fun i a c => (G.tl p i q hr.1 hr.2 a c b.1 b.2).symm))
    have k2 : Kept n g L1 L2 (fun q => q ≠ p) := fun q h0 h1 hq => ⟨oth2 _ (G.m q h0 h1).1 (fun i a b => (G.tm p i q hr.1 hr.2 a b h0 h1).symm),
      fun j j0 j1 => oth2 _ (G.t q j h0 h1 j0 j1).1 (fun i a b e => hq (G.ti q j p i h0 h1 j0 j1 hr.1 hr.2 a b e).1)⟩
    -- how many
    obtain ⟨L3, hL3⟩ : ∃ x, x = ptq L2 (g.mn p) ts.length := ⟨_, rfl⟩
    have r3 : pruns g 1 L2 ⟨1, 3, ts, ts.length, p, y1⟩ = (L3, ⟨1, 4, ts, ts.length, p, mPush g.po p⟩) := by
      rw [hL3]; simp [pruns, pstp]
    have hm := G.m p hr.1 hr.2
    have len3 : L3.length = L.length := by rw [hL3, pt_len]; exact len2
    have H3 : Stk n g.sp L3 (Ts + 1) Qs := by
      rw [hL3]; exact H2.word hm.2.2.1 (fun q hq => G.ml p q hr.1 hr.2 (H2.rng q hq).1 (H2.rng q hq).2)
    have Hp3 : Stk n g.po L3 Tp Qp := by
      rw [hL3]; exact Hp2.word hm.2.2.2 (fun q hq => by rw [G.links]; exact G.ml p q hr.1 hr.2 (Hp2.rng q hq).1 (Hp2.rng q hq).2)
    have k3 : Kept n g L2 L3 (fun q => q ≠ p) := by
      rw [hL3]; exact .word G fun q h0 h1 hq => ⟨fun e => hq (G.mi q p h0 h1 hr.1 hr.2 e), fun i a b => G.tm q i p h0 h1 a b hr.1 hr.2⟩
    have c3 : Cont g L3 p ts := by
      refine ⟨by rw [hL3]; exact pt_same ⟨hm.1, by rw [len2]; exact hm.2.1⟩, h4, fun i hi => ?_⟩
      have a := G.t p i hr.1 hr.2 (by omega) (by omega)
      rw [hL3, pt_other a.1 (G.tm p i p hr.1 hr.2 (by omega) (by omega) hr.1 hr.2), hL2]
      have := tput_at G hr ts L1 0 len1 (by omega) (by omega) i hi
      rw [show (0 : Int) + (i : Int) = (i : Int) by omega] at this
      exact this
    -- the push
    obtain ⟨y4, r4⟩ := last_push (g := g) Hp3 (by omega) hr.1 hr.2 1 ts ts.length p
    have pt := Hp3.put (v := Qp.headD 0) hr.1 hr.2 hnp
    have Hp4 := pt.1.push (by omega) hr.1 hr.2 hnp pt.2
    obtain ⟨L4, hL4⟩ : ∃ x, x = ptq (ptq L3 (atOf g.po.links p) (Qp.headD 0)) g.po.head ((Tp + 1) * 4294967296 + p) := ⟨_, rfl⟩
    rw [← hL4] at r4 Hp4
    have len4 : L4.length = L.length := by rw [hL4, pt_len, pt_len]; exact len3
    have k4 : Kept n g L3 L4 (fun _ => True) := by
      rw [hL4, G.links]; exact (Kept.lnk G hr).trans (.poh G)
    have H4 : Stk n g.sp L4 (Ts + 1) Qs := by
      rw [hL4, G.links]
      refine (H3.word (fun e => (G.s.lk p hr.1 hr.2).2.2 e) (fun q hq e => hnq ?_)).word G.hne.symm (fun q hq e => ?_)
      · rw [G.s.inj p q hr.1 hr.2 (H3.rng q hq).1 (H3.rng q hq).2 e]; exact hq
      · have := (G.p.lk q (H3.rng q hq).1 (H3.rng q hq).2).2.2
        rw [G.links] at this; exact this e.symm
    have hrun : pruns g 14 L (pPut g ts) = (L4, ⟨1, 0, ts, ts.length, p, y4⟩) := by
      rw [e0, show 14 = 3 + (ts.length + (1 + (3 + (7 - ts.length)))) by omega, pruns_add, r1]
      simp only
      rw [pruns_add, r2]
      simp only
      rw [pruns_add, r3]
      simp only
      rw [pruns_add, r4]
      exact pruns_done rfl _ _
    rw [hrun]
    have kk : Kept n g L L4 (fun q => q ≠ p) := ((k1.trans k2).trans k3).trans (fun q h0 h1 _ => k4 q h0 h1 trivial)
    refine ⟨rfl, hr, Ts + 1, Qs, Tp + 1, p :: Qp, by rw [len4]; exact G, H4, Hp4, by omega, by omega, ?_, c3.kept k4 hr trivial, hc.kept kk (fun q hq => ⟨Hp.rng q hq, fun e => hnp (e ▸ hq)⟩)⟩
    refine List.perm_iff_count.2 fun z => ?_
    have := p1.count_eq z
    simp only [List.count_append, List.count_cons] at this ⊢; omega
theorem PA.none {L : List Int} {i : Int} {out : List Int} (H : PA n g L i [] out) : ∃ y, pruns g 14 L (pTake g) = (L, ⟨2, 0, [], 0, 0, y⟩) := by
  obtain ⟨Ts, Qs, Tp, Qp, G, Hs, Hp, t1, t2, p1, hc⟩ := H
  cases Qp with
  | cons q Q => exact hc.elim
  | nil =>
    obtain ⟨y, r⟩ := last_none (g := g) Hp 2 [] 0 0
    refine ⟨y, ?_⟩
    rw [show 14 = 1 + 13 from rfl, pruns_add, show pTake g = ⟨2, 4, [], 0, 0, mPop g.po⟩ from rfl, r]
    exact pruns_done rfl _ _
theorem PA.take {L : List Int} {i : Int} {t : List Int} {l : List (List Int)} {out : List Int} (H : PA n g L i (t :: l) out) (hi : i + 1 < 100000) :
    (pruns g 14 L (pTake g)).2.pc = 0 ∧ (1 ≤ (pruns g 14 L (pTake g)).2.p ∧ (pruns g 14 L (pTake g)).2.p ≤ n) ∧ Cont g (pruns g 14 L (pTake g)).1 (pruns g 14 L (pTake g)).2.p t ∧ PA n g (pruns g 14 L (pTake g)).1 (i + 1) l (out ++ [(pruns g 14 L (pTake g)).2.p]) := by
  obtain ⟨Ts, Qs, Tp, Qp, G, Hs, Hp, t1, t2, p1, hc⟩ := H
  cases Qp with
  | nil => exact hc.elim
  | cons q Q =>
    have hr := Hp.rng q (by simp)
    obtain ⟨y, r⟩ := last_pop (g := g) Hp (by omega) 2 [] 0 0
    have Hp1 := Hp.pop (by omega)
    obtain ⟨L1, hL1⟩ : ∃ x, x = ptq L g.po.head ((Tp + 1) * 4294967296 + Q.headD 0) := ⟨_, rfl⟩
    rw [← hL1] at r Hp1
    have k1 : Kept n g L L1 (fun _ => True) := by rw [hL1]; exact .poh G
    have len1 : L1.length = L.length := by rw [hL1]; exact pt_len ..
    have H1 : Stk n g.sp L1 Ts Qs := by
      rw [hL1]
      exact Hs.word G.hne.symm fun q hq e => by
        have b := Hs.rng q hq
        have := (G.p.lk q b.1 b.2).2.2
        rw [G.links] at this; exact this e.symm
    have hrun : pruns g 14 L (pTake g) = (L1, ⟨2, 0, [], 0, q, y⟩) := by
      rw [show 14 = 3 + 11 from rfl, pruns_add, show pTake g = ⟨2, 4, [], 0, 0, mPop g.po⟩ from rfl, r]
      exact pruns_done rfl _ _
    rw [hrun]
    refine ⟨rfl, hr, hc.1.kept k1 hr trivial, Ts, Qs, Tp + 1, Q, by rw [len1]; exact G, H1, Hp1, by omega, by omega, ?_, hc.2.kept k1 (fun x hx => ⟨Hp.rng x (by simp [hx]), trivial⟩)⟩
    refine List.perm_iff_count.2 fun z => ?_
    have := p1.count_eq z
    simp only [List.count_append, List.count_cons, List.count_nil] at this ⊢; omega
theorem PA.back {L : List Int} {i : Int} {p : Int} {l : List (List Int)} {out : List Int} (H : PA n g L i l (p :: out)) (hi : i + 1 < 100000) :
    (pruns g 14 L (pBack n g p)).2.pc = 0 ∧ (pruns g 14 L (pBack n g p)).2.p = p ∧ PA n g (pruns g 14 L (pBack n g p)).1 (i + 1) l out := by
  obtain ⟨Ts, Qs, Tp, Qp, G, Hs, Hp, t1, t2, p1, hc⟩ := H
  have hr : 1 ≤ p ∧ p ≤ n := mem_En.1 (p1.mem_iff.1 (by simp))
  have hnd : (Qs ++ (Qp ++ (p :: out))).Nodup := p1.nodup_iff.2 (nd_En n)
  have hnS : p ∉ Qs := fun h => (List.nodup_append.1 hnd).2.2 _ h p (by simp) rfl
  have hnP : p ∉ Qp := fun h => (List.nodup_append.1 (List.nodup_append.1 hnd).2.1).2.2 _ h p (by simp) rfl
  obtain ⟨y, r⟩ := last_push (g := g) Hs (by omega) hr.1 hr.2 3 [] 0 0
  have pt := Hs.put (v := Qs.headD 0) hr.1 hr.2 hnS
  have H1 := pt.1.push (by omega) hr.1 hr.2 hnS pt.2
  obtain ⟨L1, hL1⟩ : ∃ x, x = ptq (ptq L (atOf g.sp.links p) (Qs.headD 0)) g.sp.head ((Ts + 1) * 4294967296 + p) := ⟨_, rfl⟩
  rw [← hL1] at r H1
  have len1 : L1.length = L.length := by rw [hL1, pt_len, pt_len]
  have k1 : Kept n g L L1 (fun _ => True) := by rw [hL1]; exact (Kept.lnk G hr).trans (.sph G)
  have Hp1 : Stk n g.po L1 Tp Qp := by
    rw [hL1]
    refine (Hp.word (fun e => ?_) (fun q hq e => hnP ?_)).word G.hne (fun q hq e => ?_)
    · have := (G.p.lk p hr.1 hr.2).2.2
      rw [G.links] at this; exact this e
    · rw [G.links] at e
      rw [G.s.inj p q hr.1 hr.2 (Hp.rng q hq).1 (Hp.rng q hq).2 e]; exact hq
    · rw [G.links] at e
      exact (G.s.lk q (Hp.rng q hq).1 (Hp.rng q hq).2).2.2 e.symm
  have e : pBack n g p = ⟨3, 4, [], 0, 0, mPush g.sp p⟩ := by unfold pBack; rw [if_neg (by omega)]
  have hrun : pruns g 14 L (pBack n g p) = (L1, ⟨3, 0, [], 0, p, y⟩) := by
    rw [show 14 = 3 + 11 from rfl, pruns_add, e, r]
    exact pruns_done rfl _ _
  rw [hrun]
  refine ⟨rfl, rfl, Ts + 1, p :: Qs, Tp, Qp, by rw [len1]; exact G, H1, Hp1, by omega, by omega, ?_, hc.kept k1 (fun x hx => ⟨Hp.rng x hx, trivial⟩)⟩
  refine List.perm_iff_count.2 fun z => ?_
  have := p1.count_eq z
  simp only [List.count_append, List.count_cons] at this ⊢; omega
end
end Go.Proofs.YtpocihddecemfaaGreat

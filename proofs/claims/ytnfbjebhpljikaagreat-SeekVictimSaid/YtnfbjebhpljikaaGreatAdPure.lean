/- Two markers that put tasks somewhere. -/
import Derived.Test.YtnfbjebhpljikaaGreatDgPure
import Derived.Test.YtnfbjebhpljikaaGreatPkOnce
namespace Go.Proofs.YtnfbjebhpljikaaGreat
set_option linter.unusedVariables false
set_option linter.unusedSimpArgs false

/-- A machine: its part (1 the deque, 2 the packet; 0: finished), and what it knows. -/
structure Am where
  pc : Nat
  task : Int
  d : Dg.Mc
  p : Pm
  sp : Bool
def astp (g : Pg) (L : List Int) (m : Am) : List Int × Am :=
  if m.pc = 1 then
    ((Dg.stp L m.d).1, if (Dg.stp L m.d).2.pc = 0 then (if (Dg.stp L m.d).2.out = 2 then { m with d := (Dg.stp L m.d).2, pc := 2, sp := true, p := pPut g [m.task] } else { m with d := (Dg.stp L m.d).2, pc := 0 })
      else { m with d := (Dg.stp L m.d).2 })
  else if m.pc = 2 then
    ((pstp g L m.p).1, if (pstp g L m.p).2.pc = 0 then { m with p := (pstp g L m.p).2, pc := 0 } else { m with p := (pstp g L m.p).2 })
  else (L, m)
def pnone : Pm := ⟨0, 0, [], 0, 0, mnone⟩
def aNew (e : Dg.En) (t : Int) : Am := ⟨1, t, Dg.mPush e t, pnone, false⟩
/-- Words of a deque; words of packets. -/
def InE (r : Nat) (e : Dg.En) (q : Int) : Prop := q = e.top ∨ q = e.bot ∨ (e.ent ≤ q ∧ q < e.ent + r)
def InP (n : Nat) (g : Pg) (q : Int) : Prop := q = g.sp.head ∨ q = g.po.head ∨ ∃ x : Int, (1 ≤ x ∧ x ≤ n) ∧ (q = atOf g.sp.links x ∨ q = g.mn x ∨ q = g.tk x 0)
/-- Words that are none of the packets' may change. -/
theorem in_stk {n : Nat} {g : Pg} {L L' : List Int} {Ts Tp : Int} {Qs Qp : List Int} (G : Gp n L.length g) (Hs : Stk n g.sp L Ts Qs) (Hp : Stk n g.po L Tp Qp) (hl : L'.length = L.length) (hf : ∀ q : Int, 0 ≤ q → InP n g q → L'.getD q.toNat 0 = L.getD q.toNat 0) :
    Stk n g.sp L' Ts Qs ∧ Stk n g.po L' Tp Qp ∧ ∀ x : Int, 1 ≤ x → x ≤ n → lkw g.sp L' x = lkw g.sp L x ∧ tw g L' x = tw g L x ∧ mw g L' x = mw g L x := by
  have w : ∀ x : Int, 1 ≤ x → x ≤ n → lkw g.sp L' x = lkw g.sp L x ∧ tw g L' x = tw g L x ∧ mw g L' x = mw g L x := fun x h0 h1 =>
    ⟨hf _ (G.s.lk x h0 h1).1 (.inr (.inr ⟨x, ⟨h0, h1⟩, .inl rfl⟩)), hf _ (G.t x 0 h0 h1 (by omega) (by omega)).1 (.inr (.inr ⟨x, ⟨h0, h1⟩, .inr (.inr rfl)⟩)), hf _ (G.m x h0 h1).1 (.inr (.inr ⟨x, ⟨h0, h1⟩, .inr (.inl rfl)⟩))⟩
  refine ⟨Hs.same hl (hf _ G.s.hd.1 (.inl rfl)) (fun q hq => (w q (Hs.rng q hq).1 (Hs.rng q hq).2).1), Hp.same hl (hf _ G.p.hd.1 (.inr (.inl rfl))) (fun q hq => ?_), w⟩
  have := (w q (Hp.rng q hq).1 (Hp.rng q hq).2).1
  unfold lkw at this ⊢; rw [G.links]; exact this
theorem in_dq {r : Nat} {e : Dg.En} {L L' : List Int} {T β bc : Int} {Q : List Int} (D : Dg.Dq r e L T β bc Q) (hl : L'.length = L.length) (hf : ∀ q : Int, 0 ≤ q → InE r e q → L'.getD q.toNat 0 = L.getD q.toNat 0) :
    Dg.Dq r e L' T β bc Q ∧ ∀ x : Int, Dg.entw e L' x = Dg.entw e L x := by
  have w : ∀ x : Int, Dg.entw e L' x = Dg.entw e L x := fun x => hf _ (D.g.at x).2.1 (.inr (.inr (D.g.at x).2.2.2.2.2))
  exact ⟨D.same hl (hf _ D.g.top.1 (.inl rfl)) (hf _ D.g.bot.1 (.inr (.inl rfl))) w, w⟩
/-- Where a marker's machine stands. -/
inductive At (n r : Nat) (g : Pg) (e : Dg.En) (L : List Int) (Ts : Int) (Qs : List Int) (Tp : Int) (Qp : List Int) (β : Int) (Q : List Int) : Am → List Int → List Int → Prop
  | idle (t : Int) (d : Dg.Mc) (p : Pm) (s : Bool) : At n r g e L Ts Qs Tp Qp β Q ⟨0, t, d, p, s⟩ [] []
  | dq (t : Int) (d : Dg.Mc) (p : Pm) (s : Bool) (hP : Dg.Ph r e L 0 β Q t β β d) (hk : d.kind = 1) (hp : d.pc ≠ 0) : At n r g e L Ts Qs Tp Qp β Q ⟨1, t, d, p, s⟩ [] [t]
  | pk (t : Int) (d : Dg.Mc) (p : Pm) (s : Bool) (h : List Int) (hT : Th n g L Ts Qs Tp Qp p h [t]) (hk : p.kind = 1) (hp : p.pc ≠ 0) : At n r g e L Ts Qs Tp Qp β Q ⟨2, t, d, p, s⟩ h [t]
def ddue (d : Dg.Mc) : Int := if d.pc = 1 then 10 else if d.pc = 2 then 9 else if d.pc = 3 then 2 else 1
def adue (Ts Tp : Int) (m : Am) : Int := if m.pc = 0 then 0 else if m.pc = 1 then ddue m.d else pdue Ts Tp m.p
def afut (m : Am) : Int := if m.pc = 0 then 0 else if m.pc = 1 then 2 else fut m.p
theorem ph_push {r : Nat} {e : Dg.En} {L : List Int} {T β g bc w : Int} {Q : List Int} {m : Dg.Mc} (P : Dg.Ph r e L T β Q w g bc m) (hk : m.kind = 1) : g = β ∧ bc = β := by
  cases P <;> simp at hk ⊢
theorem ph_done {r : Nat} {e : Dg.En} {L : List Int} {T β g bc w : Int} {Q : List Int} {m : Dg.Mc} (P : Dg.Ph r e L T β Q w g bc m) (hp : m.pc = 0) : g = β ∧ bc = β := by
  cases P <;> simp at hp ⊢
theorem ph_pc {r : Nat} {e : Dg.En} {L : List Int} {T β g bc w : Int} {Q : List Int} {m : Dg.Mc} (P : Dg.Ph r e L T β Q w g bc m) (hk : m.kind = 1) : m.pc ≤ 4 := by
  cases P <;> simp at hk ⊢
theorem dd_step (L : List Int) {d : Dg.Mc} (hk : d.kind = 1) (hp : d.pc ≠ 0) (h4 : d.pc ≤ 4) : ((Dg.stp L d).2.pc ≠ 0 → ddue (Dg.stp L d).2 + 1 ≤ ddue d) ∧ ((Dg.stp L d).2.pc = 0 → (Dg.stp L d).2.out = 2 → 9 ≤ ddue d) := by
  obtain ⟨kd, pc, e, b, t, w, won, out⟩ := d
  simp only at hk hp h4
  subst hk
  match pc, hp, h4 with
  | 1, _, _ => simp [Dg.stp, Dg.pushS, ddue]
  | 2, _, _ =>
    simp only [Dg.stp, Dg.pushS]
    simp
    split <;> simp [Dg.fin, ddue]
  | 3, _, _ => simp [Dg.stp, Dg.pushS, ddue]
  | 4, _, _ => simp [Dg.stp, Dg.pushS, ddue, Dg.fin]
theorem fut_01 (m : Pm) : 0 ≤ fut m ∧ fut m ≤ 2 := by
  unfold fut
  split
  · omega
  · split <;> omega
theorem At.top {n r : Nat} {g : Pg} {e : Dg.En} {L : List Int} {Ts Tp : Int} {Qs Qp : List Int} {β : Int} {Q : List Int} {m : Am} {h w : List Int} (P : At n r g e L Ts Qs Tp Qp β Q m h w) :
    0 ≤ adue Ts Tp m ∧ (m.pc ≠ 0 → 1 ≤ adue Ts Tp m) ∧ 0 ≤ afut m ∧ h.length ≤ w.length := by
  cases P with
  | idle => simp [adue, afut]
  | dq t d p s hP hk hp =>
    have : 1 ≤ ddue d := by
      unfold ddue
      repeat' split
      all_goals omega
    simp [adue, afut]; omega
  | pk t d p s h hT hk hp =>
    have := hT.top.2.1 hp
    have f := hT.few.1
    have e0 : hasn p h = 0 := by simp [hasn, hp, hk]
    have := fut_01 p
    simp only [List.length_cons, List.length_nil] at f ⊢
    simp [adue, afut]; omega
/-- Two markers; A: the tasks that were begun; pa, pb: what their tasks leave when halved; la, lb: how many tasks they have left. -/
structure Aw (n r : Nat) (g : Pg) (e f : Dg.En) (L : List Int) (i : Int) (A : List Int) (a b : Am) (pa pb : Int) (la lb ra rb : Int) : Prop where
  ex : ∃ Ts Qs Tp Qp α Q β R h w h' w', Stk n g.sp L Ts Qs ∧ Stk n g.po L Tp Qp ∧ Dg.Dq r e L 0 α α Q ∧ Dg.Dq r f L 0 β β R ∧ Ts ≤ i ∧ Tp ≤ i ∧
    At n r g e L Ts Qs Tp Qp α Q a h w ∧ At n r g f L Ts Qs Tp Qp β R b h' w' ∧
    (Qs ++ (Qp ++ (h ++ h'))).Perm (En n) ∧ (Q ++ (R ++ (Qp.map (tw g L) ++ (w ++ w')))).Perm A ∧ (∀ q ∈ Qp, mw g L q = 1) ∧
    (∀ x ∈ Q ++ w, x % 2 = pa) ∧ (∀ x ∈ R ++ w', x % 2 = pb) ∧
    adue Ts Tp a + 10 * la + 3 * (2 * lb + afut b) ≤ ra ∧ adue Ts Tp b + 10 * lb + 3 * (2 * la + afut a) ≤ rb
  G : Gp n L.length g
  d1 : ∀ q, InE r e q → ¬ InE r f q
  d2 : ∀ q, InE r e q → ¬ InP n g q
  d3 : ∀ q, InE r f q → ¬ InP n g q
  An : A.length ≤ n
  A9 : A.length ≤ 100
  l0 : 0 ≤ la ∧ 0 ≤ lb
section
variable {n r : Nat} {g : Pg} {e f : Dg.En} {L : List Int} {i : Int} {A : List Int} {a b : Am} {pa pb la lb ra rb : Int}
theorem Aw.swap (H : Aw n r g e f L i A a b pa pb la lb ra rb) : Aw n r g f e L i A b a pb pa lb la rb ra := by
  obtain ⟨Ts, Qs, Tp, Qp, α, Q, β, R, h, w, h', w', Hs, Hp, D, E, t1, t2, sa, sb, p1, p2, hm, q1, q2, r1, r2⟩ := H.ex
  refine ⟨⟨Ts, Qs, Tp, Qp, β, R, α, Q, h', w', h, w, Hs, Hp, E, D, t1, t2, sb, sa, ?_, ?_, hm, q2, q1, r2, r1⟩, H.G, fun q x y => H.d1 q y x, H.d3, H.d2, H.An, H.A9, H.l0.2, H.l0.1⟩
  · refine List.perm_iff_count.2 fun z => ?_
    have := p1.count_eq z
    simp only [List.count_append] at this ⊢; omega
  · refine List.perm_iff_count.2 fun z => ?_
    have := p2.count_eq z
    simp only [List.count_append] at this ⊢; omega
theorem Aw.more {j ra' rb' : Int} (H : Aw n r g e f L i A a b pa pb la lb ra rb) (hj : i ≤ j) (h1 : ra ≤ ra') (h2 : rb ≤ rb') : Aw n r g e f L j A a b pa pb la lb ra' rb' := by
  obtain ⟨Ts, Qs, Tp, Qp, α, Q, β, R, h, w, h', w', Hs, Hp, D, E, t1, t2, sa, sb, p1, p2, hm, q1, q2, r1, r2⟩ := H.ex
  exact ⟨⟨Ts, Qs, Tp, Qp, α, Q, β, R, h, w, h', w', Hs, Hp, D, E, by omega, by omega, sa, sb, p1, p2, hm, q1, q2, by omega, by omega⟩, H.G, H.d1, H.d2, H.d3, H.An, H.A9, H.l0⟩
/-- One that is under way, or has tasks, has steps left. -/
theorem Aw.left (H : Aw n r g e f L i A a b pa pb la lb ra rb) (hp : a.pc ≠ 0 ∨ 0 < la) : 1 ≤ ra := by
  obtain ⟨Ts, Qs, Tp, Qp, α, Q, β, R, h, w, h', w', Hs, Hp, D, E, t1, t2, sa, sb, p1, p2, hm, q1, q2, r1, r2⟩ := H.ex
  have x := sa.top
  have y := sb.top
  have := H.l0
  rcases hp with hp | hp
  · have := x.2.1 hp; omega
  · omega
/-- A task is begun. -/
theorem Aw.new {t : Int} (H : Aw n r g e f L i A a b pa pb la lb ra rb) (hp : a.pc = 0) (hl : 0 < la) (ht : t % 2 = pa) (hn : A.length + 1 ≤ n) (h9 : A.length + 1 ≤ 100) :
    Aw n r g e f L i (t :: A) (aNew e t) b pa pb (la - 1) lb ra rb := by
  obtain ⟨Ts, Qs, Tp, Qp, α, Q, β, R, h, w, h', w', Hs, Hp, D, E, t1, t2, sa, sb, p1, p2, hm, q1, q2, r1, r2⟩ := H.ex
  have hh : h = [] ∧ w = [] := by cases sa <;> simp at hp ⊢
  obtain ⟨rfl, rfl⟩ := hh
  have f0 : adue Ts Tp a = 0 ∧ afut a = 0 := by simp [adue, afut, hp]
  have f1 : adue Ts Tp (aNew e t) = 10 ∧ afut (aNew e t) = 2 := by simp [adue, afut, aNew, ddue, Dg.mPush]
  refine ⟨⟨Ts, Qs, Tp, Qp, α, Q, β, R, [], [t], h', w', Hs, Hp, D, E, t1, t2, .dq _ _ _ _ (.push1 ..) rfl (by simp [Dg.mPush]), sb, p1, ?_, hm, fun x hx => ?_, q2, by omega, by omega⟩, H.G, H.d1, H.d2, H.d3, by simpa using hn, by simpa using h9, by omega, H.l0.2⟩
  · refine List.perm_iff_count.2 fun z => ?_
    have := p2.count_eq z
    simp only [List.count_append, List.count_cons, List.count_nil] at this ⊢; omega
  · rcases List.mem_append.1 hx with hx | hx
    · exact q1 x (by simp [hx])
    · rw [List.mem_singleton] at hx; rw [hx]; exact ht
/-- A step of the first one. -/
theorem Aw.step (H : Aw n r g e f L i A a b pa pb la lb ra rb) (hp : a.pc ≠ 0) (hi : i + 1 < 100000) : Aw n r g e f (astp g L a).1 (i + 1) A (astp g L a).2 b pa pb la lb (ra - 1) rb := by
  obtain ⟨Ts, Qs, Tp, Qp, α, Q, β, R, h, w, h', w', Hs, Hp, D, E, t1, t2, sa, sb, p1, p2, hm, q1, q2, r1, r2⟩ := H.ex
  have G := H.G
  have hnd : (Qs ++ (Qp ++ (h ++ h'))).Nodup := p1.nodup_iff.2 (nd_En n)
  have hmem : ∀ x, x ∈ Qs ++ (Qp ++ (h ++ h')) → 1 ≤ x ∧ x ≤ (n : Int) := fun x hx => mem_En.1 (p1.mem_iff.1 hx)
  have n1 := List.nodup_append.1 hnd
  have n2 := List.nodup_append.1 n1.2.1
  have n3 := List.nodup_append.1 n2.2.1
  have lens := p2.length_eq
  have lenp := p1.length_eq
  simp only [List.length_append, List.length_map, len_En] at lens lenp
  have hA := H.An
  have hA9 := H.A9
  have hDq := D.q
  have tb := sb.top
  cases sa with
  | idle => exact absurd rfl hp
  | dq t d p s hP hk hpd =>
    have fr := Dg.stp_frame (m := d) D.g hP.e_is
    obtain ⟨T', α', g', bc', Q', D', P', hT, hg, hb', hb2, ev⟩ := Dg.own_step D hP hpd (by omega)
    have hl := fr.1
    have nott : ∀ q : Int, 0 ≤ q → ¬ InE r e q → (Dg.stp L d).1.getD q.toNat 0 = L.getD q.toNat 0 := fun q h0 hq => by
      rcases fr.2 q h0 with x | x | x
      · exact x
      · exact absurd (.inl x.2) hq
      · exact absurd (.inr x.2) hq
    have hT0 : T' = 0 := by
      rw [← D'.top]
      rcases fr.2 e.top D.g.top.1 with x | x | x
      · rw [x]; exact D.top
      · exact absurd hk x.1
      · have := D.g.ne; have := D.g.te; omega
    subst hT0
    obtain ⟨Hs', Hp', ww⟩ := in_stk G Hs Hp hl (fun q h0 hq => nott q h0 (fun x => H.d2 q x hq))
    obtain ⟨E', we⟩ := in_dq E hl (fun q h0 hq => nott q h0 (fun x => H.d1 q x hq))
    have G' : Gp n (Dg.stp L d).1.length g := by rw [hl]; exact G
    have sb' : At n r g f (Dg.stp L d).1 Ts Qs Tp Qp β R b h' w' := by
      cases sb with
      | idle => exact .idle ..
      | dq t2 d2 p2 s2 hP2 hk2 hp2 => exact .dq _ _ _ _ (hP2.same we) hk2 hp2
      | pk t2 d2 p2 s2 h2 hT2 hk2 hp2 =>
        refine .pk _ _ _ _ _ (hT2.mono G.links (Int.le_refl _) (fun _ => rfl) (Int.le_refl _) (fun _ => rfl) (fun x hx => ?_)) hk2 hp2
        have hr := hmem x (by simp [hx])
        exact ⟨fun hq => n1.2.2 _ hq x (by simp [hx]) rfl, fun hq => n2.2.2 _ hq x (by simp [hx]) rfl, ww x hr.1 hr.2⟩
    have hm' : ∀ q ∈ Qp, mw g (Dg.stp L d).1 q = 1 := fun q hq => by rw [(ww q (Hp.rng q hq).1 (Hp.rng q hq).2).2.2]; exact hm q hq
    have tm : Qp.map (tw g (Dg.stp L d).1) = Qp.map (tw g L) := List.map_congr_left fun q hq => (ww q (Hp.rng q hq).1 (Hp.rng q hq).2).2.1
    have e0 : adue Ts Tp ⟨1, t, d, p, s⟩ = ddue d ∧ afut ⟨1, t, d, p, s⟩ = 2 := by simp [adue, afut]
    have hkind : (Dg.stp L d).2.kind = 1 ∨ (Dg.stp L d).2.pc = 0 := by
      cases ev with
      | on h1 hk1 => exact .inl (hk1.trans hk)
      | pushed h1 => exact .inr h1
      | full h1 => exact .inr h1
      | took h1 => exact .inr h1
      | none h1 => exact .inr h1
    have hgb : g' = α' ∧ bc' = α' := by
      rcases hkind with x | x
      · exact ph_push P' x
      · exact ph_done P' x
    obtain ⟨rfl, rfl⟩ := hgb
    have hds := dd_step L hk hpd (ph_pc hP hk)
    have hdd := hds.1
    have hhand : ∀ m : Dg.Mc, m.kind = 1 → Dg.hand m = [] := fun m hm => by simp [Dg.hand, hm]
    have d1 : 1 ≤ ddue d := by
      unfold ddue
      repeat' split
      all_goals omega
    cases ev with
    | on h1 hk1 h2 hs2 =>
      have hQ : Q' = Q := by
        rw [hhand _ hk, hhand _ (hk1.trans hk)] at h2; simpa using h2.symm
      subst hQ
      have ea : astp g L ⟨1, t, d, p, s⟩ = ((Dg.stp L d).1, ⟨1, t, (Dg.stp L d).2, p, s⟩) := by simp [astp, h1]
      have hα := hb2 h1
      subst hα
      rw [ea]
      dsimp only
      have e1 : adue Ts Tp ⟨1, t, (Dg.stp L d).2, p, s⟩ = ddue (Dg.stp L d).2 ∧ afut ⟨1, t, (Dg.stp L d).2, p, s⟩ = 2 := by simp [adue, afut]
      have := hdd h1
      exact ⟨⟨Ts, Qs, Tp, Qp, _, Q', β, R, [], [t], h', w', Hs', Hp', D', E', by omega, by omega, .dq _ _ _ _ P' (hk1.trans hk) h1, sb', p1, by rw [tm]; exact p2, hm', q1, q2, by omega, by omega⟩, G', H.d1, H.d2, H.d3, hA, hA9, H.l0⟩
    | took h1 hk1 => rw [hk] at hk1; cases hk1
    | none h1 hk1 => rw [hk] at hk1; cases hk1
    | pushed h1 hk1 ho h2 h3 h4 h5 =>
      have ea : astp g L ⟨1, t, d, p, s⟩ = ((Dg.stp L d).1, ⟨0, t, (Dg.stp L d).2, p, s⟩) := by simp [astp, h1, ho]
      rw [ea]
      dsimp only
      subst h4
      have e1 : adue Ts Tp ⟨0, t, (Dg.stp L d).2, p, s⟩ = 0 ∧ afut ⟨0, t, (Dg.stp L d).2, p, s⟩ = 0 := by simp [adue, afut]
      refine ⟨⟨Ts, Qs, Tp, Qp, _, _, β, R, [], [], h', w', Hs', Hp', D', E', by omega, by omega, .idle .., sb', p1, ?_, hm', fun x hx => q1 x (by simpa using hx), q2, by omega, by omega⟩, G', H.d1, H.d2, H.d3, hA, hA9, H.l0⟩
      rw [tm]
      refine List.perm_iff_count.2 fun z => ?_
      have := p2.count_eq z
      simp only [List.count_append, List.count_cons, List.count_nil] at this ⊢; omega
    | full h1 hk1 ho h2 h3 h4 h5 =>
      have ea : astp g L ⟨1, t, d, p, s⟩ = ((Dg.stp L d).1, ⟨2, t, (Dg.stp L d).2, ⟨1, 1, [t], 0, 0, mPop g.sp⟩, true⟩) := by simp [astp, h1, ho, pPut]
      rw [ea]
      dsimp only
      subst h4
      have hd9 : 9 ≤ ddue d := hds.2 h1 ho
      have e1 : adue Ts Tp ⟨2, t, (Dg.stp L d).2, ⟨1, 1, [t], 0, 0, mPop g.sp⟩, true⟩ = 8 ∧ afut ⟨2, t, (Dg.stp L d).2, ⟨1, 1, [t], 0, 0, mPop g.sp⟩, true⟩ = 2 := by simp [adue, afut, pdue, due, fut, mPop]
      exact ⟨⟨Ts, Qs, Tp, Qp, _, _, β, R, [], [t], h', w', Hs', Hp', D', E', by omega, by omega, .pk _ _ _ _ _ (.put1 _ _ _ (.pop1 ..) rfl (by simp [mPop])) rfl (by simp), sb', p1, by rw [tm]; exact p2, hm', q1, q2, by omega, by omega⟩, G', H.d1, H.d2, H.d3, hA, hA9, H.l0⟩
  | pk t d p s h hTh hk hpp =>
    have hd : ∀ x ∈ h, x ∉ Qs ∧ x ∉ Qp := fun x hx => ⟨fun y => n1.2.2 _ y x (by simp [hx]) rfl, fun y => n2.2.2 _ y x (by simp [hx]) rfl⟩
    have hne : p.pc = 1 → Qs ≠ [] := fun h1 h2 => by
      have f1 := hTh.few.2 h1
      have e0 : hasn p h = 0 := by simp [hasn, hpp, hk]
      have f2 := tb.2.2.2
      rw [h2] at lenp
      simp only [List.length_nil, List.length_cons] at lenp lens f1
      omega
    obtain ⟨Ts', Qs', Tp', Qp', h2, w2, Hs', Hp', sa', hln, x1, x2, x3, x4, x5, x6, x7, ev, own, hdu, hfu, hkd⟩ := pk_step G Hs Hp hTh hpp (by omega) (by omega) hd hne
    have hra : ∀ y ∈ h, 1 ≤ y ∧ y ≤ (n : Int) := fun y hy => hmem y (by simp [hy])
    have ownP : ∀ q, OwnW g h q → InP n g q := fun q hq => by
      rcases hq with x | x | ⟨y, hy, x⟩
      · exact .inl x
      · exact .inr (.inl x)
      · exact .inr (.inr ⟨y, hra y hy, x⟩)
    have nott : ∀ q : Int, 0 ≤ q → ¬ InP n g q → (pstp g L p).1.getD q.toNat 0 = L.getD q.toNat 0 := fun q h0 hq => (own q h0).resolve_right (fun x => hq (ownP q x))
    obtain ⟨D', wd⟩ := in_dq D hln (fun q h0 hq => nott q h0 (H.d2 q hq))
    obtain ⟨E', we⟩ := in_dq E hln (fun q h0 hq => nott q h0 (H.d3 q hq))
    have G' : Gp n (pstp g L p).1.length g := by rw [hln]; exact G
    have sameQ : ∀ q, q ∈ Qp → tw g (pstp g L p).1 q = tw g L q ∧ mw g (pstp g L p).1 q = mw g L q := fun q hq =>
      (own_same G own hra (hmem q (by simp [hq])) (fun x => (hd q x).2 hq)).2
    have off : ∀ x ∈ h', x ∉ Qs' ∧ x ∉ Qp' ∧ lkw g.sp (pstp g L p).1 x = lkw g.sp L x ∧ tw g (pstp g L p).1 x = tw g L x ∧ mw g (pstp g L p).1 x = mw g L x := fun x hx => by
      have hxA : x ∉ h := fun y => n3.2.2 _ y x hx rfl
      have hxS : x ∉ Qs := fun y => n1.2.2 _ y x (by simp [hx]) rfl
      have hxP : x ∉ Qp := fun y => n2.2.2 _ y x (by simp [hx]) rfl
      have o := own_same G own hra (hmem x (by simp [hx])) hxA
      cases ev with
      | on e1 e2 e3 => rw [e2, e3]; exact ⟨hxS, hxP, o⟩
      | got q e1 e2 e3 e4 => rw [e4]; exact ⟨fun y => hxS (by rw [e3]; simp [y]), hxP, o⟩
      | put q t e1 e2 e3 e4 e5 => rw [e3, e4]; exact ⟨hxS, fun y => (List.mem_cons.1 y).elim (fun z => hxA (by rw [e5, z]; simp)) hxP, o⟩
      | took q e1 e2 => rw [hk] at e2; cases e2
      | none e1 e2 => rw [hk] at e2; cases e2
      | back q e1 e2 => rw [hk] at e2; cases e2
    have sb' : At n r g f (pstp g L p).1 Ts' Qs' Tp' Qp' β R b h' w' ∧ adue Ts' Tp' b ≤ adue Ts Tp b + (if Ts' = Ts ∧ Tp' = Tp then 0 else 3) := by
      cases sb with
      | idle => exact ⟨.idle .., by simp [adue]; split <;> omega⟩
      | dq t2 d2 p2 s2 hP2 hk2 hp2 => exact ⟨.dq _ _ _ _ (hP2.same we) hk2 hp2, by simp [adue]; split <;> omega⟩
      | pk t2 d2 p2 s2 h2 hT2 hk2 hp2 => exact ⟨.pk _ _ _ _ _ (hT2.mono G.links x1 x3 x4 x6 off) hk2 hp2, by have := pdue_mono hT2 x7; simpa [adue] using this⟩
    have e0 : adue Ts Tp ⟨2, t, d, p, s⟩ = pdue Ts Tp p ∧ afut ⟨2, t, d, p, s⟩ = fut p := by simp [adue, afut]
    have hfb := (fut_01 (pstp g L p).2).1
    have rr : adue Ts' Tp' b + 10 * lb + 3 * (2 * la + fut (pstp g L p).2) ≤ rb := by have := sb'.2; split at this <;> split at hfu <;> first | omega | contradiction
    cases ev with
    | on e1 e2 e3 e4 e5 =>
      subst e2 e3 e4 e5
      have ea : astp g L ⟨2, t, d, p, s⟩ = ((pstp g L p).1, ⟨2, t, d, (pstp g L p).2, s⟩) := by simp [astp, e1]
      rw [ea]
      dsimp only
      have e8 : adue Ts' Tp' ⟨2, t, d, (pstp g L p).2, s⟩ = pdue Ts' Tp' (pstp g L p).2 ∧ afut ⟨2, t, d, (pstp g L p).2, s⟩ = fut (pstp g L p).2 := by simp [adue, afut]
      refine ⟨⟨Ts', _, Tp', _, _, Q, β, R, h2, [t], h', w', Hs', Hp', D', E', by omega, by omega, .pk _ _ _ _ _ sa' (hkd.trans hk) e1, sb'.1, p1, ?_, fun q hq => (sameQ q hq).2.trans (hm q hq), q1, q2, by omega, by omega⟩, G', H.d1, H.d2, H.d3, hA, hA9, H.l0⟩
      rw [List.map_congr_left (fun q hq => (sameQ q hq).1)]; exact p2
    | got q e1 e2 e3 e4 e5 e6 e7 =>
      subst e4 e5 e6 e7
      have ea : astp g L ⟨2, t, d, p, s⟩ = ((pstp g L p).1, ⟨2, t, d, (pstp g L p).2, s⟩) := by simp [astp, e1]
      rw [ea]
      dsimp only
      have e8 : adue Ts' Tp' ⟨2, t, d, (pstp g L p).2, s⟩ = pdue Ts' Tp' (pstp g L p).2 ∧ afut ⟨2, t, d, (pstp g L p).2, s⟩ = fut (pstp g L p).2 := by simp [adue, afut]
      refine ⟨⟨Ts', _, Tp', _, _, Q, β, R, [q], [t], h', w', Hs', Hp', D', E', by omega, by omega, .pk _ _ _ _ _ sa' (hkd.trans hk) e1, sb'.1, ?_, ?_, fun q hq => (sameQ q hq).2.trans (hm q hq), q1, q2, by omega, by omega⟩, G', H.d1, H.d2, H.d3, hA, hA9, H.l0⟩
      · refine List.perm_iff_count.2 fun z => ?_
        have := p1.count_eq z
        rw [e3] at this
        simp only [List.count_append, List.count_cons, List.count_nil] at this ⊢; omega
      · rw [List.map_congr_left (fun q hq => (sameQ q hq).1)]; exact p2
    | put q t' e1 e2 e3 e4 e5 e6 e7 e8 e9 e10 =>
      subst e3 e5 e6 e8
      obtain rfl : t = t' := by simpa using e7
      have ea : astp g L ⟨2, t, d, p, s⟩ = ((pstp g L p).1, ⟨0, t, d, (pstp g L p).2, s⟩) := by simp [astp, e1]
      rw [ea]
      dsimp only
      have e11 : adue Ts' Tp' ⟨0, t, d, (pstp g L p).2, s⟩ = 0 ∧ afut ⟨0, t, d, (pstp g L p).2, s⟩ = 0 := by simp [adue, afut]
      have hpz : pdue Ts' Tp' (pstp g L p).2 = 0 := by simp [pdue, e1]
      refine ⟨⟨Ts', _, Tp', Qp', _, Q, β, R, [], [], h', w', Hs', Hp', D', E', by omega, by omega, .idle .., sb'.1, ?_, ?_, fun x hx => ?_, fun x hx => q1 x (by simp only [List.append_nil] at hx; simp [hx]), q2, by omega, by omega⟩, G', H.d1, H.d2, H.d3, hA, hA9, H.l0⟩
      · refine List.perm_iff_count.2 fun z => ?_
        have := p1.count_eq z
        rw [e4]
        simp only [List.count_append, List.count_cons, List.count_nil] at this ⊢; omega
      · refine List.perm_iff_count.2 fun z => ?_
        have := p2.count_eq z
        rw [e4, List.map_cons, e9, List.map_congr_left (fun q hq => (sameQ q hq).1)]
        simp only [List.count_append, List.count_cons, List.count_nil] at this ⊢; omega
      · rw [e4] at hx
        rcases List.mem_cons.1 hx with y | hx
        · rw [y]; exact e10
        · exact (sameQ x hx).2.trans (hm x hx)
    | took q e1 e2 => rw [hk] at e2; cases e2
    | none e1 e2 => rw [hk] at e2; cases e2
    | back q e1 e2 => rw [hk] at e2; cases e2
/-- At the end: each task that was begun is in a deque, or in the pool. -/
theorem Aw.end (H : Aw n r g e f L i A a b pa pb la lb ra rb) (h1 : a.pc = 0) (h2 : b.pc = 0) :
    ∃ α Q β R T P, Dg.Dq r e L 0 α α Q ∧ Dg.Dq r f L 0 β β R ∧ Stk n g.po L T P ∧ (Q ++ (R ++ P.map (tw g L))).Perm A ∧ (∀ q ∈ P, mw g L q = 1) ∧ P.length ≤ n ∧ (∀ x ∈ Q, x % 2 = pa) ∧ (∀ x ∈ R, x % 2 = pb) := by
  obtain ⟨Ts, Qs, Tp, Qp, α, Q, β, R, h, w, h', w', Hs, Hp, D, E, t1, t2, sa, sb, p1, p2, hm, q1, q2, r1, r2⟩ := H.ex
  have hh : h = [] ∧ w = [] := by cases sa <;> simp at h1 ⊢
  have hh2 : h' = [] ∧ w' = [] := by cases sb <;> simp at h2 ⊢
  obtain ⟨rfl, rfl⟩ := hh
  obtain ⟨rfl, rfl⟩ := hh2
  simp only [List.append_nil] at p1 p2 q1 q2
  refine ⟨α, Q, β, R, Tp, Qp, D, E, Hp, p2, hm, ?_, q1, q2⟩
  have := p1.length_eq
  simp only [List.length_append, len_En] at this; omega
/-- A deque's words, from the first one on. -/
theorem dq_words {e : Dg.En} {L : List Int} {β bc : Int} {Q : List Int} (D : Dg.Dq r e L 0 β bc Q) (t : Nat) (ht : t < Q.length) : L.getD (e.ent + t).toNat 0 = Q.getD t 0 := by
  have := D.ent t ht
  have hq := D.q
  have hf := D.full
  have a := D.g.at (t : Int)
  unfold Dg.entw at this
  rw [show (0 : Int) + (t : Int) = (t : Int) by omega, a.1, Int.emod_eq_of_lt (by omega) (by omega)] at this
  exact this
/-- At first. -/
theorem Aw.begin (G : Gp n L.length g) (Hs : Stk n g.sp L 0 (En n)) (Hp : Stk n g.po L 0 []) (g1 : Dg.Ge r L.length e) (g2 : Dg.Ge r L.length f)
    (z : L.getD e.top.toNat 0 = 0 ∧ L.getD e.bot.toNat 0 = 0 ∧ L.getD f.top.toNat 0 = 0 ∧ L.getD f.bot.toNat 0 = 0)
    (d1 : ∀ q, InE r e q → ¬ InE r f q) (d2 : ∀ q, InE r e q → ¬ InP n g q) (d3 : ∀ q, InE r f q → ¬ InP n g q) (h1 : a.pc = 0) (h2 : b.pc = 0) (hl : 0 ≤ la ∧ 0 ≤ lb) :
    Aw n r g e f L 0 [] a b pa pb la lb (10 * la + 6 * lb) (10 * lb + 6 * la) := by
  obtain ⟨c1, t1, e1, p1, s1⟩ := a
  obtain ⟨c2, t2, e2, p2, s2⟩ := b
  simp only at h1 h2
  subst h1 h2
  have f1 : ∀ t d p s, adue 0 0 ⟨0, t, d, p, s⟩ = 0 ∧ afut ⟨0, t, d, p, s⟩ = 0 := fun t d p s => by simp [adue, afut]
  have x := f1 t1 e1 p1 s1
  have y := f1 t2 e2 p2 s2
  have dq0 : ∀ e : Dg.En, Dg.Ge r L.length e → L.getD e.top.toNat 0 = 0 → L.getD e.bot.toNat 0 = 0 → Dg.Dq r e L 0 0 0 [] := fun e g k1 k2 =>
    ⟨g, k1, by rw [k2]; rfl, by omega, by simp, by omega, by omega, fun i hi => by simp at hi⟩
  refine ⟨⟨0, En n, 0, [], 0, [], 0, [], [], [], [], [], Hs, Hp, dq0 e g1 z.1 z.2.1, dq0 f g2 z.2.2.1 z.2.2.2, by omega, by omega, .idle .., .idle .., by simp, by simp, by simp, by simp, by simp, by omega, by omega⟩, G, d1, d2, d3, by simp, by simp, hl⟩
end
end Go.Proofs.YtnfbjebhpljikaaGreat

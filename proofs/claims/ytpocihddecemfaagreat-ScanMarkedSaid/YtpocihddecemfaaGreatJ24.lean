/- One marker that puts tasks somewhere, while others change words that are neither its deque's nor the packets'. A task that is done, while others mark nodes: what always holds, and how many steps are left. -/
import Derived.Test.YtpocihddecemfaaGreatAdPure
import Derived.Test.YtpocihddecemfaaGreatJ5
namespace Go.Proofs.YtpocihddecemfaaGreat
set_option linter.unusedVariables false
set_option linter.unusedSimpArgs false

/-- A: how many tasks were begun; rk: how many steps are left at most. -/
structure A1 (n r : Nat) (g : Pg) (e : Dg.En) (L : List Int) (i : Int) (A : Nat) (a : Am) (rk : Int) : Prop where
  ex : ∃ Ts Qs Tp Qp α Q h w, Stk n g.sp L Ts Qs ∧ Stk n g.po L Tp Qp ∧ Dg.Dq r e L 0 α α Q ∧ Ts ≤ i ∧ Tp ≤ i ∧
    At n r g e L Ts Qs Tp Qp α Q a h w ∧ (Qs ++ (Qp ++ h)).Perm (En n) ∧ Q.length + Qp.length + w.length = A ∧ adue Ts Tp a ≤ rk
  G : Gp n L.length g
  d2 : ∀ q, InE r e q → ¬ InP n g q
  An : A ≤ n
  A9 : A ≤ 100
section
variable {n r : Nat} {g : Pg} {e : Dg.En} {L L' : List Int} {i j rk rk' : Int} {A : Nat} {a : Am}
theorem A1.more (H : A1 n r g e L i A a rk) (hj : i ≤ j) (h1 : rk ≤ rk') : A1 n r g e L j A a rk' := by
  obtain ⟨Ts, Qs, Tp, Qp, α, Q, h, w, Hs, Hp, D, t1, t2, sa, p1, p2, r1⟩ := H.ex
  exact ⟨⟨Ts, Qs, Tp, Qp, α, Q, h, w, Hs, Hp, D, by omega, by omega, sa, p1, p2, by omega⟩, H.G, H.d2, H.An, H.A9⟩
theorem A1.left (H : A1 n r g e L i A a rk) (hp : a.pc ≠ 0) : 1 ≤ rk := by
  obtain ⟨Ts, Qs, Tp, Qp, α, Q, h, w, Hs, Hp, D, t1, t2, sa, p1, p2, r1⟩ := H.ex
  have := sa.top.2.1 hp; omega
/-- Words that are none of its own may change. -/
theorem A1.same (H : A1 n r g e L i A a rk) (hl : L'.length = L.length) (hf : ∀ q : Int, 0 ≤ q → InE r e q ∨ InP n g q → L'.getD q.toNat 0 = L.getD q.toNat 0) : A1 n r g e L' i A a rk := by
  obtain ⟨Ts, Qs, Tp, Qp, α, Q, h, w, Hs, Hp, D, t1, t2, sa, p1, p2, r1⟩ := H.ex
  obtain ⟨Hs', Hp', ww⟩ := in_stk H.G Hs Hp hl (fun q h0 hq => hf q h0 (.inr hq))
  obtain ⟨D', we⟩ := in_dq D hl (fun q h0 hq => hf q h0 (.inl hq))
  have hnd : (Qs ++ (Qp ++ h)).Nodup := p1.nodup_iff.2 (nd_En n)
  have hmem : ∀ x, x ∈ Qs ++ (Qp ++ h) → 1 ≤ x ∧ x ≤ (n : Int) := fun x hx => mem_En.1 (p1.mem_iff.1 hx)
  have n1 := List.nodup_append.1 hnd
  have n2 := List.nodup_append.1 n1.2.1
  refine ⟨⟨Ts, Qs, Tp, Qp, α, Q, h, w, Hs', Hp', D', t1, t2, ?_, p1, p2, r1⟩, by rw [hl]; exact H.G, H.d2, H.An, H.A9⟩
  cases sa with
  | idle => exact .idle ..
  | dq t d p s hP hk hp => exact .dq _ _ _ _ (hP.same we) hk hp
  | pk t d p s h hT hk hp =>
    refine .pk _ _ _ _ _ (hT.mono H.G.links (Int.le_refl _) (fun _ => rfl) (Int.le_refl _) (fun _ => rfl) (fun x hx => ?_)) hk hp
    have hr := hmem x (by simp [hx])
    exact ⟨fun hq => n1.2.2 _ hq x (by simp [hx]) rfl, fun hq => n2.2.2 _ hq x (by simp [hx]) rfl, ww x hr.1 hr.2⟩
/-- A task is begun. -/
theorem A1.new {t : Int} (H : A1 n r g e L i A a rk) (hp : a.pc = 0) (hn : A + 1 ≤ n) (h9 : A + 1 ≤ 100) : A1 n r g e L i (A + 1) (aNew e t) 10 := by
  obtain ⟨Ts, Qs, Tp, Qp, α, Q, h, w, Hs, Hp, D, t1, t2, sa, p1, p2, r1⟩ := H.ex
  have hh : h = [] ∧ w = [] := by cases sa <;> simp at hp ⊢
  obtain ⟨rfl, rfl⟩ := hh
  have f1 : adue Ts Tp (aNew e t) = 10 := by simp [adue, aNew, ddue, Dg.mPush]
  exact ⟨⟨Ts, Qs, Tp, Qp, α, Q, [], [t], Hs, Hp, D, t1, t2, .dq _ _ _ _ (.push1 ..) rfl (by simp [Dg.mPush]), p1, by simp at p2 ⊢; omega, by omega⟩, H.G, H.d2, hn, h9⟩
/-- Nobody is on the way: whatever it knows. -/
theorem A1.idle (H : A1 n r g e L i A a rk) (hp : a.pc = 0) {b : Am} (hb : b.pc = 0) : A1 n r g e L i A b 0 := by
  obtain ⟨Ts, Qs, Tp, Qp, α, Q, h, w, Hs, Hp, D, t1, t2, sa, p1, p2, r1⟩ := H.ex
  have hh : h = [] ∧ w = [] := by cases sa <;> simp at hp ⊢
  obtain ⟨rfl, rfl⟩ := hh
  obtain ⟨pc, t, d, p, s⟩ := b
  simp only at hb
  subst hb
  exact ⟨⟨Ts, Qs, Tp, Qp, α, Q, [], [], Hs, Hp, D, t1, t2, .idle .., p1, p2, by simp [adue]⟩, H.G, H.d2, H.An, H.A9⟩
/-- A step. -/
theorem A1.step (H : A1 n r g e L i A a rk) (hp : a.pc ≠ 0) (hi : i + 1 < 100000) : A1 n r g e (astp g L a).1 (i + 1) A (astp g L a).2 (rk - 1) ∧
    (astp g L a).1.length = L.length ∧ ∀ q : Int, 0 ≤ q → ¬ InE r e q → ¬ InP n g q → (astp g L a).1.getD q.toNat 0 = L.getD q.toNat 0 := by
  obtain ⟨Ts, Qs, Tp, Qp, α, Q, h, w, Hs, Hp, D, t1, t2, sa, p1, p2, r1⟩ := H.ex
  have G := H.G
  have hnd : (Qs ++ (Qp ++ h)).Nodup := p1.nodup_iff.2 (nd_En n)
  have hmem : ∀ x, x ∈ Qs ++ (Qp ++ h) → 1 ≤ x ∧ x ≤ (n : Int) := fun x hx => mem_En.1 (p1.mem_iff.1 hx)
  have n1 := List.nodup_append.1 hnd
  have n2 := List.nodup_append.1 n1.2.1
  have lenp := p1.length_eq
  simp only [List.length_append, len_En] at lenp
  have hA := H.An
  have hA9 := H.A9
  have hDq := D.q
  have tb := sa.top
  cases sa with
  | idle => exact absurd rfl hp
  | dq t d p s hP hk hpd =>
    have fr := Dg.stp_frame (m := d) D.g hP.e_is
    obtain ⟨T', α', g', bc', Q', D', P', hT, hg, hb', hb2, ev⟩ := Dg.own_step D hP hpd (by omega)
    have hl := fr.1
    have nott : ∀ q : Int, 0 ≤ q → ¬ InE r e q → (Dg.stp L d).1.getD q.toNat 0 = L.getD q.toNat 0 := fun q h0 hq => by
      rcases fr.2 q h0 with x | x | x
      · exact x
      · exact absurd (.inl x.2) hq
      · exact absurd (.inr x.2) hq
    have hT0 : T' = 0 := by
      rw [← D'.top]
      rcases fr.2 e.top D.g.top.1 with x | x | x
      · rw [x]; exact D.top
      · exact absurd hk x.1
      · have := D.g.ne; have := D.g.te; omega
    subst hT0
    obtain ⟨Hs', Hp', ww⟩ := in_stk G Hs Hp hl (fun q h0 hq => nott q h0 (fun x => H.d2 q x hq))
    have G' : Gp n (Dg.stp L d).1.length g := by rw [hl]; exact G
    have e0 : adue Ts Tp ⟨1, t, d, p, s⟩ = ddue d := by simp [adue]
    have hkind : (Dg.stp L d).2.kind = 1 ∨ (Dg.stp L d).2.pc = 0 := by
      cases ev with
      | on h1 hk1 => exact .inl (hk1.trans hk)
      | pushed h1 => exact .inr h1
      | full h1 => exact .inr h1
      | took h1 => exact .inr h1
      | none h1 => exact .inr h1
    have hgb : g' = α' ∧ bc' = α' := by
      rcases hkind with x | x
      · exact ph_push P' x
      · exact ph_done P' x
    obtain ⟨rfl, rfl⟩ := hgb
    have hds := dd_step L hk hpd (ph_pc hP hk)
    have hdd := hds.1
    have hhand : ∀ m : Dg.Mc, m.kind = 1 → Dg.hand m = [] := fun m hm => by simp [Dg.hand, hm]
    have d1 : 1 ≤ ddue d := by
      unfold ddue
      repeat' split
      all_goals omega
    have frame : (astp g L ⟨1, t, d, p, s⟩).1 = (Dg.stp L d).1 := by simp [astp]
    refine ⟨?_, by rw [frame]; exact hl, fun q h0 h1 _ => by rw [frame]; exact nott q h0 h1⟩
    cases ev with
    | on h1 hk1 h2 hs2 =>
      have hQ : Q' = Q := by
        rw [hhand _ hk, hhand _ (hk1.trans hk)] at h2; simpa using h2.symm
      subst hQ
      have ea : astp g L ⟨1, t, d, p, s⟩ = ((Dg.stp L d).1, ⟨1, t, (Dg.stp L d).2, p, s⟩) := by simp [astp, h1]
      have hα := hb2 h1
      subst hα
      rw [ea]
      dsimp only
      have e1 : adue Ts Tp ⟨1, t, (Dg.stp L d).2, p, s⟩ = ddue (Dg.stp L d).2 := by simp [adue]
      have := hdd h1
      exact ⟨⟨Ts, Qs, Tp, Qp, _, Q', [], [t], Hs', Hp', D', by omega, by omega, .dq _ _ _ _ P' (hk1.trans hk) h1, p1, p2, by omega⟩, G', H.d2, hA, hA9⟩
    | took h1 hk1 => rw [hk] at hk1; cases hk1
    | none h1 hk1 => rw [hk] at hk1; cases hk1
    | pushed h1 hk1 ho h2 h3 h4 h5 =>
      have ea : astp g L ⟨1, t, d, p, s⟩ = ((Dg.stp L d).1, ⟨0, t, (Dg.stp L d).2, p, s⟩) := by simp [astp, h1, ho]
      rw [ea]
      dsimp only
      subst h4
      have e1 : adue Ts Tp ⟨0, t, (Dg.stp L d).2, p, s⟩ = 0 := by simp [adue]
      refine ⟨⟨Ts, Qs, Tp, Qp, _, _, [], [], Hs', Hp', D', by omega, by omega, .idle .., p1, ?_, by omega⟩, G', H.d2, hA, hA9⟩
      simp only [List.length_append, List.length_cons, List.length_nil] at p2 ⊢; omega
    | full h1 hk1 ho h2 h3 h4 h5 =>
      have ea : astp g L ⟨1, t, d, p, s⟩ = ((Dg.stp L d).1, ⟨2, t, (Dg.stp L d).2, ⟨1, 1, [t], 0, 0, mPop g.sp⟩, true⟩) := by simp [astp, h1, ho, pPut]
      rw [ea]
      dsimp only
      subst h4
      have hd9 : 9 ≤ ddue d := hds.2 h1 ho
      have e1 : adue Ts Tp ⟨2, t, (Dg.stp L d).2, ⟨1, 1, [t], 0, 0, mPop g.sp⟩, true⟩ = 8 := by simp [adue, pdue, due, mPop]
      exact ⟨⟨Ts, Qs, Tp, Qp, _, _, [], [t], Hs', Hp', D', by omega, by omega, .pk _ _ _ _ _ (.put1 _ _ _ (.pop1 ..) rfl (by simp [mPop])) rfl (by simp), p1, p2, by omega⟩, G', H.d2, hA, hA9⟩
  | pk t d p s h hTh hk hpp =>
    have hd : ∀ x ∈ h, x ∉ Qs ∧ x ∉ Qp := fun x hx => ⟨fun y => n1.2.2 _ y x (by simp [hx]) rfl, fun y => n2.2.2 _ y x (by simp [hx]) rfl⟩
    have hne : p.pc = 1 → Qs ≠ [] := fun h1 h2 => by
      have f1 := hTh.few.2 h1
      have e0 : hasn p h = 0 := by simp [hasn, hpp, hk]
      have f2 := tb.2.2.2
      rw [h2] at lenp
      simp only [List.length_nil, List.length_cons] at lenp p2 f1
      omega
    obtain ⟨Ts', Qs', Tp', Qp', h2, w2, Hs', Hp', sa', hln, x1, x2, x3, x4, x5, x6, x7, ev, own, hdu, hfu, hkd⟩ := pk_step G Hs Hp hTh hpp (by omega) (by omega) hd hne
    have hra : ∀ y ∈ h, 1 ≤ y ∧ y ≤ (n : Int) := fun y hy => hmem y (by simp [hy])
    have ownP : ∀ q, OwnW g h q → InP n g q := fun q hq => by
      rcases hq with x | x | ⟨y, hy, x⟩
      · exact .inl x
      · exact .inr (.inl x)
      · exact .inr (.inr ⟨y, hra y hy, x⟩)
    have nott : ∀ q : Int, 0 ≤ q → ¬ InP n g q → (pstp g L p).1.getD q.toNat 0 = L.getD q.toNat 0 := fun q h0 hq => (own q h0).resolve_right (fun x => hq (ownP q x))
    obtain ⟨D', wd⟩ := in_dq D hln (fun q h0 hq => nott q h0 (H.d2 q hq))
    have G' : Gp n (pstp g L p).1.length g := by rw [hln]; exact G
    have e0 : adue Ts Tp ⟨2, t, d, p, s⟩ = pdue Ts Tp p := by simp [adue]
    have frame : (astp g L ⟨2, t, d, p, s⟩).1 = (pstp g L p).1 := by simp [astp]
    refine ⟨?_, by rw [frame]; exact hln, fun q h0 _ h1 => by rw [frame]; exact nott q h0 h1⟩
    cases ev with
    | on e1 e2 e3 e4 e5 =>
      subst e2 e3 e4 e5
      have ea : astp g L ⟨2, t, d, p, s⟩ = ((pstp g L p).1, ⟨2, t, d, (pstp g L p).2, s⟩) := by simp [astp, e1]
      rw [ea]
      dsimp only
      have e8 : adue Ts' Tp' ⟨2, t, d, (pstp g L p).2, s⟩ = pdue Ts' Tp' (pstp g L p).2 := by simp [adue]
      exact ⟨⟨Ts', _, Tp', _, _, Q, h2, [t], Hs', Hp', D', by omega, by omega, .pk _ _ _ _ _ sa' (hkd.trans hk) e1, p1, p2, by omega⟩, G', H.d2, hA, hA9⟩
    | got q e1 e2 e3 e4 e5 e6 e7 =>
      subst e4 e5 e6 e7
      have ea : astp g L ⟨2, t, d, p, s⟩ = ((pstp g L p).1, ⟨2, t, d, (pstp g L p).2, s⟩) := by simp [astp, e1]
      rw [ea]
      dsimp only
      have e8 : adue Ts' Tp' ⟨2, t, d, (pstp g L p).2, s⟩ = pdue Ts' Tp' (pstp g L p).2 := by simp [adue]
      refine ⟨⟨Ts', _, Tp', _, _, Q, [q], [t], Hs', Hp', D', by omega, by omega, .pk _ _ _ _ _ sa' (hkd.trans hk) e1, ?_, p2, by omega⟩, G', H.d2, hA, hA9⟩
      refine List.perm_iff_count.2 fun z => ?_
      have := p1.count_eq z
      rw [e3] at this
      simp only [List.count_append, List.count_cons, List.count_nil] at this ⊢; omega
    | put q t' e1 e2 e3 e4 e5 e6 e7 e8 e9 e10 =>
      subst e3 e5 e6 e8
      obtain rfl : t = t' := by simpa using e7
      have ea : astp g L ⟨2, t, d, p, s⟩ = ((pstp g L p).1, ⟨0, t, d, (pstp g L p).2, s⟩) := by simp [astp, e1]
      rw [ea]
      dsimp only
      have e11 : adue Ts' Tp' ⟨0, t, d, (pstp g L p).2, s⟩ = 0 := by simp [adue]
      have hpz : pdue Ts' Tp' (pstp g L p).2 = 0 := by simp [pdue, e1]
      refine ⟨⟨Ts', _, Tp', Qp', _, Q, [], [], Hs', Hp', D', by omega, by omega, .idle .., ?_, ?_, by omega⟩, G', H.d2, hA, hA9⟩
      · refine List.perm_iff_count.2 fun z => ?_
        have := p1.count_eq z
        rw [e4]
        simp only [List.count_append, List.count_cons, List.count_nil] at this ⊢; omega
      · have := congrArg List.length e4
        simp only [List.length_cons, List.length_nil] at this p2 ⊢; omega
    | took q e1 e2 => rw [hk] at e2; cases e2
    | none e1 e2 => rw [hk] at e2; cases e2
    | back q e1 e2 => rw [hk] at e2; cases e2
/-- At first. -/
theorem A1.begin (G : Gp n L.length g) (Hs : Stk n g.sp L 0 (En n)) (Hp : Stk n g.po L 0 []) (D : Dg.Dq r e L 0 0 0 []) (d2 : ∀ q, InE r e q → ¬ InP n g q) (h1 : a.pc = 0) : A1 n r g e L 0 0 a 0 := by
  obtain ⟨pc, t, d, p, s⟩ := a
  simp only at h1
  subst h1
  exact ⟨⟨0, En n, 0, [], 0, [], [], [], Hs, Hp, D, by omega, by omega, .idle .., by simp, by simp, by simp [adue]⟩, G, d2, by omega, by omega⟩
end
end Go.Proofs.YtpocihddecemfaaGreat

namespace Go.Proofs.YtpocihddecemfaaGreat
set_option linter.unusedVariables false
set_option linter.unusedSimpArgs false

/-- What stays: where words stand, the node, the piece, the cycle, the slots' words, the marks and the work at first, whether there is a further piece, how many tasks were put ahead, how many nodes may be marked. -/
structure Zk where
  n : Nat
  r : Nat
  z : Zg
  g : Pg
  e : Dg.En
  v : Int
  b : Int
  T : Int
  cy : Int
  w0 : Int
  W : Int → Int
  M0 : Int → Int
  more : Int
  A0 : Nat
  q : Nat
structure Zk.Ok (k : Zk) (N : Nat) : Prop where
  wk : 0 ≤ k.z.wk ∧ k.z.wk < N ∧ ¬ InE k.r k.e k.z.wk ∧ ¬ InP k.n k.g k.z.wk
  hd : 0 ≤ k.z.hd k.v ∧ k.z.hd k.v < N ∧ ¬ InE k.r k.e (k.z.hd k.v) ∧ ¬ InP k.n k.g (k.z.hd k.v) ∧ k.z.hd k.v ≠ k.z.wk
  sl : ∀ j, 0 ≤ j → j < k.z.room k.v → 0 ≤ k.z.sl k.v j ∧ k.z.sl k.v j < N ∧ ¬ InE k.r k.e (k.z.sl k.v j) ∧ ¬ InP k.n k.g (k.z.sl k.v j) ∧ k.z.sl k.v j ≠ k.z.wk
  ma : ∀ u, 1 ≤ u → u ≤ k.z.nn → 0 ≤ k.z.ma u ∧ k.z.ma u < N ∧ ¬ InE k.r k.e (k.z.ma u) ∧ ¬ InP k.n k.g (k.z.ma u) ∧ k.z.ma u ≠ k.z.wk ∧ k.z.ma u ≠ k.z.hd k.v
  ms : ∀ u j, 1 ≤ u → u ≤ k.z.nn → 0 ≤ j → j < k.z.room k.v → k.z.ma u ≠ k.z.sl k.v j
  mi : ∀ u u', 1 ≤ u → u ≤ k.z.nn → 1 ≤ u' → u' ≤ k.z.nn → k.z.ma u = k.z.ma u' → u = u'
  v0 : 1 ≤ k.v ∧ k.v ≤ k.z.nn
  rm : 0 ≤ k.z.room k.v ∧ k.z.room k.v ≤ 16
  ch : 1 ≤ k.z.chunk ∧ k.z.chunk ≤ 16
  b0 : 0 ≤ k.b ∧ k.b ≤ k.z.room k.v
  T0 : k.T = toZ (k.z.room k.v) k.b k.z.chunk
  mo : k.more = if k.T < k.z.room k.v then 1 else 0
  cap : k.A0 + 1 + k.q ≤ k.n ∧ k.A0 + 1 + k.q ≤ 100
  hq : ∀ K : List Int, K.Nodup → (∀ u ∈ K, 1 ≤ u ∧ u ≤ k.z.nn ∧ k.M0 u < k.cy) → K.length ≤ k.q
theorem Zk.Ok.T1 {k : Zk} {N : Nat} (h : k.Ok N) : k.b ≤ k.T ∧ k.T ≤ k.z.room k.v := by
  have a := h.rm; have b := h.ch; have c := h.b0
  rw [h.T0, toZ_is a.1 (by omega) c.1 b.1 (by omega)]
  split <;> split <;> omega
theorem Zk.Ok.more01 {k : Zk} {N : Nat} (h : k.Ok N) : 0 ≤ k.more ∧ k.more ≤ 1 := by rw [h.mo]; split <;> omega
/-- A node's number. -/
def Zk.nd (k : Zk) (u : Int) : Prop := 1 ≤ u ∧ u ≤ k.z.nn
/-- The words of heads, slots and marks; K: what was marked here, P: what others marked. -/
structure Wds (k : Zk) (L : List Int) (K : List Int) (P : Int → Prop) : Prop where
  hd : L.getD (k.z.hd k.v).toNat 0 = k.z.room k.v
  sl : ∀ j, 0 ≤ j → j < k.z.room k.v → L.getD (k.z.sl k.v j).toNat 0 = k.W j
  ma : ∀ u, k.nd u → (u ∈ K ∨ P u → L.getD (k.z.ma u).toNat 0 = k.cy) ∧ (¬ (u ∈ K ∨ P u) → L.getD (k.z.ma u).toNat 0 = k.M0 u)
theorem Wds.frame {k : Zk} {N : Nat} (ok : k.Ok N) {L L' : List Int} {K : List Int} {P : Int → Prop} (h : Wds k L K P) (hf : ∀ q : Int, 0 ≤ q → q ≠ k.z.wk → ¬ InE k.r k.e q → ¬ InP k.n k.g q → L'.getD q.toNat 0 = L.getD q.toNat 0) : Wds k L' K P := by
  refine ⟨?_, fun j h0 h1 => ?_, fun u hu => ?_⟩
  · obtain ⟨a, _, b, c, d⟩ := ok.hd
    rw [hf _ a d b c]; exact h.hd
  · obtain ⟨a, _, b, c, d⟩ := ok.sl j h0 h1
    rw [hf _ a d b c]; exact h.sl j h0 h1
  · obtain ⟨a, _, b, c, d, _⟩ := ok.ma u hu.1 hu.2
    rw [hf _ a d b c]; exact h.ma u hu
/-- A mark is put. -/
theorem Wds.mark {k : Zk} {L : List Int} {K K' : List Int} {P P' : Int → Prop} (ok : k.Ok L.length) (h : Wds k L K P) {u : Int} (hu : k.nd u) (hk : ∀ x, k.nd x → ((x ∈ K' ∨ P' x) ↔ (x = u ∨ x ∈ K ∨ P x))) : Wds k (ptc L (k.z.ma u) k.cy) K' P' := by
  obtain ⟨a, a1, b, c, d, d2⟩ := ok.ma u hu.1 hu.2
  refine ⟨?_, fun j h0 h1 => ?_, fun x hx => ?_⟩
  · rw [pc_other ok.hd.1 (Ne.symm d2)]; exact h.hd
  · rw [pc_other (ok.sl j h0 h1).1 (Ne.symm (ok.ms u j hu.1 hu.2 h0 h1))]; exact h.sl j h0 h1
  · by_cases e : x = u
    · subst e
      rw [pc_same ⟨a, a1⟩]
      exact ⟨fun _ => rfl, fun hn => absurd ((hk x hu).2 (.inl rfl)) hn⟩
    · rw [pc_other (ok.ma x hx.1 hx.2).1 (fun h' => e (ok.mi x u hx.1 hx.2 hu.1 hu.2 h'))]
      have := h.ma x hx
      have e2 : (x ∈ K' ∨ P' x) ↔ (x ∈ K ∨ P x) := by rw [hk x hx]; exact ⟨fun h => h.resolve_left e, .inr⟩
      rw [e2]; exact this
/-- What is marked here, if nobody else marks: after some slots. -/
def wlist (k : Zk) : Nat → List Int
  | 0 => []
  | t + 1 => if (1 ≤ k.W (k.b + t) ∧ k.W (k.b + t) ≤ k.z.nn ∧ k.M0 (k.W (k.b + t)) < k.cy) ∧ k.W (k.b + t) ∉ wlist k t then wlist k t ++ [k.W (k.b + t)] else wlist k t
def aIdle : Am := ⟨0, 0, Dg.mPush ⟨0, 0, 0, 0⟩ 0, pnone, false⟩
def amOf (m : Zm) : Am := if m.pc = 3 then m.d else aIdle
/-- How many slots are done. -/
def sdone (m : Zm) (s : Int) : Int := if m.pc = 5 then s - 1 else s
/-- How many steps are left. -/
def zd (k : Zk) (m : Zm) (s ra : Int) : Int :=
  if m.pc = 0 then 0 else if m.pc = 6 then 1 else if m.pc = 4 then 15 * (k.T - s) + 1 else if m.pc = 5 then 16 - m.c.pc + 15 * (k.T - s) else if m.pc = 3 then ra + 15 * (k.T - s) + 1
  else if m.pc = 2 then 12 + 15 * (k.T - s) else 13 + 15 * (k.T - s)
/-- The work. -/
def wsum (k : Zk) (m : Zm) (K : List Int) : Int :=
  k.w0 + K.length + (if m.pc = 1 ∨ m.pc = 2 then 0 else k.more) + (if m.pc = 5 ∧ 3 ≤ m.c.pc then 1 else 0) + (if m.pc = 0 then 18446744073709551615 else 0)
/-- The task that a further piece was told. -/
def fvZ (k : Zk) (m : Zm) : Int := if m.pc = 1 ∨ m.pc = 2 then -1 else if k.T < k.z.room k.v then k.T else -1
structure SC (k : Zk) (L : List Int) (i : Int) (A : Nat) (m : Zm) (s : Int) (K : List Int) (P : Int → Prop) (rk : Int) : Prop where
  ok : k.Ok L.length
  wds : Wds k L K P
  mv : m.v = k.v ∧ m.fr = k.b ∧ m.cy = k.cy
  pc : m.pc ≤ 6
  sb : k.b ≤ s ∧ s ≤ k.T
  ats : m.pc ≠ 1 → m.at' = s ∧ m.to = k.T
  s1 : m.pc = 1 ∨ m.pc = 2 → s = k.b ∧ K = []
  s2 : m.pc = 2 → k.T < k.z.room k.v
  s4 : m.pc = 4 → s < k.T
  s6 : m.pc = 6 ∨ m.pc = 0 → s = k.T
  c5 : m.pc = 5 → k.b < s ∧ m.w = k.W (s - 1) ∧ k.nd m.w ∧ 1 ≤ m.c.pc ∧ m.c.pc ≤ 4 ∧ m.c.p = k.z.ma m.w ∧ m.c.cy = k.cy ∧ m.c.won = false ∧ (2 ≤ m.c.pc → m.c.k = k.M0 m.w ∧ k.M0 m.w < k.cy ∧ m.w ∉ K) ∧ (m.c.pc = 4 → P m.w)
  dn : ∀ j, k.b ≤ j → j < sdone m s → k.nd (k.W j) → k.W j ∈ K ∨ P (k.W j) ∨ k.cy ≤ k.M0 (k.W j)
  kw : (∀ u, ¬ P u) → K = wlist k (sdone m s - k.b).toNat
  kn : K.Nodup ∧ ∀ u ∈ K, 1 ≤ u ∧ u ≤ k.z.nn ∧ k.M0 u < k.cy
  kl : K.length ≤ sdone m s - k.b
  wk : L.getD k.z.wk.toNat 0 = wsum k m K % 18446744073709551616
  aa : ∃ ra, A1 k.n k.r k.g k.e L i A (amOf m) ra ∧ zd k m s ra ≤ rk
  d3 : m.pc = 3 → m.d.pc ≠ 0
  cnt : (A : Int) ≤ k.A0 + K.length + (if m.pc = 1 ∨ m.pc = 2 then 0 else k.more)
section
variable {k : Zk} {L : List Int} {i rk : Int} {A : Nat} {m : Zm} {s : Int} {K : List Int} {P : Int → Prop}
theorem SC.left (h : SC k L i A m s K P rk) (hp : m.pc ≠ 0) : 1 ≤ rk := by
  obtain ⟨ra, ha, hz⟩ := h.aa
  have sb := h.sb; have pc := h.pc
  have h3 : m.pc = 3 → 1 ≤ ra := fun e => by
    refine ha.left ?_
    unfold amOf; rw [if_pos e]; exact h.d3 e
  have c5 := h.c5
  unfold zd at hz
  split at hz
  · contradiction
  split at hz
  · omega
  split at hz
  · omega
  split at hz
  · rename_i e; have := c5 e; omega
  split at hz
  · rename_i e; have := h3 e; omega
  split at hz <;> omega
theorem SC.more {rk' : Int} {j : Int} (h : SC k L i A m s K P rk) (h1 : rk ≤ rk') (hj : i ≤ j) : SC k L j A m s K P rk' := by
  obtain ⟨ra, ha, hz⟩ := h.aa
  exact { h with aa := ⟨ra, ha.more hj (Int.le_refl _), by omega⟩ }
/-- Another one marks a node. -/
theorem SC.poke (h : SC k L i A m s K P rk) {u : Int} (hu : k.nd u) : SC k (ptc L (k.z.ma u) k.cy) i A m s K (fun x => x = u ∨ P x) rk := by
  have hl := pc_len L (k.z.ma u) k.cy
  obtain ⟨ra, ha, hz⟩ := h.aa
  obtain ⟨a, a1, b, c, d, d2⟩ := h.ok.ma u hu.1 hu.2
  refine ⟨by rw [hl]; exact h.ok, h.wds.mark h.ok hu (fun x _ => ⟨fun e => ?_, fun e => ?_⟩), h.mv, h.pc, h.sb, h.ats, h.s1, h.s2, h.s4, h.s6, fun e => ?_, fun j h0 h1 h2 => ?_, fun e => absurd (.inl rfl) (e u), h.kn, h.kl, ?_, ⟨ra, ha.same hl (fun q h0 hq => pc_other h0 (fun e => ?_)), hz⟩, h.d3, h.cnt⟩
  · rcases e with e | e | e
    · exact .inr (.inl e)
    · exact .inl e
    · exact .inr (.inr e)
  · rcases e with e | e | e
    · exact .inr (.inl e)
    · exact .inl e
    · exact .inr (.inr e)
  · obtain ⟨c1, c2, c3, c4, c6, c7, c8, c9, c10, c11⟩ := h.c5 e
    exact ⟨c1, c2, c3, c4, c6, c7, c8, c9, c10, fun e => .inr (c11 e)⟩
  · rcases h.dn j h0 h1 h2 with x | x | x
    · exact .inl x
    · exact .inr (.inl (.inr x))
    · exact .inr (.inr x)
  · rw [pc_other h.ok.wk.1 (Ne.symm d)]; exact h.wk
  · subst e
    rcases hq with x | x
    · exact b x
    · exact c x
/-- What a step tells. -/
def ScEv (k : Zk) (s s' : Int) (K K' : List Int) (m m' : Zm) : Prop :=
  (m'.ek = 1 ∧ m'.pc ≠ 0 ∧ k.nd m'.ea ∧ K' = K ++ [m'.ea] ∧ s' = s) ∨ (m'.ek = 3 ∧ m'.pc ≠ 0 ∧ m'.ea = k.v ∧ m'.eb = s ∧ s < k.T ∧ K' = K ∧ s' = s + 1) ∨ (m'.ek = 2 ∧ m'.pc ≠ 0 ∧ m'.ea = k.v ∧ m'.eb = k.T ∧ K' = K ∧ s' = s) ∨
    (m'.ek = 0 ∧ m'.pc ≠ 0 ∧ K' = K ∧ s' = s) ∨ (m'.ek = 4 ∧ m'.pc = 0 ∧ K' = K ∧ s' = s)
end
end Go.Proofs.YtpocihddecemfaaGreat

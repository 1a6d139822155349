/- A deque's machines over words, wherever its ends and entries stand: what a step is, and what holds however the steps of one that pushes and pops, and of others that steal, come one behind the other. -/
import Derived.Test.YtnfbjebhpljikaaGreatSkPure
namespace Go.Proofs.YtnfbjebhpljikaaGreat.Dg
set_option linter.unusedVariables false
set_option maxRecDepth 100000
set_option linter.unusedSimpArgs false

structure En where
  top : Int
  bot : Int
  ent : Int
  room : Int
def roomOf (e : En) : Int := if e.room < 1 then 1 else e.room
def entOf (e : En) (n : Int) : Int := e.ent + n % roomOf e
def u64w (a : Int) : Int := a % 18446744073709551616
def ahead (a b : Int) : Int := if u64w (a - b) < 9223372036854775808 then u64w (a - b) else u64w (a - b) - 18446744073709551616

/-- A machine: 1 pushes, 2 pops, 3 steals; its next step (0: finished), and what it knows. -/
structure Mc where
  kind : Nat
  pc : Nat
  e : En
  b : Int
  t : Int
  w : Int
  won : Bool
  out : Int

def fin (m : Mc) (o x : Int) : Mc := { m with pc := 0, out := o, w := x }

def pushS (L : List Int) (m : Mc) : List Int × Mc :=
  if m.pc = 1 then (L, { m with pc := 2, b := ldq L m.e.bot })
  else if m.pc = 2 then (if roomOf m.e ≤ ahead m.b (ldq L m.e.top) then (L, fin m 2 0) else (L, { m with pc := 3, t := ldq L m.e.top }))
  else if m.pc = 3 then (ptq L (entOf m.e m.b) m.w, { m with pc := 4 })
  else (ptq L m.e.bot (u64w (m.b + 1)), fin m 1 0)
def popS (L : List Int) (m : Mc) : List Int × Mc :=
  if m.pc = 1 then (L, { m with pc := 2, b := u64w (ldq L m.e.bot - 1) })
  else if m.pc = 2 then (ptq L m.e.bot m.b, { m with pc := 3 })
  else if m.pc = 3 then (if 0 < ahead (ldq L m.e.top) m.b then (L, { m with pc := 7, t := ldq L m.e.top }) else (L, { m with pc := 4, t := ldq L m.e.top }))
  else if m.pc = 4 then (if 0 < ahead m.b m.t then (L, fin m 1 (ldq L (entOf m.e m.b))) else (L, { m with pc := 5, w := ldq L (entOf m.e m.b) }))
  else if m.pc = 5 then (if (0 ≤ m.e.top ∧ m.e.top < L.length) ∧ L.getD m.e.top.toNat 0 = m.t then (ptq L m.e.top (u64w (m.t + 1)), { m with pc := 6, won := true }) else (L, { m with pc := 6, won := false }))
  else if m.pc = 6 then (ptq L m.e.bot (u64w (m.b + 1)), if m.won = true then fin m 1 m.w else fin m 3 0)
  else (ptq L m.e.bot (u64w (m.b + 1)), fin m 3 0)
def stealS (L : List Int) (m : Mc) : List Int × Mc :=
  if m.pc = 1 then (L, { m with pc := 2, t := ldq L m.e.top })
  else if m.pc = 2 then (if ahead (ldq L m.e.bot) m.t ≤ 0 then (L, fin m 3 0) else (L, { m with pc := 3, b := ldq L m.e.bot }))
  else if m.pc = 3 then (L, { m with pc := 4, w := ldq L (entOf m.e m.t) })
  else (if (0 ≤ m.e.top ∧ m.e.top < L.length) ∧ L.getD m.e.top.toNat 0 = m.t then (ptq L m.e.top (u64w (m.t + 1)), fin m 1 m.w) else (L, fin m 4 0))
def stp (L : List Int) (m : Mc) : List Int × Mc :=
  if m.pc = 0 then (L, m) else if m.kind = 1 then pushS L m else if m.kind = 2 then popS L m else stealS L m
def mPush (e : En) (w : Int) : Mc := ⟨1, 1, e, 0, 0, w, false, 0⟩
def mPop (e : En) : Mc := ⟨2, 1, e, 0, 0, 0, false, 0⟩
def mSteal (e : En) : Mc := ⟨3, 1, e, 0, 0, 0, false, 0⟩
def mRes (m : Mc) : Int × Int := if m.pc = 0 then (m.out, m.w) else (0, 0)

theorem u64_in {a : Int} (h0 : 0 ≤ a) (h1 : a < 18446744073709551616) : u64w a = a := by unfold u64w; omega
theorem ahead_in {a b : Int} (h0 : -1000000 ≤ a - b) (h1 : a - b ≤ 1000000) : ahead a b = a - b := by unfold ahead u64w; split <;> omega
theorem ahead_w1 {a b : Int} (h0 : -1000000 ≤ a - b) (h1 : a - b ≤ 1000000) : ahead (u64w a) b = a - b := by unfold ahead u64w; split <;> omega
theorem ahead_w2 {a b : Int} (h0 : -1000000 ≤ a - b) (h1 : a - b ≤ 1000000) : ahead a (u64w b) = a - b := by unfold ahead u64w; split <;> omega


theorem mod_lt {n : Nat} (h : 0 < n) (x : Int) : 0 ≤ x % (n : Int) ∧ x % (n : Int) < n := ⟨Int.emod_nonneg _ (by omega), Int.emod_lt_of_pos _ (by omega)⟩
/-- Two ends of one ring meet only where they lie as far apart as it is long. -/
theorem mod_apart {n : Nat} {x y : Int} (h0 : 0 < y - x) (h1 : y - x < n) : x % (n : Int) ≠ y % (n : Int) := by
  intro h
  have := Int.emod_emod_of_dvd (y - x) (Int.dvd_refl (n : Int))
  have e : (y - x) % (n : Int) = 0 := by rw [Int.sub_emod, h]; simp
  rw [Int.emod_eq_of_lt (by omega) (by omega)] at e
  omega
/-- A deque's places among N words. -/
structure Ge (n N : Nat) (e : En) : Prop where
  pos : 0 < n
  small : (n : Int) ≤ 1000
  room : e.room = n
  top : 0 ≤ e.top ∧ e.top < N
  bot : 0 ≤ e.bot ∧ e.bot < N
  ne : e.top ≠ e.bot
  ent : 0 ≤ e.ent ∧ e.ent + n ≤ N
  te : e.top < e.ent ∨ e.ent + n ≤ e.top
  be : e.bot < e.ent ∨ e.ent + n ≤ e.bot
theorem Ge.rm {n N : Nat} {e : En} (g : Ge n N e) : roomOf e = n := by
  have := g.pos
  unfold roomOf; rw [g.room, if_neg (by omega)]
theorem Ge.at {n N : Nat} {e : En} (g : Ge n N e) (x : Int) : entOf e x = e.ent + x % (n : Int) ∧ 0 ≤ entOf e x ∧ entOf e x < N ∧ entOf e x ≠ e.top ∧ entOf e x ≠ e.bot ∧ e.ent ≤ entOf e x ∧ entOf e x < e.ent + n := by
  have h : entOf e x = e.ent + x % (n : Int) := by unfold entOf; rw [g.rm]
  obtain ⟨m0, m1⟩ := mod_lt g.pos x
  have := g.ent
  have := g.te
  have := g.be
  rw [h]; omega
/-- A word of the deque's entries. -/
def entw (e : En) (L : List Int) (x : Int) : Int := L.getD (entOf e x).toNat 0
structure Dq (n : Nat) (e : En) (L : List Int) (T β bc : Int) (Q : List Int) : Prop where
  g : Ge n L.length e
  top : L.getD e.top.toNat 0 = T
  bot : L.getD e.bot.toNat 0 = u64w bc
  t0 : 0 ≤ T
  q : (Q.length : Int) = β - T
  full : β - T ≤ n
  lit : β ≤ 1000
  ent : ∀ i : Nat, i < Q.length → entw e L (T + i) = Q.getD i 0

section
variable {n : Nat} {e : En} {L : List Int} {T β bc : Int} {Q : List Int}
theorem Dq.ld0 (h : Dq n e L T β bc Q) : ldq L e.top = T := by rw [ld_in h.g.top]; exact h.top
theorem Dq.ld1 (h : Dq n e L T β bc Q) : ldq L e.bot = u64w bc := by rw [ld_in h.g.bot]; exact h.bot
theorem Dq.lde (h : Dq n e L T β bc Q) (x : Int) : ldq L (entOf e x) = entw e L x := ld_in ⟨(h.g.at x).2.1, (h.g.at x).2.2.1⟩
/-- Words that are none of the deque's may change. -/
theorem Dq.same {L' : List Int} (h : Dq n e L T β bc Q) (hl : L'.length = L.length) (ht : L'.getD e.top.toNat 0 = L.getD e.top.toNat 0) (hb : L'.getD e.bot.toNat 0 = L.getD e.bot.toNat 0) (he : ∀ x : Int, entw e L' x = entw e L x) : Dq n e L' T β bc Q :=
  ⟨hl ▸ h.g, ht.trans h.top, hb.trans h.bot, h.t0, h.q, h.full, h.lit, fun i hi => (he _).trans (h.ent i hi)⟩
theorem Dq.word {p v : Int} (h : Dq n e L T β bc Q) (ht : p ≠ e.top) (hb : p ≠ e.bot) (he : p < e.ent ∨ e.ent + n ≤ p) : Dq n e (ptq L p v) T β bc Q :=
  h.same (pt_len ..) (pt_other h.g.top.1 (fun x => ht x.symm)) (pt_other h.g.bot.1 (fun x => hb x.symm)) fun x => pt_other (h.g.at x).2.1 (by have := h.g.at x; omega)
theorem Dq.setB (h : Dq n e L T β bc Q) (c : Int) : Dq n e (ptq L e.bot (u64w c)) T β c Q :=
  ⟨(pt_len ..).symm ▸ h.g, (pt_other h.g.top.1 h.g.ne).trans h.top, pt_same h.g.bot, h.t0, h.q, h.full, h.lit, fun i hi => (pt_other (h.g.at _).2.1 (h.g.at _).2.2.2.2.1).trans (h.ent i hi)⟩
theorem Dq.setE (h : Dq n e L T β bc Q) (x v : Int) (hx : T ≤ x) (hb : x = β) (hf : β - T < n) :
    Dq n e (ptq L (entOf e x) v) T β bc Q ∧ entw e (ptq L (entOf e x) v) β = v := by
  have a := h.g.at x
  refine ⟨⟨(pt_len ..).symm ▸ h.g, (pt_other h.g.top.1 (fun y => a.2.2.2.1 y.symm)).trans h.top, (pt_other h.g.bot.1 (fun y => a.2.2.2.2.1 y.symm)).trans h.bot, h.t0, h.q, h.full, h.lit, fun i hi => ?_⟩, ?_⟩
  · rw [← h.ent i hi]
    have hq := h.q
    have b := h.g.at (T + i)
    have := mod_apart (n := n) (x := T + i) (y := x) (by omega) (by omega)
    exact pt_other b.2.1 (by rw [b.1, a.1]; omega)
  · subst hb
    exact pt_same ⟨a.2.1, a.2.2.1⟩
/-- One is taken in front. -/
theorem Dq.take (h : Dq n e L T β bc Q) (hlt : T < β) : Dq n e (ptq L e.top (u64w (T + 1))) (T + 1) β bc Q.tail := by
  have hq := h.q
  have h0 := h.t0
  have h1 := h.lit
  rw [u64_in (by omega) (by omega)]
  refine ⟨(pt_len ..).symm ▸ h.g, pt_same h.g.top, (pt_other h.g.bot.1 h.g.ne.symm).trans h.bot, by omega, by rw [List.length_tail]; omega, by have := h.full; omega, h.lit, fun i hi => ?_⟩
  simp at hi
  have := h.ent (i + 1) (by omega)
  have e2 : T + 1 + (i : Int) = T + ((i + 1 : Nat) : Int) := by omega
  rw [e2]
  refine (pt_other (h.g.at _).2.1 (h.g.at _).2.2.2.1).trans (this.trans ?_)
  simp [List.getD, List.getElem?_tail]
/-- One is put behind. -/
theorem Dq.more (h : Dq n e L T β bc Q) (v : Int) (hf : β - T < n) (hs : β < 1000) (hv : entw e L β = v) : Dq n e L T (β + 1) bc (Q ++ [v]) := by
  have hq := h.q
  refine ⟨h.g, h.top, h.bot, h.t0, by simp; omega, by omega, by omega, fun i hi => ?_⟩
  simp at hi
  by_cases hc : i < Q.length
  · rw [h.ent i hc]; simp [List.getD, List.getElem?_append_left hc]
  · have hi2 : i = Q.length := by omega
    have e2 : T + (i : Int) = β := by omega
    rw [e2, hv, hi2]; simp [List.getD]
/-- One is taken behind. -/
theorem Dq.less (h : Dq n e L T β bc Q) (hlt : T < β) : Dq n e L T (β - 1) bc Q.dropLast := by
  have hq := h.q
  refine ⟨h.g, h.top, h.bot, h.t0, by simp; omega, by have := h.full; omega, by have := h.lit; omega, fun i hi => ?_⟩
  simp at hi
  rw [h.ent i (by omega)]; simp [List.getD, List.getElem?_dropLast]; rw [if_pos (by omega)]
theorem Dq.last (h : Dq n e L T β bc Q) (hlt : T < β) : entw e L (β - 1) = Q.getD (Q.length - 1) 0 := by
  have hq := h.q
  have := h.ent (Q.length - 1) (by omega)
  rw [← this]; congr 1; omega
theorem Dq.first (h : Dq n e L T β bc Q) (hlt : T < β) : entw e L T = Q.headD 0 := by
  have hq := h.q
  have := h.ent 0 (by omega)
  simp at this
  rw [this]
  cases Q <;> simp
end

/-- Where the one that pushes and pops stands; g: how far words are safe from it. -/
inductive Ph (n : Nat) (e : En) (L : List Int) (T β : Int) (Q : List Int) (w : Int) : Int → Int → Mc → Prop
  | idle (k b t x won out) : Ph n e L T β Q w β β ⟨k, 0, e, b, t, x, won, out⟩
  | push1 (b t won out) : Ph n e L T β Q w β β ⟨1, 1, e, b, t, w, won, out⟩
  | push2 (t won out) : Ph n e L T β Q w β β ⟨1, 2, e, β, t, w, won, out⟩
  | push3 (t won out) (h : β - T < n) : Ph n e L T β Q w β β ⟨1, 3, e, β, t, w, won, out⟩
  | push4 (t won out) (h : β - T < n) (hv : entw e L β = w) : Ph n e L T β Q w β β ⟨1, 4, e, β, t, w, won, out⟩
  | pop1 (b t x won out) : Ph n e L T β Q w β β ⟨2, 1, e, b, t, x, won, out⟩
  | pop2 (t x won out) : Ph n e L T β Q w β β ⟨2, 2, e, u64w (β - 1), t, x, won, out⟩
  | pop3 (t x won out) : Ph n e L T β Q w β (β - 1) ⟨2, 3, e, u64w (β - 1), t, x, won, out⟩
  | pop4a (t x won out) (h0 : 0 ≤ t) (h1 : t < β - 1) (h2 : T ≤ β - 1) : Ph n e L T β Q w (β - 1) (β - 1) ⟨2, 4, e, β - 1, t, x, won, out⟩
  | pop4b (t x won out) (h0 : 0 ≤ t) (h1 : t = β - 1) (h2 : t ≤ T) : Ph n e L T β Q w β (β - 1) ⟨2, 4, e, β - 1, t, x, won, out⟩
  | pop5 (t x won out) (h0 : 0 ≤ t) (h1 : t = β - 1) (h2 : t ≤ T) (h3 : T = t → x = Q.headD 0) : Ph n e L T β Q w β (β - 1) ⟨2, 5, e, β - 1, t, x, won, out⟩
  | pop6 (t x won out) (h0 : 0 ≤ β - 1) (h1 : T = β) : Ph n e L T β Q w β (β - 1) ⟨2, 6, e, β - 1, t, x, won, out⟩
  | pop7 (t x won out) (h1 : T = β) : Ph n e L T β Q w β (β - 1) ⟨2, 7, e, u64w (β - 1), t, x, won, out⟩

/-- Where one that steals stands. -/
inductive Th (n : Nat) (e : En) (T g hd : Int) : Mc → Prop
  | done (k b t x won out) : Th n e T g hd ⟨k, 0, e, b, t, x, won, out⟩
  | s1 (b t x won out) : Th n e T g hd ⟨3, 1, e, b, t, x, won, out⟩
  | s2 (b t x won out) (h0 : 0 ≤ t) (h1 : t ≤ T) : Th n e T g hd ⟨3, 2, e, b, t, x, won, out⟩
  | s3 (b t x won out) (h0 : 0 ≤ t) (h1 : t ≤ T) (h2 : t = T → T < g) : Th n e T g hd ⟨3, 3, e, b, t, x, won, out⟩
  | s4 (b t x won out) (h0 : 0 ≤ t) (h1 : t ≤ T) (h2 : t = T → T < g ∧ x = hd) : Th n e T g hd ⟨3, 4, e, b, t, x, won, out⟩

theorem Th.mono {n : Nat} {e : En} {T g hd T' g' hd' : Int} {m : Mc} (h : Th n e T g hd m) (hT : T ≤ T') (hk : T' = T → T < g → T < g' ∧ hd' = hd) : Th n e T' g' hd' m := by
  cases h with
  | done => exact .done ..
  | s1 => exact .s1 ..
  | s2 b t x won out h0 h1 => exact .s2 _ _ _ _ _ h0 (by omega)
  | s3 b t x won out h0 h1 h2 =>
    refine .s3 _ _ _ _ _ h0 (by omega) fun e => ?_
    have e1 : T' = T := by omega
    have := hk e1 (h2 (by omega)); omega
  | s4 b t x won out h0 h1 h2 =>
    refine .s4 _ _ _ _ _ h0 (by omega) fun e => ?_
    have e1 : T' = T := by omega
    obtain ⟨a, c⟩ := h2 (by omega)
    obtain ⟨d, f⟩ := hk e1 a
    exact ⟨by omega, by rw [f]; exact c⟩

/-- A word that is taken, and not yet told. -/
def hand (m : Mc) : List Int := if m.kind = 2 ∧ m.pc = 6 ∧ m.won = true then [m.w] else []

/-- What a step of the owner is. -/
inductive OwnEv (n : Nat) (w : Int) (m m' : Mc) (Q Q' : List Int) : Prop
  | on (h : m'.pc ≠ 0) (hk : m'.kind = m.kind) (h2 : Q ++ hand m = Q' ++ hand m') (hs : Q'.Sublist Q)
  | pushed (h : m'.pc = 0) (hk : m.kind = 1) (ho : m'.out = 1) (h1 : hand m = []) (h2 : hand m' = []) (h3 : Q' = Q ++ [w]) (h4 : Q.length < n)
  | full (h : m'.pc = 0) (hk : m.kind = 1) (ho : m'.out = 2) (h1 : hand m = []) (h2 : hand m' = []) (h3 : Q' = Q) (h4 : n ≤ Q.length)
  | took (h : m'.pc = 0) (hk : m.kind = 2) (ho : m'.out = 1) (h2 : hand m' = []) (h3 : Q ++ hand m = Q' ++ [m'.w]) (hs : Q'.Sublist Q)
  | none (h : m'.pc = 0) (hk : m.kind = 2) (ho : m'.out = 3) (h1 : hand m = []) (h2 : hand m' = []) (h3 : Q' = Q) (h4 : Q = []) (h5 : m'.w = 0)

theorem headD_append {Q : List Int} (h : 0 < Q.length) (R : List Int) : (Q ++ R).headD 0 = Q.headD 0 := by cases Q <;> simp at h ⊢
theorem headD_dropLast {Q : List Int} (h : 1 < Q.length) : Q.dropLast.headD 0 = Q.headD 0 := by
  match Q, h with
  | a :: b :: t, _ => rfl
theorem drop_last {Q : List Int} (h : 0 < Q.length) : Q = Q.dropLast ++ [Q.getD (Q.length - 1) 0] := by
  have hne : Q ≠ [] := by intro e; simp [e] at h
  have := List.dropLast_concat_getLast hne
  rw [List.getLast_eq_getElem] at this
  rw [List.getD, List.getElem?_eq_getElem (by omega)]
  exact this.symm

theorem own_step {n : Nat} {e : En} {L : List Int} {T β g bc w : Int} {Q : List Int} {m : Mc} (D : Dq n e L T β bc Q) (P : Ph n e L T β Q w g bc m) (hp : m.pc ≠ 0) (hs : β < 1000) :
    ∃ T' β' g' bc' Q', Dq n e (stp L m).1 T' β' bc' Q' ∧ Ph n e (stp L m).1 T' β' Q' w g' bc' (stp L m).2 ∧ T ≤ T' ∧ (T' = T → T < g → T < g' ∧ Q'.headD 0 = Q.headD 0) ∧
      β' ≤ β + 1 ∧ ((stp L m).2.pc ≠ 0 → β' = β) ∧ OwnEv n w m (stp L m).2 Q Q' := by
  have hT := D.t0
  have hq := D.q
  have hn := D.g.small
  have hpos := D.g.pos
  cases P with
  | idle => exact absurd rfl hp
  | push1 b t won out =>
    have ee : stp L ⟨1, 1, e, b, t, w, won, out⟩ = (L, ⟨1, 2, e, β, t, w, won, out⟩) := by
      have := D.ld1
      rw [u64_in (by omega) (by omega)] at this
      simp [stp, pushS, this]
    rw [ee]
    exact ⟨T, β, β, β, Q, D, .push2 _ _ _, by omega, fun _ h => ⟨h, rfl⟩, by omega, fun _ => rfl, .on (by simp) rfl (by simp [hand]) (List.Sublist.refl _)⟩
  | push2 t won out =>
    by_cases hc : (n : Int) ≤ β - T
    · have ee : stp L ⟨1, 2, e, β, t, w, won, out⟩ = (L, ⟨1, 0, e, β, t, 0, won, 2⟩) := by
        have h1 := D.ld0
        have h2 := ahead_in (a := β) (b := T) (by omega) (by have := D.full; omega)
        have h3 := D.g.rm
        simp [stp, pushS, h1, h2, h3, hc, fin]
      rw [ee]
      exact ⟨T, β, β, β, Q, D, .idle .., by omega, fun _ h => ⟨h, rfl⟩, by omega, fun h => absurd rfl h, .full rfl rfl rfl (by simp [hand]) (by simp [hand]) rfl (by omega)⟩
    · have ee : stp L ⟨1, 2, e, β, t, w, won, out⟩ = (L, ⟨1, 3, e, β, T, w, won, out⟩) := by
        have h1 := D.ld0
        have h2 := ahead_in (a := β) (b := T) (by omega) (by have := D.full; omega)
        have h3 := D.g.rm
        simp [stp, pushS, h1, h2, h3, hc]
      rw [ee]
      exact ⟨T, β, β, β, Q, D, .push3 _ _ _ (by omega), by omega, fun _ h => ⟨h, rfl⟩, by omega, fun _ => rfl, .on (by simp) rfl (by simp [hand]) (List.Sublist.refl _)⟩
  | push3 t won out hf =>
    have ee : stp L ⟨1, 3, e, β, t, w, won, out⟩ = (ptq L (entOf (e) β) w, ⟨1, 4, e, β, t, w, won, out⟩) := by simp [stp, pushS]
    rw [ee]
    obtain ⟨D2, hv⟩ := D.setE β w (by omega) rfl hf
    exact ⟨T, β, β, β, Q, D2, .push4 _ _ _ hf hv, by omega, fun _ h => ⟨h, rfl⟩, by omega, fun _ => rfl, .on (by simp) rfl (by simp [hand]) (List.Sublist.refl _)⟩
  | push4 t won out hf hv =>
    have ee : stp L ⟨1, 4, e, β, t, w, won, out⟩ = (ptq L e.bot (u64w (β + 1)), ⟨1, 0, e, β, t, 0, won, 1⟩) := by simp [stp, pushS, fin]
    rw [ee]
    exact ⟨T, β + 1, β + 1, β + 1, Q ++ [w], (D.more w hf hs hv).setB (β + 1), .idle .., by omega, fun _ h => ⟨by omega, headD_append (by omega) _⟩, by omega, fun h => absurd rfl h, .pushed rfl rfl rfl (by simp [hand]) (by simp [hand]) rfl (by omega)⟩
  | pop1 b t x won out =>
    have ee : stp L ⟨2, 1, e, b, t, x, won, out⟩ = (L, ⟨2, 2, e, u64w (β - 1), t, x, won, out⟩) := by
      have := D.ld1
      rw [u64_in (by omega) (by omega)] at this
      simp [stp, popS, this]
    rw [ee]
    exact ⟨T, β, β, β, Q, D, .pop2 _ _ _ _, by omega, fun _ h => ⟨h, rfl⟩, by omega, fun _ => rfl, .on (by simp) rfl (by simp [hand]) (List.Sublist.refl _)⟩
  | pop2 t x won out =>
    have ee : stp L ⟨2, 2, e, u64w (β - 1), t, x, won, out⟩ = (ptq L e.bot (u64w (β - 1)), ⟨2, 3, e, u64w (β - 1), t, x, won, out⟩) := by simp [stp, popS]
    rw [ee]
    exact ⟨T, β, β, β - 1, Q, D.setB _, .pop3 _ _ _ _, by omega, fun _ h => ⟨h, rfl⟩, by omega, fun _ => rfl, .on (by simp) rfl (by simp [hand]) (List.Sublist.refl _)⟩
  | pop3 t x won out =>
    have h1 := D.ld0
    have h2 := ahead_w2 (a := T) (b := β - 1) (by have := D.full; omega) (by omega)
    by_cases hc : 0 < T - (β - 1)
    · have ee : stp L ⟨2, 3, e, u64w (β - 1), t, x, won, out⟩ = (L, ⟨2, 7, e, u64w (β - 1), T, x, won, out⟩) := by
        simp [stp, popS, h1, h2, hc]
        omega
      rw [ee]
      exact ⟨T, β, β, β - 1, Q, D, .pop7 _ _ _ _ (by omega), by omega, fun _ h => ⟨h, rfl⟩, by omega, fun _ => rfl, .on (by simp) rfl (by simp [hand]) (List.Sublist.refl _)⟩
    · have ee : stp L ⟨2, 3, e, u64w (β - 1), t, x, won, out⟩ = (L, ⟨2, 4, e, β - 1, T, x, won, out⟩) := by
        have h3 : u64w (β - 1) = β - 1 := u64_in (by omega) (by omega)
        rw [h3] at h2 ⊢
        simp [stp, popS, h1, h2, hc]
        omega
      rw [ee]
      by_cases hd : T < β - 1
      · exact ⟨T, β, β - 1, β - 1, Q, D, .pop4a _ _ _ _ hT hd (by omega), by omega, fun _ h => ⟨hd, rfl⟩, by omega, fun _ => rfl, .on (by simp) rfl (by simp [hand]) (List.Sublist.refl _)⟩
      · exact ⟨T, β, β, β - 1, Q, D, .pop4b _ _ _ _ hT (by omega) (by omega), by omega, fun _ h => ⟨h, rfl⟩, by omega, fun _ => rfl, .on (by simp) rfl (by simp [hand]) (List.Sublist.refl _)⟩
  | pop4a t x won out h0 h1 h2 =>
    have ee : stp L ⟨2, 4, e, β - 1, t, x, won, out⟩ = (L, ⟨2, 0, e, β - 1, t, Q.getD (Q.length - 1) 0, won, 1⟩) := by
      have h3 := ahead_in (a := β - 1) (b := t) (by omega) (by omega)
      have h4 : 0 < β - 1 - t := by omega
      have h5 := D.lde (β - 1)
      rw [D.last (by omega)] at h5
      simp [stp, popS, h3, h4, fin, h5]
      omega
    rw [ee]
    refine ⟨T, β - 1, β - 1, β - 1, Q.dropLast, D.less (by omega), .idle .., by omega, fun _ h => ⟨h, headD_dropLast (by omega)⟩, by omega, fun h => absurd rfl h, .took rfl rfl rfl (by simp [hand]) ?_ (List.dropLast_sublist _)⟩
    have := drop_last (Q := Q) (by omega)
    simpa [hand] using this
  | pop4b t x won out h0 h1 h2 =>
    have ee : stp L ⟨2, 4, e, β - 1, t, x, won, out⟩ = (L, ⟨2, 5, e, β - 1, t, entw e L (β - 1), won, out⟩) := by
      have h3 := ahead_in (a := β - 1) (b := t) (by omega) (by omega)
      have h4 : ¬ 0 < β - 1 - t := by omega
      have h5 := D.lde (β - 1)
      simp only [stp, popS]
      simp [h3, h4, h5]
      intro; omega
    rw [ee]
    exact ⟨T, β, β, β - 1, Q, D, .pop5 _ _ _ _ h0 h1 h2 (fun ht => by rw [← h1, ← ht]; exact D.first (by omega)), by omega, fun _ h => ⟨h, rfl⟩, by omega, fun _ => rfl, .on (by simp) rfl (by simp [hand]) (List.Sublist.refl _)⟩
  | pop5 t x won out h0 h1 h2 h3 =>
    have ht := D.top
    have hbr : stp L ⟨2, 5, e, β - 1, t, x, won, out⟩ = if (0 ≤ e.top ∧ e.top < L.length) ∧ L.getD e.top.toNat 0 = t then (ptq L e.top (u64w (t + 1)), ⟨2, 6, e, β - 1, t, x, true, out⟩) else (L, ⟨2, 6, e, β - 1, t, x, false, out⟩) := by simp [stp, popS]
    by_cases hc : T = t
    · have ee : stp L ⟨2, 5, e, β - 1, t, x, won, out⟩ = (ptq L e.top (u64w (T + 1)), ⟨2, 6, e, β - 1, t, x, true, out⟩) := by
        rw [hbr, if_pos ⟨D.g.top, ht.trans hc⟩, hc]
      rw [ee]
      refine ⟨T + 1, β, β, β - 1, Q.tail, D.take (by omega), .pop6 _ _ _ _ (by omega) (by omega), by omega, fun h => by omega, by omega, fun _ => rfl, .on (by simp) rfl ?_ (List.tail_sublist _)⟩
      have : Q = [x] := by
        have h7 := h3 hc
        match Q, (show Q.length = 1 by omega) with
        | [a], _ => simp at h7; rw [h7]
      rw [this]; simp [hand]
    · have ee : stp L ⟨2, 5, e, β - 1, t, x, won, out⟩ = (L, ⟨2, 6, e, β - 1, t, x, false, out⟩) := by
        rw [hbr, if_neg (fun h => hc (ht.symm.trans h.2))]
      rw [ee]
      exact ⟨T, β, β, β - 1, Q, D, .pop6 _ _ _ _ (by omega) (by omega), by omega, fun _ h => ⟨h, rfl⟩, by omega, fun _ => rfl, .on (by simp) rfl (by simp [hand]) (List.Sublist.refl _)⟩
  | pop6 t x won out h0 h1 =>
    have hQ : Q = [] := by apply List.eq_nil_of_length_eq_zero; omega
    have D2 := D.setB β
    cases won
    · have ee : stp L ⟨2, 6, e, β - 1, t, x, false, out⟩ = (ptq L e.bot (u64w β), ⟨2, 0, e, β - 1, t, 0, false, 3⟩) := by simp [stp, popS, fin]
      rw [ee]
      exact ⟨T, β, β, β, Q, D2, .idle .., by omega, fun _ h => ⟨h, rfl⟩, by omega, fun h => absurd rfl h, .none rfl rfl rfl (by simp [hand]) (by simp [hand]) rfl hQ rfl⟩
    · have ee : stp L ⟨2, 6, e, β - 1, t, x, true, out⟩ = (ptq L e.bot (u64w β), ⟨2, 0, e, β - 1, t, x, true, 1⟩) := by simp [stp, popS, fin]
      rw [ee]
      exact ⟨T, β, β, β, Q, D2, .idle .., by omega, fun _ h => ⟨h, rfl⟩, by omega, fun h => absurd rfl h, .took rfl rfl rfl (by simp [hand]) (by simp [hand]) (List.Sublist.refl _)⟩
  | pop7 t x won out h1 =>
    have hQ : Q = [] := by apply List.eq_nil_of_length_eq_zero; omega
    have D2 := D.setB β
    have ee : stp L ⟨2, 7, e, u64w (β - 1), t, x, won, out⟩ = (ptq L e.bot (u64w β), ⟨2, 0, e, u64w (β - 1), t, 0, won, 3⟩) := by
      have : u64w (u64w (β - 1) + 1) = u64w β := by unfold u64w; omega
      simp [stp, popS, fin, this]
    rw [ee]
    exact ⟨T, β, β, β, Q, D2, .idle .., by omega, fun _ h => ⟨h, rfl⟩, by omega, fun h => absurd rfl h, .none rfl rfl rfl (by simp [hand]) (by simp [hand]) rfl hQ rfl⟩

/-- The owner's place is kept where another takes the word in front. -/
theorem Ph.took {n : Nat} {e : En} {L : List Int} {T β g bc w : Int} {Q : List Int} {m : Mc} (P : Ph n e L T β Q w g bc m) (hg : T < g) (L' : List Int) (hL : ∀ x : Int, entw e L' x = entw e L x) :
    Ph n e L' (T + 1) β Q.tail w g bc m := by
  cases P with
  | idle => exact .idle ..
  | push1 => exact .push1 ..
  | push2 => exact .push2 ..
  | push3 t won out h => exact .push3 _ _ _ (by omega)
  | push4 t won out h hv => exact .push4 _ _ _ (by omega) (by rw [hL]; exact hv)
  | pop1 => exact .pop1 ..
  | pop2 => exact .pop2 ..
  | pop3 => exact .pop3 ..
  | pop4a t x won out h0 h1 h2 => exact .pop4a _ _ _ _ h0 h1 (by omega)
  | pop4b t x won out h0 h1 h2 => exact .pop4b _ _ _ _ h0 h1 (by omega)
  | pop5 t x won out h0 h1 h2 h3 => exact .pop5 _ _ _ _ h0 h1 (by omega) (fun h => by omega)
  | pop6 t x won out h0 h1 => omega
  | pop7 t x won out h1 => omega
theorem Ph.g_le {n : Nat} {e : En} {L : List Int} {T β g bc w : Int} {Q : List Int} {m : Mc} (P : Ph n e L T β Q w g bc m) : g ≤ β ∧ bc ≤ g ∧ β - 1 ≤ bc := by
  cases P <;> omega

/-- What a step of one that steals is. -/
inductive ThEv (m' : Mc) (Q Q' : List Int) : Prop
  | on (h : m'.pc ≠ 0) (h2 : Q' = Q)
  | took (h : m'.pc = 0) (ho : m'.out = 1) (h3 : Q = m'.w :: Q')
  | none (h : m'.pc = 0) (ho : m'.out = 3 ∨ m'.out = 4) (h3 : Q' = Q)

theorem th_step {n : Nat} {e : En} {L : List Int} {T β g bc w : Int} {Q : List Int} {own m : Mc} (D : Dq n e L T β bc Q) (P : Ph n e L T β Q w g bc own) (H : Th n e T g (Q.headD 0) m) (hp : m.pc ≠ 0) :
    ∃ T' Q', Dq n e (stp L m).1 T' β bc Q' ∧ Ph n e (stp L m).1 T' β Q' w g bc own ∧ Th n e T' g (Q'.headD 0) (stp L m).2 ∧ T ≤ T' ∧ (T' = T → T < g → T < g ∧ Q'.headD 0 = Q.headD 0) ∧ ThEv (stp L m).2 Q Q' := by
  have hT := D.t0
  have hq := D.q
  have hn := D.g.small
  have hpos := D.g.pos
  have hlit := D.lit
  have hg := P.g_le
  cases H with
  | done => exact absurd rfl hp
  | s1 b t x won out =>
    have ee : stp L ⟨3, 1, e, b, t, x, won, out⟩ = (L, ⟨3, 2, e, b, T, x, won, out⟩) := by
      have := D.ld0
      simp [stp, stealS, this]
    rw [ee]
    exact ⟨T, Q, D, P, .s2 _ _ _ _ _ hT (by omega), by omega, fun _ h => ⟨h, rfl⟩, .on (by simp) rfl⟩
  | s2 b t x won out h0 h1 =>
    have h2 := D.ld1
    have h3 := ahead_w1 (a := bc) (b := t) (by omega) (by omega)
    by_cases hc : bc - t ≤ 0
    · have ee : stp L ⟨3, 2, e, b, t, x, won, out⟩ = (L, ⟨3, 0, e, b, t, 0, won, 3⟩) := by
        simp [stp, stealS, h2, h3, hc, fin]
      rw [ee]
      exact ⟨T, Q, D, P, .done .., by omega, fun _ h => ⟨h, rfl⟩, .none rfl (.inl rfl) rfl⟩
    · have ee : stp L ⟨3, 2, e, b, t, x, won, out⟩ = (L, ⟨3, 3, e, u64w bc, t, x, won, out⟩) := by
        simp [stp, stealS, h2, h3, hc]
      rw [ee]
      exact ⟨T, Q, D, P, .s3 _ _ _ _ _ h0 h1 (fun h => by omega), by omega, fun _ h => ⟨h, rfl⟩, .on (by simp) rfl⟩
  | s3 b t x won out h0 h1 h2 =>
    have ee : stp L ⟨3, 3, e, b, t, x, won, out⟩ = (L, ⟨3, 4, e, b, t, entw e L t, won, out⟩) := by
      have h5 := D.lde t
      simp only [stp, stealS]
      simp [h5]
    rw [ee]
    exact ⟨T, Q, D, P, .s4 _ _ _ _ _ h0 h1 (fun h => ⟨h2 h, by rw [h]; exact D.first (by have := h2 h; omega)⟩), by omega, fun _ h => ⟨h, rfl⟩, .on (by simp) rfl⟩
  | s4 b t x won out h0 h1 h2 =>
    have ht := D.top
    have hbr : stp L ⟨3, 4, e, b, t, x, won, out⟩ = if (0 ≤ e.top ∧ e.top < L.length) ∧ L.getD e.top.toNat 0 = t then (ptq L e.top (u64w (t + 1)), ⟨3, 0, e, b, t, x, won, 1⟩) else (L, ⟨3, 0, e, b, t, 0, won, 4⟩) := by simp [stp, stealS, fin]
    by_cases hc : T = t
    · have ee : stp L ⟨3, 4, e, b, t, x, won, out⟩ = (ptq L e.top (u64w (T + 1)), ⟨3, 0, e, b, t, x, won, 1⟩) := by
        rw [hbr, if_pos ⟨D.g.top, ht.trans hc⟩, hc]
      rw [ee]
      obtain ⟨h4, h5⟩ := h2 hc.symm
      refine ⟨T + 1, Q.tail, D.take (by omega), P.took h4 _ (fun i => ?_), .done .., by omega, fun h => by omega, .took rfl rfl ?_⟩
      · exact pt_other (D.g.at _).2.1 (D.g.at _).2.2.2.1
      · show Q = x :: Q.tail
        rw [h5]
        match Q, (show 0 < Q.length by omega) with
        | a :: t, _ => rfl
    · have ee : stp L ⟨3, 4, e, b, t, x, won, out⟩ = (L, ⟨3, 0, e, b, t, 0, won, 4⟩) := by
        rw [hbr, if_neg (fun h => hc (ht.symm.trans h.2))]
      rw [ee]
      exact ⟨T, Q, D, P, .done .., by omega, fun _ h => ⟨h, rfl⟩, .none rfl (.inr rfl) rfl⟩

/-- How many steps there are left at most. -/
def left (m : Mc) : Nat := if m.pc = 0 then 0 else if m.kind = 2 then (if m.pc = 7 then 1 else 7 - m.pc) else 5 - m.pc
theorem own_left {n : Nat} {e : En} {L : List Int} {T β g bc w : Int} {Q : List Int} {m : Mc} (P : Ph n e L T β Q w g bc m) (hp : m.pc ≠ 0) : left (stp L m).2 + 1 ≤ left m ∧ left m ≤ 6 := by
  cases P <;> first | exact absurd rfl hp | (simp only [stp, pushS, popS, left, fin]; refine ⟨?_, by simp⟩; simp <;> (repeat' split) <;> simp_all <;> omega)
theorem th_left {n : Nat} {e : En} {L : List Int} {T g hd : Int} {m : Mc} (P : Th n e T g hd m) (hp : m.pc ≠ 0) : left (stp L m).2 + 1 ≤ left m ∧ left m ≤ 4 := by
  cases P <;> first | exact absurd rfl hp | (simp only [stp, stealS, left, fin]; refine ⟨?_, by simp⟩; simp <;> (repeat' split) <;> simp_all <;> omega)

/-- Which words a step may change. -/
theorem stp_frame {n : Nat} {e : En} {L : List Int} {m : Mc} (g : Ge n L.length e) (he : m.e = e) : (stp L m).1.length = L.length ∧
    ∀ q : Int, 0 ≤ q → (stp L m).1.getD q.toNat 0 = L.getD q.toNat 0 ∨ (m.kind ≠ 1 ∧ q = e.top) ∨ (m.kind ≤ 2 ∧ (q = e.bot ∨ (e.ent ≤ q ∧ q < e.ent + n))) := by
  have put : ∀ (p v : Int) (P : Int → Prop), P p → (ptq L p v).length = L.length ∧ ∀ q : Int, 0 ≤ q → (ptq L p v).getD q.toNat 0 = L.getD q.toNat 0 ∨ P q := fun p v P hp => ⟨pt_len .., fun q h0 => by
    by_cases h : q = p
    · subst h; exact .inr hp
    · exact .inl (pt_other h0 h)⟩
  have no : ∀ P : Int → Prop, L.length = L.length ∧ ∀ q : Int, 0 ≤ q → L.getD q.toNat 0 = L.getD q.toNat 0 ∨ P q := fun P => ⟨rfl, fun _ _ => .inl rfl⟩
  obtain ⟨kd, pc, e', b, t, w, won, out⟩ := m
  simp only at he
  subst he
  unfold stp
  by_cases h0 : pc = 0
  · rw [if_pos h0]; exact no _
  rw [if_neg h0]
  by_cases h1 : kd = 1
  · rw [if_pos h1]
    have hk : kd ≤ 2 := by omega
    unfold pushS
    repeat' split
    all_goals first | exact no _ | exact put _ _ _ (.inr ⟨hk, .inl rfl⟩) | exact put _ _ _ (.inr ⟨hk, .inr ⟨(g.at b).2.2.2.2.2.1, (g.at b).2.2.2.2.2.2⟩⟩)
  rw [if_neg h1]
  by_cases h2 : kd = 2
  · rw [if_pos h2]
    have hk : kd ≤ 2 := by omega
    unfold popS
    repeat' split
    all_goals first | exact no _ | exact put _ _ _ (.inr ⟨hk, .inl rfl⟩) | exact put _ _ _ (.inl ⟨h1, rfl⟩)
  · rw [if_neg h2]
    unfold stealS
    repeat' split
    all_goals first | exact no _ | exact put _ _ _ (.inl ⟨h1, rfl⟩)
/-- Words that are none of the deque's, of another's place. -/
theorem Ph.same {n : Nat} {e : En} {L L' : List Int} {T β g bc w : Int} {Q : List Int} {m : Mc} (P : Ph n e L T β Q w g bc m) (hL : ∀ x : Int, entw e L' x = entw e L x) : Ph n e L' T β Q w g bc m := by
  cases P with
  | idle => exact .idle ..
  | push1 => exact .push1 ..
  | push2 => exact .push2 ..
  | push3 t won out h => exact .push3 _ _ _ h
  | push4 t won out h hv => exact .push4 _ _ _ h (by rw [hL]; exact hv)
  | pop1 => exact .pop1 ..
  | pop2 => exact .pop2 ..
  | pop3 => exact .pop3 ..
  | pop4a t x won out h0 h1 h2 => exact .pop4a _ _ _ _ h0 h1 h2
  | pop4b t x won out h0 h1 h2 => exact .pop4b _ _ _ _ h0 h1 h2
  | pop5 t x won out h0 h1 h2 h3 => exact .pop5 _ _ _ _ h0 h1 h2 h3
  | pop6 t x won out h0 h1 => exact .pop6 _ _ _ _ h0 h1
  | pop7 t x won out h1 => exact .pop7 _ _ _ _ h1
theorem Ph.e_is {n : Nat} {e : En} {L : List Int} {T β g bc w : Int} {Q : List Int} {m : Mc} (P : Ph n e L T β Q w g bc m) : m.e = e := by cases P <;> rfl
theorem Th.e_is {n : Nat} {e : En} {T g hd : Int} {m : Mc} (P : Th n e T g hd m) : m.e = e := by cases P <;> rfl
end Go.Proofs.YtnfbjebhpljikaaGreat.Dg

/- The document's picks of bytes, walked; bytes as strings. -/
import Derived.Test.YtadfdpkmegaloaaDecode
import Derived.Laws.BytesArg
import Derived.Laws.Concat
namespace Go.Proofs.Ytadfdpkmegaloaa
open Go.RowKit
set_option linter.unusedVariables false

/-- A string's bytes as numbers. -/
def bytesOf (s : ByteArray) : List Int := s.data.toList.map fun c => (c.toNat : Int)
theorem bytesOf_len (s : ByteArray) : (bytesOf s).length = s.size := by unfold bytesOf; rw [List.length_map]; rfl
theorem bytesOf_get (s : ByteArray) (k : Nat) (h : k < s.size) : (bytesOf s).getD k 0 = (s[k].toNat : Int) := by
  have h' : k < s.data.toList.length := h
  simp only [bytesOf, List.getD, List.getElem?_map, List.getElem?_eq_getElem h', Option.map_some, Option.getD_some]
  rfl
theorem bytesOf_byt (s : ByteArray) : Byt (bytesOf s) := by
  intro i
  by_cases h : i < s.size
  · rw [bytesOf_get s i h]
    have := s[i].toNat_lt
    omega
  · have : (bytesOf s)[i]? = none := List.getElem?_eq_none (by rw [bytesOf_len]; omega)
    simp [List.getD, this]
theorem bytesOf_nums (zs : List Int) (h : Byt zs) : bytesOf (strOfNums zs) = zs := by
  unfold bytesOf
  rw [strOfNums_data, List.map_map]
  have : ∀ x ∈ zs, ((fun c : UInt8 => (c.toNat : Int)) ∘ fun n : Int => UInt8.ofNat n.toNat) x = x := by
    intro x hx
    obtain ⟨i, hi, e⟩ := List.getElem_of_mem hx
    have hb := h i
    simp only [List.getD, List.getElem?_eq_getElem hi, Option.getD_some, e] at hb
    simp only [Function.comp, UInt8.toNat_ofNat']
    omega
  rw [List.map_congr_left this, List.map_id']

/-- A slice of bytes as a string. -/
theorem conv_any (A : Option Addr) (cap n : Nat) (zs : List Int) (w : World) (hn : n = zs.length) (h : Reads .u8 w A zs) : (convert 22 9 (.slice A n cap)).run Try.prog w = .ok (.string (strOfNums zs)) w := by
  subst hn
  by_cases h0 : 0 < zs.length
  · obtain ⟨b, off, rfl, _, hc⟩ := h h0
    exact run_convert_bytes_arg w 22 5 Try.underlying22 Try.underlying5 b off zs.length cap zs rfl hc 9 Try.underlying9
  · have hz : zs = [] := List.eq_nil_of_length_eq_zero (by omega)
    subst hz
    rcases A with _ | a
    · exact run_convert_bytes_nil w 22 5 Try.underlying22 Try.underlying5 0 cap 9 Try.underlying9
    · have hl : (loadCells a 0).run Try.prog w = .ok ((([] : List Int).map (Value.int .u8)).toArray) w := run_loadCells_list (P := Try.prog) w a [] (fun j v hj => by simp at hj)
      rw [run_convert_bytes_string w 22 9 5 _ _ cap Try.underlying22 Try.underlying5 Try.underlying9]
      exact run_bytesToString w a 0 cap [] hl

/-- An append of one pick that has just been built, its block's number a letter. -/
theorem append_at {wr : World} {T : TypeId} {x y : Int} {ops : Array Oper} {rest : List Oper} {o : Oper} {a : Act} {Q : Exit → Act → World → Prop} (hg : o.guard = none) (s c : Operand) (t e : TypeId)
    (ho : o.op = .call { callee := .builtin .append, args := #[s, c], argTypes := #[t, t] }) (ht : Try.prog.underlying t = some (.slice e))
    (hi : (Try.prog.info? e).map (fun i => (i.zero, i.size, i.bytes)) = some (some (.agg #[.int .i64 0, .int .i64 0]), 2, 16))
    (B : Nat) (w0 : World) (v : Value) (l : List Pk) (hs : a.eval s = v) (hown : OwnP e B w0 wr v l) (N : Nat) (hx : a.eval c = .slice (some ⟨N, 0, none⟩) 1 1) (hN : N = wr.heap.size) (hl : l.length ≤ 100000) (hB : B ≤ w0.heap.size)
    (h : ∀ v' w', OwnP e B w0 w' v' (l ++ [(x, y)]) → wpList Try.prog ops Q rest (a.put o.dst v') w') :
    wpList Try.prog ops Q (o :: rest) a (wr.alloc (.cells #[.int .i64 x, .int .i64 y] T)) := by
  subst hN
  exact append_one hg s c t e ho ht hi B w0 v l hs hown hx hl hB h

set_option maxHeartbeats 2000000 in
set_option maxRecDepth 100000 in
theorem refdecode_any (s : ByteArray) (all : Int) (w : World) (hb : s.size ≤ 1000) :
    Calls Try.prog 12 #[.string s, .int .i64 all] w (SomeP 47 (decL (bytesOf s) all) w) := by
  obtain ⟨n, hn⟩ : ∃ n, n = s.size := ⟨_, rfl⟩
  have HN := Lib.hid hn
  have HZ := Lib.hid (bytesOf_byt s)
  have hl := decL_len (bytesOf s) all
  rw [bytesOf_len] at hl
  have HL := Lib.hid hl
  clear hn hl
  go_enter Try.func12, Try.ntmps12
  go_wp2
  go_loopw [5, 6] (fun v i wr => ∃ (k j : Nat), j = 2 * k ∧ k ≤ (s.size + 1) / 2 ∧ i = .int .i64 (j : Int) ∧ OwnP 47 w.heap.size w wr v ((decL (bytesOf s) all).take k)) (fun _ i _ => s.size + 1 - (intOf i).toNat)
  case atStart => exact ⟨0, 0, rfl, Nat.zero_le _, rfl, OwnP.nil (Below.refl _ _)⟩
  case round =>
    obtain ⟨k, j, hj, hk, rfl, hO⟩ := hrel
    by_cases hlt : j < s.size
    · have hst := take_snoc (decL (bytesOf s) all) k (by rw [HL.out]; omega)
      have hlen : ((decL (bytesOf s) all).take k).length ≤ 1000 := by have := List.length_take_le k (decL (bytesOf s) all); omega
      have HLN := Lib.hid hlen
      have HO := Lib.hid hO
      by_cases hlt2 : j + 1 < s.size
      · have hx := bytesOf_get s j hlt
        have hy := bytesOf_get s (j + 1) hlt2
        have hg := decL_get (bytesOf s) all k (by rw [bytesOf_len]; omega)
        rw [← hj, hx, hy] at hg
        have hx1 := s[j].toNat_lt
        have hy1 := s[j + 1].toNat_lt
        by_cases hxa : (s[j].toNat : Int) < all
        · have e : amongP ((s[j].toNat : Int), (s[j + 1].toNat : Int)) all = ((s[j].toNat : Int), (s[j + 1].toNat : Int)) := by unfold amongP; rw [if_neg (by simp; omega)]
          rw [hg, e] at hst
          have HS := Lib.hid hst
          have HJ := Lib.hid hj
          have hj3 : (j : Int) + 1 < (s.size : Int) := by omega
          clear hst hg e hx hy hO hlen hj
          go_wp2_with (at_builtin; refine append_at rfl _ _ 27 47 rfl Try.underlying27 info47 _ _ _ _ rfl (HO.out.alloc (Nat.le_refl _) _) _ rfl ?_ ?_ ?_ ?_; simp; (have := HLN.out; omega); (exact Nat.le_refl _); intro v' w5 HO5)
          go_roundw
          case rel => exact ⟨k + 1, j + 2, by have := HJ.out; omega, by have := HJ.out; omega, by go_num, by rw [HS.out]; exact HO5⟩
          case measure => simp [intOf]; omega
        · have e : amongP ((s[j].toNat : Int), (s[j + 1].toNat : Int)) all = (-1, (s[j + 1].toNat : Int)) := by unfold amongP; rw [if_pos (by simp; omega)]
          rw [hg, e] at hst
          have HS := Lib.hid hst
          have HJ := Lib.hid hj
          have hj3 : (j : Int) + 1 < (s.size : Int) := by omega
          clear hst hg e hx hy hO hlen hj
          go_wp2_with (at_builtin; refine append_at rfl _ _ 27 47 rfl Try.underlying27 info47 _ _ _ _ rfl (HO.out.alloc (Nat.le_refl _) _) _ rfl ?_ ?_ ?_ ?_; simp; (have := HLN.out; omega); (exact Nat.le_refl _); intro v' w5 HO5)
          go_roundw
          case rel => exact ⟨k + 1, j + 2, by have := HJ.out; omega, by have := HJ.out; omega, by go_num, by rw [HS.out]; exact HO5⟩
          case measure => simp [intOf]; omega
      · have hg := decL_last (bytesOf s) all k (by rw [bytesOf_len]; omega) (by rw [bytesOf_len]; omega)
        rw [hg] at hst
        have HS := Lib.hid hst
        have HJ := Lib.hid hj
        have hj3 : ¬ (j : Int) + 1 < (s.size : Int) := by omega
        clear hst hg hO hlen hj
        go_wp2_with (at_builtin; refine append_at rfl _ _ 27 47 rfl Try.underlying27 info47 _ _ _ _ rfl (HO.out.alloc (Nat.le_refl _) _) _ rfl ?_ ?_ ?_ ?_; simp; (have := HLN.out; omega); (exact Nat.le_refl _); intro v' w5 HO5)
        go_roundw
        case rel => exact ⟨k + 1, j + 2, by have := HJ.out; omega, by have := HJ.out; omega, by go_num, by rw [HS.out]; exact HO5⟩
        case measure => simp [intOf]; omega
    · have hd : (decL (bytesOf s) all).take k = decL (bytesOf s) all := List.take_of_length_le (by rw [HL.out]; omega)
      have HD := Lib.hid hd
      have HO := Lib.hid hO
      clear hd hO hj
      go_wp2
      go_ret
      exact ⟨_, rfl, by rw [← HD.out]; exact HO.out⟩
end Go.Proofs.Ytadfdpkmegaloaa

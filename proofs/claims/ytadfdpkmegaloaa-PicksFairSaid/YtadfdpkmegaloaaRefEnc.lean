/- Picks as the document's bytes: the reference's Encode, walked. -/
import Derived.Test.YtadfdpkmegaloaaEncode
namespace Go.Proofs.Ytadfdpkmegaloaa
open Go.RowKit
set_option linter.unusedVariables false

/-- Two bytes as a string. -/
def two (a b : Int) : ByteArray := strOfNums [a, b]
@[go_sem] theorem two_size (a b : Int) : (two a b).size = 2 := by unfold two; rw [strOfNums_size]; rfl
theorem str_app (xs ys : List Int) : strOfNums xs ++ strOfNums ys = strOfNums (xs ++ ys) := by
  apply ByteArray.ext
  rw [ByteArray.data_append]
  simp [strOfNums]
theorem str_two {X : List Int} {A B a b : Int} (hA : A = a) (hB : B = b) : strOfNums X ++ two A B = strOfNums (X ++ [a, b]) := by
  subst hA; subst hB; exact str_app X [A, B]

@[go_sem] theorem conv_two (a b : Int) (T : TypeId) (w : World) : (convert 22 9 (.slice (some ⟨w.heap.size, 0, none⟩) 2 2)).run Try.prog (w.alloc (.cells #[.int .u8 a, .int .u8 b] T)) = .ok (.string (two a b)) (w.alloc (.cells #[.int .u8 a, .int .u8 b] T)) := by
  refine conv_any _ 2 2 [a, b] _ rfl (fun _ => ⟨w.heap.size, 0, rfl, by simp, fun j hj => ?_⟩)
  rw [World.cell?_alloc_at _ _ _ _ rfl]
  match j, hj with
  | 0, _ => rfl
  | 1, _ => rfl

theorem tmod256 (d : Int) : -256 < d.tmod 256 ∧ d.tmod 256 < 256 ∧ (d.tmod 256 < 0 → (d.tmod 256 + 256) % 256 = d % 256 ∧ d.tmod 256 + 256 = d % 256) ∧ (0 ≤ d.tmod 256 → d.tmod 256 = d % 256 ∧ (d.tmod 256) % 256 = d % 256) := by
  obtain ⟨h1, h2, h3⟩ := tmod_bd d 256 (by omega)
  refine ⟨h1, h2, fun h => ⟨h3, by omega⟩, fun h => ⟨by omega, by omega⟩⟩

set_option maxHeartbeats 2000000 in
set_option maxRecDepth 100000 in
theorem refencode_any (A : Option Addr) (cap n : Nat) (l : List Pk) (w : World) (hn : n = l.length) (h : ReadsP w A l) (hb : n ≤ 1000) :
    Calls Try.prog 14 #[.slice A n cap] w fun e w' => e = .returned (.string (strOfNums (encL l))) ∧ Below w.heap.size w w' := by
  have HN := Lib.hid hn
  have HR := Lib.hid h
  clear h hn
  obtain ⟨R, hR⟩ : ∃ R, R = strOfNums (encL l) := ⟨_, rfl⟩
  rw [← hR]
  have HRR := Lib.hid hR
  clear hR
  go_enter Try.func14, Try.ntmps14
  go_wp2
  go_loopw [3, 4] (fun v i wr => ∃ (k : Nat) (s : ByteArray), k ≤ n ∧ i = .int .i64 (k : Int) ∧ v = .string s ∧ s = strOfNums (encL (l.take k)) ∧ Below w.heap.size w wr) (fun _ i _ => n - (intOf i).toNat)
  case atStart => exact ⟨0, _, Nat.zero_le _, rfl, rfl, rfl, Below.refl _ _⟩
  case round =>
    obtain ⟨k, s, hk, rfl, rfl, hs, hbe⟩ := hrel
    have hss : s.size ≤ 2000 := by rw [hs, strOfNums_size, encL_len, List.length_take]; omega
    have HS := Lib.hid hs
    by_cases hlt : k < n
    · obtain ⟨b, off, rfl, hbl, hcell⟩ := HR.out (by have := HN.out; omega)
      have c1 := (hbe.cell (p := ⟨b, off + k * 2, none⟩) hbl).trans (hcell k (by have := HN.out; omega)).1
      have c2 : wr.cell? ⟨b, off + k * 2 + 1, none⟩ = _ := (hbe.cell (p := ⟨b, off + (k * 2 + 1), none⟩) hbl).trans (hcell k (by have := HN.out; omega)).2
      have hst := encL_succ l k (by have := HN.out; omega)
      obtain ⟨p, hp⟩ : ∃ p, p = at_ l k := ⟨_, rfl⟩
      rw [← hp] at c1 c2 hst
      obtain ⟨x, d⟩ := p
      have HST := Lib.hid hst
      have HB := Lib.hid hbe
      have hsz := hbe.size
      obtain ⟨t1, t2, t3, t4⟩ := tmod256 d
      have T3 := Lib.hid t3
      have T4 := Lib.hid t4
      have hk0 : (0 : Int) ≤ (k : Int) := by omega
      have hk1 : (k : Int) < (n : Int) := by omega
      have fin : ∀ (A B : Int), A = whoB x → B = d % 256 → s ++ two A B = strOfNums (encL (l.take (k + 1))) := fun A B h1 h2 => by
        rw [HS.out, HST.out]; exact str_two h1 h2
      have FIN := Lib.hid fin
      clear hst hp hcell hbl hs hbe t3 t4 fin
      by_cases d0 : d.tmod 256 < 0
      · have hd := Lib.hid (T3.out d0)
        by_cases x0 : x < 0
        · go_wp2
          go_roundw
          case rel => exact ⟨k + 1, _, by omega, by go_num, rfl, FIN.out _ _ (by unfold whoB; rw [if_pos (by omega)]) (by have := hd.out; omega), HB.out.alloc hsz _⟩
          case measure => simp [intOf]; omega
        · by_cases x1 : 254 < x
          · go_wp2
            go_roundw
            case rel => exact ⟨k + 1, _, by omega, by go_num, rfl, FIN.out _ _ (by unfold whoB; rw [if_pos (by omega)]) (by have := hd.out; omega), HB.out.alloc hsz _⟩
            case measure => simp [intOf]; omega
          · have x2 : 0 ≤ x := by omega
            have x3 : x ≤ 254 := by omega
            clear x0 x1
            go_wp2
            go_roundw
            case rel => exact ⟨k + 1, _, by omega, by go_num, rfl, FIN.out _ _ (by unfold whoB; rw [if_neg (by omega)]) (by have := hd.out; omega), HB.out.alloc hsz _⟩
            case measure => simp [intOf]; omega
      · have d1 : 0 ≤ d.tmod 256 := by omega
        have hd := Lib.hid (T4.out d1)
        clear d0
        by_cases x0 : x < 0
        · go_wp2
          go_roundw
          case rel => exact ⟨k + 1, _, by omega, by go_num, rfl, FIN.out _ _ (by unfold whoB; rw [if_pos (by omega)]) (by have := hd.out; omega), HB.out.alloc hsz _⟩
          case measure => simp [intOf]; omega
        · by_cases x1 : 254 < x
          · go_wp2
            go_roundw
            case rel => exact ⟨k + 1, _, by omega, by go_num, rfl, FIN.out _ _ (by unfold whoB; rw [if_pos (by omega)]) (by have := hd.out; omega), HB.out.alloc hsz _⟩
            case measure => simp [intOf]; omega
          · have x2 : 0 ≤ x := by omega
            have x3 : x ≤ 254 := by omega
            clear x0 x1
            go_wp2
            go_roundw
            case rel => exact ⟨k + 1, _, by omega, by go_num, rfl, FIN.out _ _ (by unfold whoB; rw [if_neg (by omega)]) (by have := hd.out; omega), HB.out.alloc hsz _⟩
            case measure => simp [intOf]; omega
    · have hd : s = R := by rw [HS.out, HRR.out, List.take_of_length_le (by have := HN.out; omega)]
      subst hd
      clear hs
      go_wp2
      go_ret
      exact ⟨rfl, hbe⟩
end Go.Proofs.Ytadfdpkmegaloaa

/- What 'returned' does with a row that is as 'lent' made it: it answers true, turns the row over, and books it. -/
import Derived.Test.YtdipojfngdceoaaRows
import Derived.WalkKit
import Derived.WalkSpells
import Derived.WalkLawsBesides
import Derived.Test.YtdipojfngdceoaaHeap
import Derived.Test.YtdipojfngdceoaaOwnRow
import Derived.Test.YtdipojfngdceoaaLent
namespace Go.Proofs.Ytdipojfngdceoaa
open Go.RowKit Dp

theorem infoBytes : (Try.prog.info? 31).map (fun i => (i.zero, i.size, i.bytes)) = some (some (.slice none 0 0), 1, 24) := by kernel_rfl

namespace Dp
/-- 'string(row[:n])' gives the text back. -/
theorem vals_cell {w : World} {b : Nat} {e : TypeId} {l r : List UInt8} (hb : Row w b e (vals (l ++ r))) (j : Nat) (hj : j < l.length) : w.cell? ((⟨b, 0, none⟩ : Addr).add j) = some (.int .u8 (l[j].toNat : Int)) := by
  have h := hb.cell j
  simp only [vals, List.map_append] at h
  rw [List.getElem?_append_left (by simpa using hj)] at h
  rw [add_zero_off, h]; simp [hj]
end Dp

set_option maxHeartbeats 800000 in
theorem returned_any (s : ByteArray) (w : World) (N b : Nat) (v0 v1 v2 v3 v4 v5 : Value) (xs : List Value) (hs : s.size ≤ 16777216) (hk : xs.length ≤ 16777216)
    (hb : Row w b 5 (vals (s.data.toList ++ [252, 253]))) (hN : Row w N 30 [v0, v1, v2, v3, v4, v5]) (hown : Own w 31 v2 xs) :
    Calls Try.prog 7 #[.pointer (some ⟨N, 0, none⟩), .slice (some ⟨b, 0, none⟩) (s.size + 2) (s.size + 2), .string s] w fun e w' => e = .returned (.bool true) ∧
      Row w' b 5 (List.replicate (s.size + 2) (.int .u8 251)) ∧ Keeps (fun j => j = b ∨ j = N ∨ v2.ownBlock = some j) w w' ∧
      ∃ v2', Row w' N 30 [v0, v1, v2', v3, v4, v5] ∧ Own w' 31 v2' (xs ++ [.slice (some ⟨b, 0, none⟩) (s.size + 2) (s.size + 2)]) ∧ (v2'.ownBlock = v2.ownBlock ∨ ∀ g, v2'.ownBlock = some g → w.heap.size ≤ g) := by
  have hconv := run_convert_bytes_back (P := Try.prog) w 31 9 5 ⟨b, 0, none⟩ (s.size + 2) s.data.toList Try.underlying31 Try.underlying5 Try.underlying9 (vals_cell hb)
  have el : s.data.toList.length = s.size := by simp
  rw [el] at hconv
  have c0 : w.cell? ⟨b, s.size, none⟩ = some (.int .u8 252) := by rw [hb.cell]; simp [vals]
  have c1 : w.cell? ⟨b, s.size + 1, none⟩ = some (.int .u8 253) := by rw [hb.cell]; simp [vals]
  clear el
  go_enter Try.func7, Try.ntmps7
  go_wp2
  clear hconv c0 c1
  go_loopw [9] (fun i wr => ∃ j : Nat, j ≤ s.size + 2 ∧ i = .int .i64 j ∧ Row wr b 5 (List.replicate j (.int .u8 251) ++ (vals (s.data.toList ++ [252, 253])).drop j) ∧ Keeps (fun q => q = b) w wr) (fun i _ => s.size + 2 - (intOf i).toNat)
  case atStart => exact ⟨0, Nat.zero_le _, rfl, by simpa using hb, Keeps.refl _ _⟩
  case round =>
    obtain ⟨j, hj, rfl, rb, kb⟩ := hrel
    by_cases hlt : j < s.size + 2
    · have hlen : (vals (s.data.toList ++ [252, 253])).length = s.size + 2 := by simp [vals]
      obtain ⟨u, cj⟩ : ∃ u, wr.cell? ⟨b, j, none⟩ = some u := ⟨_, fill_cell rb (by omega)⟩
      have fj := rb.frozen j
      have RB : Hid (Row (wr.setCell ⟨b, j, none⟩ (.int .u8 251)) b 5 (List.replicate (j + 1) (.int .u8 251) ++ (vals (s.data.toList ++ [252, 253])).drop (j + 1))) := by
        have h := rb.set j (.int .u8 251)
        rw [fill_step _ _ _ (by omega)] at h
        exact h
      clear hlen
      go_wp2
      go_roundw
      case rel => exact ⟨j + 1, by omega, by go_num, RB.out, kb.setCell (.inr rfl) _⟩
      case measure => simp [intOf]; omega
    · obtain rfl : j = s.size + 2 := by omega
      rw [List.drop_eq_nil_of_le (by simp [vals]), List.append_nil] at rb
      have hNb : N ≠ b := hN.ne hb (by decide)
      have hob := hown.ne hb (by decide)
      have hoN := hown.ne hN (by decide)
      have hN1 := hN.keep kb hNb
      have hown1 := hown.keep kb hob
      have cN : wr.cell? ⟨N, 2, none⟩ = some v2 := hN1.cellAt 2 (by simp)
      have zw := hN1.lt
      clear hN hown hb hlt
      go_wp2_with (at_builtin; refine wpList_append_Own rfl _ _ 25 rfl 31 (.slice none 0 0) 24 Try.underlying25 infoBytes rfl v2 xs rfl (hown1.alloc _) _ 1 1 [.slice (some ⟨b, 0, none⟩) (s.size + 2) (s.size + 2)] rfl rfl (cell_one_new _ _ _) (fun x hx => by simp at hx; subst hx; rfl) (by omega) (by unfold maxLen; omega) (by omega) ?_)
      intro v2' w2 own2 k2 sz2
      have k3 : Keeps (fun k => v2.ownBlock = some k) wr w2 := ((Keeps.refl _ _).alloc _).next k2 (fun _ _ h => h)
      have hN2 := hN1.keep k3 (fun e => hoN N e rfl)
      have cN2 : w2.cell? ⟨N, 2, none⟩ = some v2 := hN2.cellAt 2 (by simp)
      have fN2 := hN2.frozen 2
      have own3 : ∃ ad cap, v2' = .slice ad (xs.length + 1) cap := by simpa using own2.isSlice
      obtain ⟨ad3, cap3, e3⟩ := own3
      have E3 : Hid (v2' = .slice ad3 (xs.length + 1) cap3) := e3
      rw [e3]
      clear e3
      go_wp2
      go_ret
      rw [← E3.out]
      have hb2 := rb.keep k3 (fun e => hob b e rfl)
      refine ⟨rfl, hb2.setOther _ _ (Ne.symm hNb), ?_, v2', hN2.set 2 v2', ?_, ?_⟩
      · refine Keeps.setCell ?_ (.inr (.inr (.inl rfl))) _
        exact (kb.mono (fun k _ e => .inl e)).next k3 (fun k _ e => .inr (.inr e))
      · refine own2.keep ((Keeps.refl (fun k => k = N) w2).setCell (.inr rfl) _) ?_
        intro g hg e
        subst e
        exact own2.ne hN2 (by decide) g hg rfl
      · rcases sz2.out with h | h
        · exact .inl h.1
        · refine .inr fun g hg => ?_
          rw [h.1] at hg
          have := kb.size
          simp at hg
          omega

end Go.Proofs.Ytdipojfngdceoaa

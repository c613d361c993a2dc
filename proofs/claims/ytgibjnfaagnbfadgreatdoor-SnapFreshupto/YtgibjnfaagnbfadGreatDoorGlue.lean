/-
  Texts put together; one byte as a text.
-/
import Derived.Test.YtgibjnfaagnbfadGreatDoorBytes
namespace Go.Proofs.YtgibjnfaagnbfadGreatDoor
open Go.RowKit

theorem bs_app (a b : List UInt8) : bs a ++ bs b = bs (a ++ b) := by
  show ByteArray.mk a.toArray ++ ByteArray.mk b.toArray = ByteArray.mk (a ++ b).toArray
  rw [ByteArray.mk_append_mk]
theorem ys_one (w : World) (c : UInt8) (m : Int) (hm : m = (c.toNat : Int)) : YS (w.alloc (.cells #[.int .u8 m] 5)) (.slice (some ⟨w.heap.size, 0, none⟩) 1 1) [c] := by
  subst hm
  refine .inr ⟨w.heap.size, 0, 1, rfl, Nat.le_refl _, by simp, fun i u hu => ?_⟩
  have h := heap_alloc_new w (.cells #[.int .u8 (c.toNat : Int)] 5)
  rw [show (0 + i) = i by omega]
  simp only [World.cell?, h]
  have : bc [c] = [.int .u8 (c.toNat : Int)] := rfl
  rw [this] at hu
  simpa using hu
theorem bs_head (s : List UInt8) (A : Nat) : (bs s).extract 0 A = bs (s.take A) := by rw [bs_extract]; simp
theorem bs_tail (s : List UInt8) (A m : Nat) (h : s.length ≤ m) : (bs s).extract A m = bs (s.drop A) := by
  rw [bs_extract, List.take_of_length_le (by simp; omega)]
theorem byte_of {x : Int} (h0 : 0 ≤ x) (h1 : x ≤ 255) : ∃ b : UInt8, x = (b.toNat : Int) := ⟨UInt8.ofNat x.toNat, by
  have : (UInt8.ofNat x.toNat).toNat = x.toNat := by simp; omega
  rw [this]; omega⟩
end Go.Proofs.YtgibjnfaagnbfadGreatDoor

import Derived.Test.YtdbdljjhhehbiaaGreatProg
import Derived.WalkKit
import Derived.WalkSpells
import Derived.WalkLawsBesides
namespace Go.Proofs.YtdbdljjhhehbiaaGreat
open Go.RowKit

/-- Bytes as a text. -/
def bs (l : List UInt8) : ByteArray := ⟨l.toArray⟩
theorem bs_size (l : List UInt8) : (bs l).size = l.length := by simp [bs, ByteArray.size]
theorem bs_append (a b : List UInt8) : bs a ++ bs b = bs (a ++ b) := by simp [bs, ByteArray.mk_append_mk]
theorem bs_of (s : ByteArray) : bs s.data.toList = s := by simp [bs]
theorem bs_nil : bs [] = ⟨#[]⟩ := rfl
/-- The lowest byte of a number. -/
def byt (n : Int) : UInt8 := UInt8.ofNat (n % 256).toNat
theorem byt_toNat (n : Int) : ((byt n).toNat : Int) = n % 256 := by
  unfold byt
  rw [UInt8.toNat_ofNat']
  omega
theorem ret_str {a b : ByteArray} (h : a = b) : Ending.returned (.string a) = .returned (.string b) := by rw [h]

/-- Only new memory, twice. -/
theorem bl2 {a b c : World} (h : Below a.heap.size a b) (k : Below b.heap.size b c) : Below a.heap.size a c := h.trans (k.mono h.size)

set_option maxRecDepth 100000 in
set_option maxHeartbeats 400000 in
theorem one_any (n : Int) (w : World) :
    Calls Tryz.prog 108 #[.int .i64 n] w fun e w' => e = .returned (.string (bs [byt n])) ∧ Below w.heap.size w w' := by
  have hcv := run_convert_bytes_arg (P := Tryz.prog) (w.alloc (.cells #[.int .u8 (n % 256)] 5)) 81 5 Tryz.underlying81 Tryz.underlying5 w.heap.size 0 1 1 [n % 256] rfl
    (by intro i hi; match i, hi with | 0, _ => simp) 9 Tryz.underlying9
  go_enter Tryz.func108, Tryz.ntmps108
  go_wp2
  go_ret
  exact ⟨ret_str (by simp [strOfNums, bs, byt]), (Below.refl _ _).alloc (Nat.le_refl _) _⟩

end Go.Proofs.YtdbdljjhhehbiaaGreat

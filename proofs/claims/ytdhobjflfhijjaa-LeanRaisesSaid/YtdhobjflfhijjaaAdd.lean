/- The library's sum with carry at this translation: the shelf's law, laid; and how far a mark is, in both programs. -/
import Derived.Shelf.Spec.BitsCarry
import Derived.Test.YtdhobjflfhijjaaRcmp
namespace Go.Proofs.Ytdhobjflfhijjaa
open Go.Shelf
def lays25_ren : Go.Shelf.Ren := ⟨fun | 25 => 114 | n => n, fun | 22 => 106 | n => n, fun | n => n⟩
theorem lays25 : Go.Proofs.Lays7.n25 Try.prog lays25_ren := {
  mixed := by kernel_rfl
  f25 := Try.func114.trans (congrArg some (by kernel_rfl))
  t22 := Try.underlying106
  a22 := Try.isAgg106
  z22 := Try.sizeOf106
  v22 := Try.zeroValue106
  i22 := by kernel_rfl }
theorem add64_run (x y : Nat) (h : x + y < 18446744073709551616) (w : World) :
    (callFunc 114 #[.int .u64 (x : Int), .int .u64 (y : Int), .int .u64 0]).run Try.prog w = .ok (.value (.tuple #[.int .u64 ((x + y : Nat) : Int), .int .u64 0])) w := by
  have := Any7.bits_Add64 lays25 x y 0 (by omega) w
  rw [show (x + y + 0) % 18446744073709551616 = x + y by omega, show (x + y + 0) / 18446744073709551616 = 0 by omega] at this
  exact this
end Go.Proofs.Ytdhobjflfhijjaa

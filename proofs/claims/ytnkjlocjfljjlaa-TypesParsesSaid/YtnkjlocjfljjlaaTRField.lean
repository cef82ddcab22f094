/- The contract of the document's Field, of all kinds. Condition: the types can be read. -/
import Derived.Test.YtnkjlocjfljjlaaTRFieldB
namespace Go.Proofs.Ytnkjlocjfljjlaa
open Go.RowKit
section
variable {w : World}
theorem rfield_any (A : Option Addr) (n cap : Nat) (ts : List Ty) (h : Lt w A n cap ts) (nm : ByteArray) (v r : Bool) (FS : Value) (f : Fd) :
    Calls Try.prog 45 #[.slice A n cap, .agg #[.string nm, .bool v, .bool r, FS], fv f] w fun e w' => e = .returned (.int .i64 (fdE ts v f : Nat)) ∧ Below w.heap.size w w' := by
  obtain ⟨kd, ln, ty, lk, ky⟩ := f
  rcases kinds kd with rfl | rfl | rfl | rfl | rfl | rfl | rfl | hk
  · exact rfield_1 A n cap ts nm v r FS ln ty lk ky
  · exact rfield_2 A n cap ts h nm v r FS ln ty lk ky
  · exact rfield_3 A n cap ts nm v r FS ln ty lk ky
  · exact rfield_4 A n cap ts nm v r FS ln ty lk ky
  · exact rfield_5 A n cap ts h nm v r FS ln ty lk ky
  · exact rfield_6 A n cap ts h nm v r FS ln ty lk ky
  · exact rfield_7 A n cap ts nm v r FS ln ty lk ky
  · exact rfield_0 A n cap ts nm v r FS kd ln ty lk ky hk
end
end Go.Proofs.Ytnkjlocjfljjlaa

/- Two dices of one call: each in a block of its own behind what was there. -/
import Derived.Test.YtdckgbinfblpiaaDiceObj
namespace Go.Proofs.Ytdckgbinfblpiaa.DiceTwo
open Go.RowKit Mem
structure Two (w0 : World) (td te : TypeId) (gd ge : Nat) (w : World) (s k s' k' : Int) : Prop where
  below : Below w0.heap.size w0 w
  d : Has w gd td #[.int .u64 s, .int .i64 k]
  e : Has w ge te #[.int .u64 s', .int .i64 k']
  hd : w0.heap.size ≤ gd
  he : w0.heap.size ≤ ge
  ne : gd ≠ ge
section
variable {w0 w w' : World} {td te : TypeId} {gd ge : Nat} {s k s' k' : Int}
theorem Two.stepD {t m : Int} (T : Two w0 td te gd ge w s k s' k') (h : Has w' gd td #[.int .u64 t, .int .i64 m]) (hg : w.grownBy w' (some gd)) : Two w0 td te gd ge w' t m s' k' :=
  ⟨below_own T.below hg T.below.size T.hd, h, T.e.grown hg (fun e => T.ne (Option.some.inj e).symm), T.hd, T.he, T.ne⟩
theorem Two.stepE {t m : Int} (T : Two w0 td te gd ge w s k s' k') (h : Has w' ge te #[.int .u64 t, .int .i64 m]) (hg : w.grownBy w' (some ge)) : Two w0 td te gd ge w' s k t m :=
  ⟨below_own T.below hg T.below.size T.he, T.d.grown hg (fun e => T.ne (Option.some.inj e)), h, T.hd, T.he, T.ne⟩
theorem Two.alloc (T : Two w0 td te gd ge w s k s' k') (o : Obj) : Two w0 td te gd ge (w.alloc o) s k s' k' :=
  ⟨T.below.alloc T.below.size o, T.d.alloc o, T.e.alloc o, T.hd, T.he, T.ne⟩
theorem Two.drew (T : Two w0 td te gd ge w s k s' k') : Two w0 td te gd ge w.drew s k s' k' :=
  ⟨⟨T.below.os, T.below.tape, T.below.output, T.below.size, T.below.block⟩, T.d.drew, T.e.drew, T.hd, T.he, T.ne⟩
theorem Two.drewN (T : Two w0 td te gd ge w s k s' k') (n : Nat) : Two w0 td te gd ge (w.drewN n) s k s' k' :=
  ⟨⟨T.below.os, T.below.tape, T.below.output, T.below.size, T.below.block⟩, T.d.drewN n, T.e.drewN n, T.hd, T.he, T.ne⟩
/-- two new blocks, one behind the other -/
theorem Two.made {w0 w1 : World} (hb : Below w0.heap.size w0 w1) (td te : TypeId) (s k s' k' : Int) :
    Two w0 td te w1.heap.size (w1.heap.size + 1) ((w1.alloc (.cells #[.int .u64 s, .int .i64 k] td)).alloc (.cells #[.int .u64 s', .int .i64 k'] te)) s k s' k' :=
  ⟨(hb.alloc hb.size _).alloc (by have := hb.size; simp; omega) _, (Has.new w1 td _).alloc _, by
    have := Has.new (w1.alloc (.cells #[.int .u64 s, .int .i64 k] td)) te #[.int .u64 s', .int .i64 k']
    simpa using this, hb.size, by have := hb.size; omega, by omega⟩
end
end Go.Proofs.Ytdckgbinfblpiaa.DiceTwo

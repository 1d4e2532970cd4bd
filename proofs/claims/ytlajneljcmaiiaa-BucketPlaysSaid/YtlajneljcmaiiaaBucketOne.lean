/- A bucket of one call's own, and the document's example that each law begins with. -/
import Derived.Test.YtlajneljcmaiiaaBucketOps
namespace Go.Proofs.Ytlajneljcmaiiaa.BucketOne
open Go.ChangeShapes Go.WideShapes Go.ChangeAt Go.RowKit BucketPure BucketObj BucketOps Mem

structure One (w0 : World) (g : Nat) (t : TypeId) (w : World) (b : B) : Prop where
  below : Below w0.heap.size w0 w
  bk : Bk w g t b
  ok : Ok b
  hg : w0.heap.size ≤ g
section
variable {w0 w w' : World} {g : Nat} {t : TypeId} {b b' : B}
theorem One.step (h : One w0 g t w b) (hb : Bk w' g t b') (hg : w.grownBy w' (some g)) (ok : Ok b') : One w0 g t w' b' :=
  ⟨below_own h.below hg h.below.size h.hg, hb, ok, h.hg⟩
theorem One.made {w1 : World} (hb : Below w0.heap.size w0 w1) {m f e now : Int} (ok : Ok (full m f e now)) :
    One w0 w1.heap.size t (w1.alloc (.cells #[.int .i64 m, .int .i64 f, .int .i64 e, .int .i64 m, .int .i64 now, .int .i64 now] t)) (full m f e now) :=
  ⟨hb.alloc hb.size _, Has.new w1 t _, ok, hb.size⟩
theorem One.alloc (h : One w0 g t w b) (o : Obj) : One w0 g t (w.alloc o) b := ⟨h.below.alloc h.below.size o, h.bk.alloc o, h.ok, h.hg⟩
theorem One.drewN (h : One w0 g t w b) (n : Nat) : One w0 g t (w.drewN n) b :=
  ⟨⟨h.below.os, h.below.tape, h.below.output, h.below.size, h.below.block⟩, h.bk.drewN n, h.ok, h.hg⟩
end
/-- two buckets of one call -/
structure Two (w0 : World) (ga gb : Nat) (ta tb : TypeId) (w : World) (a b : B) : Prop where
  one : One w0 ga ta w a
  two : One w0 gb tb w b
  ne : ga ≠ gb
section
variable {w0 w w' : World} {ga gb : Nat} {ta tb : TypeId} {a b a' b' : B}
theorem Two.stepA (h : Two w0 ga gb ta tb w a b) (hb : Bk w' ga ta a') (hg : w.grownBy w' (some ga)) (ok : Ok a') : Two w0 ga gb ta tb w' a' b :=
  ⟨h.one.step hb hg ok, ⟨below_own h.one.below hg h.one.below.size h.one.hg, h.two.bk.grown hg (fun e => h.ne (Option.some.inj e).symm), h.two.ok, h.two.hg⟩, h.ne⟩
theorem Two.stepB (h : Two w0 ga gb ta tb w a b) (hb : Bk w' gb tb b') (hg : w.grownBy w' (some gb)) (ok : Ok b') : Two w0 ga gb ta tb w' a b' :=
  ⟨⟨below_own h.two.below hg h.two.below.size h.two.hg, h.one.bk.grown hg (fun e => h.ne (Option.some.inj e)), h.one.ok, h.one.hg⟩, h.two.step hb hg ok, h.ne⟩
theorem Two.alloc (h : Two w0 ga gb ta tb w a b) (o : Obj) : Two w0 ga gb ta tb (w.alloc o) a b := ⟨h.one.alloc o, h.two.alloc o, h.ne⟩
theorem Two.drewN (h : Two w0 ga gb ta tb w a b) (n : Nat) : Two w0 ga gb ta tb (w.drewN n) a b := ⟨h.one.drewN n, h.two.drewN n, h.ne⟩
theorem Two.made {w1 : World} (hb : Below w0.heap.size w0 w1) {m f e now : Int} (ok : Ok (full m f e now)) :
    Two w0 w1.heap.size (w1.heap.size + 1) ta tb
      ((w1.alloc (.cells #[.int .i64 m, .int .i64 f, .int .i64 e, .int .i64 m, .int .i64 now, .int .i64 now] ta)).alloc (.cells #[.int .i64 m, .int .i64 f, .int .i64 e, .int .i64 m, .int .i64 now, .int .i64 now] tb)) (full m f e now) (full m f e now) := by
  have h1 : One w0 w1.heap.size ta _ (full m f e now) := One.made hb ok
  have h2 : One w0 _ tb _ (full m f e now) := One.made h1.below ok
  refine ⟨h1.alloc _, ?_, by omega⟩
  simpa using h2
end
/-- the example begins -/
theorem anchor_any (w : World) :
    Calls Try.prog 8 #[] w fun e w' => e = .returned (.bool true) ∧ Below w.heap.size w w' := by
  have k1 : Ok (full 4 2 10 0) := full_ok (by decide) (by decide) (by decide) (by decide) (by decide)
  have k2 : Ok (takeB (full 4 2 10 0) 0 3) := takeB_ok k1 0 3
  have v0 : newE 4 2 10 0 = 0 := by decide
  have v1 : takeR (full 4 2 10 0) 0 3 = true := by decide
  have v2 : passE (full 4 2 10 0) 0 = 0 := by decide
  have v3 : tokR (takeB (full 4 2 10 0) 0 3) 9 = 1 := by decide
  have v4 : passE (takeB (full 4 2 10 0) 0 3) 9 = 0 := by decide
  have V1 := Lib.hid v1
  have V2 := Lib.hid v2
  have V3 := Lib.hid v3
  have V4 := Lib.hid v4
  clear v1 v2 v3 v4
  go_enter Try.func8, Try.ntmps8
  go_wp2_with fail
  refine (new_ok _ _ _ _ v0 _).mono ?_
  rintro e w' ⟨rfl, rfl⟩
  have O1 : One w w.heap.size 51 _ (full 4 2 10 0) := One.made (Below.refl _ w) k1
  generalize (w.alloc _) = w1 at *
  generalize hG : w.heap.size = gd at *
  clear v0
  go_wp2_with fail
  refine (take_any _ _ _ _ k1 _ O1.bk).mono ?_
  rintro e w2 ⟨rfl, h', hg⟩
  have O2 := O1.step h' hg k2
  rw [V1.out, V2.out]
  clear O1 h' hg
  go_wp2_with fail
  refine (tokens_any _ _ _ k2 _ O2.bk).mono ?_
  rintro e w3 ⟨rfl, h', hg⟩
  have O3 := O2.step h' hg (passB_ok k2 _)
  rw [V3.out, V4.out]
  clear O2 h' hg
  go_wp2_with fail
  go_ret
  subst hG
  exact ⟨rfl, O3.below⟩
end Go.Proofs.Ytlajneljcmaiiaa.BucketOne

/- For every text and byte the hash of the text with the byte behind it goes on from the text's hash: DiceChains returns true. No condition. -/
import Derived.Test.YtdckgbinfblpiaaDiceWalks
import Derived.Test.YtdckgbinfblpiaaLawBase
import Derived.Laws.IdiomStrings
import Derived.Laws.Concat
namespace Go.Proofs.Ytdckgbinfblpiaa.DiceChainsP
open Go.ChangeShapes Go.WideShapes Go.ChangeAt Go.RowKit DiceMath DiceWalks
theorem conv1 {P : Program} (W : World) (src dst e : TypeId) (b : UInt8) (hs : P.underlying src = some (.slice e)) (he : P.underlying e = some (.int .u8)) (hd : P.underlying dst = some .string) :
    (convert src dst (.slice (some ⟨W.heap.size, 0, none⟩) 1 1)).run P (W.alloc (.cells #[.int .u8 (b.toNat : Int)] e)) = .ok (.string ⟨#[b]⟩) (W.alloc (.cells #[.int .u8 (b.toNat : Int)] e)) :=
  run_convert_bytes_back (P := P) _ src dst e ⟨W.heap.size, 0, none⟩ 1 [b] hs he hd (fun j hj => by
    have : j = 0 := by simp at hj; exact hj
    subst this
    go_simp)
theorem app_list (s : ByteArray) (b : UInt8) : (s ++ (⟨#[b]⟩ : ByteArray)).data.toList = s.data.toList ++ [b] := by
  simp
theorem last (l : List UInt8) (b : UInt8) :
    (hashI (l ++ [b]) == IntKind.u64.wrap (bits .xor .u64 (hashI l) (IntKind.u64.wrap (b.toNat : Int)) * 1099511628211)) = true := by
  rw [wrap_byte, hash_step]; exact beq_self_eq_true _
theorem walk (a0 : ByteArray) (w0 : a0.size ≤ maxLen) (z0 : a0.size ≤ 140737488351232) (a1 : Int) (w1 : (Lit.int .u8 a1).wf = true) (w : World) :
    Calls Try.prog 5 #[.string a0, .int .u8 a1] w fun e w' => e = .returned (.bool true) ∧ Below w.heap.size w w' := by
  have H1 := Lib.hid w0
  clear w0
  obtain ⟨b, rfl⟩ : ∃ b : UInt8, a1 = (b.toNat : Int) := by
    obtain ⟨h0, h1⟩ := bounds_u8 w1
    exact ⟨UInt8.ofNat a1.toNat, by simp; omega⟩
  clear w1
  have t0 : (hashI [97] != 12638187200555641996) = false := by decide +kernel
  have hcv := fun W => conv1 (P := Try.prog) W 40 9 5 b Try.underlying40 Try.underlying5 Try.underlying9
  have t1 := Lib.hid (last a0.data.toList b)
  go_enter Try.func5, Try.ntmps5
  go_wp2_with (first
    | (go_at_call 9; refine (anchor_any _).mono ?_; rintro e w1 ⟨rfl, hb⟩))
  refine (hash_any _ (by decide) _).mono ?_
  rintro e w' ⟨rfl, rfl⟩
  go_wp2_with fail
  refine (hash_any _ (by unfold maxLen; simp [ByteArray.size_append]; show a0.size + 1 ≤ _; omega) _).mono ?_
  rintro e w' ⟨rfl, rfl⟩
  rw [app_list]
  go_wp2_with fail
  refine (hash_any _ H1.out _).mono ?_
  rintro e w' ⟨rfl, rfl⟩
  go_wp2_with fail
  go_ret
  exact ⟨congrArg (fun b => Ending.returned (.bool b)) t1.out, hb.alloc hb.size _⟩

/-! ### the row's step -/
set_option maxRecDepth 100000 in
theorem lifted (os : Os) (started : os.Started) (H : Type) (enc : TypeId × Value → H) :
    ReturnsInHanded {} Try.checked os 5 .any (Rows.diceChainsSpec.pre6 enc Try.prog Try.f5 Rows.diceChainsRow.domain false) (Rows.diceChainsSpec.post enc Try.prog Try.f5 false true false false) := by
  refine returnsInHanded_of_change_sized (C := Try.checked) LawBase.own started (by kernel_rfl) Try.func5
    (ChangeSpec.witness6 (enc := enc) (C := Try.checked) false ⟨#[], #[.string ⟨#[]⟩, .int .u8 0], []⟩ 8 (by kernel_rfl) (by kernel_rfl) (by kernel_rfl) (by kernel_rfl)) ?_
  intro W base args ds gs before hval0 hW hcnd hsz0 _
  have hval : ∀ (j : Nat) t v, Try.f5.params[j]? = some t → args[j]? = some v → Value.okWide Try.prog W .any base t v := hval0
  have hW' := hW
  obtain ⟨p, q, hA0, hV, rfl, hfz, hnd⟩ := hW
  have hA : DataW.TrodAll enc Try.prog W 0 (fun _ => true) true Try.f5.params.toList args.toList ds p := hA0
  rw [Try.params5] at hA hval
  have hlt : ∀ x ∈ p ++ q, x.block < W.heap.size := fun x hx => by simpa using hW'.lt x hx
  obtain ⟨v0, vs0, d0, ds0, p0, q0, hargs, rfl, rfl, h0, r0⟩ := trodAll_cons hA
  obtain ⟨v1, vs1, d1, ds1, p1, q1, rfl, rfl, rfl, h1, r1⟩ := trodAll_cons r0
  obtain ⟨rfl, rfl, rfl⟩ := trodAll_nil r1
  obtain rfl : args = #[v0, v1] := by cases args; simp_all
  obtain ⟨rfl, rfl⟩ := trodVars_none hV
  obtain ⟨a0, rfl, rfl, rfl, w0⟩ := Go.ChangeMaps.open_string Try.underlying9 (hval 0 9 v0 rfl rfl) h0
  obtain ⟨a1, rfl, rfl, rfl, w1⟩ := open_int Try.underlying5 (hval 1 5 v1 rfl rfl) h1
  have z0 : a0.size ≤ 140737488351232 := LawKit.weight_string (LawKit.weights_get _ _ 0 9 _ hsz0 rfl rfl)
  refine (walk a0 w0 z0 a1 w1 W).mono fun e W' ⟨he, hb⟩ => ?_
  subst he
  exact ⟨_, rfl, LawKit.law_post LawBase.laidOut (by kernel_rfl) hW' rfl rfl (by kernel_rfl) Try.underlying4 hb⟩

theorem over : Rows.diceChainsRow.holds Try.pinned (OpenSpec.ofChange Rows.diceChainsSpec) :=
  OpenClaim.holds_of_wide 5 Try.f5 rfl rfl rfl rfl rfl rfl rfl ⟨rfl, rfl, rfl, rfl, rfl⟩ rfl rfl rfl rfl rfl (by kernel_rfl) Try.func5 (by kernel_rfl)
    (of_decide_eq_true (by kernel_rfl)) (by unfold Func.isWrapper; first | (rw [if_pos (by decide +kernel)]; kernel_rfl) | (rw [if_neg (by decide +kernel)]; exact ⟨rfl, rfl⟩))
    (fun os started H enc _ => lifted os started H enc)

/-- THE STATEMENT -/
theorem proved : Rows.DiceChainsSaid :=
  over
end Go.Proofs.Ytdckgbinfblpiaa.DiceChainsP

/- Texts of this seat, one behind another: TAny, TAnyAll, TAbs, TRemote, PAlike, TParse, TEq, TAnchor, LawCard. -/
import Derived.Lib.Hide
import Derived.Outline
import Derived.LoopTactic
import Derived.Deep.LoopGhost
import Derived.Handy
import Derived.WalkMore
import Derived.Deep.QuietTactic
import Derived.BigQuiet
import Derived.Laws.Strings3
import Derived.Laws.DeepStrings4
import Derived.Below
import Derived.Laws.StructEq
import Derived.Test.YtaiipdjibllodaaDoorCards
import Derived.Test.YtaiipdjibllodaaDoorTie
import Derived.Deep.DeepHandedRow
import Derived.Lay
import Derived.SevenTiedAt
import Derived.Test.YtaiipdjibllodaaDoorB1
import Derived.Test.YtaiipdjibllodaaDoorA1
/- strings.IndexAny at the two bytes that end an authority, of any text. -/
namespace Go.Proofs.YtaiipdjibllodaaDoor.TAny
open Go.ChangeShapes Go.WideShapes Go.ChangeAt Go.RowKit LexPure Bytes TargetPure UtfPure Mem
set_option maxRecDepth 20000
theorem valid_yes (r : Int) (h0 : 128 ≤ r) (hv : r < 55296 ∨ (57343 < r ∧ r ≤ 1114111)) (w : World) :
    Calls Tryd.prog 62 #[.int .i32 r] w fun e w' => e = .returned (.bool true) ∧ w = w' := by
  have hp : (0 : Int) ≤ r := by omega
  rcases hv with h | ⟨h, h2⟩
  · go_enter Tryd.func62, Tryd.ntmps62
    go_wp2_with fail
    go_ret
    exact ⟨rfl, rfl⟩
  · have hn : ¬ r < 55296 := by omega
    go_enter Tryd.func62, Tryd.ntmps62
    go_wp2_with fail
    go_ret
    exact ⟨rfl, rfl⟩
theorem valid_no (r : Int) (_h0 : 128 ≤ r) (hv : ¬ (r < 55296 ∨ (57343 < r ∧ r ≤ 1114111))) (w : World) :
    Calls Tryd.prog 62 #[.int .i32 r] w fun e w' => e = .returned (.bool false) ∧ w = w' := by
  have hp : (0 : Int) ≤ r := by omega
  have hn : ¬ r < 55296 := by omega
  rcases (show r ≤ 57343 ∨ (57343 < r ∧ 1114111 < r) by omega) with h | ⟨h, h2⟩
  · go_enter Tryd.func62, Tryd.ntmps62
    go_wp2_with fail
    go_ret
    exact ⟨rfl, rfl⟩
  · go_enter Tryd.func62, Tryd.ntmps62
    go_wp2_with fail
    go_ret
    exact ⟨rfl, rfl⟩
theorem lib_none (b : UInt8) (w : World) :
    Calls Tryd.prog 61 #[.string ByteArray.empty, .int .u8 (b.toNat : Int)] w fun e w' => e = .returned (.int .i64 (-1)) ∧ w' = w :=
  Any.strings_IndexByte { Tryd.lays153 with } ByteArray.empty (b.toNat : Int) w
set_option maxHeartbeats 1600000 in
/-- a rune beyond the first 128 isn't among the two -/
theorem rune_high (r : Int) (h0 : 128 ≤ r) (w : World) :
    Calls Tryd.prog 45 #[.string ⟨#[47, 63]⟩, .int .i32 r] w fun e w' => e = .returned (.int .i64 (-1)) ∧ Below w.heap.size w w' := by
  have h1 : ¬ r < 128 := by omega
  by_cases he : r = 65533
  · subst he
    go_enter Tryd.func45, Tryd.ntmps45
    go_wp2_with fail
    go_loopg [5, 6] 2 (fun g _ _ wx => ∃ i : Nat, i + g = 2 ∧ wx = w.iter ⟨#[47, 63]⟩ i)
    case atStart => exact ⟨0, by omega, rfl⟩
    case round =>
      obtain ⟨i, hig, rfl⟩ := hrel
      cases gk with
      | zero =>
        obtain rfl : i = 2 := by omega
        have hnx := run_next_end (P := Tryd.prog) w ⟨#[47, 63]⟩ 2
        go_wp2_with fail
        go_ret
        exact ⟨rfl, (Below.refl _ _).alloc (Nat.le_refl _) _⟩
      | succ g =>
        rcases (show i = 0 ∨ i = 1 by omega) with rfl | rfl
        · have hnx := fun ty => run_next_ascii (P := Tryd.prog) w ⟨#[47, 63]⟩ 0 ty (by decide) (by decide)
          go_wp2_with fail
          go_roundg g
          case measure => omega
          case rel => exact ⟨1, by omega, rfl⟩
        · have hnx := fun ty => run_next_ascii (P := Tryd.prog) w ⟨#[47, 63]⟩ 1 ty (by decide) (by decide)
          go_wp2_with fail
          go_roundg g
          case measure => omega
          case rel => exact ⟨2, by omega, rfl⟩
  · by_cases hv : (r < 55296 ∨ (57343 < r ∧ r ≤ 1114111))
    · have HV := Lib.hid (valid_yes r h0 hv)
      have hq : (r == 65533) = false := beq_eq_false_iff_ne.2 he
      rcases encode_high h0 with ⟨e1, e2, e3⟩ | e1
      · have HI := Lib.hid (lib_none (((Utf8.encode r)[1]'e2)))
        have e4 : (1 : Int) < ((Utf8.encode r).size : Int) := by omega
        have hcv : ∀ w, (Go.convert 21 9 (.int .i32 r)).run Tryd.prog w = .ok (.string (Utf8.encode r)) w := fun w => run_convert_int_string w _ _ .i32 r (by kernel_rfl) Tryd.underlying9
        clear he hv
        generalize Utf8.encode r = E at *
        go_enter Tryd.func45, Tryd.ntmps45
        go_wp2_with (refine (HV.out _).mono ?_; rintro e w' ⟨rfl, rfl⟩)
        go_step3
        go_wp2_with fail
        go_loop [9, 10] (fun i f => i = .int .i64 1 ∧ f = .int .i64 0) (fun _ _ => 0)
        case atStart => exact ⟨rfl, rfl⟩
        case round =>
          obtain ⟨rfl, rfl⟩ := hrel
          go_wp2_with fail
          go_step3
          go_wp2_with fail
          go_quiet (fail)
          go_wp2_with fail
          · generalize hW2 : w.drewN _ = W2
            replace hW2 := Lib.hid hW2
            go_quiet ((go_at_call 61; exact Calls.quiet_of_same (HI.out _)))
            go_wp2_with fail
            simp +zetaDelta only [Exit.noGoto_ret, Exit.inBlock, Exit.then]
            go_ret
            rw [← hW2.out]
            exact ⟨rfl, rfl, rfl, rfl, Nat.le_refl _, fun _ _ => rfl⟩
          · exfalso
            have hx : ((((⟨#[47, 63]⟩ : ByteArray)[1]'(by decide)).toNat : Nat) : Int) = ((E[1]'e2).toNat : Int) := bne_eq_false_iff_eq.1 (by assumption)
            have h63 : ((⟨#[47, 63]⟩ : ByteArray)[1]'(by decide)).toNat = 63 := rfl
            omega
      · have hcv : ∀ w, (Go.convert 21 9 (.int .i32 r)).run Tryd.prog w = .ok (.string (Utf8.encode r)) w := fun w => run_convert_int_string w _ _ .i32 r (by kernel_rfl) Tryd.underlying9
        have e4 : (3 : Int) ≤ ((Utf8.encode r).size : Int) := by omega
        have e5 := encode_few r
        have e6 : ((Utf8.encode r).size : Int) ≤ 4 := by omega
        clear he hv e1 e5
        generalize Utf8.encode r = E at *
        go_enter Tryd.func45, Tryd.ntmps45
        go_wp2_with (refine (HV.out _).mono ?_; rintro e w' ⟨rfl, rfl⟩)
        go_step3
        go_wp2_with fail
        go_loop [9, 10] (fun i f => i = .int .i64 ((E.size : Int) - 1) ∧ f = .int .i64 0) (fun _ _ => 0)
        case atStart => exact ⟨rfl, rfl⟩
        case round =>
          obtain ⟨rfl, rfl⟩ := hrel
          go_wp2_with fail
          repeat rw [Exit.noGoto_ret]
          go_ret
          exact ⟨rfl, Below.refl _ _⟩
    · have HV := Lib.hid (valid_no r h0 hv)
      have hq : (r == 65533) = false := beq_eq_false_iff_ne.2 he
      clear he hv
      go_enter Tryd.func45, Tryd.ntmps45
      go_wp2_with (refine (HV.out _).mono ?_; rintro e w' ⟨rfl, rfl⟩)
      go_ret
      exact ⟨rfl, Below.refl _ _⟩
end Go.Proofs.YtaiipdjibllodaaDoor.TAny

/- strings.IndexAny at the two bytes that end an authority, of any text: the call. -/
namespace Go.Proofs.YtaiipdjibllodaaDoor.TAnyAll
open Go.ChangeShapes Go.WideShapes Go.ChangeAt Go.RowKit LexPure Bytes TargetPure UtfPure Mem TAny
set_option maxRecDepth 20000
/-- the world with the iterator moved -/
def moved (W : World) (k : Nat) (s : ByteArray) (pos : Nat) : World := { W with heap := W.heap.setIfInBounds k (.stringIter s pos) }
theorem next_in {P : Program} {W : World} {k : Nat} {s : ByteArray} {pos : Nat} (hI : W.heap[k]? = some (.stringIter s pos)) (ty : TypeId) (h : pos < s.size) :
    (Instr.next (.pointer (some ⟨k, 0, none⟩)) true ty).run P W = .ok (.tuple #[.bool true, .int .i64 pos, .int .i32 (Utf8.decode s pos).1]) (moved W k s (pos + (Utf8.decode s pos).2)) := by
  simp only [Instr.next, getObj, setObj, Sem.run_bind, Sem.run, hI, Result.andThen, h, if_true]
  simp [goInt, moved]
theorem end_in {P : Program} {W : World} {k : Nat} {s : ByteArray} {pos : Nat} (hI : W.heap[k]? = some (.stringIter s pos)) (ty : TypeId) (h : ¬ pos < s.size) :
    (Instr.next (.pointer (some ⟨k, 0, none⟩)) true ty).run P W = .ok (.tuple #[.bool false]) W := by
  simp [Instr.next, getObj, Sem.run, hI, h]
/-- the iterator of a call that began in w stands at pos -/
structure It (w : World) (k : Nat) (s : ByteArray) (pos : Nat) (W : World) : Prop where
  le : w.heap.size ≤ k
  lt : k < W.heap.size
  iter : W.heap[k]? = some (.stringIter s pos)
  below : Below w.heap.size w W
theorem It.start (w : World) (s : ByteArray) : It w w.heap.size s 0 (w.iter s 0) :=
  ⟨Nat.le_refl _, by simp [World.iter], World.iter_heap _ _ _, (Below.refl _ _).alloc (Nat.le_refl _) _⟩
theorem It.move {w W : World} {k : Nat} {s : ByteArray} {pos : Nat} (h : It w k s pos W) (pos' : Nat) : It w k s pos' (moved W k s pos') := by
  refine ⟨h.le, ?_, ?_, ⟨h.below.os, h.below.tape, h.below.output, ?_, fun j hj => ?_⟩⟩
  · unfold moved; simpa using h.lt
  · unfold moved
    simp only [Array.getElem?_setIfInBounds, if_true]
    rw [if_pos h.lt]
  · unfold moved; simpa using h.below.size
  · unfold moved
    have hk := h.le
    simp only [Array.getElem?_setIfInBounds]
    rw [if_neg (by omega)]
    exact h.below.block j hj
theorem It.call {w W W' : World} {k : Nat} {s : ByteArray} {pos : Nat} (h : It w k s pos W) (hb : Below W.heap.size W W') : It w k s pos W' :=
  ⟨h.le, Nat.lt_of_lt_of_le h.lt hb.size, (hb.block k h.lt).trans h.iter, below_chain h.below hb⟩
theorem rune_low (b : UInt8) (hb : b.toNat < 128) (w : World) :
    Calls Tryd.prog 45 #[.string ⟨#[47, 63]⟩, .int .i32 (b.toNat : Int)] w fun e w' => e = .returned (.int .i64 (Lib.indexByte ENDS b)) ∧ Below w.heap.size w w' := by
  have h := Any.strings_IndexRune_ascii { Tryd.lays153 with } ⟨#[47, 63]⟩ (b.toNat : Int) w (by omega) (by omega)
  rw [show ((b.toNat : Int)).toNat.toUInt8 = b by simp] at h
  refine h.mono ?_
  rintro e w' ⟨rfl, rfl⟩
  exact ⟨rfl, Below.refl _ _⟩
theorem byte_ends (b : UInt8) : (endC b = true ∧ 0 ≤ Lib.indexByte ENDS b) ∨ (endC b = false ∧ Lib.indexByte ENDS b < 0) := by
  have h := Go.Lib.contains_iff_indexByte ENDS b
  rw [ends_has] at h
  cases he : endC b
  · rw [he] at h
    have h2 := of_decide_eq_false h.symm
    exact .inr ⟨rfl, by omega⟩
  · rw [he] at h
    exact .inl ⟨rfl, of_decide_eq_true h.symm⟩
theorem ascii_of {l : List UInt8} (h : l.all (fun b => decide (b.toNat < 128)) = true) : ∀ (j : Nat) b, l[j]? = some b → b.toNat < 128 :=
  fun _ b hj => of_decide_eq_true (List.all_eq_true.1 h b (List.mem_of_getElem? hj))
set_option maxHeartbeats 1600000 in
theorem any_short (s : ByteArray) (h8 : s.size ≤ 8) (w : World) :
    Calls Tryd.prog 35 #[.string s, .string ⟨#[47, 63]⟩] w fun e w' => e = .returned (.int .i64 (Lib.indexAny (toL s) ENDS)) ∧ Below w.heap.size w w' := by
  have h8z : decide ((8 : Int) < (s.size : Int)) = false := decide_eq_false (by omega)
  have HU := Lib.hid (fun w => Any.strings_shouldUseASCIISet { Tryd.lays153 with } (s.size : Int) w)
  rw [h8z] at HU
  have HS := Lib.hid (It.start w s)
  clear h8z
  go_enter Tryd.func35, Tryd.ntmps35
  go_wp2_with (refine (HU.out _).mono ?_; rintro e w' ⟨rfl, hw⟩; rw [hw])
  generalize hk : w.heap.size = k at HS ⊢
  replace hk := Lib.hid hk
  generalize hw0 : w.iter s 0 = W0 at HS ⊢
  replace hw0 := Lib.hid hw0
  go_loopg [9, 10] s.size (fun g _ _ wx => ∃ i : Nat, i + g = s.size ∧ Hid (It w k s i wx) ∧ Hid (Go.Lib.NoAny (toL s) ENDS i))
  case atStart => exact ⟨0, by omega, HS, Lib.hid (Go.Lib.NoAny.zero _ _)⟩
  case round =>
    obtain ⟨i, hig, HI, HN⟩ := hrel
    clear HS HU
    by_cases hlt : i < s.size
    rotate_left
    · obtain rfl : i = s.size := by omega
      have hnx := fun ty => end_in (P := Tryd.prog) HI.out.iter ty hlt
      have HR : Hid (Lib.indexAny (toL s) ENDS = -1) := Lib.hid (Go.Lib.indexAny_none (by rw [toL_length]; exact HN.out))
      clear hlt HN
      go_wp2_with fail
      go_ret
      exact ⟨by rw [HR.out]; rfl, HI.out.below⟩
    · have hnx := fun ty => next_in (P := Tryd.prog) HI.out.iter ty hlt
      have HI2 := Lib.hid (HI.out.move (i + (Utf8.decode s i).2))
      clear HI
      by_cases ha : (s[i]'hlt).toNat < 128
      · rw [decode_ascii s i hlt ha] at hnx HI2
        have HR := Lib.hid (fun w => rune_low s[i] ha w)
        have hget := toL_get s i hlt
        rcases byte_ends s[i] with ⟨he, h1⟩ | ⟨he, h1⟩
        · have HV : Hid (Lib.indexAny (toL s) ENDS = i) := Lib.hid (Go.Lib.indexAny_hit HN.out hget (by rw [ends_has]; exact he))
          clear ha HN hget he
          go_wp2_with fail
          generalize moved _ _ _ _ = W1 at HI2 ⊢
          refine (HR.out _).mono ?_
          rintro e w' ⟨rfl, hb⟩
          replace HI2 := Lib.hid (HI2.out.call hb)
          clear hb HR
          go_wp2_with fail
          go_ret
          exact ⟨by rw [HV.out]; rfl, HI2.out.below⟩
        · have HN2 := Lib.hid (HN.out.succ hget (by rw [ends_has]; exact he))
          have hn0 : ¬ (0 : Int) ≤ Lib.indexByte ENDS s[i] := by omega
          clear ha HN hget he h1
          go_wp2_with fail
          generalize moved _ _ _ _ = W1 at HI2 ⊢
          refine (HR.out _).mono ?_
          rintro e w' ⟨rfl, hb⟩
          replace HI2 := Lib.hid (HI2.out.call hb)
          clear hb HR
          go_wp2_with fail
          go_roundg (s.size - (i + 1))
          case measure => omega
          case rel => exact ⟨i + 1, by omega, HI2, HN2⟩
      · obtain ⟨d1, d2⟩ := decode_high s i hlt (by omega)
        obtain ⟨d3, _⟩ := decode_wide s i hlt (by omega)
        have HN2 := Lib.hid (pass_wide hlt (by omega) HN.out)
        have HR := Lib.hid (fun w => rune_high ((Utf8.decode s i).1 : Int) (by omega) w)
        clear ha HN d1
        generalize (Utf8.decode s i).1 = rr at *
        generalize (Utf8.decode s i).2 = nn at *
        go_wp2_with fail
        generalize moved _ _ _ _ = W1 at HI2 ⊢
        refine (HR.out _).mono ?_
        rintro e w' ⟨rfl, hb⟩
        replace HI2 := Lib.hid (HI2.out.call hb)
        clear hb HR
        go_wp2_with fail
        go_roundg (s.size - (i + nn))
        case measure => omega
        case rel => exact ⟨i + nn, by omega, HI2, HN2⟩
theorem any_any (s : ByteArray) (hs : s.size < 4294967281) (w : World) :
    Calls Tryd.prog 35 #[.string s, .string ⟨#[47, 63]⟩] w fun e w' => e = .returned (.int .i64 (Lib.indexAny (toL s) ENDS)) ∧ Below w.heap.size w w' := by
  by_cases h8 : s.size ≤ 8
  · exact any_short s h8 w
  · have h116 : (Tryd.prog.info? (Tryd.lays153_ren.t 116)).map (fun i => (i.zero, i.size)) = some (some (.agg (Array.replicate 256 (.bool false))), 256) := by kernel_rfl
    refine (Any.strings_IndexAny_long Tryd.lays153 (zero_of_info h116).1 (zero_of_info h116).2 s ⟨#[47, 63]⟩ w (by decide) (by omega) hs (by decide) (ascii_of (by decide))).mono ?_
    rintro e w' ⟨rfl, rfl⟩
    exact ⟨rfl, ((Below.refl _ _).alloc (Nat.le_refl _) _).alloc (by simp) _⟩
end Go.Proofs.YtaiipdjibllodaaDoor.TAnyAll

/- Layer 6 of the program: absolute. -/
namespace Go.Proofs.YtaiipdjibllodaaDoor.TAbs
open Go.ChangeShapes Go.WideShapes Go.ChangeAt Go.RowKit LexPure Bytes Ret CutAt HostPure TargetPure UtfPure PUnder TAuth TBox TPath TAnyAll Mem
set_option maxRecDepth 20000
theorem slashed_say (s : List UInt8) : (([47] : List UInt8).isPrefixOf s = true ∧ slashed s = s) ∨ (([47] : List UInt8).isPrefixOf s = false ∧ slashed s = 47 :: s) := by
  rw [starts_one]
  unfold slashed
  cases h : (s.head? == some 47)
  · right; exact ⟨rfl, by simp⟩
  · left; exact ⟨rfl, by simp⟩
theorem tpath_in (fo : Int) (ho : List UInt8) (po : Int) (pa qu : List UInt8) (ha : Bool) (s : ByteArray) (hs : s.size ≤ 4194304) (x : Tgt × Int) (hx : x = local6 ⟨fo, ho, po, pa, qu, ha⟩ (toL s)) (w : World) (hm : MaxInt w) :
    Calls Tryd.prog 20 #[.agg #[.int .i64 fo, .string (ofL ho), .int .i64 po, .string (ofL pa), .string (ofL qu), .bool ha], .string s] w fun e w' =>
      e = .returned (.tuple #[.agg #[.int .i64 x.1.form, .string (ofL x.1.host), .int .i64 x.1.port, .string (ofL x.1.path), .string (ofL x.1.query), .bool x.1.has], .int .i64 x.2]) ∧ Below w.heap.size w w' := by
  subst hx
  exact tpath_any ⟨fo, ho, po, pa, qu, ha⟩ s hs w hm
set_option maxHeartbeats 3200000 in
/-- what stands behind the scheme, cut at e -/
theorem tabs_at (s : ByteArray) (hs : s.size ≤ 4194000) (w : World) (hm : MaxInt w) :
    Calls Tryd.prog 22 #[.string s] w fun e w' => e = .returned (rv (absolute6 (toL s))) ∧ Below w.heap.size w w' := by
  have HI := Lib.hid (fun w => any_any s (by omega) w)
  have HM := Lib.hid hm
  have HT := Lib.hid (One.start w)
  clear hm
  obtain ⟨x, hx⟩ : ∃ x, x = absolute6 (toL s) := ⟨_, rfl⟩
  rw [← hx]
  replace hx := Lib.hid hx
  have h1 : (s.size : Int) ≤ 4194000 := by omega
  rcases any_say (toL s) with ⟨i1, i2, i3⟩ | ⟨i, i1, i2, i3, i4⟩
  · rw [i1] at HI
    go_enter Tryd.func22, Tryd.ntmps22
    go_wp2_with fail
    generalize w.alloc (.cells #[.int .i64 0, .string ⟨#[]⟩, .int .i64 0, .string ⟨#[]⟩, .string ⟨#[]⟩, .bool false] 24) = W at HT ⊢
    obtain ⟨g, hg⟩ : ∃ g, g = w.heap.size := ⟨_, rfl⟩
    rw [← hg] at HT ⊢
    replace hg := Lib.hid hg
    refine (HI.out _).mono ?_
    rintro e w1 ⟨rfl, hb1⟩
    replace HT := Lib.hid (HT.out.call hb1)
    clear HI hb1
    go_wp2_with fail
    have HA := Lib.hid (fun w hm => tauth_any s (by omega) w hm)
    refine (HA.out _ (HM.out.below HT.out.below)).mono ?_
    rintro e w2 ⟨rfl, hb2⟩
    replace HT := Lib.hid (HT.out.call hb2)
    clear HA hb2
    obtain ⟨r0, r1, r2, r3, r4, r5⟩ := HT.out.rbox.cells
    obtain ⟨f0, f1, f2, f3, f4, f5⟩ := HT.out.rbox.frees
    cases ha : authO (toL s) with
    | none =>
      have hr : x = (zero, 61) := by rw [hx.out]; unfold absolute6; rw [i2, ha]
      subst hr
      rw [(auth_none ha).1, (auth_none ha).2.1, (auth_none ha).2.2]
      have HE := Lib.hid (HT.out.rbox.put zero)
      have HB := Lib.hid (HT.out.put zero)
      clear hx ha i1 i2 i3
      go_wp2_with fail
      refine bodyPost_ret (v := rv (zero, 61)) ?_ rfl ⟨rfl, HB.out⟩
      rw [results_cell_tmp rfl]
      exact end_box rfl rfl HE.out
    | some q =>
      obtain ⟨h, p⟩ := q
      have hr : x = local6 ⟨2, h, p, [], [], false⟩ [47] := by rw [hx.out]; unfold absolute6; rw [i2, ha, i3]; rfl
      rw [(auth_some ha).1, (auth_some ha).2.1, (auth_some ha).2.2]
      clear hx ha i1 i2 i3 r0 r1 r2 r3 r4 r5 f0 f1 f2 f3 f4 f5
      have HW := Lib.hid (fun w hm => tpath_in 2 h p [] [] false ⟨#[47]⟩ (by decide) x hr w hm)
      have HP := Lib.hid (fun w => lib_has ByteArray.empty ⟨#[47]⟩ w)
      rw [show ((toL ⟨#[47]⟩).isPrefixOf (toL ByteArray.empty)) = false from rfl] at HP
      replace hr := Lib.hid hr
      go_wp2_with fail
      refine (HP.out _).mono ?_
      rintro e w3 ⟨rfl, rfl⟩
      go_wp2_with fail
      refine (HW.out _ (HM.out.below HT.out.below)).mono ?_
      rintro e w4 ⟨rfl, hb4⟩
      replace HT := Lib.hid (HT.out.call hb4)
      clear HW hb4
      obtain ⟨r0, r1, r2, r3, r4, r5⟩ := HT.out.rbox.cells
      obtain ⟨f0, f1, f2, f3, f4, f5⟩ := HT.out.rbox.frees
      have HE := Lib.hid (HT.out.rbox.put x.1)
      have HB := Lib.hid (HT.out.put x.1)
      go_wp2_with fail
      refine bodyPost_ret (v := rv x) ?_ rfl ⟨rfl, HB.out⟩
      rw [results_cell_tmp rfl]
      exact end_box rfl rfl HE.out
  · rw [i1] at HI
    rw [toL_length] at i2
    have c1 : (i : Int) < (s.size : Int) := by omega
    have c2 : (i : Int) ≤ (s.size : Int) := by omega
    have eA : toL (s.extract 0 i) = inA (toL s) := by rw [toL_extract, i3, List.drop_zero]
    have eR : toL (s.extract i s.size) = outA (toL s) := by rw [toL_extract, i4, List.take_of_length_le (by rw [toL_length]; exact Nat.le_refl _)]
    have sA : (s.extract 0 i).size ≤ 4194000 := by rw [ByteArray.size_extract]; omega
    have sR : (s.extract i s.size).size ≤ 4194000 := by rw [ByteArray.size_extract]; omega
    have HA := Lib.hid (fun w hm => tauth_any (s.extract 0 i) (by omega) w hm)
    have HP := Lib.hid (fun w => lib_has (s.extract i s.size) ⟨#[47]⟩ w)
    rw [show toL ⟨#[47]⟩ = [47] from rfl, eR] at HP
    rw [eA] at HA
    have HSR := Lib.hid sR
    have HER := Lib.hid eR
    clear i1 i2 i3 i4 eA eR sA sR hs
    go_enter Tryd.func22, Tryd.ntmps22
    go_wp2_with fail
    generalize w.alloc (.cells #[.int .i64 0, .string ⟨#[]⟩, .int .i64 0, .string ⟨#[]⟩, .string ⟨#[]⟩, .bool false] 24) = W at HT ⊢
    obtain ⟨g, hg⟩ : ∃ g, g = w.heap.size := ⟨_, rfl⟩
    rw [← hg] at HT ⊢
    replace hg := Lib.hid hg
    refine (HI.out _).mono ?_
    rintro e w1 ⟨rfl, hb1⟩
    replace HT := Lib.hid (HT.out.call hb1)
    clear HI hb1
    go_wp2_with fail
    refine (HA.out _ (HM.out.below HT.out.below)).mono ?_
    rintro e w2 ⟨rfl, hb2⟩
    replace HT := Lib.hid (HT.out.call hb2)
    clear HA hb2
    obtain ⟨r0, r1, r2, r3, r4, r5⟩ := HT.out.rbox.cells
    obtain ⟨f0, f1, f2, f3, f4, f5⟩ := HT.out.rbox.frees
    cases ha : authO (inA (toL s)) with
    | none =>
      have hr : x = (zero, 61) := by rw [hx.out]; unfold absolute6; rw [ha]
      subst hr
      rw [(auth_none ha).1, (auth_none ha).2.1, (auth_none ha).2.2]
      have HE := Lib.hid (HT.out.rbox.put zero)
      have HB := Lib.hid (HT.out.put zero)
      clear hx ha
      go_wp2_with fail
      refine bodyPost_ret (v := rv (zero, 61)) ?_ rfl ⟨rfl, HB.out⟩
      rw [results_cell_tmp rfl]
      exact end_box rfl rfl HE.out
    | some q =>
      obtain ⟨h, p⟩ := q
      have hr : x = local6 ⟨2, h, p, [], [], false⟩ (slashed (outA (toL s))) := by rw [hx.out]; unfold absolute6; rw [ha]
      rw [(auth_some ha).1, (auth_some ha).2.1, (auth_some ha).2.2]
      clear hx ha r0 r1 r2 r3 r4 r5 f0 f1 f2 f3 f4 f5
      rcases slashed_say (outA (toL s)) with ⟨q1, q2⟩ | ⟨q1, q2⟩
      · rw [q1] at HP
        rw [q2] at hr
        have HW := Lib.hid (fun w hm => tpath_in 2 h p [] [] false (s.extract i s.size) (by have := HSR.out; omega) x (by rw [HER.out]; exact hr) w hm)
        replace hr := Lib.hid hr
        clear q1 q2
        go_wp2_with fail
        refine (HP.out _).mono ?_
        rintro e w3 ⟨rfl, rfl⟩
        go_wp2_with fail
        refine (HW.out _ (HM.out.below HT.out.below)).mono ?_
        rintro e w4 ⟨rfl, hb4⟩
        replace HT := Lib.hid (HT.out.call hb4)
        clear HW hb4
        obtain ⟨r0, r1, r2, r3, r4, r5⟩ := HT.out.rbox.cells
        obtain ⟨f0, f1, f2, f3, f4, f5⟩ := HT.out.rbox.frees
        have HE := Lib.hid (HT.out.rbox.put x.1)
        have HB := Lib.hid (HT.out.put x.1)
        go_wp2_with fail
        refine bodyPost_ret (v := rv x) ?_ rfl ⟨rfl, HB.out⟩
        rw [results_cell_tmp rfl]
        exact end_box rfl rfl HE.out
      · rw [q1] at HP
        rw [q2] at hr
        have sz : (s.extract i s.size).size + 1 ≤ 4194304 := by have := HSR.out; omega
        have HW := Lib.hid (fun w hm => tpath_in 2 h p [] [] false (⟨#[47]⟩ ++ s.extract i s.size) (by rw [ByteArray.size_append]; exact (by omega : 1 + (s.extract i s.size).size ≤ 4194304)) x (by rw [toL_append, HER.out]; exact hr) w hm)
        have sz2 : (⟨#[47]⟩ : ByteArray).size + (s.extract i s.size).size ≤ 9223372036854775807 := by exact (by omega : 1 + (s.extract i s.size).size ≤ 9223372036854775807)
        replace hr := Lib.hid hr
        clear q1 q2
        go_wp2_with fail
        refine (HP.out _).mono ?_
        rintro e w3 ⟨rfl, rfl⟩
        go_wp2_with fail
        refine (HW.out _ (HM.out.below HT.out.below)).mono ?_
        rintro e w4 ⟨rfl, hb4⟩
        replace HT := Lib.hid (HT.out.call hb4)
        clear HW hb4
        obtain ⟨r0, r1, r2, r3, r4, r5⟩ := HT.out.rbox.cells
        obtain ⟨f0, f1, f2, f3, f4, f5⟩ := HT.out.rbox.frees
        have HE := Lib.hid (HT.out.rbox.put x.1)
        have HB := Lib.hid (HT.out.put x.1)
        go_wp2_with fail
        refine bodyPost_ret (v := rv x) ?_ rfl ⟨rfl, HB.out⟩
        rw [results_cell_tmp rfl]
        exact end_box rfl rfl HE.out
end Go.Proofs.YtaiipdjibllodaaDoor.TAbs

/- Layer 6 of the program: remote, asterisk. -/
namespace Go.Proofs.YtaiipdjibllodaaDoor.TRemote
open Go.ChangeShapes Go.WideShapes Go.ChangeAt Go.RowKit LexPure Bytes Ret CutAt HostPure TargetPure PUnder TAuth TBox Mem
set_option maxRecDepth 20000
set_option maxHeartbeats 1600000 in
theorem tremote_any (s : ByteArray) (hs : s.size ≤ 140737488351232) (w : World) (hm : MaxInt w) :
    Calls Tryd.prog 17 #[.string s] w fun e w' => e = .returned (rv (remote6 (toL s))) ∧ Below w.heap.size w w' := by
  have HA := Lib.hid (fun w hm => tauth_any s hs w hm)
  have HM := Lib.hid hm
  have HT := Lib.hid (One.start w)
  clear hm hs
  obtain ⟨x, hx⟩ : ∃ x, x = remote6 (toL s) := ⟨_, rfl⟩
  rw [← hx]
  replace hx := Lib.hid hx
  go_enter Tryd.func17, Tryd.ntmps17
  go_wp2_with fail
  generalize w.alloc (.cells #[.int .i64 0, .string ⟨#[]⟩, .int .i64 0, .string ⟨#[]⟩, .string ⟨#[]⟩, .bool false] 24) = W at HT ⊢
  obtain ⟨g, hg⟩ : ∃ g, g = w.heap.size := ⟨_, rfl⟩
  rw [← hg] at HT ⊢
  replace hg := Lib.hid hg
  refine (HA.out _ (HM.out.below HT.out.below)).mono ?_
  rintro e w1 ⟨rfl, hb1⟩
  replace HT := Lib.hid (HT.out.call hb1)
  clear HA hb1
  obtain ⟨r0, r1, r2, r3, r4, r5⟩ := HT.out.rbox.cells
  obtain ⟨f0, f1, f2, f3, f4, f5⟩ := HT.out.rbox.frees
  cases ha : authO (toL s) with
  | none =>
    have hr : x = (zero, 60) := by rw [hx.out]; unfold remote6; rw [ha]
    subst hr
    rw [(auth_none ha).1, (auth_none ha).2.1, (auth_none ha).2.2]
    have HE := Lib.hid (HT.out.rbox.put zero)
    have HB := Lib.hid (HT.out.put zero)
    clear hx ha
    go_wp2_with fail
    refine bodyPost_ret (v := rv (zero, 60)) ?_ rfl ⟨rfl, HB.out⟩
    rw [results_cell_tmp rfl]
    exact end_box rfl rfl HE.out
  | some q =>
    obtain ⟨h, p⟩ := q
    rw [(auth_some ha).1, (auth_some ha).2.1, (auth_some ha).2.2]
    by_cases hp : p = 0
    · have hr : x = (zero, 60) := by rw [hx.out]; unfold remote6; rw [ha]; simp only; rw [if_pos hp]
      subst hr
      subst hp
      have HE := Lib.hid (HT.out.rbox.put zero)
      have HB := Lib.hid (HT.out.put zero)
      clear hx ha
      go_wp2_with fail
      refine bodyPost_ret (v := rv (zero, 60)) ?_ rfl ⟨rfl, HB.out⟩
      rw [results_cell_tmp rfl]
      exact end_box rfl rfl HE.out
    · have hr : x = (⟨3, h, p, [], [], false⟩, 0) := by rw [hx.out]; unfold remote6; rw [ha]; simp only; rw [if_neg hp]
      subst hr
      have hq : (p == 0) = false := beq_eq_false_iff_ne.2 hp
      have HE := Lib.hid (HT.out.rbox.put ⟨3, h, p, [], [], false⟩)
      have HB := Lib.hid (HT.out.put ⟨3, h, p, [], [], false⟩)
      clear hx ha hp
      go_wp2_with fail
      refine bodyPost_ret (v := rv (⟨3, h, p, [], [], false⟩, 0)) ?_ rfl ⟨rfl, HB.out⟩
      rw [results_cell_tmp rfl]
      exact end_box rfl rfl HE.out
theorem is_text (s : ByteArray) (l : List UInt8) : (s.toList == l) = (toL s == l) := by rw [ByteArray.toList_eq]
set_option maxHeartbeats 1600000 in
theorem tstar_any (m : ByteArray) (w : World) :
    Calls Tryd.prog 18 #[.string m] w fun e w' => e = .returned (rv (star6 (toL m))) ∧ Below w.heap.size w w' := by
  have ht := is_text m OPTIONS
  by_cases h : (toL m == OPTIONS) = true
  · have hr : star6 (toL m) = (⟨4, [], 0, [], [], false⟩, 0) := by unfold star6; rw [if_pos h]
    rw [hr]
    rw [h] at ht
    have hne : (m.toList != OPTIONS) = false := by unfold bne; rw [ht]; rfl
    unfold OPTIONS at ht hne
    clear h hr
    go_enter Tryd.func18, Tryd.ntmps18
    go_wp2_with fail
    refine bodyPost_ret (v := rv (⟨4, [], 0, [], [], false⟩, 0)) ?_ rfl ⟨rfl, (Below.refl w.heap.size w).alloc (Nat.le_refl _) _⟩
    rw [results_cell_tmp rfl]
    exact end_box rfl rfl (Box.new w ⟨4, [], 0, [], [], false⟩)
  · have hr : star6 (toL m) = (zero, 60) := by unfold star6; rw [if_neg h]
    rw [hr]
    rw [show (toL m == OPTIONS) = false by simpa using h] at ht
    have hne : (m.toList != OPTIONS) = true := by unfold bne; rw [ht]; rfl
    unfold OPTIONS at ht hne
    clear h hr
    go_enter Tryd.func18, Tryd.ntmps18
    go_wp2_with fail
    refine bodyPost_ret (v := rv (zero, 60)) ?_ rfl ⟨rfl, (Below.refl w.heap.size w).alloc (Nat.le_refl _) _⟩
    rw [results_cell_tmp rfl]
    exact end_box rfl rfl (Box.new w zero)
end Go.Proofs.YtaiipdjibllodaaDoor.TRemote

/- Layer 4 of the program: Alike. -/
namespace Go.Proofs.YtaiipdjibllodaaDoor.PAlike
open Go.ChangeShapes Go.WideShapes Go.ChangeAt Go.RowKit LexPure Bytes Ret PLsmall Mem
set_option maxRecDepth 20000
set_option maxHeartbeats 1600000 in
theorem palike_any (s t : ByteArray) (hs : s.size ≤ maxLen) (w : World) :
    Calls Tryd.prog 21 #[.string s, .string t] w fun e w' => e = .returned (.bool (alike (toL s) (toL t))) ∧ Below w.heap.size w w' := by
  unfold maxLen at hs
  by_cases hl : s.size = t.size
  · go_enter Tryd.func21, Tryd.ntmps21
    go_wp2_with fail
    have HB : Hid (∃ m, w = w.drewN m) := Lib.hid ⟨0, rfl⟩
    go_loopw [13] (fun i wr => ∃ k : Nat, k ≤ s.size ∧ i = .int .i64 k ∧ Hid (lower ((toL s).take k) = lower ((toL t).take k)) ∧ Hid (∃ m, wr = w.drewN m)) (fun i _ => s.size - (intOf i).toNat)
    case atStart => exact ⟨0, Nat.zero_le _, rfl, Lib.hid rfl, HB⟩
    case round =>
      obtain ⟨k, hk, rfl, ha, HM⟩ := hrel
      clear HB
      by_cases hlt : k < s.size
      · have hlt2 : k < t.size := by omega
        have hki : (k : Int) < (s.size : Int) := by omega
        have hki2 : (k : Int) < (t.size : Int) := by omega
        have HS := Lib.hid (toL_take_succ s k hlt)
        have HT := Lib.hid (toL_take_succ t k hlt2)
        have GS := Lib.hid (toL_get s k hlt)
        have GT := Lib.hid (toL_get t k hlt2)
        by_cases hm : small s[k] = small t[k]
        · have HA : Hid (lower ((toL s).take (k + 1)) = lower ((toL t).take (k + 1))) := Lib.hid (by
            rw [HS.out, HT.out]
            unfold lower
            rw [List.map_append, List.map_append]
            have h := ha.out
            unfold lower at h
            rw [h]
            simp [hm])
          have hx : ((small s[k]).toNat : Int) = ((small t[k]).toNat : Int) := by rw [hm]
          clear hm HS HT GS GT ha
          go_wp2_with fail
          go_quiet ((go_at_call 34; exact Calls.quiet_of_same (psmall_same _ _)))
          go_wp2_with fail
          go_roundw
          case rel => exact ⟨k + 1, by omega, by go_num, HA, Lib.hid (by obtain ⟨m, hm⟩ := HM.out; exact ⟨_, by rw [hm, World.drewN_drewN]⟩)⟩
          case measure => simp [intOf]; omega
        · have HV : Hid (alike (toL s) (toL t) = false) := Lib.hid (by
            unfold alike
            rw [beq_eq_false_iff_ne]
            intro h
            have h2 := congrArg (·[k]?) h
            unfold lower at h2
            simp only [List.getElem?_map, GS.out, GT.out, Option.map_some, Option.some.injEq] at h2
            exact hm h2)
          have hx : ¬ (((small s[k]).toNat : Int) = ((small t[k]).toNat : Int)) := fun h => hm (UInt8.toNat_inj.1 (by exact_mod_cast h))
          clear hm HS HT GS GT ha
          go_wp2_with fail
          go_quiet ((go_at_call 34; exact Calls.quiet_of_same (psmall_same _ _)))
          go_wp2_with fail
          go_ret
          obtain ⟨m, rfl⟩ := HM.out
          exact ⟨by rw [HV.out]; rfl, ⟨rfl, rfl, rfl, Nat.le_refl _, fun _ _ => rfl⟩⟩
      · have hall : (toL s).take k = toL s := toL_take_all s (by omega)
        have hall2 : (toL t).take k = toL t := toL_take_all t (by omega)
        have HV : Hid (alike (toL s) (toL t) = true) := Lib.hid (by
          have h := ha.out
          rw [hall, hall2] at h
          unfold alike
          rw [h]
          exact beq_self_eq_true _)
        clear ha hall hall2
        go_wp2_with fail
        go_ret
        obtain ⟨m, rfl⟩ := HM.out
        exact ⟨by rw [HV.out]; rfl, ⟨rfl, rfl, rfl, Nat.le_refl _, fun _ _ => rfl⟩⟩
  · have HV : Hid (alike (toL s) (toL t) = false) := Lib.hid (by
      unfold alike
      rw [beq_eq_false_iff_ne]
      intro h
      have := congrArg List.length h
      rw [lower_length, lower_length, toL_length, toL_length] at this
      exact hl this)
    have hx : ¬ ((s.size : Int) = (t.size : Int)) := by omega
    clear hl
    go_enter Tryd.func21, Tryd.ntmps21
    go_wp2_with fail
    go_ret
    exact ⟨by rw [HV.out]; rfl, ⟨rfl, rfl, rfl, Nat.le_refl _, fun _ _ => rfl⟩⟩
end Go.Proofs.YtaiipdjibllodaaDoor.PAlike

/- Layer 6 of the program: Parse. -/
namespace Go.Proofs.YtaiipdjibllodaaDoor.TParse
open Go.ChangeShapes Go.WideShapes Go.ChangeAt Go.RowKit LexPure Bytes Ret CutAt HostPure TargetPure PUnder TAuth TBox TPath TAbs TRemote PAlike Mem
set_option maxRecDepth 20000
set_option maxHeartbeats 3200000 in
theorem tparse_any (m s : ByteArray) (hs : s.size ≤ 4194000) (w : World) (hm : MaxInt w) :
    Calls Tryd.prog 9 #[.string m, .string s] w fun e w' => e = .returned (rv (parse6 (toL m) (toL s))) ∧ Below w.heap.size w w' := by
  have HM := Lib.hid hm
  have HT := Lib.hid (One.start w)
  clear hm
  obtain ⟨x, hx⟩ : ∃ x, x = parse6 (toL m) (toL s) := ⟨_, rfl⟩
  rw [← hx]
  unfold parse6 at hx
  have t1 := is_text m CONNECT
  have t2 := is_text s [42]
  unfold CONNECT at t1
  have h1 : (s.size : Int) ≤ 4194000 := by omega
  by_cases hc : (toL m == CONNECT) = true
  · rw [if_pos hc] at hx
    unfold CONNECT at hc
    rw [hc] at t1
    have HW : Hid (∀ w, MaxInt w → Calls Tryd.prog 17 #[.string s] w fun e w' => e = .returned (.tuple #[.agg #[.int .i64 x.1.form, .string (ofL x.1.host), .int .i64 x.1.port, .string (ofL x.1.path), .string (ofL x.1.query), .bool x.1.has], .int .i64 x.2]) ∧ Below w.heap.size w w') := Lib.hid (fun w hm => by rw [hx]; exact tremote_any s (by omega) w hm)
    clear hc hx t2
    go_enter Tryd.func9, Tryd.ntmps9
    go_wp2_with fail
    generalize w.alloc (.cells #[.int .i64 0, .string ⟨#[]⟩, .int .i64 0, .string ⟨#[]⟩, .string ⟨#[]⟩, .bool false] 24) = W at HT ⊢
    obtain ⟨g, hg⟩ : ∃ g, g = w.heap.size := ⟨_, rfl⟩
    rw [← hg] at HT ⊢
    replace hg := Lib.hid hg
    refine (HW.out _ (HM.out.below HT.out.below)).mono ?_
    rintro e w4 ⟨rfl, hb4⟩
    replace HT := Lib.hid (HT.out.call hb4)
    clear HW hb4
    obtain ⟨r0, r1, r2, r3, r4, r5⟩ := HT.out.rbox.cells
    obtain ⟨f0, f1, f2, f3, f4, f5⟩ := HT.out.rbox.frees
    have HE := Lib.hid (HT.out.rbox.put x.1)
    have HB := Lib.hid (HT.out.put x.1)
    go_wp2_with fail
    refine bodyPost_ret (v := rv x) ?_ rfl ⟨rfl, HB.out⟩
    rw [results_cell_tmp rfl]
    exact end_box rfl rfl HE.out
  rw [if_neg hc] at hx
  have hcf : (toL m == CONNECT) = false := by simpa using hc
  unfold CONNECT at hcf
  rw [hcf] at t1
  clear hc hcf
  by_cases hq : (toL s == [42]) = true
  · rw [if_pos hq] at hx
    rw [hq] at t2
    have HW : Hid (∀ w, MaxInt w → Calls Tryd.prog 18 #[.string m] w fun e w' => e = .returned (.tuple #[.agg #[.int .i64 x.1.form, .string (ofL x.1.host), .int .i64 x.1.port, .string (ofL x.1.path), .string (ofL x.1.query), .bool x.1.has], .int .i64 x.2]) ∧ Below w.heap.size w w') := Lib.hid (fun w _ => by rw [hx]; exact tstar_any m w)
    clear hq hx
    go_enter Tryd.func9, Tryd.ntmps9
    go_wp2_with fail
    generalize w.alloc (.cells #[.int .i64 0, .string ⟨#[]⟩, .int .i64 0, .string ⟨#[]⟩, .string ⟨#[]⟩, .bool false] 24) = W at HT ⊢
    obtain ⟨g, hg⟩ : ∃ g, g = w.heap.size := ⟨_, rfl⟩
    rw [← hg] at HT ⊢
    replace hg := Lib.hid hg
    refine (HW.out _ (HM.out.below HT.out.below)).mono ?_
    rintro e w4 ⟨rfl, hb4⟩
    replace HT := Lib.hid (HT.out.call hb4)
    clear HW hb4
    obtain ⟨r0, r1, r2, r3, r4, r5⟩ := HT.out.rbox.cells
    obtain ⟨f0, f1, f2, f3, f4, f5⟩ := HT.out.rbox.frees
    have HE := Lib.hid (HT.out.rbox.put x.1)
    have HB := Lib.hid (HT.out.put x.1)
    go_wp2_with fail
    refine bodyPost_ret (v := rv x) ?_ rfl ⟨rfl, HB.out⟩
    rw [results_cell_tmp rfl]
    exact end_box rfl rfl HE.out
  rw [if_neg hq] at hx
  rw [show (toL s == [42]) = false by simpa using hq] at t2
  clear hq
  have HP := Lib.hid (fun w => lib_has s ⟨#[47]⟩ w)
  rw [show toL ⟨#[47]⟩ = [47] from rfl, starts_one] at HP
  by_cases hh : ((toL s).head? == some 47) = true
  · rw [if_pos hh] at hx
    rw [hh] at HP
    have HW := Lib.hid (fun w hm => tpath_in 1 [] 0 [] [] false s (by omega) x hx w hm)
    clear hh hx
    go_enter Tryd.func9, Tryd.ntmps9
    go_wp2_with fail
    generalize w.alloc (.cells #[.int .i64 0, .string ⟨#[]⟩, .int .i64 0, .string ⟨#[]⟩, .string ⟨#[]⟩, .bool false] 24) = W at HT ⊢
    obtain ⟨g, hg⟩ : ∃ g, g = w.heap.size := ⟨_, rfl⟩
    rw [← hg] at HT ⊢
    replace hg := Lib.hid hg
    refine (HP.out _).mono ?_
    rintro e w' ⟨rfl, rfl⟩
    go_wp2_with fail
    refine (HW.out _ (HM.out.below HT.out.below)).mono ?_
    rintro e w4 ⟨rfl, hb4⟩
    replace HT := Lib.hid (HT.out.call hb4)
    clear HW hb4
    obtain ⟨r0, r1, r2, r3, r4, r5⟩ := HT.out.rbox.cells
    obtain ⟨f0, f1, f2, f3, f4, f5⟩ := HT.out.rbox.frees
    have HE := Lib.hid (HT.out.rbox.put x.1)
    have HB := Lib.hid (HT.out.put x.1)
    go_wp2_with fail
    refine bodyPost_ret (v := rv x) ?_ rfl ⟨rfl, HB.out⟩
    rw [results_cell_tmp rfl]
    exact end_box rfl rfl HE.out
  rw [if_neg hh] at hx
  rw [show ((toL s).head? == some 47) = false by simpa using hh] at HP
  clear hh
  by_cases h7 : 7 ≤ s.size
  rotate_left
  · have hr : x = (zero, 60) := by
      rw [hx]
      unfold hasScheme
      rw [decide_eq_false (by rw [toL_length]; exact h7)]
      rfl
    subst hr
    have h7i : ¬ (7 : Int) ≤ (s.size : Int) := by omega
    clear h7 hx
    go_enter Tryd.func9, Tryd.ntmps9
    go_wp2_with fail
    generalize w.alloc (.cells #[.int .i64 0, .string ⟨#[]⟩, .int .i64 0, .string ⟨#[]⟩, .string ⟨#[]⟩, .bool false] 24) = W at HT ⊢
    obtain ⟨g, hg⟩ : ∃ g, g = w.heap.size := ⟨_, rfl⟩
    rw [← hg] at HT ⊢
    replace hg := Lib.hid hg
    obtain ⟨r0, r1, r2, r3, r4, r5⟩ := HT.out.rbox.cells
    obtain ⟨f0, f1, f2, f3, f4, f5⟩ := HT.out.rbox.frees
    have HE := Lib.hid (HT.out.rbox.put zero)
    have HB := Lib.hid (HT.out.put zero)
    refine (HP.out _).mono ?_
    rintro e w' ⟨rfl, rfl⟩
    go_wp2_with fail
    refine bodyPost_ret (v := rv (zero, 60)) ?_ rfl ⟨rfl, HB.out⟩
    rw [results_cell_tmp rfl]
    exact end_box rfl rfl HE.out
  have h7i : (7 : Int) ≤ (s.size : Int) := by omega
  have eA : toL (s.extract 0 7) = (toL s).take 7 := by rw [toL_extract, List.drop_zero]
  have eR : toL (s.extract 7 s.size) = (toL s).drop 7 := by rw [toL_extract, List.take_of_length_le (by rw [toL_length]; exact Nat.le_refl _)]
  have sA : (s.extract 0 7).size ≤ 7 := by rw [ByteArray.size_extract]; omega
  have sR : (s.extract 7 s.size).size ≤ 4194000 := by rw [ByteArray.size_extract]; omega
  have HL := Lib.hid (fun w => palike_any (s.extract 0 7) ⟨#[104, 116, 116, 112, 58, 47, 47]⟩ (by unfold maxLen; omega) w)
  have hsc : hasScheme (toL s) = alike (toL (s.extract 0 7)) (toL ⟨#[104, 116, 116, 112, 58, 47, 47]⟩) := by
    unfold hasScheme
    rw [eA, decide_eq_true (by rw [toL_length]; exact h7)]
    rfl
  rw [← hsc] at HL
  by_cases hs2 : hasScheme (toL s) = true
  · rw [if_pos hs2, ← eR] at hx
    rw [hs2] at HL
    have HW : Hid (∀ w, MaxInt w → Calls Tryd.prog 22 #[.string (s.extract 7 s.size)] w fun e w' => e = .returned (.tuple #[.agg #[.int .i64 x.1.form, .string (ofL x.1.host), .int .i64 x.1.port, .string (ofL x.1.path), .string (ofL x.1.query), .bool x.1.has], .int .i64 x.2]) ∧ Below w.heap.size w w') := Lib.hid (fun w hm => by rw [hx]; exact tabs_at _ sR w hm)
    clear hs2 hx eA eR sA sR hsc h7
    go_enter Tryd.func9, Tryd.ntmps9
    go_wp2_with fail
    generalize w.alloc (.cells #[.int .i64 0, .string ⟨#[]⟩, .int .i64 0, .string ⟨#[]⟩, .string ⟨#[]⟩, .bool false] 24) = W at HT ⊢
    obtain ⟨g, hg⟩ : ∃ g, g = w.heap.size := ⟨_, rfl⟩
    rw [← hg] at HT ⊢
    replace hg := Lib.hid hg
    refine (HP.out _).mono ?_
    rintro e w' ⟨rfl, rfl⟩
    go_wp2_with fail
    refine (HL.out _).mono ?_
    rintro e w2 ⟨rfl, hb2⟩
    replace HT := Lib.hid (HT.out.call hb2)
    clear hb2
    go_wp2_with fail
    refine (HW.out _ (HM.out.below HT.out.below)).mono ?_
    rintro e w4 ⟨rfl, hb4⟩
    replace HT := Lib.hid (HT.out.call hb4)
    clear HW hb4
    obtain ⟨r0, r1, r2, r3, r4, r5⟩ := HT.out.rbox.cells
    obtain ⟨f0, f1, f2, f3, f4, f5⟩ := HT.out.rbox.frees
    have HE := Lib.hid (HT.out.rbox.put x.1)
    have HB := Lib.hid (HT.out.put x.1)
    go_wp2_with fail
    refine bodyPost_ret (v := rv x) ?_ rfl ⟨rfl, HB.out⟩
    rw [results_cell_tmp rfl]
    exact end_box rfl rfl HE.out
  · have hr : x = (zero, 60) := by rw [hx, if_neg hs2]
    rw [show hasScheme (toL s) = false by simpa using hs2] at HL
    subst hr
    clear hs2 hx eA eR sA sR hsc h7
    go_enter Tryd.func9, Tryd.ntmps9
    go_wp2_with fail
    generalize w.alloc (.cells #[.int .i64 0, .string ⟨#[]⟩, .int .i64 0, .string ⟨#[]⟩, .string ⟨#[]⟩, .bool false] 24) = W at HT ⊢
    obtain ⟨g, hg⟩ : ∃ g, g = w.heap.size := ⟨_, rfl⟩
    rw [← hg] at HT ⊢
    replace hg := Lib.hid hg
    refine (HP.out _).mono ?_
    rintro e w' ⟨rfl, rfl⟩
    go_wp2_with fail
    refine (HL.out _).mono ?_
    rintro e w2 ⟨rfl, hb2⟩
    replace HT := Lib.hid (HT.out.call hb2)
    clear hb2
    obtain ⟨r0, r1, r2, r3, r4, r5⟩ := HT.out.rbox.cells
    obtain ⟨f0, f1, f2, f3, f4, f5⟩ := HT.out.rbox.frees
    have HE := Lib.hid (HT.out.rbox.put zero)
    have HB := Lib.hid (HT.out.put zero)
    go_wp2_with fail
    refine bodyPost_ret (v := rv (zero, 60)) ?_ rfl ⟨rfl, HB.out⟩
    rw [results_cell_tmp rfl]
    exact end_box rfl rfl HE.out
end Go.Proofs.YtaiipdjibllodaaDoor.TParse

/- Layer 6: a target held against itself. -/
namespace Go.Proofs.YtaiipdjibllodaaDoor.TEq
open Go.ChangeShapes Go.WideShapes Go.ChangeAt Go.RowKit LexPure Bytes TargetPure TBox Mem
set_option maxRecDepth 20000
theorem eqT (a c : Int) (h p q : ByteArray) (b : Bool) (w : World) : (binOp .eql 24 (.agg #[.int .i64 a, .string h, .int .i64 c, .string p, .string q, .bool b]) (.agg #[.int .i64 a, .string h, .int .i64 c, .string p, .string q, .bool b])).run Tryd.prog w = .ok (.bool true) w := by
  have u3 := Tryd.underlying3
  have a3 := Tryd.isAgg3
  have z3 := Tryd.sizeOf3
  have u9 := Tryd.underlying9
  have a9 := Tryd.isAgg9
  have z9 := Tryd.sizeOf9
  have u4 := Tryd.underlying4
  have a4 := Tryd.isAgg4
  have z4 := Tryd.sizeOf4
  have hS : Tryd.prog.underlying 24 = some (.struct (Tryd.prog.fieldsOf 24)) := by kernel_rfl
  have hp : Tryd.prog.stoodInHeld 24 = false := by kernel_rfl
  rw [run_eql_struct, show (10000 : Nat) = 9999 + 1 from rfl, run_equalIn_agg w 9999 24 _ _ hS hp]
  simp only [Program.fieldsOf, Tryd.underlying24]
  go_simp
end Go.Proofs.YtaiipdjibllodaaDoor.TEq

/- The document's two examples, with which each law of layer 6 begins. -/
namespace Go.Proofs.YtaiipdjibllodaaDoor.TAnchor
open Go.ChangeShapes Go.WideShapes Go.ChangeAt Go.RowKit LexPure Bytes Ret HostPure TargetPure PUnder TAuth TBox TParse TEq Mem
set_option maxRecDepth 20000
set_option maxHeartbeats 1600000 in
theorem anchor_any (w : World) (hm : MaxInt w) :
    Calls Tryd.prog 8 #[] w fun e w' => e = .returned (.bool true) ∧ Below w.heap.size w w' := by
  have h1 : parse6 (toL ⟨#[71, 69, 84]⟩) (toL ⟨#[47, 97, 47, 46, 46, 47, 98, 63, 120, 61, 49]⟩) = (⟨1, [], 0, [47, 98], [120, 61, 49], true⟩, 0) := by rfl
  have h2 : authO (toL ⟨#[69, 120, 46, 99, 111, 109, 58, 56, 48]⟩) = some ([101, 120, 46, 99, 111, 109], 80) := by rfl
  have HP : Hid (∀ w, MaxInt w → Calls Tryd.prog 9 #[.string ⟨#[71, 69, 84]⟩, .string ⟨#[47, 97, 47, 46, 46, 47, 98, 63, 120, 61, 49]⟩] w fun e w' => e = .returned (.tuple #[.agg #[.int .i64 1, .string ⟨#[]⟩, .int .i64 0, .string ⟨#[47, 98]⟩, .string ⟨#[120, 61, 49]⟩, .bool true], .int .i64 0]) ∧ Below w.heap.size w w') := Lib.hid (fun w hm => by
    have h := tparse_any ⟨#[71, 69, 84]⟩ ⟨#[47, 97, 47, 46, 46, 47, 98, 63, 120, 61, 49]⟩ (by decide) w hm
    rw [h1] at h
    exact h)
  have HA : Hid (∀ w, MaxInt w → Calls Tryd.prog 14 #[.string ⟨#[69, 120, 46, 99, 111, 109, 58, 56, 48]⟩] w fun e w' => e = .returned (.tuple #[.string ⟨#[101, 120, 46, 99, 111, 109]⟩, .int .i64 80, .int .i64 0]) ∧ Below w.heap.size w w') := Lib.hid (fun w hm => by
    have h := tauth_any ⟨#[69, 120, 46, 99, 111, 109, 58, 56, 48]⟩ (by decide) w hm
    rw [(auth_some h2).1, (auth_some h2).2.1, (auth_some h2).2.2] at h
    exact h)
  have heq := fun w => eqT 1 0 ⟨#[]⟩ ⟨#[47, 98]⟩ ⟨#[120, 61, 49]⟩ true w
  have HM := Lib.hid hm
  clear hm h1 h2
  go_enter Tryd.func8, Tryd.ntmps8
  go_wp2_with fail
  refine (HP.out _ HM.out).mono ?_
  rintro e w1 ⟨rfl, hb1⟩
  replace HM := Lib.hid (HM.out.below hb1)
  have HX : Hid (Bx w (w1.alloc (.cells #[.int .i64 1, .string ⟨#[]⟩, .int .i64 0, .string ⟨#[47, 98]⟩, .string ⟨#[120, 61, 49]⟩, .bool true] 24)) w1.heap.size ⟨1, [], 0, [47, 98], [120, 61, 49], true⟩) := Lib.hid (Bx.new hb1 1 [] 0 [47, 98] [120, 61, 49] true)
  have HM2 := Lib.hid (HM.out.below ((Below.refl w1.heap.size w1).alloc (Nat.le_refl _) (.cells #[.int .i64 1, .string ⟨#[]⟩, .int .i64 0, .string ⟨#[47, 98]⟩, .string ⟨#[120, 61, 49]⟩, .bool true] 24)))
  clear HP hb1
  go_wp2_with fail
  generalize w1.alloc (.cells #[.int .i64 1, .string ⟨#[]⟩, .int .i64 0, .string ⟨#[47, 98]⟩, .string ⟨#[120, 61, 49]⟩, .bool true] 24) = W at HX HM2 ⊢
  generalize w1.heap.size = g at HX ⊢
  refine (HA.out _ HM2.out).mono ?_
  rintro e w2 ⟨rfl, hb2⟩
  replace HX := Lib.hid (HX.out.call hb2)
  clear HA hb2
  obtain ⟨x0, x1, x2, x3, x4, x5⟩ := HX.out.box.cells
  have r0 : w2.cell? ⟨g, 0, none⟩ = some (.int .i64 1) := x0
  have r1 : w2.cell? ⟨g, 1, none⟩ = some (.string ⟨#[]⟩) := x1
  have r2 : w2.cell? ⟨g, 2, none⟩ = some (.int .i64 0) := x2
  have r3 : w2.cell? ⟨g, 3, none⟩ = some (.string ⟨#[47, 98]⟩) := x3
  have r4 : w2.cell? ⟨g, 4, none⟩ = some (.string ⟨#[120, 61, 49]⟩) := x4
  have r5 : w2.cell? ⟨g, 5, none⟩ = some (.bool true) := x5
  clear x0 x1 x2 x3 x4 x5
  go_wp2_with fail
  go_ret
  exact ⟨rfl, HX.out.below⟩
end Go.Proofs.YtaiipdjibllodaaDoor.TAnchor

/- The row's step for a law whose row lists variables, and its card: the witness in the world that the listed data lay. -/
namespace Go.Proofs.YtaiipdjibllodaaDoor.LawCard
open Go.ChangeShapes Go.WideShapes Go.ChangeAt Go.RowKit
variable {H : Type} {enc : TypeId × Value → H}
/-- there is an input that fits: in the world that the listed data lay -/
theorem witness {C : Checked} {os : Os} {f : FuncId} {fn : Func} {s : OpenSpec} {conds : List PathCond} {apart : Bool} {laid : List (String × DataW Unit)} (args : Array Value)
    (hv : ((World.laidAll C.prog os laid).forCall (fun _ _ => 0) ⟨#[], args, []⟩).variablesZipB C.prog = true)
    (hr : (((World.laidAll C.prog os laid).forCall (fun _ _ => 0) ⟨#[], args, []⟩).heap.toList.drop C.prog.globals.size).take ((begin C.prog (fun _ _ => 0) default).world.heap.size - C.prog.globals.size) =
      (begin C.prog (fun _ _ => 0) default).world.heap.toList.drop C.prog.globals.size)
    (hok : Input.okWideB C.prog ((World.laidAll C.prog os laid).forCall (fun _ _ => 0) ⟨#[], args, []⟩) f ⟨#[], args, []⟩ = true)
    (hplain : ∀ w, laidMetH C.prog laid w = laidMet C.prog laid w)
    (hf : (World.holding C.prog os ⟨#[], #[], []⟩).layFits C.prog laid [] = true)
    (hi : (World.holding C.prog os ⟨#[], #[], []⟩).layIfaces C.prog laid (World.laidAll C.prog os laid) = true)
    {x : List (DataW H) × List (DataW H) × List MemPlace} (hx : DataW.whole enc C.prog ((World.laidAll C.prog os laid).forCall (fun _ _ => 0) ⟨#[], args, []⟩).memory fn.params.toList s.vars apart args.toList 8 = some x)
    (hconds : conds.all (PathCond.test C.prog ⟨fn.params.toList, x.1, s.bare.plain.varTypes C.prog, x.2.1⟩) = true) (hkk : ∀ k, s.cond = some k → k H (x.1 ++ x.2.1) = true)
    (hsz : s.bare.sizedB enc C.prog fn apart ((World.laidAll C.prog os laid).forCall (fun _ _ => 0) ⟨#[], args, []⟩).memory args 8 = true) :
    ∃ (w : World) (tape : Tape) (i : Input), w.os = os ∧ (w.forCall tape i).Shaped C.prog ∧ i.vars = [] ∧ Input.okWide C.prog (w.forCall tape i) .any w.heap.size f i ∧
      s.preRow enc C.prog fn conds apart laid (w.forCall tape i).memory i.args ∧ ({} : Assume).holds C.prog (lone (Frame.enter C.prog f i.args .normal) [] (w.forCall tape i)) :=
  ⟨World.laidAll C.prog os laid, fun _ _ => 0, ⟨#[], args, []⟩, World.laidAll_os _ _ _, World.shaped_of_ZipB hv hr, (Input.okWide_of_okWideB (base := 0) hok).1, (Input.okWide_of_okWideB hok).2,
    OpenSpec.preRow_of_cond 8 hx hconds hkk hsz (by rw [hplain]; exact laidMet_laidAll _ hf hi), by
    simp only [Assume.holds]
    exact ⟨by simp, by simp, fun _ => Modest.zero, by simp, by simp⟩⟩
end Go.Proofs.YtaiipdjibllodaaDoor.LawCard

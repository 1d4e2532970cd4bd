/- Texts of this seat, one behind another: TargetAbsoluteW. -/
import Derived.Deep.QuietTactic
import Derived.BigQuiet
import Derived.Laws.DeepStrings4
import Derived.Test.YtaiipdjibllodaaDoorB2
/- An absolute target means what its path means as an origin, with the host that it names: TargetAbsolute returns true, for what comes in of bulk at most 1048576. -/
namespace Go.Proofs.YtaiipdjibllodaaDoor.TargetAbsoluteW
open Go.ChangeShapes Go.WideShapes Go.ChangeAt Go.RowKit LexPure Bytes HostPure TargetPure PUnder TAuth TBox TParse TEq TAnchor Mem
set_option maxRecDepth 20000
set_option linter.unusedVariables false
theorem ends_two (b : UInt8) : (endC b = false ∧ ((b.toNat : Int) == 47) = false ∧ ((b.toNat : Int) == 63) = false) ∨ (endC b = true ∧ ((b.toNat : Int) == 47) = true) ∨ (endC b = true ∧ ((b.toNat : Int) == 47) = false ∧ ((b.toNat : Int) == 63) = true) := by
  have := all_bytes (p := fun b => decide ((endC b = false ∧ ((b.toNat : Int) == 47) = false ∧ ((b.toNat : Int) == 63) = false) ∨ (endC b = true ∧ ((b.toNat : Int) == 47) = true) ∨ (endC b = true ∧ ((b.toNat : Int) == 47) = false ∧ ((b.toNat : Int) == 63) = true))) (by decide +kernel) b
  exact of_decide_eq_true this
/-- what the two calls of Parse answer -/
def absT (host s : ByteArray) : ByteArray := (⟨#[104, 116, 116, 112, 58, 47, 47]⟩ ++ host) ++ ⟨#[47]⟩ ++ s
def orgT (s : ByteArray) : ByteArray := ⟨#[47]⟩ ++ s
theorem absT_toL (host s : ByteArray) : toL (absT host s) = SCHEME ++ toL host ++ 47 :: toL s := by
  unfold absT
  rw [toL_append, toL_append, toL_append]
  simp only [List.append_assoc]
  rfl
theorem orgT_toL (s : ByteArray) : toL (orgT s) = 47 :: toL s := by
  unfold orgT
  rw [toL_append]
  rfl
theorem absT_size (host s : ByteArray) : (absT host s).size = 8 + host.size + s.size := by
  unfold absT
  rw [ByteArray.size_append, ByteArray.size_append, ByteArray.size_append]
  show 7 + host.size + 1 + s.size = _
  omega
theorem orgT_size (s : ByteArray) : (orgT s).size = 1 + s.size := by
  unfold orgT
  rw [ByteArray.size_append]
  rfl
/-- the contract of Parse, spelled out, at an answer of one's own -/
def Gives (s : ByteArray) (x : Tgt × Int) : Prop := ∀ w, MaxInt w → Calls Tryd.prog 9 #[.string ⟨#[71, 69, 84]⟩, .string s] w fun e w' => e = .returned (.tuple #[.agg #[.int .i64 x.1.form, .string (ofL x.1.host), .int .i64 x.1.port, .string (ofL x.1.path), .string (ofL x.1.query), .bool x.1.has], .int .i64 x.2]) ∧ Below w.heap.size w w'
theorem gives (s : ByteArray) (hs : s.size ≤ 4194000) (x : Tgt × Int) (hx : x = parse6 GET (toL s)) : Gives s x := fun w hm => by
  rw [hx]
  exact tparse_any ⟨#[71, 69, 84]⟩ s hs w hm
theorem all_no {s : ByteArray} (h : ∀ j (hj : j < s.size), endC s[j] = false) : (toL s).all (fun c => !endC c) = true := by
  rw [List.all_eq_true]
  intro c hc
  obtain ⟨j, hj, rfl⟩ := List.mem_iff_getElem.1 hc
  have hjs : j < s.size := by rwa [toL_length] at hj
  have h1 := toL_get s j hjs
  rw [List.getElem?_eq_getElem hj] at h1
  rw [Option.some.inj h1, h j hjs]
  rfl
set_option maxHeartbeats 3200000 in
/-- a host that holds the sign of an end -/
theorem walk_end (host s : ByteArray) (z0 : host.size ≤ 1048576) (z1 : s.size ≤ 1048576) (hE : ∃ j, ∃ h : j < host.size, endC host[j] = true) (w : World) (hm : MaxInt w) :
    Calls Tryd.prog 6 #[.string host, .string s] w fun e w' => e = .returned (.bool true) ∧ Below w.heap.size w w' := by
  have HM := Lib.hid hm
  clear hm
  have U0 := Lib.hid (fun w hm => tauth_any host (by omega) w hm)
  obtain ⟨⟨⟨f1, h1, p1, a1, q1, b1⟩, r1⟩, hx1⟩ : ∃ x, x = parse6 GET (toL (absT host s)) := ⟨_, rfl⟩
  obtain ⟨⟨⟨f2, h2, p2, a2, q2, b2⟩, r2⟩, hx2⟩ : ∃ x, x = parse6 GET (toL (orgT s)) := ⟨_, rfl⟩
  have U1 := Lib.hid (gives (absT host s) (by rw [absT_size]; omega) _ hx1)
  have U2 := Lib.hid (gives (orgT s) (by rw [orgT_size]; omega) _ hx2)
  unfold Gives absT at U1
  unfold Gives orgT at U2
  simp only at U1 U2
  clear hx1 hx2
  have HEE := Lib.hid hE
  clear hE
  have e1 : (⟨#[104, 116, 116, 112, 58, 47, 47]⟩ : ByteArray).size + host.size ≤ 9223372036854775807 := by exact (by omega : 7 + host.size ≤ 9223372036854775807)
  have e2 : ((⟨#[104, 116, 116, 112, 58, 47, 47]⟩ : ByteArray) ++ host).size + (⟨#[47]⟩ : ByteArray).size ≤ 9223372036854775807 := by rw [ByteArray.size_append]; exact (by omega : 7 + host.size + 1 ≤ 9223372036854775807)
  have e3 : ((⟨#[104, 116, 116, 112, 58, 47, 47]⟩ : ByteArray) ++ host ++ ⟨#[47]⟩).size + s.size ≤ 9223372036854775807 := by rw [ByteArray.size_append, ByteArray.size_append]; exact (by omega : 7 + host.size + 1 + s.size ≤ 9223372036854775807)
  have e4 : (⟨#[47]⟩ : ByteArray).size + s.size ≤ 9223372036854775807 := by exact (by omega : 1 + s.size ≤ 9223372036854775807)
  have hli : (host.size : Int) ≤ 1048576 := by omega
  go_enter Tryd.func6, Tryd.ntmps6
  go_wp2_with fail
  refine (anchor_any _ HM.out).mono ?_
  rintro e w1 ⟨rfl, hb1⟩
  go_wp2_with fail
  refine (U0.out _ (HM.out.below hb1)).mono ?_
  rintro e w2 ⟨rfl, hb2⟩
  replace hb1 := below_chain hb1 hb2
  clear hb2
  go_wp2_with fail
  refine (U1.out _ (HM.out.below hb1)).mono ?_
  rintro e w3 ⟨rfl, hb3⟩
  replace hb1 := below_chain hb1 hb3
  clear hb3
  have HX := Lib.hid (Bx.new hb1 f1 h1 p1 a1 q1 b1)
  clear hb1
  go_wp2_with fail
  generalize w3.alloc (.cells #[.int .i64 f1, .string (ofL h1), .int .i64 p1, .string (ofL a1), .string (ofL q1), .bool b1] 24) = W at HX ⊢
  generalize w3.heap.size = g at HX ⊢
  refine (U2.out _ (HM.out.below HX.out.below)).mono ?_
  rintro e w4 ⟨rfl, hb4⟩
  replace HX := Lib.hid (HX.out.call hb4)
  clear hb4
  have HNE : Hid (g < w4.heap.size) := Lib.hid HX.out.lt
  have HY := Lib.hid (Bx.new HX.out.below f2 h2 p2 a2 q2 b2)
  replace HX := Lib.hid (HX.out.alloc (.cells #[.int .i64 f2, .string (ofL h2), .int .i64 p2, .string (ofL a2), .string (ofL q2), .bool b2] 24))
  go_wp2_with fail
  generalize w4.alloc (.cells #[.int .i64 f2, .string (ofL h2), .int .i64 p2, .string (ofL a2), .string (ofL q2), .bool b2] 24) = W4 at HX HY ⊢
  generalize w4.heap.size = k at HY HNE ⊢
  go_loop [38] (fun i => ∃ n : Nat, n ≤ host.size ∧ i = .int .i64 n ∧ Hid (∃ j, n ≤ j ∧ ∃ h : j < host.size, endC host[j] = true)) (fun i => host.size - (intOf i).toNat)
  case atStart =>
    obtain ⟨j, hj, he⟩ := HEE.out
    exact ⟨0, Nat.zero_le _, rfl, Lib.hid ⟨j, Nat.zero_le _, hj, he⟩⟩
  case round =>
    obtain ⟨n, hn, rfl, hr⟩ := hrel
    clear HEE
    by_cases hlt : n < host.size
    · have hni : (n : Int) < (host.size : Int) := by omega
      rcases ends_two host[n] with ⟨he, c1, c2⟩ | ⟨he, c1⟩ | ⟨he, c1, c2⟩
      · have HN : Hid (∃ j, n + 1 ≤ j ∧ ∃ h : j < host.size, endC host[j] = true) := Lib.hid (by
          obtain ⟨j, h1, h2, h3⟩ := hr.out
          refine ⟨j, ?_, h2, h3⟩
          rcases Nat.eq_or_lt_of_le h1 with h | h
          · subst h
            rw [he] at h3
            cases h3
          · exact h)
        clear hr he
        go_wp2_with fail
        go_round
        case rel => exact ⟨n + 1, by omega, by go_num, HN⟩
        case measure => simp [intOf]; omega
      · clear hr he
        go_wp2_with fail
        go_ret
        exact ⟨rfl, HY.out.below⟩
      · clear hr he
        go_wp2_with fail
        go_ret
        exact ⟨rfl, HY.out.below⟩
    · exfalso
      obtain ⟨j, h1, h2, _⟩ := hr.out
      omega
set_option maxHeartbeats 3200000 in
/-- a host that is none -/
theorem walk_none (host s : ByteArray) (z0 : host.size ≤ 1048576) (z1 : s.size ≤ 1048576) (hE : ∀ j (h : j < host.size), endC host[j] = false) (ha : authO (toL host) = none) (w : World) (hm : MaxInt w) :
    Calls Tryd.prog 6 #[.string host, .string s] w fun e w' => e = .returned (.bool true) ∧ Below w.heap.size w w' := by
  have HM := Lib.hid hm
  clear hm
  have U0 : Hid (∀ w, MaxInt w → Calls Tryd.prog 14 #[.string host] w fun e w' => e = .returned (.tuple #[.string ⟨#[]⟩, .int .i64 0, .int .i64 61]) ∧ Below w.heap.size w w') := Lib.hid (fun w hm => by
    have h := tauth_any host (by omega) w hm
    rw [(auth_none ha).1, (auth_none ha).2.1, (auth_none ha).2.2] at h
    exact h)
  have hx1 : parse6 GET (toL (absT host s)) = (zero, 61) := by rw [absT_toL, parse_abs (all_no hE), ha]
  obtain ⟨⟨⟨f2, h2, p2, a2, q2, b2⟩, r2⟩, hx2⟩ : ∃ x, x = parse6 GET (toL (orgT s)) := ⟨_, rfl⟩
  obtain ⟨⟨f1, h1, p1, a1, q1, b1⟩, hz⟩ : ∃ z, z = zero := ⟨_, rfl⟩
  have U1 := Lib.hid (gives (absT host s) (by rw [absT_size]; omega) (⟨f1, h1, p1, a1, q1, b1⟩, 61) (by rw [hx1, hz]))
  have U2 := Lib.hid (gives (orgT s) (by rw [orgT_size]; omega) _ hx2)
  unfold Gives absT at U1
  unfold Gives orgT at U2
  simp only at U1 U2
  clear hx1 hx2 hz ha
  have HNO := Lib.hid hE
  clear hE
  have e1 : (⟨#[104, 116, 116, 112, 58, 47, 47]⟩ : ByteArray).size + host.size ≤ 9223372036854775807 := by exact (by omega : 7 + host.size ≤ 9223372036854775807)
  have e2 : ((⟨#[104, 116, 116, 112, 58, 47, 47]⟩ : ByteArray) ++ host).size + (⟨#[47]⟩ : ByteArray).size ≤ 9223372036854775807 := by rw [ByteArray.size_append]; exact (by omega : 7 + host.size + 1 ≤ 9223372036854775807)
  have e3 : ((⟨#[104, 116, 116, 112, 58, 47, 47]⟩ : ByteArray) ++ host ++ ⟨#[47]⟩).size + s.size ≤ 9223372036854775807 := by rw [ByteArray.size_append, ByteArray.size_append]; exact (by omega : 7 + host.size + 1 + s.size ≤ 9223372036854775807)
  have e4 : (⟨#[47]⟩ : ByteArray).size + s.size ≤ 9223372036854775807 := by exact (by omega : 1 + s.size ≤ 9223372036854775807)
  have hli : (host.size : Int) ≤ 1048576 := by omega
  go_enter Tryd.func6, Tryd.ntmps6
  go_wp2_with fail
  refine (anchor_any _ HM.out).mono ?_
  rintro e w1 ⟨rfl, hb1⟩
  go_wp2_with fail
  refine (U0.out _ (HM.out.below hb1)).mono ?_
  rintro e w2 ⟨rfl, hb2⟩
  replace hb1 := below_chain hb1 hb2
  clear hb2
  go_wp2_with fail
  refine (U1.out _ (HM.out.below hb1)).mono ?_
  rintro e w3 ⟨rfl, hb3⟩
  replace hb1 := below_chain hb1 hb3
  clear hb3
  have HX := Lib.hid (Bx.new hb1 f1 h1 p1 a1 q1 b1)
  clear hb1
  go_wp2_with fail
  generalize w3.alloc (.cells #[.int .i64 f1, .string (ofL h1), .int .i64 p1, .string (ofL a1), .string (ofL q1), .bool b1] 24) = W at HX ⊢
  generalize w3.heap.size = g at HX ⊢
  refine (U2.out _ (HM.out.below HX.out.below)).mono ?_
  rintro e w4 ⟨rfl, hb4⟩
  replace HX := Lib.hid (HX.out.call hb4)
  clear hb4
  have HNE : Hid (g < w4.heap.size) := Lib.hid HX.out.lt
  have HY := Lib.hid (Bx.new HX.out.below f2 h2 p2 a2 q2 b2)
  replace HX := Lib.hid (HX.out.alloc (.cells #[.int .i64 f2, .string (ofL h2), .int .i64 p2, .string (ofL a2), .string (ofL q2), .bool b2] 24))
  go_wp2_with fail
  generalize w4.alloc (.cells #[.int .i64 f2, .string (ofL h2), .int .i64 p2, .string (ofL a2), .string (ofL q2), .bool b2] 24) = W4 at HX HY ⊢
  generalize w4.heap.size = k at HY HNE ⊢
  go_loop [38] (fun i => ∃ n : Nat, n ≤ host.size ∧ i = .int .i64 n) (fun i => host.size - (intOf i).toNat)
  case atStart => exact ⟨0, Nat.zero_le _, rfl⟩
  case round =>
    obtain ⟨n, hn, rfl⟩ := hrel
    by_cases hlt : n < host.size
    · have hni : (n : Int) < (host.size : Int) := by omega
      rcases ends_two host[n] with ⟨he, c1, c2⟩ | ⟨he, c1⟩ | ⟨he, c1, c2⟩
      · clear he
        go_wp2_with fail
        go_round
        case rel => exact ⟨n + 1, by omega, by go_num⟩
        case measure => simp [intOf]; omega
      · exact absurd (HNO.out n hlt) (by rw [he]; decide)
      · exact absurd (HNO.out n hlt) (by rw [he]; decide)
    · clear HNO
      go_wp2_with fail
      go_ret
      exact ⟨rfl, HY.out.below⟩
set_option maxHeartbeats 3200000 in
/-- a path or query that is none -/
theorem walk_err (host s : ByteArray) (z0 : host.size ≤ 1048576) (z1 : s.size ≤ 1048576) (hE : ∀ j (h : j < host.size), endC host[j] = false) (hh : List UInt8) (pp : Int) (ha : authO (toL host) = some (hh, pp)) (er : Int) (her : er = (parse6 GET (toL (orgT s))).2) (hne : er ≠ 0) (w : World) (hm : MaxInt w) :
    Calls Tryd.prog 6 #[.string host, .string s] w fun e w' => e = .returned (.bool true) ∧ Below w.heap.size w w' := by
  have HM := Lib.hid hm
  clear hm
  have U0 : Hid (∀ w, MaxInt w → Calls Tryd.prog 14 #[.string host] w fun e w' => e = .returned (.tuple #[.string (ofL hh), .int .i64 pp, .int .i64 0]) ∧ Below w.heap.size w w') := Lib.hid (fun w hm => by
    have h := tauth_any host (by omega) w hm
    rw [(auth_some ha).1, (auth_some ha).2.1, (auth_some ha).2.2] at h
    exact h)
  have ho : parse6 GET (toL (orgT s)) = local6 ⟨1, [], 0, [], [], false⟩ (47 :: toL s) := by rw [orgT_toL, parse_slash GET (by decide)]
  have hx1 : parse6 GET (toL (absT host s)) = (zero, er) := by
    rw [absT_toL, parse_abs (all_no hE), ha]
    simp only
    rw [ho, local_same _ ⟨2, hh, pp, [], [], false⟩] at her
    refine Prod.ext ?_ her.symm
    exact local_err _ _ (by rw [← her]; exact hne)
  have hx2 : parse6 GET (toL (orgT s)) = (zero, er) := Prod.ext (parse_err _ _ (by rw [← her]; exact hne)) her.symm
  have U1 : Hid (∀ w, MaxInt w → Calls Tryd.prog 9 #[.string ⟨#[71, 69, 84]⟩, .string ((⟨#[104, 116, 116, 112, 58, 47, 47]⟩ ++ host) ++ ⟨#[47]⟩ ++ s)] w fun e w' => e = .returned (.tuple #[.agg #[.int .i64 0, .string ⟨#[]⟩, .int .i64 0, .string ⟨#[]⟩, .string ⟨#[]⟩, .bool false], .int .i64 er]) ∧ Below w.heap.size w w') := Lib.hid (gives (absT host s) (by rw [absT_size]; omega) (zero, er) hx1.symm)
  obtain ⟨⟨f2, h2, p2, a2, q2, b2⟩, hz⟩ : ∃ z, z = zero := ⟨_, rfl⟩
  have U2 := Lib.hid (gives (orgT s) (by rw [orgT_size]; omega) (⟨f2, h2, p2, a2, q2, b2⟩, er) (by rw [hx2, hz]))
  unfold Gives orgT at U2
  simp only at U2
  have heq := fun w => eqT 0 0 ⟨#[]⟩ ⟨#[]⟩ ⟨#[]⟩ false w
  have n1 : (er != 0) = true := bne_iff_ne.2 hne
  have n2 : (er == 0) = false := beq_eq_false_iff_ne.2 hne
  have n3 : (er != er) = false := by simp
  clear ho hx1 hx2 hz ha her hne
  have HNO := Lib.hid hE
  clear hE
  have e1 : (⟨#[104, 116, 116, 112, 58, 47, 47]⟩ : ByteArray).size + host.size ≤ 9223372036854775807 := by exact (by omega : 7 + host.size ≤ 9223372036854775807)
  have e2 : ((⟨#[104, 116, 116, 112, 58, 47, 47]⟩ : ByteArray) ++ host).size + (⟨#[47]⟩ : ByteArray).size ≤ 9223372036854775807 := by rw [ByteArray.size_append]; exact (by omega : 7 + host.size + 1 ≤ 9223372036854775807)
  have e3 : ((⟨#[104, 116, 116, 112, 58, 47, 47]⟩ : ByteArray) ++ host ++ ⟨#[47]⟩).size + s.size ≤ 9223372036854775807 := by rw [ByteArray.size_append, ByteArray.size_append]; exact (by omega : 7 + host.size + 1 + s.size ≤ 9223372036854775807)
  have e4 : (⟨#[47]⟩ : ByteArray).size + s.size ≤ 9223372036854775807 := by exact (by omega : 1 + s.size ≤ 9223372036854775807)
  have hli : (host.size : Int) ≤ 1048576 := by omega
  go_enter Tryd.func6, Tryd.ntmps6
  go_wp2_with fail
  refine (anchor_any _ HM.out).mono ?_
  rintro e w1 ⟨rfl, hb1⟩
  go_wp2_with fail
  refine (U0.out _ (HM.out.below hb1)).mono ?_
  rintro e w2 ⟨rfl, hb2⟩
  replace hb1 := below_chain hb1 hb2
  clear hb2
  go_wp2_with fail
  refine (U1.out _ (HM.out.below hb1)).mono ?_
  rintro e w3 ⟨rfl, hb3⟩
  replace hb1 := below_chain hb1 hb3
  clear hb3
  have HX : Hid (Bx w (w3.alloc (.cells #[.int .i64 0, .string ⟨#[]⟩, .int .i64 0, .string ⟨#[]⟩, .string ⟨#[]⟩, .bool false] 24)) w3.heap.size zero) := Lib.hid (Bx.new hb1 0 [] 0 [] [] false)
  clear hb1
  go_wp2_with fail
  generalize w3.alloc (.cells #[.int .i64 0, .string ⟨#[]⟩, .int .i64 0, .string ⟨#[]⟩, .string ⟨#[]⟩, .bool false] 24) = W at HX ⊢
  generalize w3.heap.size = g at HX ⊢
  refine (U2.out _ (HM.out.below HX.out.below)).mono ?_
  rintro e w4 ⟨rfl, hb4⟩
  replace HX := Lib.hid (HX.out.call hb4)
  clear hb4
  have HNE : Hid (g < w4.heap.size) := Lib.hid HX.out.lt
  have HY := Lib.hid (Bx.new HX.out.below f2 h2 p2 a2 q2 b2)
  replace HX := Lib.hid (HX.out.alloc (.cells #[.int .i64 f2, .string (ofL h2), .int .i64 p2, .string (ofL a2), .string (ofL q2), .bool b2] 24))
  go_wp2_with fail
  generalize w4.alloc (.cells #[.int .i64 f2, .string (ofL h2), .int .i64 p2, .string (ofL a2), .string (ofL q2), .bool b2] 24) = W4 at HX HY ⊢
  generalize w4.heap.size = k at HY HNE ⊢
  go_loop [38] (fun i => ∃ n : Nat, n ≤ host.size ∧ i = .int .i64 n) (fun i => host.size - (intOf i).toNat)
  case atStart => exact ⟨0, Nat.zero_le _, rfl⟩
  case round =>
    obtain ⟨n, hn, rfl⟩ := hrel
    by_cases hlt : n < host.size
    · have hni : (n : Int) < (host.size : Int) := by omega
      rcases ends_two host[n] with ⟨he, c1, c2⟩ | ⟨he, c1⟩ | ⟨he, c1, c2⟩
      · clear he
        go_wp2_with fail
        go_round
        case rel => exact ⟨n + 1, by omega, by go_num⟩
        case measure => simp [intOf]; omega
      · exact absurd (HNO.out n hlt) (by rw [he]; decide)
      · exact absurd (HNO.out n hlt) (by rw [he]; decide)
    · clear HNO
      obtain ⟨x0, x1, x2, x3, x4, x5⟩ := HX.out.box.cells
      have r0 : W4.cell? ⟨g, 0, none⟩ = some (.int .i64 0) := x0
      have r1 : W4.cell? ⟨g, 1, none⟩ = some (.string ⟨#[]⟩) := x1
      have r2 : W4.cell? ⟨g, 2, none⟩ = some (.int .i64 0) := x2
      have r3 : W4.cell? ⟨g, 3, none⟩ = some (.string ⟨#[]⟩) := x3
      have r4 : W4.cell? ⟨g, 4, none⟩ = some (.string ⟨#[]⟩) := x4
      have r5 : W4.cell? ⟨g, 5, none⟩ = some (.bool false) := x5
      clear x0 x1 x2 x3 x4 x5
      obtain ⟨y0, y1, y2, y3, y4, y5⟩ := HY.out.box.cells
      obtain ⟨v0, v1, v2, v3, v4, v5⟩ := HY.out.box.frees
      have n5 : ¬ g = k := by have := HNE.out; omega
      have n6 : ¬ k = g := by have := HNE.out; omega
      have HB := Lib.hid (((HY.out.below.setCell (p := ⟨k, 0, none⟩) HY.out.low (.int .i64 2)).setCell (p := ⟨k, 1, none⟩) HY.out.low (.string (ofL hh))).setCell (p := ⟨k, 2, none⟩) HY.out.low (.int .i64 pp))
      go_wp2_with fail
      go_ret
      exact ⟨rfl, HB.out⟩
set_option maxHeartbeats 3200000 in
/-- both are read -/
theorem walk_ok (host s : ByteArray) (z0 : host.size ≤ 1048576) (z1 : s.size ≤ 1048576) (hE : ∀ j (h : j < host.size), endC host[j] = false) (hh : List UInt8) (pp : Int) (ha : authO (toL host) = some (hh, pp)) (P Q : List UInt8) (b : Bool) (ho : local6 ⟨1, [], 0, [], [], false⟩ (47 :: toL s) = (⟨1, [], 0, P, Q, b⟩, 0)) (w : World) (hm : MaxInt w) :
    Calls Tryd.prog 6 #[.string host, .string s] w fun e w' => e = .returned (.bool true) ∧ Below w.heap.size w w' := by
  have HM := Lib.hid hm
  clear hm
  have U0 : Hid (∀ w, MaxInt w → Calls Tryd.prog 14 #[.string host] w fun e w' => e = .returned (.tuple #[.string (ofL hh), .int .i64 pp, .int .i64 0]) ∧ Below w.heap.size w w') := Lib.hid (fun w hm => by
    have h := tauth_any host (by omega) w hm
    rw [(auth_some ha).1, (auth_some ha).2.1, (auth_some ha).2.2] at h
    exact h)
  have hx2 : parse6 GET (toL (orgT s)) = (⟨1, [], 0, P, Q, b⟩, 0) := by rw [orgT_toL, parse_slash GET (by decide), ho]
  have hx1 : parse6 GET (toL (absT host s)) = (⟨2, hh, pp, P, Q, b⟩, 0) := by
    rw [absT_toL, parse_abs (all_no hE), ha]
    simp only
    refine Prod.ext ?_ ?_
    · rw [local_ok (u := ⟨1, [], 0, [], [], false⟩) (by rw [ho]), ho]
    · rw [local_same _ ⟨1, [], 0, [], [], false⟩, ho]
  have U1 := Lib.hid (gives (absT host s) (by rw [absT_size]; omega) (⟨2, hh, pp, P, Q, b⟩, 0) hx1.symm)
  unfold Gives absT at U1
  simp only at U1
  have U2 : Hid (∀ w, MaxInt w → Calls Tryd.prog 9 #[.string ⟨#[71, 69, 84]⟩, .string (⟨#[47]⟩ ++ s)] w fun e w' => e = .returned (.tuple #[.agg #[.int .i64 1, .string ⟨#[]⟩, .int .i64 0, .string (ofL P), .string (ofL Q), .bool b], .int .i64 0]) ∧ Below w.heap.size w w') := Lib.hid (gives (orgT s) (by rw [orgT_size]; omega) (⟨1, [], 0, P, Q, b⟩, 0) hx2.symm)
  have heq := fun w => eqT 2 pp (ofL hh) (ofL P) (ofL Q) b w
  clear ho hx1 hx2 ha
  have HNO := Lib.hid hE
  clear hE
  have e1 : (⟨#[104, 116, 116, 112, 58, 47, 47]⟩ : ByteArray).size + host.size ≤ 9223372036854775807 := by exact (by omega : 7 + host.size ≤ 9223372036854775807)
  have e2 : ((⟨#[104, 116, 116, 112, 58, 47, 47]⟩ : ByteArray) ++ host).size + (⟨#[47]⟩ : ByteArray).size ≤ 9223372036854775807 := by rw [ByteArray.size_append]; exact (by omega : 7 + host.size + 1 ≤ 9223372036854775807)
  have e3 : ((⟨#[104, 116, 116, 112, 58, 47, 47]⟩ : ByteArray) ++ host ++ ⟨#[47]⟩).size + s.size ≤ 9223372036854775807 := by rw [ByteArray.size_append, ByteArray.size_append]; exact (by omega : 7 + host.size + 1 + s.size ≤ 9223372036854775807)
  have e4 : (⟨#[47]⟩ : ByteArray).size + s.size ≤ 9223372036854775807 := by exact (by omega : 1 + s.size ≤ 9223372036854775807)
  have hli : (host.size : Int) ≤ 1048576 := by omega
  go_enter Tryd.func6, Tryd.ntmps6
  go_wp2_with fail
  refine (anchor_any _ HM.out).mono ?_
  rintro e w1 ⟨rfl, hb1⟩
  go_wp2_with fail
  refine (U0.out _ (HM.out.below hb1)).mono ?_
  rintro e w2 ⟨rfl, hb2⟩
  replace hb1 := below_chain hb1 hb2
  clear hb2
  go_wp2_with fail
  refine (U1.out _ (HM.out.below hb1)).mono ?_
  rintro e w3 ⟨rfl, hb3⟩
  replace hb1 := below_chain hb1 hb3
  clear hb3
  have HX := Lib.hid (Bx.new hb1 2 hh pp P Q b)
  clear hb1
  go_wp2_with fail
  generalize w3.alloc (.cells #[.int .i64 2, .string (ofL hh), .int .i64 pp, .string (ofL P), .string (ofL Q), .bool b] 24) = W at HX ⊢
  generalize w3.heap.size = g at HX ⊢
  refine (U2.out _ (HM.out.below HX.out.below)).mono ?_
  rintro e w4 ⟨rfl, hb4⟩
  replace HX := Lib.hid (HX.out.call hb4)
  clear hb4
  have HNE : Hid (g < w4.heap.size) := Lib.hid HX.out.lt
  have HY : Hid (Bx w (w4.alloc (.cells #[.int .i64 1, .string ⟨#[]⟩, .int .i64 0, .string (ofL P), .string (ofL Q), .bool b] 24)) w4.heap.size ⟨1, [], 0, P, Q, b⟩) := Lib.hid (Bx.new HX.out.below 1 [] 0 P Q b)
  replace HX := Lib.hid (HX.out.alloc (.cells #[.int .i64 1, .string ⟨#[]⟩, .int .i64 0, .string (ofL P), .string (ofL Q), .bool b] 24))
  go_wp2_with fail
  generalize w4.alloc (.cells #[.int .i64 1, .string ⟨#[]⟩, .int .i64 0, .string (ofL P), .string (ofL Q), .bool b] 24) = W4 at HX HY ⊢
  generalize w4.heap.size = k at HY HNE ⊢
  go_loop [38] (fun i => ∃ n : Nat, n ≤ host.size ∧ i = .int .i64 n) (fun i => host.size - (intOf i).toNat)
  case atStart => exact ⟨0, Nat.zero_le _, rfl⟩
  case round =>
    obtain ⟨n, hn, rfl⟩ := hrel
    by_cases hlt : n < host.size
    · have hni : (n : Int) < (host.size : Int) := by omega
      rcases ends_two host[n] with ⟨he, c1, c2⟩ | ⟨he, c1⟩ | ⟨he, c1, c2⟩
      · clear he
        go_wp2_with fail
        go_round
        case rel => exact ⟨n + 1, by omega, by go_num⟩
        case measure => simp [intOf]; omega
      · exact absurd (HNO.out n hlt) (by rw [he]; decide)
      · exact absurd (HNO.out n hlt) (by rw [he]; decide)
    · clear HNO
      obtain ⟨r0, r1, r2, r3, r4, r5⟩ := HX.out.box.cells
      obtain ⟨y0, y1, y2, y3, y4, y5⟩ := HY.out.box.cells
      obtain ⟨v0, v1, v2, v3, v4, v5⟩ := HY.out.box.frees
      have n5 : ¬ g = k := by have := HNE.out; omega
      have n6 : ¬ k = g := by have := HNE.out; omega
      have HB := Lib.hid (((HY.out.below.setCell (p := ⟨k, 0, none⟩) HY.out.low (.int .i64 2)).setCell (p := ⟨k, 1, none⟩) HY.out.low (.string (ofL hh))).setCell (p := ⟨k, 2, none⟩) HY.out.low (.int .i64 pp))
      go_wp2_with fail
      go_ret
      exact ⟨rfl, HB.out⟩
/-- TargetAbsolute -/
theorem walk (host : ByteArray) (w0 : host.size ≤ maxLen) (z0 : host.size ≤ 1048576) (s : ByteArray) (w1 : s.size ≤ maxLen) (z1 : s.size ≤ 1048576) (w : World) (hsh : w.ShapedOpen Tryd.prog) :
    Calls Tryd.prog 6 #[.string host, .string s] w fun e w' => e = .returned (.bool true) ∧ Below w.heap.size w w' := by
  have hm := MaxInt.of_shape hsh
  by_cases hE : ∃ j, ∃ h : j < host.size, endC host[j] = true
  · exact walk_end host s z0 z1 hE w hm
  · have hE2 : ∀ j (h : j < host.size), endC host[j] = false := fun j h => by
      cases hc : endC host[j] with
      | false => rfl
      | true => exact absurd ⟨j, h, hc⟩ hE
    cases ha : authO (toL host) with
    | none => exact walk_none host s z0 z1 hE2 ha w hm
    | some q =>
      obtain ⟨hh, pp⟩ := q
      by_cases he : (parse6 GET (toL (orgT s))).2 = 0
      · rw [orgT_toL, parse_slash GET (by decide)] at he
        rcases local_cases ⟨1, [], 0, [], [], false⟩ (47 :: toL s) with e | e | ⟨p, _, _, e⟩
        · rw [e] at he; exact absurd he (show ¬ (50 : Int) = 0 by decide)
        · rw [e] at he; exact absurd he (show ¬ (60 : Int) = 0 by decide)
        · exact walk_ok host s z0 z1 hE2 hh pp ha _ _ _ e w hm
      · exact walk_err host s z0 z1 hE2 hh pp ha _ rfl he w hm
end Go.Proofs.YtaiipdjibllodaaDoor.TargetAbsoluteW

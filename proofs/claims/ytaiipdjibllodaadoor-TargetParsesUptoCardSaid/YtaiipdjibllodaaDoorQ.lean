/- Texts of this seat, one behind another: TLike, ROrigin, RParse, RFar, RParseAll, TargetParsesW. -/
import Derived.Lib.Hide
import Derived.Outline
import Derived.Handy
import Derived.Deep.QuietTactic
import Derived.BigQuiet
import Derived.Laws.DeepStrings4
import Derived.Deep.RegionHeld3
import Derived.Test.YtaiipdjibllodaaDoorB1
import Derived.Test.YtaiipdjibllodaaDoorA1
import Derived.Test.YtaiipdjibllodaaDoorC
import Derived.Test.YtaiipdjibllodaaDoorP2
import Derived.Test.YtaiipdjibllodaaDoorB2
import Derived.Test.YtaiipdjibllodaaDoorP1
/- Layer 6: like, of the laws. -/
namespace Go.Proofs.YtaiipdjibllodaaDoor.TLike
open Go.ChangeShapes Go.WideShapes Go.ChangeAt Go.RowKit LexPure Bytes Ret TargetPure TBox Mem
set_option maxRecDepth 20000
set_option maxHeartbeats 1600000 in
theorem like_any (a c : Int) (h p q : ByteArray) (b : Bool) (w : World) :
    Calls Tryd.prog 11 #[.agg #[.int .i64 a, .string h, .int .i64 c, .string p, .string q, .bool b], .agg #[.int .i64 a, .string h, .int .i64 c, .string p, .string q, .bool b]] w fun e w' => e = .returned (.bool true) ∧ Below w.heap.size w w' := by
  have q1 : (a == a) = true := beq_self_eq_true _
  have q2 : (c == c) = true := beq_self_eq_true _
  have q3 : (h.toList == h.toList) = true := beq_self_eq_true _
  have q4 : (p.toList == p.toList) = true := beq_self_eq_true _
  have q5 : (q.toList == q.toList) = true := beq_self_eq_true _
  have q6 : (b == b) = true := beq_self_eq_true _
  have hb := ((Below.refl w.heap.size w).alloc (Nat.le_refl _) (.cells #[.int .i64 a, .string h, .int .i64 c, .string p, .string q, .bool b] 24)).alloc (by simp) (.cells #[.int .i64 a, .string h, .int .i64 c, .string p, .string q, .bool b] 28)
  replace hb := Lib.hid hb
  go_enter Tryd.func11, Tryd.ntmps11
  go_wp2_with fail
  go_ret
  exact ⟨rfl, hb.out⟩
end Go.Proofs.YtaiipdjibllodaaDoor.TLike

/- Layer 6, the document's own Origin. -/
namespace Go.Proofs.YtaiipdjibllodaaDoor.ROrigin
open Go.ChangeShapes Go.WideShapes Go.ChangeAt Go.RowKit LexPure Bytes Ret TargetPure TBox TOrigin Mem
set_option maxRecDepth 20000
set_option maxHeartbeats 1600000 in
theorem rorigin_any (t : Tgt) (hl : t.path.length + t.query.length ≤ 140737488351232) (w : World) :
    Calls Tryd.prog 13 #[.agg #[.int .i64 t.form, .string (ofL t.host), .int .i64 t.port, .string (ofL t.path), .string (ofL t.query), .bool t.has]] w fun e w' => e = .returned (.string (ofL (origin6 t))) ∧ Below w.heap.size w w' := by
  have hl2 : (ofL t.path).size + (⟨#[63]⟩ : ByteArray).size ≤ 9223372036854775807 := by rw [ofL_size]; exact (by omega : t.path.length + 1 ≤ 9223372036854775807)
  have hl3 : (ofL t.path ++ ⟨#[63]⟩).size + (ofL t.query).size ≤ 9223372036854775807 := by rw [ByteArray.size_append, ofL_size, ofL_size]; exact (by omega : t.path.length + 1 + t.query.length ≤ 9223372036854775807)
  have HJ := Lib.hid (joined t.path t.query)
  have hb := Lib.hid ((Below.refl w.heap.size w).alloc (Nat.le_refl _) (.cells (tc t) 28))
  obtain ⟨x, hx⟩ : ∃ x, x = origin6 t := ⟨_, rfl⟩
  rw [← hx]
  replace hx := Lib.hid hx
  obtain ⟨fo, ho, po, pa, qu, ha⟩ := t
  simp only at *
  clear hl
  by_cases h12 : fo = 1 ∨ fo = 2
  · cases ha with
    | true =>
      have hr : Hid (x = pa ++ 63 :: qu) := Lib.hid (by rw [hx.out]; unfold origin6; rw [if_pos h12]; rfl)
      clear hx
      rcases h12 with rfl | rfl
      all_goals
        go_enter Tryd.func13, Tryd.ntmps13
        go_wp2_with fail
        go_ret
        exact ⟨ret_string (by rw [hr.out, HJ.out]), hb.out⟩
    | false =>
      have hr : Hid (x = pa) := Lib.hid (by rw [hx.out]; unfold origin6; rw [if_pos h12]; rfl)
      clear hx
      rcases h12 with rfl | rfl
      all_goals
        go_enter Tryd.func13, Tryd.ntmps13
        go_wp2_with fail
        go_ret
        exact ⟨ret_string (by rw [hr.out]), hb.out⟩
  · by_cases h4 : fo = 4
    · have hr : Hid (x = [42]) := Lib.hid (by rw [hx.out]; unfold origin6; rw [if_neg h12, if_pos h4])
      clear hx h12
      subst h4
      go_enter Tryd.func13, Tryd.ntmps13
      go_wp2_with fail
      go_ret
      exact ⟨ret_string (by rw [hr.out]; rfl), hb.out⟩
    · have hr : Hid (x = []) := Lib.hid (by rw [hx.out]; unfold origin6; rw [if_neg h12, if_neg h4])
      have q1 : (fo == 1) = false := beq_eq_false_iff_ne.2 (fun h => h12 (.inl h))
      have q2 : (fo == 2) = false := beq_eq_false_iff_ne.2 (fun h => h12 (.inr h))
      have q4 : (fo == 4) = false := beq_eq_false_iff_ne.2 h4
      have n1 : (fo != 1) = true := bne_iff_ne.2 (fun h => h12 (.inl h))
      have n2 : (fo != 2) = true := bne_iff_ne.2 (fun h => h12 (.inr h))
      clear hx h12 h4
      go_enter Tryd.func13, Tryd.ntmps13
      go_wp2_with fail
      go_ret
      exact ⟨ret_string (by rw [hr.out]; rfl), hb.out⟩
end Go.Proofs.YtaiipdjibllodaaDoor.ROrigin

/- Layer 6, the document's own Parse. -/
namespace Go.Proofs.YtaiipdjibllodaaDoor.RParse
open Go.ChangeShapes Go.WideShapes Go.ChangeAt Go.RowKit LexPure Bytes Ret CutAt HostPure TargetPure RAuth RLower RLocal TBox RBox Mem
set_option maxRecDepth 20000
theorem is_text (s : ByteArray) (l : List UInt8) : (s.toList == l) = (toL s == l) := by rw [ByteArray.toList_eq]
theorem inA_end {s : ByteArray} {k : Nat} (h7 : 7 ≤ k) (hk : k ≤ s.size) (ha : (((toL s).take k).drop 7).all (fun c => !endC c) = true) (hx : ∀ h : k < s.size, endC s[k] = true) :
    inA ((toL s).drop 7) = ((toL s).take k).drop 7 ∧ outA ((toL s).drop 7) = (toL s).drop k := by
  have h' : ∀ a ∈ ((toL s).take k).drop 7, (!endC a) = true := List.all_eq_true.1 ha
  have hs : (toL s).drop 7 = ((toL s).take k).drop 7 ++ (toL s).drop k := by
    conv => lhs; rw [← List.take_append_drop k (toL s)]
    rw [List.drop_append_of_le_length (by rw [List.length_take, toL_length]; omega)]
  have hd : (toL s).drop k = [] ∨ ∃ c r, (toL s).drop k = c :: r ∧ endC c = true := by
    by_cases h : k < s.size
    · exact .inr ⟨s[k], _, toL_drop s k h, hx h⟩
    · exact .inl (List.drop_of_length_le (by rw [toL_length]; omega))
  generalize ((toL s).take k).drop 7 = A at *
  generalize (toL s).drop k = B at *
  rw [hs]
  unfold inA outA
  rw [List.takeWhile_append_of_pos h', List.dropWhile_append_of_pos h']
  rcases hd with rfl | ⟨c, r, rfl, hc⟩
  · simp
  · rw [List.takeWhile_cons, List.dropWhile_cons, hc]
    simp
theorem end_cases (b : UInt8) : (endC b = false ∧ ((b.toNat : Int) != 47) = true ∧ ((b.toNat : Int) != 63) = true) ∨ (endC b = true ∧ b = 47 ∧ ((b.toNat : Int) != 47) = false) ∨ (endC b = true ∧ b = 63 ∧ ((b.toNat : Int) != 47) = true ∧ ((b.toNat : Int) != 63) = false) := by
  have := all_bytes (p := fun b => decide ((endC b = false ∧ ((b.toNat : Int) != 47) = true ∧ ((b.toNat : Int) != 63) = true) ∨ (endC b = true ∧ b = 47 ∧ ((b.toNat : Int) != 47) = false) ∨ (endC b = true ∧ b = 63 ∧ ((b.toNat : Int) != 47) = true ∧ ((b.toNat : Int) != 63) = false))) (by decide +kernel) b
  exact of_decide_eq_true this
theorem slash_cases (b : UInt8) : (b = 47 ∧ ((b.toNat : Int) == 47) = true) ∨ (b ≠ 47 ∧ ((b.toNat : Int) == 47) = false) := by
  have := all_bytes (p := fun b => decide ((b = 47 ∧ ((b.toNat : Int) == 47) = true) ∨ (b ≠ 47 ∧ ((b.toNat : Int) == 47) = false))) (by decide +kernel) b
  exact of_decide_eq_true this
/-- a request to tunnel -/
theorem rparse_connect (m s : ByteArray) (hs : s.size ≤ 1048576) (hm : (toL m == CONNECT) = true) (w : World) :
    Calls Tryd.prog 10 #[.string m, .string s] w fun e w' => e = .returned (rv (remote6 (toL s))) ∧ Below w.heap.size w w' := by
  have t1 := is_text m CONNECT
  rw [hm] at t1
  unfold CONNECT at t1
  have HA := Lib.hid (fun w => rauth_any s (by omega) w)
  have HT := Lib.hid (ROne.start w)
  clear hs hm
  obtain ⟨x, hx⟩ : ∃ x, x = remote6 (toL s) := ⟨_, rfl⟩
  rw [← hx]
  replace hx := Lib.hid hx
  go_enter Tryd.func10, Tryd.ntmps10
  go_wp2_with fail
  generalize w.alloc (.cells #[.int .i64 0, .string ⟨#[]⟩, .int .i64 0, .string ⟨#[]⟩, .string ⟨#[]⟩, .bool false] 28) = W at HT ⊢
  obtain ⟨g, hg⟩ : ∃ g, g = w.heap.size := ⟨_, rfl⟩
  rw [← hg] at HT ⊢
  replace hg := Lib.hid hg
  refine (HA.out _).mono ?_
  rintro e w1 ⟨rfl, hb1⟩
  replace HT := Lib.hid (HT.out.call hb1)
  clear HA hb1
  obtain ⟨r0, r1, r2, r3, r4, r5⟩ := HT.out.rbox.cells
  obtain ⟨f0, f1, f2, f3, f4, f5⟩ := HT.out.rbox.frees
  cases ha : authO (toL s) with
  | none =>
    have hr : x = (zero, 60) := by rw [hx.out]; unfold remote6; rw [ha]
    subst hr
    rw [(auth_none ha).1, (auth_none ha).2.1, (auth_none ha).2.2]
    have HE := Lib.hid (HT.out.rbox.put zero)
    have HB := Lib.hid (HT.out.put zero)
    clear hx ha
    go_wp2_with fail
    refine bodyPost_ret (v := rv (zero, 60)) ?_ rfl ⟨rfl, HB.out⟩
    rw [results_cell_tmp rfl]
    exact end_rbox rfl rfl HE.out
  | some q =>
    obtain ⟨h, p⟩ := q
    rw [(auth_some ha).1, (auth_some ha).2.1, (auth_some ha).2.2]
    by_cases hp : p = 0
    · have hr : x = (zero, 60) := by rw [hx.out]; unfold remote6; rw [ha]; simp only; rw [if_pos hp]
      subst hr
      subst hp
      have HE := Lib.hid (HT.out.rbox.put zero)
      have HB := Lib.hid (HT.out.put zero)
      clear hx ha
      go_wp2_with fail
      refine bodyPost_ret (v := rv (zero, 60)) ?_ rfl ⟨rfl, HB.out⟩
      rw [results_cell_tmp rfl]
      exact end_rbox rfl rfl HE.out
    · have hr : x = (⟨3, h, p, [], [], false⟩, 0) := by rw [hx.out]; unfold remote6; rw [ha]; simp only; rw [if_neg hp]
      subst hr
      have hq : (p == 0) = false := beq_eq_false_iff_ne.2 hp
      have HE := Lib.hid (HT.out.rbox.put ⟨3, h, p, [], [], false⟩)
      have HB := Lib.hid (HT.out.put ⟨3, h, p, [], [], false⟩)
      clear hx ha hp
      go_wp2_with fail
      refine bodyPost_ret (v := rv (⟨3, h, p, [], [], false⟩, 0)) ?_ rfl ⟨rfl, HB.out⟩
      rw [results_cell_tmp rfl]
      exact end_rbox rfl rfl HE.out
theorem rlocal_in (fo : Int) (ho : List UInt8) (po : Int) (s : ByteArray) (hs : s.size ≤ 1048576) (x : Tgt × Int) (hx : x = local6 ⟨fo, ho, po, [], [], false⟩ (toL s)) (w : World) :
    Calls Tryd.prog 23 #[.agg #[.int .i64 fo, .string (ofL ho), .int .i64 po, .string ⟨#[]⟩, .string ⟨#[]⟩, .bool false], .string s] w fun e w' =>
      e = .returned (.tuple #[.agg #[.int .i64 x.1.form, .string (ofL x.1.host), .int .i64 x.1.port, .string (ofL x.1.path), .string (ofL x.1.query), .bool x.1.has], .int .i64 x.2]) ∧ Below w.heap.size w w' :=
  rlocal_any fo ho po s hs x hx w
set_option maxHeartbeats 1600000 in
theorem rparse_star (m s : ByteArray) (hm : (toL m == CONNECT) = false) (hs : (toL s == [42]) = true) (ho : (toL m == OPTIONS) = true) (w : World) :
    Calls Tryd.prog 10 #[.string m, .string s] w fun e w' => e = .returned (rv (⟨4, [], 0, [], [], false⟩, 0)) ∧ Below w.heap.size w w' := by
  have t1 := is_text m CONNECT
  rw [hm] at t1
  unfold CONNECT at t1
  have t2 := is_text s [42]
  rw [hs] at t2
  have t3 := is_text m OPTIONS
  rw [ho] at t3
  unfold OPTIONS at t3
  clear hm hs ho
  go_enter Tryd.func10, Tryd.ntmps10
  go_wp2_with fail
  refine bodyPost_ret (v := rv (⟨4, [], 0, [], [], false⟩, 0)) ?_ rfl ⟨rfl, (Below.refl w.heap.size w).alloc (Nat.le_refl _) _⟩
  rw [results_cell_tmp rfl]
  exact end_rbox rfl rfl (RB.new w ⟨4, [], 0, [], [], false⟩)
/-- how a text begins, for the walk -/
def HeadNot (s : ByteArray) : Prop := s.size = 0 ∨ ∃ h : 0 < s.size, ((s[0].toNat : Int) == 47) = false
theorem head_not {s : ByteArray} (h : ((toL s).head? == some 47) = false) : HeadNot s := by
  by_cases h0 : 0 < s.size
  · right
    refine ⟨h0, ?_⟩
    have hg := toL_get s 0 h0
    rw [List.head?_eq_getElem?, hg] at h
    rcases slash_cases s[0] with ⟨e, _⟩ | ⟨_, e⟩
    · rw [e] at h
      exact absurd h (by decide)
    · exact e
  · exact .inl (by omega)
theorem head_yes {s : ByteArray} (h : ((toL s).head? == some 47) = true) : ∃ h : 0 < s.size, ((s[0].toNat : Int) == 47) = true := by
  by_cases h0 : 0 < s.size
  · refine ⟨h0, ?_⟩
    have hg := toL_get s 0 h0
    rw [List.head?_eq_getElem?, hg, beq_iff_eq] at h
    rw [Option.some.inj h]
    rfl
  · have : toL s = [] := List.length_eq_zero_iff.1 (by rw [toL_length]; omega)
    rw [this] at h
    cases h
set_option maxHeartbeats 1600000 in
/-- too short for a scheme: neither a star that is meant, nor a path -/
theorem rparse_short (m s : ByteArray) (hm : (toL m == CONNECT) = false) (hs : (toL s == [42]) = false ∨ ((toL s == [42]) = true ∧ (toL m == OPTIONS) = false)) (hh : HeadNot s) (h7 : s.size < 7) (w : World) :
    Calls Tryd.prog 10 #[.string m, .string s] w fun e w' => e = .returned (rv (zero, 60)) ∧ Below w.heap.size w w' := by
  have t1 := is_text m CONNECT
  rw [hm] at t1
  unfold CONNECT at t1
  have t2 := is_text s [42]
  have t3 := is_text m OPTIONS
  unfold OPTIONS at t3
  have h7i : (s.size : Int) < 7 := by omega
  rcases hs with hs | ⟨hs, ho⟩
  · rw [hs] at t2
    clear hm hs t3
    rcases hh with h0 | ⟨h0, hq⟩
    · have h0i : ¬ (0 : Int) < (s.size : Int) := by omega
      clear h0 h7
      go_enter Tryd.func10, Tryd.ntmps10
      go_wp2_with fail
      refine bodyPost_ret (v := rv (zero, 60)) ?_ rfl ⟨rfl, (Below.refl w.heap.size w).alloc (Nat.le_refl _) _⟩
      rw [results_cell_tmp rfl]
      exact end_rbox rfl rfl (RB.new w zero)
    · have h0i : (0 : Int) < (s.size : Int) := by omega
      go_enter Tryd.func10, Tryd.ntmps10
      go_wp2_with fail
      refine bodyPost_ret (v := rv (zero, 60)) ?_ rfl ⟨rfl, (Below.refl w.heap.size w).alloc (Nat.le_refl _) _⟩
      rw [results_cell_tmp rfl]
      exact end_rbox rfl rfl (RB.new w zero)
  · rw [hs] at t2
    unfold OPTIONS at ho
    rw [ho] at t3
    rcases hh with h0 | ⟨h0, hq⟩
    · exfalso
      have := toL_length s
      rw [beq_iff_eq] at hs
      rw [hs, h0] at this
      cases this
    · clear hm hs ho
      have h0i : (0 : Int) < (s.size : Int) := by omega
      go_enter Tryd.func10, Tryd.ntmps10
      go_wp2_with fail
      refine bodyPost_ret (v := rv (zero, 60)) ?_ rfl ⟨rfl, (Below.refl w.heap.size w).alloc (Nat.le_refl _) _⟩
      rw [results_cell_tmp rfl]
      exact end_rbox rfl rfl (RB.new w zero)
set_option maxHeartbeats 1600000 in
/-- a path -/
theorem rparse_slash (m s : ByteArray) (hs : s.size ≤ 1048576) (hm : (toL m == CONNECT) = false) (hh : ((toL s).head? == some 47) = true) (w : World) :
    Calls Tryd.prog 10 #[.string m, .string s] w fun e w' => e = .returned (rv (local6 ⟨1, [], 0, [], [], false⟩ (toL s))) ∧ Below w.heap.size w w' := by
  have t1 := is_text m CONNECT
  rw [hm] at t1
  unfold CONNECT at t1
  obtain ⟨h0, hq⟩ := head_yes hh
  have t2 : (s.toList == [42]) = false := by
    rw [is_text, beq_eq_false_iff_ne]
    intro e
    rw [e] at hh
    exact absurd hh (by decide)
  have h0i : (0 : Int) < (s.size : Int) := by omega
  have HT := Lib.hid (ROne.start w)
  obtain ⟨x, hx⟩ : ∃ x, x = local6 ⟨1, [], 0, [], [], false⟩ (toL s) := ⟨_, rfl⟩
  rw [← hx]
  have HW := Lib.hid (fun w => rlocal_in 1 [] 0 s hs x hx w)
  clear hx hm hh hs
  go_enter Tryd.func10, Tryd.ntmps10
  go_wp2_with fail
  generalize w.alloc (.cells #[.int .i64 0, .string ⟨#[]⟩, .int .i64 0, .string ⟨#[]⟩, .string ⟨#[]⟩, .bool false] 28) = W at HT ⊢
  obtain ⟨g, hg⟩ : ∃ g, g = w.heap.size := ⟨_, rfl⟩
  rw [← hg] at HT ⊢
  replace hg := Lib.hid hg
  refine (HW.out _).mono ?_
  rintro e w4 ⟨rfl, hb4⟩
  replace HT := Lib.hid (HT.out.call hb4)
  clear HW hb4
  obtain ⟨r0, r1, r2, r3, r4, r5⟩ := HT.out.rbox.cells
  obtain ⟨f0, f1, f2, f3, f4, f5⟩ := HT.out.rbox.frees
  have HE := Lib.hid (HT.out.rbox.put x.1)
  have HB := Lib.hid (HT.out.put x.1)
  go_wp2_with fail
  refine bodyPost_ret (v := rv x) ?_ rfl ⟨rfl, HB.out⟩
  rw [results_cell_tmp rfl]
  exact end_rbox rfl rfl HE.out
end Go.Proofs.YtaiipdjibllodaaDoor.RParse

/- Layer 6, the document's own Parse: a target behind a scheme. -/
namespace Go.Proofs.YtaiipdjibllodaaDoor.RFar
open Go.ChangeShapes Go.WideShapes Go.ChangeAt Go.RowKit LexPure Bytes Ret CutAt HostPure TargetPure RAuth RLower RLocal RParse TBox RBox Mem
set_option maxRecDepth 20000
theorem scheme_say (s : ByteArray) (h7 : 7 ≤ s.size) : ((ofL (lower (toL (s.extract 0 7)))).toList == SCHEME) = hasScheme (toL s) := by
  unfold hasScheme alike
  rw [is_text, toL_ofL, toL_extract, List.drop_zero, decide_eq_true (by rw [toL_length]; exact h7), show lower SCHEME = SCHEME by decide]
  rfl
theorem first_at {s : ByteArray} {k : Nat} (h : k < s.size) : (s.extract k s.size)[0]'(by rw [ByteArray.size_extract]; omega) = s[k] := by
  have h1 := toL_get (s.extract k s.size) 0 (by rw [ByteArray.size_extract]; omega)
  rw [toL_extract, List.take_of_length_le (by rw [toL_length]; exact Nat.le_refl _), List.getElem?_drop, Nat.add_zero, toL_get s k h] at h1
  exact (Option.some.inj h1).symm
set_option maxHeartbeats 3200000 in
theorem rparse_other (m s : ByteArray) (hm : (toL m == CONNECT) = false) (hs : (toL s == [42]) = false) (hh : HeadNot s) (h7 : 7 ≤ s.size) (hl : s.size ≤ 1048576) (hsc : hasScheme (toL s) = false) (w : World) :
    Calls Tryd.prog 10 #[.string m, .string s] w fun e w' => e = .returned (rv (zero, 60)) ∧ Below w.heap.size w w' := by
  have t1 := is_text m CONNECT
  rw [hm] at t1
  unfold CONNECT at t1
  have t2 := is_text s [42]
  rw [hs] at t2
  have t3 := scheme_say s h7
  rw [hsc] at t3
  unfold SCHEME at t3
  have h7i : (7 : Int) ≤ (s.size : Int) := by omega
  have h0i : (0 : Int) < (s.size : Int) := by omega
  obtain ⟨h0, hq⟩ : ∃ h : 0 < s.size, ((s[0].toNat : Int) == 47) = false := by
    rcases hh with h | h
    · omega
    · exact h
  have HL := Lib.hid (fun w => rlower_any (s.extract 0 7) (by rw [ByteArray.size_extract]; omega) w)
  have HT := Lib.hid (ROne.start w)
  clear hm hs hh hsc hl h7
  generalize ofL (lower (toL (s.extract 0 7))) = L at *
  go_enter Tryd.func10, Tryd.ntmps10
  go_wp2_with fail
  generalize w.alloc (.cells #[.int .i64 0, .string ⟨#[]⟩, .int .i64 0, .string ⟨#[]⟩, .string ⟨#[]⟩, .bool false] 28) = W at HT ⊢
  obtain ⟨g, hg⟩ : ∃ g, g = w.heap.size := ⟨_, rfl⟩
  rw [← hg] at HT ⊢
  replace hg := Lib.hid hg
  refine (HL.out _).mono ?_
  rintro e w1 ⟨rfl, hb1⟩
  replace HT := Lib.hid (HT.out.call hb1)
  clear HL hb1
  obtain ⟨r0, r1, r2, r3, r4, r5⟩ := HT.out.rbox.cells
  obtain ⟨f0, f1, f2, f3, f4, f5⟩ := HT.out.rbox.frees
  have HE := Lib.hid (HT.out.rbox.put zero)
  have HB := Lib.hid (HT.out.put zero)
  go_wp2_with fail
  refine bodyPost_ret (v := rv (zero, 60)) ?_ rfl ⟨rfl, HB.out⟩
  rw [results_cell_tmp rfl]
  exact end_rbox rfl rfl HE.out
set_option maxHeartbeats 3200000 in
theorem rparse_far (m s : ByteArray) (hm : (toL m == CONNECT) = false) (hs : (toL s == [42]) = false) (hh : HeadNot s) (h7 : 7 ≤ s.size) (hl : s.size ≤ 1048576) (hsc : hasScheme (toL s) = true) (w : World) :
    Calls Tryd.prog 10 #[.string m, .string s] w fun e w' => e = .returned (rv (absolute6 ((toL s).drop 7))) ∧ Below w.heap.size w w' := by
  have t1 := is_text m CONNECT
  rw [hm] at t1
  unfold CONNECT at t1
  have t2 := is_text s [42]
  rw [hs] at t2
  have t3 := scheme_say s h7
  rw [hsc] at t3
  unfold SCHEME at t3
  have h7i : (7 : Int) ≤ (s.size : Int) := by omega
  have h0i : (0 : Int) < (s.size : Int) := by omega
  have hli : (s.size : Int) ≤ 1048576 := by omega
  obtain ⟨h0, hq⟩ : ∃ h : 0 < s.size, ((s[0].toNat : Int) == 47) = false := by
    rcases hh with h | h
    · omega
    · exact h
  have HL := Lib.hid (fun w => rlower_any (s.extract 0 7) (by rw [ByteArray.size_extract]; omega) w)
  have HT := Lib.hid (ROne.start w)
  obtain ⟨x, hx⟩ : ∃ x, x = absolute6 ((toL s).drop 7) := ⟨_, rfl⟩
  rw [← hx]
  replace hx := Lib.hid hx
  clear hm hs hh hsc
  generalize ofL (lower (toL (s.extract 0 7))) = L at *
  go_enter Tryd.func10, Tryd.ntmps10
  go_wp2_with fail
  generalize w.alloc (.cells #[.int .i64 0, .string ⟨#[]⟩, .int .i64 0, .string ⟨#[]⟩, .string ⟨#[]⟩, .bool false] 28) = W at HT ⊢
  obtain ⟨g, hg⟩ : ∃ g, g = w.heap.size := ⟨_, rfl⟩
  rw [← hg] at HT ⊢
  replace hg := Lib.hid hg
  refine (HL.out _).mono ?_
  rintro e w1 ⟨rfl, hb1⟩
  replace HT := Lib.hid (HT.out.call hb1)
  clear HL hb1
  go_wp2_with fail
  go_loop [9] (fun i => ∃ k : Nat, 7 ≤ k ∧ k ≤ s.size ∧ i = .int .i64 k ∧ Hid ((((toL s).take k).drop 7).all (fun c => !endC c) = true)) (fun i => s.size - (intOf i).toNat)
  case atStart => exact ⟨7, Nat.le_refl _, h7, rfl, Lib.hid (by rw [List.drop_of_length_le (List.length_take_le _ _)]; rfl)⟩
  case round =>
    obtain ⟨k, hk7, hk, rfl, ha⟩ := hrel
    have hk7i : (7 : Int) ≤ (k : Int) := by omega
    have c3 : (k : Int) ≤ (s.size : Int) := by omega
    have HA := Lib.hid (fun w => rauth_any (s.extract 7 k) (by rw [ByteArray.size_extract]; omega) w)
    rw [toL_extract] at HA
    have eR : toL (s.extract k s.size) = (toL s).drop k := by rw [toL_extract, List.take_of_length_le (by rw [toL_length]; exact Nat.le_refl _)]
    have sR : (s.extract k s.size).size = s.size - k := by rw [ByteArray.size_extract]; omega
    by_cases hlt : k < s.size
    · have hki : (k : Int) < (s.size : Int) := by omega
      have HTS := Lib.hid (toL_take_succ s k hlt)
      rcases end_cases s[k] with ⟨he, q1, q2⟩ | ⟨he, hx2, q1⟩ | ⟨he, hx2, q1, q2⟩
      · have HN : Hid ((((toL s).take (k + 1)).drop 7).all (fun c => !endC c) = true) := Lib.hid (by
          rw [HTS.out, List.drop_append_of_le_length (by rw [List.length_take, toL_length]; omega), List.all_append, ha.out]
          simp [he])
        clear HTS ha he eR sR HA
        go_wp2_with fail
        go_round
        case rel => exact ⟨k + 1, by omega, by omega, by go_num, HN⟩
        case measure => simp [intOf]; omega
      · obtain ⟨a1, a2⟩ := inA_end hk7 hk ha.out (fun _ => he)
        rw [← a1] at HA
        rw [← a2] at eR
        have n1 : ¬ s.size - k = 0 := by omega
        have n2 : 0 < s.size - k := by omega
        have n3 : (((s.size - k : Nat) : Int) == 0) = false := beq_eq_false_iff_ne.2 (by omega)
        have hg0 := first_at (s := s) (k := k) hlt
        have n4 : ((((s.extract k s.size)[0]'(by omega)).toNat : Int) != 47) = false := by rw [hg0]; exact q1
        have HSL : Hid (toL (s.extract k s.size) = slashed (outA ((toL s).drop 7))) := Lib.hid (by rw [eR, a2, toL_drop s k hlt, hx2]; rfl)
        clear HTS ha he a1 a2 hg0 hx2
        go_wp2_with fail
        refine (HA.out _).mono ?_
        rintro e w2 ⟨rfl, hb2⟩
        replace HT := Lib.hid (HT.out.call hb2)
        clear HA hb2
        cases hau : authO (inA ((toL s).drop 7)) with
        | none =>
          have hr : x = (zero, 61) := by rw [hx.out]; unfold absolute6; rw [hau]
          subst hr
          rw [(auth_none hau).1, (auth_none hau).2.1, (auth_none hau).2.2]
          obtain ⟨r0, r1, r2, r3, r4, r5⟩ := HT.out.rbox.cells
          obtain ⟨f0, f1, f2, f3, f4, f5⟩ := HT.out.rbox.frees
          have HE := Lib.hid (HT.out.rbox.put zero)
          have HB := Lib.hid (HT.out.put zero)
          clear hx hau HSL eR
          go_wp2_with fail
          refine bodyPost_ret (v := rv (zero, 61)) ?_ rfl ⟨rfl, HB.out⟩
          rw [results_cell_tmp rfl]
          exact end_rbox rfl rfl HE.out
        | some q =>
          obtain ⟨h, p⟩ := q
          have hr : x = local6 ⟨2, h, p, [], [], false⟩ (slashed (outA ((toL s).drop 7))) := by rw [hx.out]; unfold absolute6; rw [hau]
          rw [(auth_some hau).1, (auth_some hau).2.1, (auth_some hau).2.2]
          have HW := Lib.hid (fun w => rlocal_in 2 h p (s.extract k s.size) (by rw [ByteArray.size_extract]; omega) x (by rw [hr]; congr 1; exact HSL.out.symm) w)
          clear hx hau HSL eR hr
          go_wp2_with fail
          refine (HW.out _).mono ?_
          rintro e w4 ⟨rfl, hb4⟩
          replace HT := Lib.hid (HT.out.call hb4)
          clear HW hb4
          obtain ⟨r0, r1, r2, r3, r4, r5⟩ := HT.out.rbox.cells
          obtain ⟨f0, f1, f2, f3, f4, f5⟩ := HT.out.rbox.frees
          have HE := Lib.hid (HT.out.rbox.put x.1)
          have HB := Lib.hid (HT.out.put x.1)
          go_wp2_with fail
          refine bodyPost_ret (v := rv x) ?_ rfl ⟨rfl, HB.out⟩
          rw [results_cell_tmp rfl]
          exact end_rbox rfl rfl HE.out
      · obtain ⟨a1, a2⟩ := inA_end hk7 hk ha.out (fun _ => he)
        rw [← a1] at HA
        rw [← a2] at eR
        have n1 : ¬ s.size - k = 0 := by omega
        have n2 : 0 < s.size - k := by omega
        have n3 : (((s.size - k : Nat) : Int) == 0) = false := beq_eq_false_iff_ne.2 (by omega)
        have hg0 := first_at (s := s) (k := k) hlt
        have sp1 : (⟨#[47]⟩ : ByteArray).size + (s.extract k s.size).size ≤ 9223372036854775807 := by rw [sR]; exact (by omega : 1 + (s.size - k) ≤ 9223372036854775807)
        have n4 : ((((s.extract k s.size)[0]'(by omega)).toNat : Int) != 47) = true := by rw [hg0]; exact q1
        have HSL : Hid (toL (⟨#[47]⟩ ++ s.extract k s.size) = slashed (outA ((toL s).drop 7))) := Lib.hid (by rw [toL_append, eR, a2, toL_drop s k hlt, hx2]; rfl)
        clear HTS ha he a1 a2 hg0 hx2
        go_wp2_with fail
        refine (HA.out _).mono ?_
        rintro e w2 ⟨rfl, hb2⟩
        replace HT := Lib.hid (HT.out.call hb2)
        clear HA hb2
        cases hau : authO (inA ((toL s).drop 7)) with
        | none =>
          have hr : x = (zero, 61) := by rw [hx.out]; unfold absolute6; rw [hau]
          subst hr
          rw [(auth_none hau).1, (auth_none hau).2.1, (auth_none hau).2.2]
          obtain ⟨r0, r1, r2, r3, r4, r5⟩ := HT.out.rbox.cells
          obtain ⟨f0, f1, f2, f3, f4, f5⟩ := HT.out.rbox.frees
          have HE := Lib.hid (HT.out.rbox.put zero)
          have HB := Lib.hid (HT.out.put zero)
          clear hx hau HSL eR
          go_wp2_with fail
          refine bodyPost_ret (v := rv (zero, 61)) ?_ rfl ⟨rfl, HB.out⟩
          rw [results_cell_tmp rfl]
          exact end_rbox rfl rfl HE.out
        | some q =>
          obtain ⟨h, p⟩ := q
          have hr : x = local6 ⟨2, h, p, [], [], false⟩ (slashed (outA ((toL s).drop 7))) := by rw [hx.out]; unfold absolute6; rw [hau]
          rw [(auth_some hau).1, (auth_some hau).2.1, (auth_some hau).2.2]
          have HW := Lib.hid (fun w => rlocal_in 2 h p (⟨#[47]⟩ ++ s.extract k s.size) (by rw [ByteArray.size_append, ByteArray.size_extract]; exact (by omega : 1 + (min s.size s.size - k) ≤ 1048576)) x (by rw [hr]; congr 1; exact HSL.out.symm) w)
          clear hx hau HSL eR hr
          go_wp2_with fail
          refine (HW.out _).mono ?_
          rintro e w4 ⟨rfl, hb4⟩
          replace HT := Lib.hid (HT.out.call hb4)
          clear HW hb4
          obtain ⟨r0, r1, r2, r3, r4, r5⟩ := HT.out.rbox.cells
          obtain ⟨f0, f1, f2, f3, f4, f5⟩ := HT.out.rbox.frees
          have HE := Lib.hid (HT.out.rbox.put x.1)
          have HB := Lib.hid (HT.out.put x.1)
          go_wp2_with fail
          refine bodyPost_ret (v := rv x) ?_ rfl ⟨rfl, HB.out⟩
          rw [results_cell_tmp rfl]
          exact end_rbox rfl rfl HE.out
    · obtain ⟨a1, a2⟩ := inA_end hk7 hk ha.out (fun h => absurd h hlt)
      rw [← a1] at HA
      rw [← a2] at eR
      have sp1 : (⟨#[47]⟩ : ByteArray).size + (s.extract k s.size).size ≤ 9223372036854775807 := by rw [sR]; exact (by omega : 1 + (s.size - k) ≤ 9223372036854775807)
      have n1 : s.size - k = 0 := by omega
      have n3 : (((s.size - k : Nat) : Int) == 0) = true := by rw [n1]; rfl
      have nlt : ¬ (k : Int) < (s.size : Int) := by omega
      have HSL : Hid (toL (⟨#[47]⟩ ++ s.extract k s.size) = slashed (outA ((toL s).drop 7))) := Lib.hid (by rw [toL_append, eR, a2, List.drop_of_length_le (by rw [toL_length]; omega)]; rfl)
      clear ha a1 a2 hlt
      go_wp2_with fail
      refine (HA.out _).mono ?_
      rintro e w2 ⟨rfl, hb2⟩
      replace HT := Lib.hid (HT.out.call hb2)
      clear HA hb2
      cases hau : authO (inA ((toL s).drop 7)) with
      | none =>
        have hr : x = (zero, 61) := by rw [hx.out]; unfold absolute6; rw [hau]
        subst hr
        rw [(auth_none hau).1, (auth_none hau).2.1, (auth_none hau).2.2]
        obtain ⟨r0, r1, r2, r3, r4, r5⟩ := HT.out.rbox.cells
        obtain ⟨f0, f1, f2, f3, f4, f5⟩ := HT.out.rbox.frees
        have HE := Lib.hid (HT.out.rbox.put zero)
        have HB := Lib.hid (HT.out.put zero)
        clear hx hau HSL eR
        go_wp2_with fail
        refine bodyPost_ret (v := rv (zero, 61)) ?_ rfl ⟨rfl, HB.out⟩
        rw [results_cell_tmp rfl]
        exact end_rbox rfl rfl HE.out
      | some q =>
        obtain ⟨h, p⟩ := q
        have hr : x = local6 ⟨2, h, p, [], [], false⟩ (slashed (outA ((toL s).drop 7))) := by rw [hx.out]; unfold absolute6; rw [hau]
        rw [(auth_some hau).1, (auth_some hau).2.1, (auth_some hau).2.2]
        have HW := Lib.hid (fun w => rlocal_in 2 h p (⟨#[47]⟩ ++ s.extract k s.size) (by rw [ByteArray.size_append, ByteArray.size_extract]; exact (by omega : 1 + (min s.size s.size - k) ≤ 1048576)) x (by rw [hr]; congr 1; exact HSL.out.symm) w)
        clear hx hau HSL eR hr
        go_wp2_with fail
        refine (HW.out _).mono ?_
        rintro e w4 ⟨rfl, hb4⟩
        replace HT := Lib.hid (HT.out.call hb4)
        clear HW hb4
        obtain ⟨r0, r1, r2, r3, r4, r5⟩ := HT.out.rbox.cells
        obtain ⟨f0, f1, f2, f3, f4, f5⟩ := HT.out.rbox.frees
        have HE := Lib.hid (HT.out.rbox.put x.1)
        have HB := Lib.hid (HT.out.put x.1)
        go_wp2_with fail
        refine bodyPost_ret (v := rv x) ?_ rfl ⟨rfl, HB.out⟩
        rw [results_cell_tmp rfl]
        exact end_rbox rfl rfl HE.out
end Go.Proofs.YtaiipdjibllodaaDoor.RFar

/- Layer 6, the document's own Parse, of any target. -/
namespace Go.Proofs.YtaiipdjibllodaaDoor.RParseAll
open Go.ChangeShapes Go.WideShapes Go.ChangeAt Go.RowKit LexPure Bytes TargetPure TBox RParse RFar Mem
theorem rparse_any (m s : ByteArray) (hs : s.size ≤ 1048576) (w : World) :
    Calls Tryd.prog 10 #[.string m, .string s] w fun e w' => e = .returned (rv (parse6 (toL m) (toL s))) ∧ Below w.heap.size w w' := by
  unfold parse6
  by_cases hc : (toL m == CONNECT) = true
  · rw [if_pos hc]
    exact rparse_connect m s hs hc w
  rw [if_neg hc]
  have hcf : (toL m == CONNECT) = false := by simpa using hc
  by_cases hq : (toL s == [42]) = true
  · rw [if_pos hq]
    unfold star6
    have hl : s.size = 1 := by
      have := toL_length s
      rw [beq_iff_eq] at hq
      rw [hq] at this
      exact this.symm
    have hn : ((toL s).head? == some 47) = false := by
      rw [beq_iff_eq] at hq
      rw [hq]
      decide
    by_cases ho : (toL m == OPTIONS) = true
    · rw [if_pos ho]
      exact rparse_star m s hcf hq ho w
    · rw [if_neg ho]
      exact rparse_short m s hcf (.inr ⟨hq, by simpa using ho⟩) (head_not hn) (by omega) w
  rw [if_neg hq]
  have hqf : (toL s == [42]) = false := by simpa using hq
  by_cases hh : ((toL s).head? == some 47) = true
  · rw [if_pos hh]
    exact rparse_slash m s hs hcf hh w
  rw [if_neg hh]
  have hhf : ((toL s).head? == some 47) = false := by simpa using hh
  by_cases h7 : 7 ≤ s.size
  · cases hsc : hasScheme (toL s)
    · exact rparse_other m s hcf hqf (head_not hhf) h7 hs hsc w
    · exact rparse_far m s hcf hqf (head_not hhf) h7 hs hsc w
  · have hsc : hasScheme (toL s) = false := by
      unfold hasScheme
      rw [decide_eq_false (by rw [toL_length]; exact h7)]
      rfl
    rw [hsc]
    exact rparse_short m s hcf (.inl hqf) (head_not hhf) (by omega) w
end Go.Proofs.YtaiipdjibllodaaDoor.RParseAll

/- What any target means to any method, and how it goes to a server, is the document's: TargetParses returns true, for what comes in of bulk at most 1048576. -/
namespace Go.Proofs.YtaiipdjibllodaaDoor.TargetParsesW
open Go.ChangeShapes Go.WideShapes Go.ChangeAt Go.RowKit LexPure Bytes HostPure TargetPure TargetLen PUnder TBox RBox TParse TOrigin ROrigin TLike RParseAll TAnchor Mem
set_option maxRecDepth 20000
/-- the two targets that the law keeps -/
structure Pr (w W : World) (g k : Nat) (t : Tgt) : Prop where
  one : Bx w W g t
  two : RB W k t
  lt : k < W.heap.size
theorem Pr.call {w W W' : World} {g k : Nat} {t : Tgt} (h : Pr w W g k t) (hb : Below W.heap.size W W') : Pr w W' g k t :=
  ⟨h.one.call hb, h.two.below hb h.lt, Nat.lt_of_lt_of_le h.lt hb.size⟩
theorem Pr.drew {w W : World} {g k : Nat} {t : Tgt} (h : Pr w W g k t) : Pr w W.drew g k t := h.call ⟨rfl, rfl, rfl, Nat.le_refl _, fun _ _ => rfl⟩
theorem Pr.cells {w w' : World} {g k : Nat} {fo po : Int} {ho pa qu : List UInt8} {ha : Bool} (h : Pr w w' g k ⟨fo, ho, po, pa, qu, ha⟩) : w'.cell? ⟨g, 0, none⟩ = some (.int .i64 fo) ∧ w'.cell? ⟨g, 1, none⟩ = some (.string (ofL ho)) ∧ w'.cell? ⟨g, 2, none⟩ = some (.int .i64 po) ∧ w'.cell? ⟨g, 3, none⟩ = some (.string (ofL pa)) ∧ w'.cell? ⟨g, 4, none⟩ = some (.string (ofL qu)) ∧ w'.cell? ⟨g, 5, none⟩ = some (.bool ha) ∧ w'.cell? ⟨k, 0, none⟩ = some (.int .i64 fo) ∧ w'.cell? ⟨k, 1, none⟩ = some (.string (ofL ho)) ∧ w'.cell? ⟨k, 2, none⟩ = some (.int .i64 po) ∧ w'.cell? ⟨k, 3, none⟩ = some (.string (ofL pa)) ∧ w'.cell? ⟨k, 4, none⟩ = some (.string (ofL qu)) ∧ w'.cell? ⟨k, 5, none⟩ = some (.bool ha) :=
  let a := h.one.box.cells
  let b := h.two.cells
  ⟨a.1, a.2.1, a.2.2.1, a.2.2.2.1, a.2.2.2.2.1, a.2.2.2.2.2, b⟩
set_option linter.unusedVariables false
set_option maxHeartbeats 3200000 in
theorem walk (m : ByteArray) (w0 : m.size ≤ maxLen) (z0 : m.size ≤ 1048576) (s : ByteArray) (w1 : s.size ≤ maxLen) (z1 : s.size ≤ 1048576) (w : World) (hsh : w.ShapedOpen Tryd.prog) :
    Calls Tryd.prog 3 #[.string m, .string s] w fun e w' => e = .returned (.bool true) ∧ Below w.heap.size w w' := by
  have HM := Lib.hid (MaxInt.of_shape hsh)
  clear hsh
  obtain ⟨x, hx⟩ : ∃ x, x = parse6 (toL m) (toL s) := ⟨_, rfl⟩
  have U0 : Hid (∀ w, MaxInt w → Calls Tryd.prog 9 #[.string m, .string s] w fun e w' => e = .returned (.tuple #[.agg #[.int .i64 x.1.form, .string (ofL x.1.host), .int .i64 x.1.port, .string (ofL x.1.path), .string (ofL x.1.query), .bool x.1.has], .int .i64 x.2]) ∧ Below w.heap.size w w') := Lib.hid (fun w hm => by rw [hx]; exact tparse_any m s (by omega) w hm)
  have U1 : Hid (∀ w, Calls Tryd.prog 10 #[.string m, .string s] w fun e w' => e = .returned (.tuple #[.agg #[.int .i64 x.1.form, .string (ofL x.1.host), .int .i64 x.1.port, .string (ofL x.1.path), .string (ofL x.1.query), .bool x.1.has], .int .i64 x.2]) ∧ Below w.heap.size w w') := Lib.hid (fun w => by rw [hx]; exact rparse_any m s z1 w)
  have hsz : x.1.path.length + x.1.query.length ≤ 140737488351232 := by rw [hx]; exact parse_len (toL m) (toL s) (by rw [toL_length]; omega)
  have U2 := Lib.hid (fun w => torigin_any x.1 hsz w)
  have U3 := Lib.hid (fun w => rorigin_any x.1 hsz w)
  clear hsz hx w0 z0 w1 z1
  obtain ⟨t, er⟩ := x
  simp only at U0 U1 U2 U3
  generalize ofL (origin6 t) = O at *
  obtain ⟨fo, ho, po, pa, qu, ha⟩ := t
  simp only at U0 U1 U2 U3
  have U4 := Lib.hid (fun w => like_any fo po (ofL ho) (ofL pa) (ofL qu) ha w)
  have qe : (er == er) = true := beq_self_eq_true _
  have qo : (O.toList == O.toList) = true := beq_self_eq_true _
  go_enter Tryd.func3, Tryd.ntmps3
  go_wp2_with fail
  refine (anchor_any _ HM.out).mono ?_
  rintro e w1 ⟨rfl, hb1⟩
  go_wp2_with fail
  refine (U0.out _ (HM.out.below hb1)).mono ?_
  rintro e w2 ⟨rfl, hb2⟩
  replace hb1 := below_chain hb1 hb2
  clear hb2
  have HX := Lib.hid (Bx.new hb1 fo ho po pa qu ha)
  clear hb1
  go_wp2_with fail
  generalize w2.alloc (.cells #[.int .i64 fo, .string (ofL ho), .int .i64 po, .string (ofL pa), .string (ofL qu), .bool ha] 24) = W at HX ⊢
  generalize w2.heap.size = g at HX ⊢
  refine (U1.out _).mono ?_
  rintro e w3 ⟨rfl, hb3⟩
  replace HX := Lib.hid (HX.out.call hb3)
  clear hb3
  have HP : Hid (Pr w (w3.alloc (.cells #[.int .i64 fo, .string (ofL ho), .int .i64 po, .string (ofL pa), .string (ofL qu), .bool ha] 28)) g w3.heap.size ⟨fo, ho, po, pa, qu, ha⟩) := Lib.hid ⟨HX.out.alloc _, RB.new w3 ⟨fo, ho, po, pa, qu, ha⟩, by simp⟩
  clear HX
  go_wp2_with fail
  generalize w3.alloc (.cells #[.int .i64 fo, .string (ofL ho), .int .i64 po, .string (ofL pa), .string (ofL qu), .bool ha] 28) = W3 at HP ⊢
  generalize w3.heap.size = k at HP ⊢
  have P1 := HP.out
  have q1 := P1.cells
  clear HP
  go_region_held3 (fun w' => w'.cell? ⟨g, 0, none⟩ = some (.int .i64 fo) ∧ w'.cell? ⟨g, 1, none⟩ = some (.string (ofL ho)) ∧ w'.cell? ⟨g, 2, none⟩ = some (.int .i64 po) ∧ w'.cell? ⟨g, 3, none⟩ = some (.string (ofL pa)) ∧ w'.cell? ⟨g, 4, none⟩ = some (.string (ofL qu)) ∧ w'.cell? ⟨g, 5, none⟩ = some (.bool ha) ∧ w'.cell? ⟨k, 0, none⟩ = some (.int .i64 fo) ∧ w'.cell? ⟨k, 1, none⟩ = some (.string (ofL ho)) ∧ w'.cell? ⟨k, 2, none⟩ = some (.int .i64 po) ∧ w'.cell? ⟨k, 3, none⟩ = some (.string (ofL pa)) ∧ w'.cell? ⟨k, 4, none⟩ = some (.string (ofL qu)) ∧ w'.cell? ⟨k, 5, none⟩ = some (.bool ha)) (first | exact c4 | exact c3 | exact c2 | exact q1)
    (first
      | (go_at_call 11; refine (U4.out _).mono ?_; rintro e w4 ⟨rfl, hb4⟩
         have P2 := P1.drew.call hb4
         have c2 := P2.cells
         clear hb4)
      | (go_at_call 12; refine (U2.out _).mono ?_; rintro e w5 ⟨rfl, hb5⟩
         have P3 := P2.call hb5
         have c3 := P3.cells
         clear hb5)
      | (go_at_call 13; refine (U3.out _).mono ?_; rintro e w6 ⟨rfl, hb6⟩
         have P4 := P3.call hb6
         have c4 := P4.cells
         clear hb6))
  have HE := Lib.hid P4.one.below
  clear P1 P2 P3 P4 q1 c2 c3 c4
  go_wp2_with fail
  go_ret
  exact ⟨rfl, HE.out⟩
end Go.Proofs.YtaiipdjibllodaaDoor.TargetParsesW

/- Layer 8 of the program: Request, Response. -/
import Derived.Test.YtclecgopmegjeaaDoorPRead8
import Derived.Test.YtclecgopmegjeaaDoorPPre
namespace Go.Proofs.YtclecgopmegjeaaDoor.PHead8
open Go.ChangeShapes Go.WideShapes Go.ChangeAt Go.RowKit LexPure Bytes Ret Rows1 FieldsPure Flds HeadPure HBox Mem KeptRow PNext PFlds8 PStart8 PStatus8 PRead8 PPre
set_option maxRecDepth 20000
theorem skip_pre : ∀ l : List UInt8, ([13, 10] : List UInt8).isPrefixOf l = true → 2 ≤ l.length ∧ skip8 l = skip8 (l.drop 2) + 2
  | [], h => by cases h
  | [c], h => by simp [List.isPrefixOf] at h
  | c :: d :: s, h => by
    have : 13 = c ∧ 10 = d := by simpa [List.isPrefixOf] using h
    obtain ⟨rfl, rfl⟩ := this
    exact ⟨by simp, rfl⟩
theorem skip_not : ∀ l : List UInt8, ([13, 10] : List UInt8).isPrefixOf l = false → skip8 l = 0
  | [], _ => rfl
  | [c], _ => rfl
  | c :: d :: s, h => by
    unfold skip8
    rw [if_neg]
    rintro ⟨rfl, rfl⟩
    simp [List.isPrefixOf] at h
theorem read_at {s : List UInt8} {a : Nat} (h : skip8 s = a) : read8 false s = shift a (fromG start8 (s.drop a)) := by
  unfold read8 skipOf
  rw [if_neg (by decide), h, show fromG start8 (s.drop a) = from8 false 0 (s.drop a) from (from_g false _).symm, ← from_shift, Nat.zero_add]
theorem read_response (s : List UInt8) : read8 true s = fromG status8 s := by
  unfold read8 skipOf
  rw [if_pos rfl, List.drop_zero, from_g]
  rfl
theorem resN_most {g : List UInt8 → H8 × Int} {s : List UInt8} {h' : H8} {n : Nat} (hd : fromG g s = .done h' n) : 0 < n ∧ n ≤ s.length := by
  unfold fromG at hd
  cases hs : scan 1100 82 0 s with
  | wait => rw [hs] at hd; cases hd
  | bad e => rw [hs] at hd; cases hd
  | whole k =>
    rw [hs] at hd
    dsimp only at hd
    have hk := whole_len hs
    split at hd
    · obtain ⟨p, q, e, hn, hp, _⟩ := fields_done _ _ _ _ _ h' n hd
      have := congrArg List.length e
      rw [List.length_append, List.length_drop] at this
      omega
    · cases hd
theorem presponse_row (s : ByteArray) (hs : s.size ≤ 4611686018427387904) (w : World) :
    Calls Tryd.prog 15 #[.string s] w fun e w' => ∃ v, e = .returned (hrv3 (resH (read8 true (toL s))) v (resN (read8 true (toL s))) (resE (read8 true (toL s)))) ∧ RowF w' w.heap.size v (resH (read8 true (toL s))).fields ∧ Below w.heap.size w w' := by
  have HO := Lib.hid (HOne.start w)
  rw [read_response]
  have HR := Lib.hid (fun w => pread_any 28 (enters_of Tryd.func28 (by kernel_rfl) rfl) status8 (fun l hl w => pstatus_any l hl w) s hs w)
  generalize fromG status8 (toL s) = X at *
  generalize hXn : (resN X : Int) = n at *
  generalize resE X = er at *
  go_enter Tryd.func15, Tryd.ntmps15
  go_wp2_with fail
  generalize w.alloc (.cells #[.string ⟨#[]⟩, .string ⟨#[]⟩, .int .i64 0, .string ⟨#[]⟩, .int .i64 0, .slice none 0 0] 25) = W at HO ⊢
  obtain ⟨b, hb⟩ : ∃ b, b = w.heap.size := ⟨_, rfl⟩
  rw [← hb] at HO ⊢
  replace hb := Lib.hid hb
  refine (HR.out _).mono ?_
  rintro e w' ⟨v, rfl, hrow, hb1⟩
  have hrow2 : Hid (RowF (hput w' b (resH X) v) w.heap.size v (resH X).fields) := Lib.hid ⟨row_mono (row_hput hrow.1 (g := b) (by have := HO.out.size; omega) (resH X) v) HO.out.below.size, hrow.2⟩
  obtain ⟨p, cap, rfl, _, _⟩ := fl_of hrow.1 (by have := hrow.2; omega)
  replace HO := Lib.hid (HO.out.call hb1)
  clear hb1 hrow
  have HE := Lib.hid (HO.out.box.put (resH X) (.slice p (resH X).fields.length cap))
  have HB := Lib.hid (HO.out.put (resH X) (.slice p (resH X).fields.length cap))
  obtain ⟨d0, d1, d2, d3, d4, d5⟩ := HO.out.box.cells
  obtain ⟨y0, y1, y2, y3, y4, y5⟩ := HO.out.box.frees
  unfold hrv3 hv
  clear HO HR
  go_wp2_with fail
  refine bodyPost_ret (v := hrv3 (resH X) (.slice p (resH X).fields.length cap) n er) ?_ rfl ⟨_, rfl, hrow2.out, HB.out⟩
  rw [results_cell_tmp2 rfl]
  exact end_hbox3 rfl rfl rfl HE.out
set_option maxHeartbeats 1600000 in
theorem prequest_row (s : ByteArray) (hs : s.size ≤ 4611686018427387904) (w : World) :
    Calls Tryd.prog 12 #[.string s] w fun e w' => ∃ v, e = .returned (hrv3 (resH (read8 false (toL s))) v (resN (read8 false (toL s))) (resE (read8 false (toL s)))) ∧ RowF w' w.heap.size v (resH (read8 false (toL s))).fields ∧ Below w.heap.size w w' := by
  have HO := Lib.hid (HOne.start w)
  have HP := Lib.hid (fun a w => lib_has (s.extract a s.size) ⟨#[13, 10]⟩ w)
  have HA := Lib.hid (fun l hl w => pstart_any l hl w)
  obtain ⟨Z, hZ⟩ : ∃ Z, Z = read8 false (toL s) := ⟨_, rfl⟩
  rw [← hZ]
  replace hZ := Lib.hid hZ
  go_enter Tryd.func12, Tryd.ntmps12
  go_wp2_with fail
  generalize w.alloc (.cells #[.string ⟨#[]⟩, .string ⟨#[]⟩, .int .i64 0, .string ⟨#[]⟩, .int .i64 0, .slice none 0 0] 25) = W at HO ⊢
  obtain ⟨b, hb⟩ : ∃ b, b = w.heap.size := ⟨_, rfl⟩
  rw [← hb] at HO ⊢
  replace hb := Lib.hid hb
  go_loop [5] (fun i => ∃ a : Nat, a ≤ s.size ∧ i = .int .i64 a ∧ Hid (skip8 (toL s) = a + skip8 ((toL s).drop a))) (fun i => s.size - (intOf i).toNat)
  case atStart => exact ⟨0, Nat.zero_le _, rfl, Lib.hid (by rw [List.drop_zero, Nat.zero_add])⟩
  case round =>
    obtain ⟨a, ha, rfl, hq⟩ := hrel
    have hai : (a : Int) ≤ (s.size : Int) := by omega
    have hsi : (s.size : Int) ≤ 4611686018427387904 := by omega
    have HC := HP.out a
    have eD : toL (s.extract a s.size) = (toL s).drop a := by rw [toL_extract, toL_take_all s (Nat.le_refl _)]
    rw [eD, show toL (⟨#[13, 10]⟩ : ByteArray) = [13, 10] from rfl] at HC
    cases hp : ([13, 10] : List UInt8).isPrefixOf ((toL s).drop a) with
    | true =>
      rw [hp] at HC
      replace HC := Lib.hid HC
      obtain ⟨h2, h3⟩ := skip_pre _ hp
      rw [List.length_drop, toL_length] at h2
      have HQ : Hid (skip8 (toL s) = a + 2 + skip8 ((toL s).drop (a + 2))) := Lib.hid (by rw [hq.out, h3, List.drop_drop]; omega)
      clear hq h3 hp eD
      go_wp2_with fail
      refine (HC.out _).mono ?_
      rintro e w' ⟨rfl, rfl⟩
      go_wp2_with fail
      go_round
      case rel => exact ⟨a + 2, by omega, by go_num, HQ⟩
      case measure => simp [intOf]; omega
    | false =>
      rw [hp] at HC
      replace HC := Lib.hid HC
      have h0 := skip_not _ hp
      have hsk : skip8 (toL s) = a := by rw [hq.out, h0, Nat.add_zero]
      have HZ : Z = shift a (fromG start8 ((toL s).drop a)) := by rw [hZ.out]; exact read_at hsk
      have HR := Lib.hid (fun w => pread_any 23 (enters_of Tryd.func23 (by kernel_rfl) rfl) start8 (fun l hl w => HA.out l hl w) (s.extract a s.size) (by rw [ByteArray.size_extract]; omega) w)
      rw [eD] at HR
      have hm : ∀ h' n, fromG start8 ((toL s).drop a) = .done h' n → 0 < n ∧ n ≤ s.size - a := fun h' n h => by have := resN_most h; rwa [List.length_drop, toL_length] at this
      generalize fromG start8 ((toL s).drop a) = X at *
      clear hq hp eD h0 hsk
      go_wp2_with fail
      refine (HC.out _).mono ?_
      rintro e w' ⟨rfl, rfl⟩
      clear HC
      go_wp2_with fail
      refine (HR.out _).mono ?_
      rintro e w3 ⟨v, rfl, hrow, hb3⟩
      obtain ⟨p, cap, rfl, _, _⟩ := fl_of hrow.1 (by have := hrow.2; omega)
      have hbG : b < w3.heap.size := by have := HO.out.size; have := hb3.size; omega
      have hbW : b < w'.heap.size := by have := HO.out.size; omega
      have hbw := HO.out.below.size
      replace HO := Lib.hid (HO.out.call hb3)
      clear hb3 HR
      replace HO := Lib.hid (HO.out.call ((Below.refl _ _).alloc (Nat.le_refl _) (.cells #[.string (ofL (resH X).method), .string (ofL (resH X).target), .int .i64 (resH X).status, .string (ofL (resH X).reason), .int .i64 (resH X).minor, .slice p (resH X).fields.length cap] 25)))
      have HG : Hid (HBox (w3.alloc (.cells #[.string (ofL (resH X).method), .string (ofL (resH X).target), .int .i64 (resH X).status, .string (ofL (resH X).reason), .int .i64 (resH X).minor, .slice p (resH X).fields.length cap] 25)) w3.heap.size (resH X) (.slice p (resH X).fields.length cap)) := Lib.hid ⟨Has.new w3 _ _⟩
      have hRow : Hid (RowF (w3.alloc (.cells #[.string (ofL (resH X).method), .string (ofL (resH X).target), .int .i64 (resH X).status, .string (ofL (resH X).reason), .int .i64 (resH X).minor, .slice p (resH X).fields.length cap] 25)) w'.heap.size (.slice p (resH X).fields.length cap) (resH X).fields) := Lib.hid ⟨row_below hrow.1 ((Below.refl _ _).alloc (Nat.le_refl _) _), hrow.2⟩
      clear hrow
      unfold hrv3 hv
      dsimp only
      iterate 18 go_step
      generalize w3.alloc (.cells #[.string (ofL (resH X).method), .string (ofL (resH X).target), .int .i64 (resH X).status, .string (ofL (resH X).reason), .int .i64 (resH X).minor, .slice p (resH X).fields.length cap] 25) = W4 at HO HG hRow ⊢
      generalize w3.heap.size = G at HG hbG ⊢
      have hne : b ≠ G := by omega
      have hne2 : G ≠ b := by omega
      cases X with
      | wait =>
        have HV : Z = .wait := HZ
        subst HV
        obtain ⟨d0, d1, d2, d3, d4, d5⟩ := HO.out.box.cells
        obtain ⟨y0, y1, y2, y3, y4, y5⟩ := HO.out.box.frees
        have HE := Lib.hid (HO.out.box.put zero8 (.slice none 0 0))
        have HB := Lib.hid (HO.out.put zero8 (.slice none 0 0))
        clear HO HG hRow hm
        dsimp only [resN, resE, resH]
        go_wp2_with fail
        refine bodyPost_ret (v := hrv3 zero8 (.slice none 0 0) 0 0) ?_ rfl ⟨_, rfl, row_none _ _, HB.out⟩
        rw [results_cell_tmp2 rfl]
        exact end_hbox3 rfl rfl rfl HE.out
      | bad er =>
        have HV : Z = .bad er := HZ
        subst HV
        obtain ⟨d0, d1, d2, d3, d4, d5⟩ := HO.out.box.cells
        obtain ⟨y0, y1, y2, y3, y4, y5⟩ := HO.out.box.frees
        have HE := Lib.hid (HO.out.box.put zero8 (.slice none 0 0))
        have HB := Lib.hid (HO.out.put zero8 (.slice none 0 0))
        clear HO HG hRow hm
        dsimp only [resN, resE, resH]
        go_wp2_with fail
        refine bodyPost_ret (v := hrv3 zero8 (.slice none 0 0) 0 er) ?_ rfl ⟨_, rfl, row_none _ _, HB.out⟩
        rw [results_cell_tmp2 rfl]
        exact end_hbox3 rfl rfl rfl HE.out
      | done h' n =>
        have HV : Z = .done h' (n + a) := HZ
        subst HV
        obtain ⟨hn1, hn2⟩ := hm h' n rfl
        have hz : ((n : Int) == 0) = false := beq_eq_false_iff_ne.2 (by omega)
        have hsum : (a : Int) + (n : Int) ≤ (s.size : Int) := by omega
        dsimp only [resN, resE, resH] at HG hRow ⊢
        obtain ⟨d0, d1, d2, d3, d4, d5⟩ := HO.out.box.cells
        obtain ⟨y0, y1, y2, y3, y4, y5⟩ := HO.out.box.frees
        obtain ⟨e0, e1, e2, e3, e4, e5⟩ := HG.out.cells
        obtain ⟨x0, x1, x2, x3, x4, x5⟩ := HG.out.frees
        have HE := Lib.hid (HO.out.box.put h' (.slice p h'.fields.length cap))
        have HB := Lib.hid (HO.out.put h' (.slice p h'.fields.length cap))
        have HL : Hid (RowF (hput W4 b h' (.slice p h'.fields.length cap)) w.heap.size (.slice p h'.fields.length cap) h'.fields) := Lib.hid ⟨row_mono (row_hput hRow.out.1 (g := b) hbW h' (.slice p h'.fields.length cap)) hbw, hRow.out.2⟩
        clear HO HG hRow hm hn1 hn2
        go_wp2_with fail
        refine bodyPost_ret (v := hrv3 h' (.slice p h'.fields.length cap) ((a : Int) + (n : Int)) 0) ?_ rfl ⟨_, (by show _ = Ending.returned (hrv3 h' _ ((n + a : Nat) : Int) 0); rw [show ((n + a : Nat) : Int) = (a : Int) + (n : Int) by omega]), HL.out, HB.out⟩
        rw [results_cell_tmp2 rfl]
        exact end_hbox3 rfl rfl rfl HE.out
theorem presponse_any (s : ByteArray) (hs : s.size ≤ 4611686018427387904) (w : World) :
    Calls Tryd.prog 15 #[.string s] w fun e w' => ∃ v, e = .returned (hrv3 (resH (read8 true (toL s))) v (resN (read8 true (toL s))) (resE (read8 true (toL s)))) ∧ FL w' v (resH (read8 true (toL s))).fields ∧ Below w.heap.size w w' :=
  (presponse_row s hs w).mono (fun e w' ⟨v, h1, h2, h3⟩ => ⟨v, h1, fl_of h2.1 (by have := h2.2; omega), h3⟩)
theorem prequest_any (s : ByteArray) (hs : s.size ≤ 4611686018427387904) (w : World) :
    Calls Tryd.prog 12 #[.string s] w fun e w' => ∃ v, e = .returned (hrv3 (resH (read8 false (toL s))) v (resN (read8 false (toL s))) (resE (read8 false (toL s)))) ∧ FL w' v (resH (read8 false (toL s))).fields ∧ Below w.heap.size w w' :=
  (prequest_row s hs w).mono (fun e w' ⟨v, h1, h2, h3⟩ => ⟨v, h1, fl_of h2.1 (by have := h2.2; omega), h3⟩)
end Go.Proofs.YtclecgopmegjeaaDoor.PHead8

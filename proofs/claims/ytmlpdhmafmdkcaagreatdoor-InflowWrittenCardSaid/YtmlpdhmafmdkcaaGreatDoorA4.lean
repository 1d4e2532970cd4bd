/- Texts of this seat, one behind another: PRead8, PHeadQ, PText11, PUse11, PRdr11, RLower, RAlike7, R7Get, PLsmall, PAlike, PVals, PGet, CutsSplit, PUnder. -/
import Derived.Handy
import Derived.Outline
import Derived.LoopTactic
import Derived.BigRegion
import Derived.Deep.RegionHeld
import Derived.Laws.DeepStrings4
import Derived.Lib.Hide
import Derived.Below
import Derived.Maps.AppendAt
import Derived.Deep.QuietTactic
import Derived.BigQuiet
import Derived.RangeFuncNested
import Derived.RangeFuncBound
import Derived.RangeFuncCalls
import Derived.RangeFuncLeaves
import Derived.Shelf.Abstract
import Derived.Shelf.RegionOpen
import Derived.WalkKit
import Derived.OwnWalkIn
import Derived.TacticsInMore
import Derived.LoopNIn
import Derived.LoopIn
import Derived.RangeFuncBox
import Derived.Lib.SplitLaws
import Derived.Lib.Bytealg
import Derived.Shelf.Vars
import Derived.OwnWalk
import Derived.Test.YtmlpdhmafmdkcaaGreatDoorA3
import Derived.Test.YtmlpdhmafmdkcaaGreatDoorA1
import Derived.Test.YtmlpdhmafmdkcaaGreatDoorA2
/- Layer 8 of the program: read, over whatever its function answers; Request, Response. -/
namespace Go.Proofs.YtmlpdhmafmdkcaaGreatDoor.PRead8
open Go.ChangeShapes Go.WideShapes Go.ChangeAt Go.RowKit LexPure Bytes Ret Rows1 FieldsPure Flds HeadPure HBox Mem KeptRow PNext PFlds8
set_option maxRecDepth 20000
/-- the first line by g, then the fields -/
def fromG (g : List UInt8 → H8 × Int) (s : List UInt8) : Res :=
  match scan 1100 82 0 s with
  | .wait => .wait
  | .bad e => .bad e
  | .whole k => if (g (s.take k)).2 = 0 then fields8 (g (s.take k)).1 32 [] (k + 2) (s.drop (k + 2)) else .bad (g (s.take k)).2
theorem from_g (r : Bool) (s : List UInt8) : from8 r 0 s = fromG (if r then status8 else start8) s := by
  unfold from8 fromG
  cases r <;> (cases scan 1100 82 0 s <;> simp)
/-- a reading of fields, with another head -/
def reHead (h : H8) (d : Nat) : Res → Res
  | .wait => .wait
  | .bad e => .bad e
  | .done h' n => .done { h with fields := h'.fields } (n + d)
theorem fields_head (h : H8) (d : Nat) : ∀ (m : Nat) (acc : List HField) (a : Nat) (s : List UInt8), fields8 h m acc (a + d) s = reHead h d (fields8 zero8 m acc a s) := by
  intro m
  induction m with
  | zero =>
    intro acc a s
    unfold fields8
    cases scan 512 83 0 s with
    | wait => rfl
    | bad e => rfl
    | whole k =>
      simp only
      split
      · unfold reHead; simp only; congr 1; omega
      · rfl
  | succ m ih =>
    intro acc a s
    unfold fields8
    cases scan 512 83 0 s with
    | wait => rfl
    | bad e => rfl
    | whole k =>
      simp only
      split
      · unfold reHead; simp only; congr 1; omega
      · split
        · rw [show a + d + k + 2 = a + k + 2 + d by omega]
          exact ih _ _ _
        · rfl
theorem fields_most {h : H8} {m : Nat} {acc : List HField} {s : List UInt8} {h' : H8} {n : Nat} (hd : fields8 h m acc 0 s = .done h' n) : n ≤ s.length := by
  obtain ⟨p, q, e, hn, hp, _⟩ := fields_done h m acc 0 s h' n hd
  have := congrArg List.length e
  rw [List.length_append] at this
  omega
theorem fields_some {m : Nat} {acc : List HField} {a : Nat} {s : List UInt8} {h h' : H8} {n : Nat} (hd : fields8 h m acc a s = .done h' n) : 0 < n := by
  obtain ⟨p, q, _, hn, hp, _⟩ := fields_done h m acc a s h' n hd
  omega
theorem ret_head {W w : World} {R : Res} {h : H8} {v : Value} {n e : Int} {l : List HField} (h1 : hv (resH R) v = hv h v) (h2 : (resN R : Int) = n) (h3 : resE R = e) (h4 : (resH R).fields = l) (hf : RowF W w.heap.size v l) (hb : Below w.heap.size w W) :
    ∃ u, Ending.returned (hrv3 h v n e) = .returned (hrv3 (resH R) u (resN R) (resE R)) ∧ RowF W w.heap.size u (resH R).fields ∧ Below w.heap.size w W :=
  ⟨v, by unfold hrv3; rw [h1, h2, h3], by rw [h4]; exact hf, hb⟩
set_option maxHeartbeats 1600000 in
theorem pread_any (fid : Nat) (hent : ∀ args w, (callFunc fid args).run Tryz.prog w = .ok (.enter fid args) w) (g : List UInt8 → H8 × Int)
    (hcall : ∀ (l : ByteArray), l.size ≤ 140737488351232 → ∀ w, Calls Tryz.prog fid #[.string l] w fun e w' => e = .returned (hrv (g (toL l)).1 (.slice none 0 0) (g (toL l)).2) ∧ Below w.heap.size w w')
    (s : ByteArray) (hs : s.size ≤ 4611686018427387904) (w : World) :
    Calls Tryz.prog 33 #[.string s, .func (.func fid) #[] #[]] w fun e w' => ∃ v, e = .returned (hrv3 (resH (fromG g (toL s))) v (resN (fromG g (toL s))) (resE (fromG g (toL s)))) ∧ RowF w' w.heap.size v (resH (fromG g (toL s))).fields ∧ Below w.heap.size w w' := by
  have HO := Lib.hid (HOne.start w)
  obtain ⟨X, hX⟩ : ∃ X, X = fromG g (toL s) := ⟨_, rfl⟩
  rw [← hX]
  unfold fromG at hX
  have HN := Lib.hid (fun w => pnext_any s hs 1100 82 w)
  cases hsc : scan 1100 82 0 (toL s) with
  | wait =>
    rw [hsc] at HN hX
    have HV : X = .wait := hX
    subst HV
    unfold lineT lineB lineE at HN
    clear hX hsc hcall
    go_enter Tryz.func33, Tryz.ntmps33
    go_wp2_with fail
    generalize w.alloc (.cells #[.string ⟨#[]⟩, .string ⟨#[]⟩, .int .i64 0, .string ⟨#[]⟩, .int .i64 0, .slice none 0 0] 31) = W at HO ⊢
    obtain ⟨b, hb⟩ : ∃ b, b = w.heap.size := ⟨_, rfl⟩
    rw [← hb] at HO ⊢
    replace hb := Lib.hid hb
    refine (HN.out _).mono ?_
    rintro e w' ⟨rfl, rfl⟩
    obtain ⟨d0, d1, d2, d3, d4, d5⟩ := HO.out.box.cells
    obtain ⟨y0, y1, y2, y3, y4, y5⟩ := HO.out.box.frees
    have HE := Lib.hid (HO.out.box.put zero8 (.slice none 0 0))
    have HB := Lib.hid (HO.out.put zero8 (.slice none 0 0))
    go_wp2_with fail
    refine bodyPost_ret (v := hrv3 zero8 (.slice none 0 0) 0 0) ?_ rfl (ret_head (R := .wait) rfl rfl rfl rfl (row_none _ _) HB.out)
    rw [results_cell_tmp2 rfl]
    exact end_hbox3 rfl rfl rfl HE.out
  | bad er =>
    rw [hsc] at HN hX
    have HV : X = .bad er := hX
    subst HV
    unfold lineT lineB lineE at HN
    clear hX hsc hcall
    go_enter Tryz.func33, Tryz.ntmps33
    go_wp2_with fail
    generalize w.alloc (.cells #[.string ⟨#[]⟩, .string ⟨#[]⟩, .int .i64 0, .string ⟨#[]⟩, .int .i64 0, .slice none 0 0] 31) = W at HO ⊢
    obtain ⟨b, hb⟩ : ∃ b, b = w.heap.size := ⟨_, rfl⟩
    rw [← hb] at HO ⊢
    replace hb := Lib.hid hb
    refine (HN.out _).mono ?_
    rintro e w' ⟨rfl, rfl⟩
    obtain ⟨d0, d1, d2, d3, d4, d5⟩ := HO.out.box.cells
    obtain ⟨y0, y1, y2, y3, y4, y5⟩ := HO.out.box.frees
    have HE := Lib.hid (HO.out.box.put zero8 (.slice none 0 0))
    have HB := Lib.hid (HO.out.put zero8 (.slice none 0 0))
    go_wp2_with fail
    refine bodyPost_ret (v := hrv3 zero8 (.slice none 0 0) 0 er) ?_ rfl (ret_head (R := .bad er) rfl rfl rfl rfl (row_none _ _) HB.out)
    rw [results_cell_tmp2 rfl]
    exact end_hbox3 rfl rfl rfl HE.out
  | whole k =>
    have hkl := whole_len hsc
    have hkm := whole_most hsc
    rw [toL_length] at hkl
    rw [hsc] at HN hX
    unfold lineT lineB lineE at HN
    dsimp only at hX HN
    obtain ⟨LN, hLN⟩ : ∃ LN, LN = ofL ((toL s).take k) := ⟨_, rfl⟩
    have lLN : LN.size = k := by rw [hLN, ofL_size, List.length_take, toL_length]; omega
    have HC := Lib.hid (hcall LN (by omega))
    rw [show toL LN = (toL s).take k by rw [hLN, toL_ofL]] at HC
    rw [← hLN] at HN
    generalize g ((toL s).take k) = x at *
    obtain ⟨xh, er⟩ := x
    dsimp only at hX HC
    have hk2 : (LN.size : Int) + 2 ≤ (s.size : Int) := by omega
    have hsi : (s.size : Int) ≤ 4611686018427387904 := by omega
    unfold hrv hv at HC
    clear hsc hcall hLN
    go_enter Tryz.func33, Tryz.ntmps33
    go_wp2_with fail
    generalize w.alloc (.cells #[.string ⟨#[]⟩, .string ⟨#[]⟩, .int .i64 0, .string ⟨#[]⟩, .int .i64 0, .slice none 0 0] 31) = W at HO ⊢
    obtain ⟨b, hb⟩ : ∃ b, b = w.heap.size := ⟨_, rfl⟩
    rw [← hb] at HO ⊢
    replace hb := Lib.hid hb
    refine (HN.out _).mono ?_
    rintro e w' ⟨rfl, rfl⟩
    clear HN
    go_wp2_with fail
    refine (HC.out _).mono ?_
    rintro e w3 ⟨rfl, hb3⟩
    clear HC
    replace HO := Lib.hid (HO.out.call hb3)
    clear hb3
    have hbG : b < w3.heap.size := by have := HO.out.size; omega
    have HO3 := HO
    replace HO := Lib.hid (HO.out.call ((Below.refl _ _).alloc (Nat.le_refl _) (.cells #[.string (ofL xh.method), .string (ofL xh.target), .int .i64 xh.status, .string (ofL xh.reason), .int .i64 xh.minor, .slice none 0 0] 31)))
    have HG : Hid (HBox (w3.alloc (.cells #[.string (ofL xh.method), .string (ofL xh.target), .int .i64 xh.status, .string (ofL xh.reason), .int .i64 xh.minor, .slice none 0 0] 31)) w3.heap.size xh (.slice none 0 0)) := Lib.hid ⟨Has.new w3 _ _⟩
    by_cases h9 : er = 0
    · rw [if_pos h9] at hX
      subst h9
      have HX : Hid (X = reHead xh (k + 2) (fields8 zero8 32 [] 0 ((toL s).drop (k + 2)))) := Lib.hid (by
        rw [hX, ← fields_head, Nat.zero_add])
      clear hX
      have HF := Lib.hid (fun w => pfields_any (s.extract (k + 2) s.size) (by rw [ByteArray.size_extract]; omega) w)
      rw [show toL (s.extract (k + 2) s.size) = (toL s).drop (k + 2) by rw [toL_extract, toL_take_all s (Nat.le_refl _)]] at HF
      generalize hY : fields8 zero8 32 [] 0 ((toL s).drop (k + 2)) = Y at *
      replace hY := Lib.hid hY
      have hGs : w3.heap.size < (w3.alloc (.cells #[.string (ofL xh.method), .string (ofL xh.target), .int .i64 xh.status, .string (ofL xh.reason), .int .i64 xh.minor, .slice none 0 0] 31)).heap.size := by simp
      go_wp2_with fail
      generalize w3.alloc (.cells #[.string (ofL xh.method), .string (ofL xh.target), .int .i64 xh.status, .string (ofL xh.reason), .int .i64 xh.minor, .slice none 0 0] 31) = W4 at HO HG hGs ⊢
      generalize w3.heap.size = G at HG hbG hGs ⊢
      cases Y with
      | wait =>
        dsimp only [resN, resE, resH] at HF
        have HV : X = .wait := HX.out
        subst HV
        clear HX hY
        refine (HF.out _).mono ?_
        rintro e w5 ⟨v, rfl, _, hb5⟩
        replace HO := Lib.hid (HO.out.call hb5)
        clear hb5 HF HG hGs hbG
        obtain ⟨d0, d1, d2, d3, d4, d5⟩ := HO.out.box.cells
        obtain ⟨y0, y1, y2, y3, y4, y5⟩ := HO.out.box.frees
        have HE := Lib.hid (HO.out.box.put zero8 (.slice none 0 0))
        have HB := Lib.hid (HO.out.put zero8 (.slice none 0 0))
        clear HO
        go_wp2_with fail
        refine bodyPost_ret (v := hrv3 zero8 (.slice none 0 0) 0 0) ?_ rfl (ret_head (R := .wait) rfl rfl rfl rfl (row_none _ _) HB.out)
        rw [results_cell_tmp2 rfl]
        exact end_hbox3 rfl rfl rfl HE.out
      | bad er =>
        dsimp only [resN, resE, resH] at HF
        have HV : X = .bad er := HX.out
        subst HV
        clear HX hY
        refine (HF.out _).mono ?_
        rintro e w5 ⟨v, rfl, _, hb5⟩
        replace HO := Lib.hid (HO.out.call hb5)
        clear hb5 HF HG hGs hbG
        obtain ⟨d0, d1, d2, d3, d4, d5⟩ := HO.out.box.cells
        obtain ⟨y0, y1, y2, y3, y4, y5⟩ := HO.out.box.frees
        have HE := Lib.hid (HO.out.box.put zero8 (.slice none 0 0))
        have HB := Lib.hid (HO.out.put zero8 (.slice none 0 0))
        clear HO
        go_wp2_with fail
        refine bodyPost_ret (v := hrv3 zero8 (.slice none 0 0) 0 er) ?_ rfl (ret_head (R := .bad er) rfl rfl rfl rfl (row_none _ _) HB.out)
        rw [results_cell_tmp2 rfl]
        exact end_hbox3 rfl rfl rfl HE.out
      | done h' n =>
        dsimp only [resN, resE, resH] at HF
        have HV : X = .done { xh with fields := h'.fields } (n + (k + 2)) := HX.out
        subst HV
        have hn1 := fields_some hY.out
        have hn2 := fields_most hY.out
        rw [List.length_drop, toL_length] at hn2
        have hz : ((n : Int) == 0) = false := beq_eq_false_iff_ne.2 (by omega)
        have hsum : (k : Int) + 2 + (n : Int) ≤ (s.size : Int) := by omega
        clear HX hY hn1 hn2
        refine (HF.out _).mono ?_
        rintro e w5 ⟨v, rfl, hrow, hb5⟩
        clear HO3
        replace HO := Lib.hid (HO.out.call hb5)
        replace HG := Lib.hid (HG.out.below hb5 hGs)
        have hne : b ≠ G := by omega
        have hne2 : G ≠ b := by omega
        obtain ⟨p, cap, rfl, _, _⟩ := fl_of hrow.1 (by have := hrow.2; omega)
        have hrow2 : Hid (RowF (hput (w5.setCell ⟨G, 5, none⟩ (.slice p h'.fields.length cap)) b xh (.slice p h'.fields.length cap)) w.heap.size (.slice p h'.fields.length cap) h'.fields) := Lib.hid ⟨row_mono (row_hput (ownsRow_setCell_below hrow.1 (a := ⟨G, 5, none⟩) hGs _) (g := b) (by omega) xh _) (by have := HO.out.at_; omega), hrow.2⟩
        clear hb5 HF hrow
        have HG6 := Lib.hid (HG.out.setF (.slice p h'.fields.length cap))
        have HO6 := Lib.hid (HO.out.box.far (p := ⟨G, 5, none⟩) hne (.slice p h'.fields.length cap))
        have HB6 := Lib.hid (below_hput (HO.out.below.setCell (p := ⟨G, 5, none⟩) (by have := HO.out.at_; show w.heap.size ≤ G; omega) (.slice p h'.fields.length cap)) (g := b) (by have := HO.out.at_; omega) xh (.slice p h'.fields.length cap))
        have HE := Lib.hid (HO6.out.put xh (.slice p h'.fields.length cap))
        obtain ⟨e0, e1, e2, e3, e4, e5⟩ := HG.out.cells
        obtain ⟨x0, x1, x2, x3, x4, x5⟩ := HG.out.frees
        obtain ⟨d0, d1, d2, d3, d4, d5⟩ := HO6.out.cells
        obtain ⟨y0, y1, y2, y3, y4, y5⟩ := HO6.out.frees
        clear HO HG HO6
        go_wp2_with fail
        refine bodyPost_ret (v := hrv3 xh (.slice p h'.fields.length cap) ((k : Int) + 2 + (n : Int)) 0) ?_ rfl (ret_head (R := .done { xh with fields := h'.fields } (n + (k + 2))) rfl (show ((n + (k + 2) : Nat) : Int) = (k : Int) + 2 + (n : Int) by omega) rfl rfl hrow2.out HB6.out)
        rw [results_cell_tmp2 rfl]
        exact end_hbox3 rfl rfl rfl HE.out
    · rw [if_neg h9] at hX
      subst hX
      have h7 : (er != 0) = true := bne_iff_ne.2 h9
      clear h9 HO3 HG hbG
      dsimp only
      iterate 15 go_step
      generalize w3.alloc (.cells #[.string (ofL xh.method), .string (ofL xh.target), .int .i64 xh.status, .string (ofL xh.reason), .int .i64 xh.minor, .slice none 0 0] 31) = W4 at HO ⊢
      obtain ⟨d0, d1, d2, d3, d4, d5⟩ := HO.out.box.cells
      obtain ⟨y0, y1, y2, y3, y4, y5⟩ := HO.out.box.frees
      have HE := Lib.hid (HO.out.box.put zero8 (.slice none 0 0))
      have HB := Lib.hid (HO.out.put zero8 (.slice none 0 0))
      clear HO
      go_wp2_with fail
      refine bodyPost_ret (v := hrv3 zero8 (.slice none 0 0) 0 er) ?_ rfl (ret_head (R := .bad er) rfl rfl rfl rfl (row_none _ _) HB.out)
      rw [results_cell_tmp2 rfl]
      exact end_hbox3 rfl rfl rfl HE.out
end Go.Proofs.YtmlpdhmafmdkcaaGreatDoor.PRead8

/- Layer 8 of the program: Request. -/
namespace Go.Proofs.YtmlpdhmafmdkcaaGreatDoor.PHead8
open Go.ChangeShapes Go.WideShapes Go.ChangeAt Go.RowKit LexPure Bytes Ret Rows1 FieldsPure Flds HeadPure HBox Mem KeptRow PNext PFlds8 PStart8  PRead8 PPre
set_option maxRecDepth 20000
theorem skip_pre : ∀ l : List UInt8, ([13, 10] : List UInt8).isPrefixOf l = true → 2 ≤ l.length ∧ skip8 l = skip8 (l.drop 2) + 2
  | [], h => by cases h
  | [c], h => by simp [List.isPrefixOf] at h
  | c :: d :: s, h => by
    have : 13 = c ∧ 10 = d := by simpa [List.isPrefixOf] using h
    obtain ⟨rfl, rfl⟩ := this
    exact ⟨by simp, rfl⟩
theorem skip_not : ∀ l : List UInt8, ([13, 10] : List UInt8).isPrefixOf l = false → skip8 l = 0
  | [], _ => rfl
  | [c], _ => rfl
  | c :: d :: s, h => by
    unfold skip8
    rw [if_neg]
    rintro ⟨rfl, rfl⟩
    simp [List.isPrefixOf] at h
theorem read_at {s : List UInt8} {a : Nat} (h : skip8 s = a) : read8 false s = shift a (fromG start8 (s.drop a)) := by
  unfold read8 skipOf
  rw [if_neg (by decide), h, show fromG start8 (s.drop a) = from8 false 0 (s.drop a) from (from_g false _).symm, ← from_shift, Nat.zero_add]
theorem resN_most {g : List UInt8 → H8 × Int} {s : List UInt8} {h' : H8} {n : Nat} (hd : fromG g s = .done h' n) : 0 < n ∧ n ≤ s.length := by
  unfold fromG at hd
  cases hs : scan 1100 82 0 s with
  | wait => rw [hs] at hd; cases hd
  | bad e => rw [hs] at hd; cases hd
  | whole k =>
    rw [hs] at hd
    dsimp only at hd
    have hk := whole_len hs
    split at hd
    · obtain ⟨p, q, e, hn, hp, _⟩ := fields_done _ _ _ _ _ h' n hd
      have := congrArg List.length e
      rw [List.length_append, List.length_drop] at this
      omega
    · cases hd
set_option maxHeartbeats 1600000 in
theorem prequest_row (s : ByteArray) (hs : s.size ≤ 4611686018427387904) (w : World) :
    Calls Tryz.prog 23 #[.string s] w fun e w' => ∃ v, e = .returned (hrv3 (resH (read8 false (toL s))) v (resN (read8 false (toL s))) (resE (read8 false (toL s)))) ∧ RowF w' w.heap.size v (resH (read8 false (toL s))).fields ∧ Below w.heap.size w w' := by
  have HO := Lib.hid (HOne.start w)
  have HP := Lib.hid (fun a w => lib_has (s.extract a s.size) ⟨#[13, 10]⟩ w)
  have HA := Lib.hid (fun l hl w => pstart_any l hl w)
  obtain ⟨Z, hZ⟩ : ∃ Z, Z = read8 false (toL s) := ⟨_, rfl⟩
  rw [← hZ]
  replace hZ := Lib.hid hZ
  go_enter Tryz.func23, Tryz.ntmps23
  go_wp2_with fail
  generalize w.alloc (.cells #[.string ⟨#[]⟩, .string ⟨#[]⟩, .int .i64 0, .string ⟨#[]⟩, .int .i64 0, .slice none 0 0] 31) = W at HO ⊢
  obtain ⟨b, hb⟩ : ∃ b, b = w.heap.size := ⟨_, rfl⟩
  rw [← hb] at HO ⊢
  replace hb := Lib.hid hb
  go_loop [5] (fun i => ∃ a : Nat, a ≤ s.size ∧ i = .int .i64 a ∧ Hid (skip8 (toL s) = a + skip8 ((toL s).drop a))) (fun i => s.size - (intOf i).toNat)
  case atStart => exact ⟨0, Nat.zero_le _, rfl, Lib.hid (by rw [List.drop_zero, Nat.zero_add])⟩
  case round =>
    obtain ⟨a, ha, rfl, hq⟩ := hrel
    have hai : (a : Int) ≤ (s.size : Int) := by omega
    have hsi : (s.size : Int) ≤ 4611686018427387904 := by omega
    have HC := HP.out a
    have eD : toL (s.extract a s.size) = (toL s).drop a := by rw [toL_extract, toL_take_all s (Nat.le_refl _)]
    rw [eD, show toL (⟨#[13, 10]⟩ : ByteArray) = [13, 10] from rfl] at HC
    cases hp : ([13, 10] : List UInt8).isPrefixOf ((toL s).drop a) with
    | true =>
      rw [hp] at HC
      replace HC := Lib.hid HC
      obtain ⟨h2, h3⟩ := skip_pre _ hp
      rw [List.length_drop, toL_length] at h2
      have HQ : Hid (skip8 (toL s) = a + 2 + skip8 ((toL s).drop (a + 2))) := Lib.hid (by rw [hq.out, h3, List.drop_drop]; omega)
      clear hq h3 hp eD
      go_wp2_with fail
      refine (HC.out _).mono ?_
      rintro e w' ⟨rfl, rfl⟩
      go_wp2_with fail
      go_round
      case rel => exact ⟨a + 2, by omega, by go_num, HQ⟩
      case measure => simp [intOf]; omega
    | false =>
      rw [hp] at HC
      replace HC := Lib.hid HC
      have h0 := skip_not _ hp
      have hsk : skip8 (toL s) = a := by rw [hq.out, h0, Nat.add_zero]
      have HZ : Z = shift a (fromG start8 ((toL s).drop a)) := by rw [hZ.out]; exact read_at hsk
      have HR := Lib.hid (fun w => pread_any 34 (enters_of Tryz.func34 (by kernel_rfl) rfl) start8 (fun l hl w => HA.out l hl w) (s.extract a s.size) (by rw [ByteArray.size_extract]; omega) w)
      rw [eD] at HR
      have hm : ∀ h' n, fromG start8 ((toL s).drop a) = .done h' n → 0 < n ∧ n ≤ s.size - a := fun h' n h => by have := resN_most h; rwa [List.length_drop, toL_length] at this
      generalize fromG start8 ((toL s).drop a) = X at *
      clear hq hp eD h0 hsk
      go_wp2_with fail
      refine (HC.out _).mono ?_
      rintro e w' ⟨rfl, rfl⟩
      clear HC
      go_wp2_with fail
      refine (HR.out _).mono ?_
      rintro e w3 ⟨v, rfl, hrow, hb3⟩
      obtain ⟨p, cap, rfl, _, _⟩ := fl_of hrow.1 (by have := hrow.2; omega)
      have hbG : b < w3.heap.size := by have := HO.out.size; have := hb3.size; omega
      have hbW : b < w'.heap.size := by have := HO.out.size; omega
      have hbw := HO.out.below.size
      replace HO := Lib.hid (HO.out.call hb3)
      clear hb3 HR
      replace HO := Lib.hid (HO.out.call ((Below.refl _ _).alloc (Nat.le_refl _) (.cells #[.string (ofL (resH X).method), .string (ofL (resH X).target), .int .i64 (resH X).status, .string (ofL (resH X).reason), .int .i64 (resH X).minor, .slice p (resH X).fields.length cap] 31)))
      have HG : Hid (HBox (w3.alloc (.cells #[.string (ofL (resH X).method), .string (ofL (resH X).target), .int .i64 (resH X).status, .string (ofL (resH X).reason), .int .i64 (resH X).minor, .slice p (resH X).fields.length cap] 31)) w3.heap.size (resH X) (.slice p (resH X).fields.length cap)) := Lib.hid ⟨Has.new w3 _ _⟩
      have hRow : Hid (RowF (w3.alloc (.cells #[.string (ofL (resH X).method), .string (ofL (resH X).target), .int .i64 (resH X).status, .string (ofL (resH X).reason), .int .i64 (resH X).minor, .slice p (resH X).fields.length cap] 31)) w'.heap.size (.slice p (resH X).fields.length cap) (resH X).fields) := Lib.hid ⟨row_below hrow.1 ((Below.refl _ _).alloc (Nat.le_refl _) _), hrow.2⟩
      clear hrow
      unfold hrv3 hv
      dsimp only
      iterate 18 go_step
      generalize w3.alloc (.cells #[.string (ofL (resH X).method), .string (ofL (resH X).target), .int .i64 (resH X).status, .string (ofL (resH X).reason), .int .i64 (resH X).minor, .slice p (resH X).fields.length cap] 31) = W4 at HO HG hRow ⊢
      generalize w3.heap.size = G at HG hbG ⊢
      have hne : b ≠ G := by omega
      have hne2 : G ≠ b := by omega
      cases X with
      | wait =>
        have HV : Z = .wait := HZ
        subst HV
        obtain ⟨d0, d1, d2, d3, d4, d5⟩ := HO.out.box.cells
        obtain ⟨y0, y1, y2, y3, y4, y5⟩ := HO.out.box.frees
        have HE := Lib.hid (HO.out.box.put zero8 (.slice none 0 0))
        have HB := Lib.hid (HO.out.put zero8 (.slice none 0 0))
        clear HO HG hRow hm
        dsimp only [resN, resE, resH]
        go_wp2_with fail
        refine bodyPost_ret (v := hrv3 zero8 (.slice none 0 0) 0 0) ?_ rfl ⟨_, rfl, row_none _ _, HB.out⟩
        rw [results_cell_tmp2 rfl]
        exact end_hbox3 rfl rfl rfl HE.out
      | bad er =>
        have HV : Z = .bad er := HZ
        subst HV
        obtain ⟨d0, d1, d2, d3, d4, d5⟩ := HO.out.box.cells
        obtain ⟨y0, y1, y2, y3, y4, y5⟩ := HO.out.box.frees
        have HE := Lib.hid (HO.out.box.put zero8 (.slice none 0 0))
        have HB := Lib.hid (HO.out.put zero8 (.slice none 0 0))
        clear HO HG hRow hm
        dsimp only [resN, resE, resH]
        go_wp2_with fail
        refine bodyPost_ret (v := hrv3 zero8 (.slice none 0 0) 0 er) ?_ rfl ⟨_, rfl, row_none _ _, HB.out⟩
        rw [results_cell_tmp2 rfl]
        exact end_hbox3 rfl rfl rfl HE.out
      | done h' n =>
        have HV : Z = .done h' (n + a) := HZ
        subst HV
        obtain ⟨hn1, hn2⟩ := hm h' n rfl
        have hz : ((n : Int) == 0) = false := beq_eq_false_iff_ne.2 (by omega)
        have hsum : (a : Int) + (n : Int) ≤ (s.size : Int) := by omega
        dsimp only [resN, resE, resH] at HG hRow ⊢
        obtain ⟨d0, d1, d2, d3, d4, d5⟩ := HO.out.box.cells
        obtain ⟨y0, y1, y2, y3, y4, y5⟩ := HO.out.box.frees
        obtain ⟨e0, e1, e2, e3, e4, e5⟩ := HG.out.cells
        obtain ⟨x0, x1, x2, x3, x4, x5⟩ := HG.out.frees
        have HE := Lib.hid (HO.out.box.put h' (.slice p h'.fields.length cap))
        have HB := Lib.hid (HO.out.put h' (.slice p h'.fields.length cap))
        have HL : Hid (RowF (hput W4 b h' (.slice p h'.fields.length cap)) w.heap.size (.slice p h'.fields.length cap) h'.fields) := Lib.hid ⟨row_mono (row_hput hRow.out.1 (g := b) hbW h' (.slice p h'.fields.length cap)) hbw, hRow.out.2⟩
        clear HO HG hRow hm hn1 hn2
        go_wp2_with fail
        refine bodyPost_ret (v := hrv3 h' (.slice p h'.fields.length cap) ((a : Int) + (n : Int)) 0) ?_ rfl ⟨_, (by show _ = Ending.returned (hrv3 h' _ ((n + a : Nat) : Int) 0); rw [show ((n + a : Nat) : Int) = (a : Int) + (n : Int) by omega]), HL.out, HB.out⟩
        rw [results_cell_tmp2 rfl]
        exact end_hbox3 rfl rfl rfl HE.out
theorem prequest_any (s : ByteArray) (hs : s.size ≤ 4611686018427387904) (w : World) :
    Calls Tryz.prog 23 #[.string s] w fun e w' => ∃ v, e = .returned (hrv3 (resH (read8 false (toL s))) v (resN (read8 false (toL s))) (resE (read8 false (toL s)))) ∧ FL w' v (resH (read8 false (toL s))).fields ∧ Below w.heap.size w w' :=
  (prequest_row s hs w).mono (fun e w' ⟨v, h1, h2, h3⟩ => ⟨v, h1, fl_of h2.1 (by have := h2.2; omega), h3⟩)
end Go.Proofs.YtmlpdhmafmdkcaaGreatDoor.PHead8

/- Layer 11 of the program: text, use, afterEmptyLines. -/
namespace Go.Proofs.YtmlpdhmafmdkcaaGreatDoor.PText11
open Go.ChangeShapes Go.WideShapes Go.ChangeAt Go.RowKit LexPure Bytes Ret HeadPure InflowPure Mem Step InEmb InObj PPre
set_option maxRecDepth 100000
theorem ofL_drop (T : List UInt8) (U : Nat) (_h : U ≤ T.length) : (ofL T).extract U (ofL T).size = ofL (T.drop U) := by
  apply toL_inj
  rw [toL_extract, toL_ofL, toL_ofL, ofL_size, List.take_of_length_le (Nat.le_refl _)]
theorem ret_t {a b : ByteArray} (h : a = b) : Ending.returned (.string a) = .returned (.string b) := by rw [h]
/-- what reading leaves -/
def Kept2 (w w' : World) (R : Nat → Prop) (g : Nat) (most : Int) (T : List UInt8) (U E : Nat) (op : Option Nat) (st : Int) : Prop := Dat w' R g most T U E op st ∧ Step w w' R R
set_option maxHeartbeats 2000000 in
theorem ptext11 {w : World} {R : Nat → Prop} {g : Nat} {most : Int} {T : List UInt8} {U E : Nat} {op : Option Nat} {st : Int} (h : Dat w R g most T U E op st) (hT : T.length ≤ 4294967296) :
    Calls Tryz.prog 19 #[.pointer (some ⟨g, 0, none⟩)] w fun e w' => e = .returned (.string (ofL (T.drop U))) ∧ Kept2 w w' R g most T U E op st := by
  have c1 : w.drew.cell? ⟨g, 3, none⟩ = some (.int .i64 (U : Int)) := h.cells.2.1
  obtain ⟨p, v, hE, hv⟩ := h.is
  have hle := h.le
  have HS := Lib.hid (emb_text spotR (hE.step (Step.drew w (fun _ => False)) id (fun _ _ => id)))
  have HK : Hid (∀ w', Kept1 w.drew w' g 1 RT (rcl most p v U E op st) p v T → Kept2 w w' R g most T U E op st ∧ w'.cell? ⟨g, 3, none⟩ = some (.int .i64 (U : Int))) := Lib.hid (fun w' hk => by
    have hD : Dat w' R g most T U E op st := ⟨⟨p, v, hk.1, hv⟩, hle, h.mine, fun k hk' => Nat.lt_of_lt_of_le (h.lt k hk') hk.2.size⟩
    exact ⟨⟨hD, (Step.drew w R).trans (hk.2.up hv)⟩, hD.cells.2.1⟩)
  obtain ⟨S, hS⟩ : ∃ S, S = ofL T := ⟨_, rfl⟩
  have hX : Hid (S.extract U S.size = ofL (T.drop U)) := Lib.hid (by rw [hS]; exact ofL_drop T U hle)
  have hU : U ≤ S.size := by rw [hS, ofL_size]; exact hle
  have hUi : (U : Int) ≤ (S.size : Int) := by omega
  have hSi : (S.size : Int) ≤ 4294967296 := by rw [hS, ofL_size]; omega
  rw [← hS] at HS
  clear hE hv h hle hT hS
  go_enter Tryz.func19, Tryz.ntmps19
  go_wp2_with fail
  go_region_held3 (fun w' => w'.cell? ⟨g, 3, none⟩ = some (.int .i64 (U : Int))) (first | exact c2 | exact c1)
    (first
      | (go_at_call 29; refine HS.out.mono ?_; rintro e w1 ⟨rfl, hk⟩
         obtain ⟨hk2, c2⟩ := HK.out w1 hk
         replace hk2 := Lib.hid hk2
         clear hk HS HK))
  go_wp2_with fail
  go_ret
  exact ⟨ret_t hX.out, hk2.out⟩
/-! ### afterEmptyLines -/
def emptyOf (w : World) (g : Nat) : Nat :=
  match w.cell? ⟨g, 4, none⟩ with
  | some (.int _ k) => k.toNat
  | _ => 0
theorem Dat.empty {w : World} {R : Nat → Prop} {g : Nat} {most : Int} {T : List UInt8} {U E : Nat} {op : Option Nat} {st : Int} (h : Dat w R g most T U E op st) : emptyOf w g = E := by
  unfold emptyOf
  rw [h.cells.2.2.1]
  simp
def Skip2 (w w' : World) (R : Nat → Prop) (g : Nat) (most : Int) (T : List UInt8) (U E : Nat) (op : Option Nat) (st : Int) : Prop := ∃ E', Kept2 w w' R g most T U E' op st ∧ Ahead (T.drop U) E' ∧ E ≤ E'
set_option maxHeartbeats 2000000 in
theorem pempty11 {w : World} {R : Nat → Prop} {g : Nat} {most : Int} {T : List UInt8} {U E : Nat} {op : Option Nat} {st : Int} (h : Dat w R g most T U E op st) (hA : Ahead (T.drop U) E) (hT : T.length ≤ 4294967296) :
    Calls Tryz.prog 24 #[.pointer (some ⟨g, 0, none⟩)] w fun e w' => e = .returned (.string (ofL ((T.drop U).drop (skip8 (T.drop U))))) ∧ Kept2 w w' R g most T U (skip8 (T.drop U)) op st ∧ Ahead (T.drop U) (skip8 (T.drop U)) := by
  have HT := Lib.hid (ptext11 h hT)
  obtain ⟨D, hD⟩ : ∃ D, D = T.drop U := ⟨_, rfl⟩
  rw [← hD] at HT hA ⊢
  have hDl : D.length ≤ 4294967296 := by rw [hD, List.length_drop]; omega
  obtain ⟨S, hS⟩ : ∃ S, S = ofL D := ⟨_, rfl⟩
  have sS : S.size = D.length := by rw [hS, ofL_size]
  rw [← hS] at HT
  have HP := Lib.hid (fun a w => lib_has (S.extract a S.size) ⟨#[13, 10]⟩ w)
  have hX : Hid (∀ a, a ≤ D.length → S.extract a S.size = ofL (D.drop a)) := Lib.hid (fun a ha => by rw [hS]; exact ofL_drop D a ha)
  have hE0 : Hid (Ahead D E) := Lib.hid hA
  have hsk : skip8 D ≤ D.length := skip_le D
  replace sS := Lib.hid sS
  clear h hT hD hA hS
  go_enter Tryz.func24, Tryz.ntmps24
  go_wp2_with fail
  refine HT.out.mono ?_
  rintro e w1 ⟨rfl, hk⟩
  have HI : Hid (Kept2 w w1 R g most T U E op st ∧ Ahead D E) := Lib.hid ⟨hk, hE0.out⟩
  clear HT hk hE0
  go_wp2_with fail
  go_loopw [] (fun wr => ∃ E' : Nat, Hid (Kept2 w wr R g most T U E' op st ∧ Ahead D E')) (fun wr => D.length - emptyOf wr g)
  case atStart => exact ⟨E, HI⟩
  case round =>
    obtain ⟨a, HJ⟩ := hrel
    clear HI
    have hA := HJ.out.2
    have ha := hA.le
    have hai : (a : Int) ≤ (S.size : Int) := by have := sS.out; omega
    have hsi : (S.size : Int) ≤ 4294967296 := by have := sS.out; omega
    have c4 := HJ.out.1.1.cells.2.2.1
    have z4 := HJ.out.1.1.free 4
    have hm := Dat.empty HJ.out.1.1
    have HC := HP.out a
    rw [hX.out a ha, toL_ofL, show toL (⟨#[13, 10]⟩ : ByteArray) = [13, 10] from rfl] at HC
    cases hp : ([13, 10] : List UInt8).isPrefixOf (D.drop a) with
    | true =>
      rw [hp] at HC
      have e1 := hX.out a ha
      rw [← e1] at HC
      replace HC := Lib.hid HC
      have hA2 := hA.next hp
      have ha2 := hA2.le
      have HQ : Hid (Kept2 w (wr.setCell ⟨g, 4, none⟩ (.int .i64 ((a : Int) + 2))) R g most T U (a + 2) op st ∧ Ahead D (a + 2)) := Lib.hid ⟨⟨HJ.out.1.1.putE (a + 2), HJ.out.1.2.trans (HJ.out.1.1.step_put 4 _)⟩, hA2⟩
      have hm2 := Dat.empty HQ.out.1.1
      replace hm := Lib.hid hm
      replace hm2 := Lib.hid hm2
      clear HJ hA hA2 hp e1
      go_wp2_with fail
      refine (HC.out _).mono ?_
      rintro e w' ⟨rfl, rfl⟩
      clear HC
      go_wp2_with fail
      go_roundw
      case rel => exact ⟨a + 2, HQ⟩
      case measure => rw [hm2.out, hm.out]; omega
    | false =>
      rw [hp] at HC
      have e1 := hX.out a ha
      rw [← e1] at HC
      replace HC := Lib.hid HC
      have h0 : skip8 (D.drop a) = 0 := PHead8.skip_not _ hp
      have hs : skip8 D = a := by rw [hA.skip, h0, Nat.add_zero]
      have HQ : Hid (Kept2 w wr R g most T U (skip8 D) op st ∧ Ahead D (skip8 D)) := Lib.hid (by rw [hs]; exact HJ.out)
      have HV : Hid (S.extract a S.size = ofL (D.drop (skip8 D))) := Lib.hid (by rw [hs]; exact e1)
      clear HJ hA hp e1 hs h0 hm hsk
      go_wp2_with fail
      refine (HC.out _).mono ?_
      rintro e w' ⟨rfl, rfl⟩
      clear HC
      go_wp2_with fail
      go_ret
      exact ⟨ret_t HV.out, HQ.out⟩
end Go.Proofs.YtmlpdhmafmdkcaaGreatDoor.PText11

/- Layer 11 of the program: use. -/
namespace Go.Proofs.YtmlpdhmafmdkcaaGreatDoor.PUse11
open Go.ChangeShapes Go.WideShapes Go.ChangeAt Go.RowKit LexPure Bytes Ret HeadPure InflowPure Mem Step InEmb InObj PText11
set_option maxRecDepth 100000
/-- n bytes more are used, and nothing is opened -/
def Used2 (w w' : World) (R : Nat → Prop) (g : Nat) (most : Int) (D : List UInt8) (st : Int) : Prop := ∃ R' T U, Dat w' R' g most T U 0 none st ∧ T.drop U = D ∧ U ≤ D.length ∧ Step w w' R R'
theorem ret_u {a b : Value} (h : a = b) : Ending.returned a = .returned b := by rw [h]
set_option maxHeartbeats 4000000 in
theorem puse11 {w : World} {R : Nat → Prop} {g : Nat} {most : Int} {T : List UInt8} {U E : Nat} {op : Option Nat} {st : Int} (h : Dat w R g most T U E op st) (n : Nat) (hn : n ≤ (T.drop U).length) (hT : T.length ≤ 4294967296) :
    Calls Tryz.prog 21 #[.pointer (some ⟨g, 0, none⟩), .int .i64 (n : Int)] w fun e w' => e = .returned (.tuple #[]) ∧ Used2 w w' R g most ((T.drop U).drop n) st := by
  have hU : U + n ≤ T.length := by rw [List.length_drop] at hn; have := h.le; omega
  obtain ⟨c0, c3, c4, c5, c6⟩ := h.cells
  have z3 := h.free 3
  have z4 := h.free 4
  have z5 := h.free 5
  have D3 := ((h.putO none).putE 0).putU (U + n) hU
  have hs3 : Step w (((w.setCell ⟨g, 5, none⟩ (.pointer none)).setCell ⟨g, 4, none⟩ (.int .i64 0)).setCell ⟨g, 3, none⟩ (.int .i64 ((U + n : Nat) : Int))) R R :=
    ((h.step_put 5 _).trans ((h.putO none).step_put 4 _)).trans (((h.putO none).putE 0).step_put 3 _)
  have eU : ((U + n : Nat) : Int) = (U : Int) + (n : Int) := by omega
  rw [eU] at hs3
  change Dat ((((w.setCell ⟨g, 5, none⟩ (.pointer none)).setCell ⟨g, 4, none⟩ (.int .i64 0)).setCell ⟨g, 3, none⟩ (.int .i64 ((U + n : Nat) : Int)))) R g most T (U + n) 0 none st at D3
  rw [eU] at D3
  have hd : (T.drop U).drop n = T.drop (U + n) := List.drop_drop
  rw [hd]
  have b1 : (U : Int) + (n : Int) ≤ 4294967296 := by omega
  have b2 : (0 : Int) ≤ (U : Int) + (n : Int) := by omega
  obtain ⟨D, hD⟩ : ∃ D, D = T.drop (U + n) := ⟨_, rfl⟩
  have hDl : D.length ≤ 4294967296 := by rw [hD, List.length_drop]; omega
  obtain ⟨W, hW⟩ : ∃ W, W = (((w.setCell ⟨g, 5, none⟩ (.pointer none)).setCell ⟨g, 4, none⟩ (.int .i64 0)).setCell ⟨g, 3, none⟩ (.int .i64 ((U : Int) + (n : Int)))) := ⟨_, rfl⟩
  rw [← hW] at D3 hs3
  have HT := Lib.hid (ptext11 D3 hT)
  rw [← hD] at HT ⊢
  replace hW := Lib.hid hW
  replace hD := Lib.hid hD
  replace hs3 := Lib.hid hs3
  clear D3 h hd hn hU
  go_enter Tryz.func21, Tryz.ntmps21
  go_wp2_with fail
  rw [← hW.out]
  refine HT.out.mono ?_
  rintro e w1 ⟨rfl, hD1, hS1⟩
  have hs1 := Lib.hid (hs3.out.trans hS1)
  clear HT hW hS1 hs3 z3 z4 z5 c0 c3 c4 c5 c6
  obtain ⟨_, c3, _, _, _⟩ := hD1.cells
  rw [eU] at c3
  by_cases hle : D.length ≤ U + n
  · have hlei : (D.length : Int) ≤ (U : Int) + (n : Int) := by omega
    obtain ⟨p, v, hE, hv⟩ := hD1.is
    have hRs := Lib.hid (emb_reset spotR rfl hE)
    obtain ⟨S, hS⟩ : ∃ S, S = ofL D := ⟨_, rfl⟩
    have sS : S.size = D.length := by rw [hS, ofL_size]
    have tS : toL S = D := by rw [hS, toL_ofL]
    have HW : Hid (∀ w2, Emb w2 g 1 RT (rcl most (.pointer none) (.slice none 0 0) (U + n) 0 none st) (.pointer none) (.slice none 0 0) [] → Calls Tryz.prog 16 #[.pointer (some ⟨g, 1, none⟩), .string S] w2 fun e w' => e = .returned (.tuple #[.int .i64 S.size, .nilIface]) ∧ ∃ v', Emb w' g 1 RT (rcl most (selfP g 1) v' (U + n) 0 none st) (selfP g 1) v' D ∧ Step w2 w' (fun k => k = g) (fun k => k = g ∨ v'.ownBlock = some k)) := Lib.hid (fun w2 hE2 =>
      (emb_write spotR rfl hE2 S (by rw [List.length_nil]; omega)).mono (fun e w' ⟨h1, v', h2, h3⟩ => ⟨h1, v', by rw [List.nil_append, tS] at h2; exact h2, by
        have e1 : (fun k => k = g ∨ (Value.slice none 0 0).ownBlock = some k) = (fun k => k = g) := by funext k; simp [Value.ownBlock]
        rw [e1] at h3
        exact h3⟩))
    have HQ : Hid (∀ w2 w3 v', Step w1 w2 (fun k => k = g) (fun k => k = g) → Emb w3 g 1 RT (rcl most (selfP g 1) v' (U + n) 0 none st) (selfP g 1) v' D → Step w2 w3 (fun k => k = g) (fun k => k = g ∨ v'.ownBlock = some k) → Used2 w (w3.setCell ⟨g, 3, none⟩ (.int .i64 0)) R g most D st ∧ w3.cell? ⟨g, 3, none⟩ = some (.int .i64 ((U : Int) + (n : Int))) ∧ w3.frozen? ⟨g, 3, none⟩ = false) := Lib.hid (fun w2 w3 v' k1 k2 k3 => by
      have k4 : Step w w3 R (fun k => k = g ∨ v'.ownBlock = some k) :=
        (hs1.out.trans (k1.up2 (fun k hk => by rw [hk]; exact hD1.mine) |>.widen (G := R) (fun _ h => h) |>.less (G := fun k => k = g) (fun k hk => .inl hk))).trans k3
      have hg3 : Has w3 g RT (rcl most (selfP g 1) v' (U + n) 0 none st) := k2.has
      refine ⟨⟨fun k => k = g ∨ v'.ownBlock = some k, D, 0, ⟨⟨selfP g 1, v', k2.put spotR 3 (.int .i64 0) (by decide) (by decide), fun k hk => .inr hk⟩, Nat.zero_le _, .inl rfl, fun k hk => ?_⟩, rfl, Nat.zero_le _, k4.trans (Step.set_ w3 (.inl rfl) 3 _)⟩, by rw [← eU]; exact (hg3.cell 3).trans rfl, hg3.free 3⟩
      rw [set_size]
      rcases hk with hk | hk
      · rw [hk]; exact hg3.lt
      · exact k2.row.lt hk)
    have hV : Hid (∀ w2, Emb w2 g 1 RT (((rcl most p v (U + n) 0 none st).setIfInBounds 1 (.pointer none)).setIfInBounds (1 + 1) (.slice none 0 0)) (.pointer none) (.slice none 0 0) [] → Emb w2 g 1 RT (rcl most (.pointer none) (.slice none 0 0) (U + n) 0 none st) (.pointer none) (.slice none 0 0) []) := Lib.hid (fun _ h => h)
    have hSl : (S.size : Int) ≤ (U : Int) + (n : Int) := by rw [sS]; exact hlei
    rw [← hS]
    clear hE hv hD1 hlei hle hS sS tS hDl eU hD
    go_wp2_with fail
    refine hRs.out.mono ?_
    rintro e w2 ⟨rfl, hE2, hS2⟩
    have HW2 := Lib.hid (HW.out w2 (hV.out w2 hE2))
    replace HQ := Lib.hid (fun w3 v' => HQ.out w2 w3 v' hS2)
    clear hRs HW hV hE2 hS2 c3
    go_wp2_with fail
    refine HW2.out.mono ?_
    rintro e w3 ⟨rfl, v', hE3, hS3⟩
    obtain ⟨hF, c3, z3⟩ := HQ.out w3 v' hE3 hS3
    replace hF := Lib.hid hF
    clear HW2 HQ hE3 hS3
    go_wp2_with fail
    go_end0
    exact ⟨rfl, hF.out⟩
  · have hlei : ¬ ((ofL D).size : Int) ≤ (U : Int) + (n : Int) := by rw [ofL_size]; omega
    have HQ : Hid (Used2 w w1 R g most D st) := Lib.hid ⟨R, T, U + n, hD1, hD.out.symm, by omega, hs1.out⟩
    generalize ofL D = S at *
    clear hD1 hle hDl eU hs1 hD
    go_wp2_with fail
    go_end0
    exact ⟨rfl, HQ.out⟩
end Go.Proofs.YtmlpdhmafmdkcaaGreatDoor.PUse11

/- Layer 11 of the program: New, Feed, Len, Begun, Rest. -/
namespace Go.Proofs.YtmlpdhmafmdkcaaGreatDoor.InflowObj
open Go.ChangeShapes Go.WideShapes Go.ChangeAt Go.RowKit LexPure Bytes Ret FieldsPure HeadPure ChunkPure InflowPure InJudge KeptRow Mem Step InEmb InObj PText11 PUse11
set_option maxRecDepth 100000
set_option linter.unusedVariables false
set_option linter.unusedSimpArgs false
theorem ret_v {a b : Value} (h : a = b) : Ending.returned a = .returned b := by rw [h]
/-! ### a new reader -/
theorem NewR.at (w : World) (most : Int) : NewR w (w.alloc (.cells (rcl most (.pointer none) (.slice none 0 0) 0 0 none 0) RT)) (.returned (.pointer (some ⟨w.heap.size, 0, none⟩))) most :=
  ⟨w.heap.size, fun k => k = w.heap.size, rfl, ⟨⟨fun k => k = w.heap.size, [], 0, 0, none, ⟨⟨.pointer none, .slice none 0 0, ⟨Has.new w _ _, rfl, rfl, .inl rfl, RowB.nil _⟩, fun k hk => by cases hk⟩, Nat.le_refl _, rfl, fun k hk => by rw [hk]; simp⟩, rfl, Nat.le_refl _, Ahead.zero _, fun k hk => hk, fun h hh => by cases hh⟩, rfl, fun k hk => by rw [hk]; simp⟩, fun k hk => by rw [hk]; exact Nat.le_refl _⟩
theorem pnew11 (most : Int) (w : World) :
    Calls Tryz.prog 10 #[.int .i64 most] w fun e w' => NewR w w' e most ∧ Below w.heap.size w w' := by
  have HN := Lib.hid (NewR.at w most)
  unfold rcl opV at HN
  go_enter Tryz.func10, Tryz.ntmps10
  go_wp2_with fail
  go_ret
  exact ⟨HN.out, (Below.refl _ _).alloc (Nat.le_refl _) _⟩
/-! ### bytes more -/
theorem fed11 {w w' : World} {F R O : Nat → Prop} {g : Nat} {most : Int} {T : List UInt8} {U E : Nat} {op : Option Nat} {st : Int} {D s : List UInt8} {p v : Value}
    (hE : Emb w g 1 RT (rcl most p v U E op st) p v T) (hv : ∀ k, v.ownBlock = some k → R k) (hle : U ≤ T.length) (hg : R g) (hRl : ∀ k, R k → k < w.heap.size) (hD : T.drop U = D) (hU : U ≤ D.length) (hA : Ahead D E) (hRF : ∀ k, R k → F k) (hFl : ∀ k, F k → k < w.heap.size)
    (ho : ∀ h, op = some h → st = 0 ∧ ∃ O, Opn w O h most D ∧ ∀ k, O k → F k ∧ ¬ R k)
    (hW : Wrote w w' g 1 RT ((rcl most p v U E op st).setIfInBounds 1 (selfP g 1)) v T s) : FedR w w' F g most (D ++ s) st := by
  obtain ⟨v', hE', hS⟩ := hW
  have hE2 : Emb w' g 1 RT (rcl most (selfP g 1) v' U E op st) (selfP g 1) v' (T ++ s) := hE'
  have hgv : ∀ k, k = g ∨ v'.ownBlock = some k → F k ∨ (w.heap.size ≤ k ∧ k < w'.heap.size) := fun k hk => by
    rcases hS.grow k hk with x | x
    · rcases x with x | x
      · rw [x]; exact .inl (hRF g hg)
      · exact .inl (hRF k (hv k x))
    · exact .inr x
  have hSR : ∀ k, k = g ∨ v.ownBlock = some k → R k := fun k hk => by
    rcases hk with x | x
    · rw [x]; exact hg
    · exact hv k x
  refine ⟨fun k => F k ∨ v'.ownBlock = some k, ⟨⟨fun k => k = g ∨ v'.ownBlock = some k, T ++ s, U, E, op, ⟨⟨_, v', hE2, fun k hk => .inr hk⟩, by rw [List.length_append]; omega, .inl rfl, fun k hk => ?_⟩, by rw [List.drop_append_of_le_length hle, hD], by rw [List.length_append]; omega, hA.more s, fun k hk => ?_, fun h hh => ?_⟩, .inl (hRF g hg), fun k hk => ?_⟩, ?_⟩
  · rcases hk with x | x
    · rw [x]; exact hE2.has.lt
    · exact hE2.row.lt x
  · rcases hk with x | x
    · rw [x]; exact .inl (hRF g hg)
    · exact .inr x
  · obtain ⟨q0, O, q1, q2⟩ := ho h hh
    refine ⟨q0, O, (q1.step hS (fun k hk x => (q2 k hk).2 (hSR k x))).more s, fun k hk => ⟨.inl (q2 k hk).1, fun x => ?_⟩⟩
    rcases hS.grow k x with y | y
    · exact (q2 k hk).2 (hSR k y)
    · have := q1.lt k hk
      omega
  · rcases hk with x | x
    · exact Nat.lt_of_lt_of_le (hFl k x) hS.size
    · exact hE2.row.lt x
  · exact (hS.up2 (fun k hk => hRF k (hSR k hk))).regrow (fun k hk => by
      rcases hk with x | x
      · exact .inl x
      · exact hgv k (.inr x))
theorem pfeed11 (F : Nat → Prop) (g : Nat) (most : Int) (D : List UInt8) (st : Int) (s : ByteArray) (hs : D.length + s.size ≤ 1073741824) (w : World) (h : Rdr w F g most D st) :
    Calls Tryz.prog 11 #[.pointer (some ⟨g, 0, none⟩), .string s] w fun e w' => e = .returned (.tuple #[]) ∧ FedR w w' F g most (D ++ toL s) st := by
  obtain ⟨R, T, U, E, op, h1, h2, h3, h4, h5, h6⟩ := h.is
  obtain ⟨p, v, hE, hv⟩ := h1.is
  have hTl : T.length ≤ U + D.length := by rw [← h2, List.length_drop]; omega
  have HW := Lib.hid ((emb_write spotR rfl hE s (by omega)).mono (fun e w' ⟨x1, x2⟩ => (⟨x1, fed11 (D := D) (O := F) hE hv h1.le h1.mine h1.lt h2 h3 h4 h5 h.lt h6 x2⟩ : e = Ending.returned (.tuple #[.int .i64 s.size, .nilIface]) ∧ FedR w w' F g most (D ++ toL s) st)))
  clear h1 h2 h3 h4 h5 h6 h hE hv
  go_enter Tryz.func11, Tryz.ntmps11
  go_wp2_with fail
  refine HW.out.mono ?_
  rintro e w1 ⟨rfl, hF⟩
  replace hF := Lib.hid hF
  clear HW
  go_wp2_with fail
  go_end0
  exact ⟨rfl, hF.out⟩
/-! ### looking -/
theorem kept11 {w w' : World} {F R : Nat → Prop} {g : Nat} {most : Int} {T : List UInt8} {U E' : Nat} {op : Option Nat} {st : Int} {D : List UInt8}
    (hD : T.drop U = D) (hU : U ≤ D.length) (hA : Ahead D E') (hRF : ∀ k, R k → F k) (hF : F g) (hFl : ∀ k, F k → k < w.heap.size)
    (ho : ∀ h, op = some h → st = 0 ∧ ∃ O, Opn w O h most D ∧ ∀ k, O k → F k ∧ ¬ R k) (hk : Kept2 w w' R g most T U E' op st) : FedR w w' F g most D st := by
  obtain ⟨hD', hS⟩ := hk
  refine ⟨F, ⟨⟨R, T, U, E', op, hD', hD, hU, hA, hRF, fun h hh => ?_⟩, hF, fun k hk => Nat.lt_of_lt_of_le (hFl k hk) hS.size⟩, hS.up hRF⟩
  obtain ⟨q0, O, q1, q2⟩ := ho h hh
  exact ⟨q0, O, q1.step hS (fun k hk x => (q2 k hk).2 x), q2⟩
theorem plen11 (F : Nat → Prop) (g : Nat) (most : Int) (D : List UInt8) (st : Int) (hs : D.length ≤ 1073741824) (w : World) (h : Rdr w F g most D st) :
    Calls Tryz.prog 13 #[.pointer (some ⟨g, 0, none⟩)] w fun e w' => e = .returned (.int .i64 (D.length : Nat)) ∧ FedR w w' F g most D st := by
  obtain ⟨R, T, U, E, op, h1, h2, h3, h4, h5, h6⟩ := h.is
  have hTl : T.length ≤ U + D.length := by rw [← h2, List.length_drop]; omega
  have HT := Lib.hid ((ptext11 h1 (by omega)).mono (fun e w' ⟨x1, x2⟩ => (⟨by rw [← h2]; exact x1, kept11 h2 h3 h4 h5 h.mine h.lt h6 x2⟩ : e = Ending.returned (.string (ofL D)) ∧ FedR w w' F g most D st)))
  have sD : Hid ((ofL D).size = D.length) := Lib.hid (ofL_size D)
  clear h1 h2 h3 h4 h5 h6 h
  generalize ofL D = S at *
  go_enter Tryz.func13, Tryz.ntmps13
  go_wp2_with fail
  refine HT.out.mono ?_
  rintro e w1 ⟨rfl, hF⟩
  replace hF := Lib.hid hF
  clear HT
  go_wp2_with fail
  go_ret
  exact ⟨ret_v (by rw [← sD.out]; rfl), hF.out⟩
/-! ### what is left -/
theorem used11 {w w' : World} {F R : Nat → Prop} {g : Nat} {most : Int} {D : List UInt8} {st : Int} (hRF : ∀ k, R k → F k) (hu : Used2 w w' R g most D st) : ∃ F', Rdr w' F' g most D st ∧ Step w w' F F' ∧ Step w w' R F' := by
  obtain ⟨R', T', U', h1, h2, h3, h4⟩ := hu
  exact ⟨R', ⟨⟨R', T', U', 0, none, h1, h2, h3, Ahead.zero _, fun k hk => hk, fun h hh => by cases hh⟩, h1.mine, h1.lt⟩, h4.up2 hRF, h4⟩
end Go.Proofs.YtmlpdhmafmdkcaaGreatDoor.InflowObj

/- Layer 4, the document's own Lower. -/
namespace Go.Proofs.YtmlpdhmafmdkcaaGreatDoor.RLower
open Go.ChangeShapes Go.WideShapes Go.ChangeAt Go.RowKit LexPure Bytes Ret Rows1
set_option maxRecDepth 20000
theorem infoB : (Tryz.prog.info? 5).map (fun i => (i.zero, i.size, i.bytes)) = some (some (.int .u8 0), 1, 1) := by kernel_rfl
/-- what is gathered so far -/
def LInv (w : World) (s : ByteArray) (k : Nat) (v : Value) (wr : World) : Prop :=
  wr.ownsRow w.heap.size 5 1 v k (bvs (lower ((toL s).take k))) ∧ Below w.heap.size w wr
theorem small_at {b : UInt8} : (65 ≤ (b.toNat : Int) ∧ (b.toNat : Int) ≤ 90 ∧ (small b).toNat = (b.toNat : Int) - 65 + 97) ∨ (((b.toNat : Int) < 65 ∨ (65 ≤ (b.toNat : Int) ∧ 90 < (b.toNat : Int))) ∧ small b = b) := by
  have := all_bytes (p := fun b => decide ((65 ≤ (b.toNat : Int) ∧ (b.toNat : Int) ≤ 90 ∧ ((small b).toNat : Int) = (b.toNat : Int) - 65 + 97) ∨ (((b.toNat : Int) < 65 ∨ (65 ≤ (b.toNat : Int) ∧ 90 < (b.toNat : Int))) ∧ small b = b))) (by decide +kernel) b
  simpa only [decide_eq_true_eq] using this
end Go.Proofs.YtmlpdhmafmdkcaaGreatDoor.RLower

/- Layer 7, the document's own alike. -/
namespace Go.Proofs.YtmlpdhmafmdkcaaGreatDoor.RAlike7
open Go.ChangeShapes Go.WideShapes Go.ChangeAt Go.RowKit LexPure Bytes Ret RLower Mem
set_option maxRecDepth 20000
end Go.Proofs.YtmlpdhmafmdkcaaGreatDoor.RAlike7

/- Layer 7, the document's own Get. -/
namespace Go.Proofs.YtmlpdhmafmdkcaaGreatDoor.R7Get
open Go.ChangeShapes Go.WideShapes Go.ChangeAt Go.RowKit LexPure Bytes Ret FieldsPure Flds RAlike7 Mem
set_option maxRecDepth 20000
theorem getV_cons (f : HField) (l : List HField) (n : List UInt8) : getV (f :: l) n = if hit n f then f.2 else getV l n := by
  unfold getV
  rw [List.find?_cons]
  cases hit n f <;> rfl
theorem getN_cons (f : HField) (l : List HField) (n : List UInt8) : getN (f :: l) n = if hit n f then getN l n + 1 else getN l n := by
  unfold getN
  rw [List.countP_cons]
  cases hit n f <;> simp
end Go.Proofs.YtmlpdhmafmdkcaaGreatDoor.R7Get

/- Layer 4 of the program: small. -/
namespace Go.Proofs.YtmlpdhmafmdkcaaGreatDoor.PLsmall
open Go.ChangeShapes Go.WideShapes Go.ChangeAt Go.RowKit LexPure Bytes Ret
set_option maxRecDepth 20000
theorem small_cases (b : UInt8) : (65 ≤ (b.toNat : Int) ∧ (b.toNat : Int) ≤ 90 ∧ ((small b).toNat : Int) = (b.toNat : Int) - 65 + 97) ∨ (((b.toNat : Int) < 65 ∨ (65 ≤ (b.toNat : Int) ∧ 90 < (b.toNat : Int))) ∧ small b = b) := by
  have := all_bytes (p := fun b => decide ((65 ≤ (b.toNat : Int) ∧ (b.toNat : Int) ≤ 90 ∧ ((small b).toNat : Int) = (b.toNat : Int) - 65 + 97) ∨ (((b.toNat : Int) < 65 ∨ (65 ≤ (b.toNat : Int) ∧ 90 < (b.toNat : Int))) ∧ small b = b))) (by decide +kernel) b
  simpa only [decide_eq_true_eq] using this
theorem psmall_any (b : UInt8) (w : World) :
    Calls Tryz.prog 73 #[.int .u8 (b.toNat : Int)] w fun e w' => e = .returned (.int .u8 ((small b).toNat : Int)) ∧ w = w' := by
  have hub : (b.toNat : Int) ≤ 255 := by have := b.toNat_lt; omega
  rcases small_cases b with ⟨h1, h2, h3⟩ | ⟨h1 | ⟨h1, h2⟩, h3⟩
  · have H3 := Lib.hid h3
    clear h3
    generalize (b.toNat : Int) = c at *
    go_enter Tryz.func73, Tryz.ntmps73
    go_wp2_with fail
    go_ret
    exact ⟨by rw [H3.out]; rfl, rfl⟩
  · rw [h3]
    generalize (b.toNat : Int) = c at *
    go_enter Tryz.func73, Tryz.ntmps73
    go_wp2_with fail
    go_ret
    exact ⟨rfl, rfl⟩
  · rw [h3]
    generalize (b.toNat : Int) = c at *
    go_enter Tryz.func73, Tryz.ntmps73
    go_wp2_with fail
    go_ret
    exact ⟨rfl, rfl⟩
theorem psmall_same (b : UInt8) (w : World) :
    Calls Tryz.prog 73 #[.int .u8 (b.toNat : Int)] w fun e w' => e = .returned (.int .u8 ((small b).toNat : Int)) ∧ w' = w :=
  (psmall_any b w).mono fun _ _ ⟨h, k⟩ => ⟨h, k.symm⟩
end Go.Proofs.YtmlpdhmafmdkcaaGreatDoor.PLsmall

/- Layer 4 of the program: Alike. -/
namespace Go.Proofs.YtmlpdhmafmdkcaaGreatDoor.PAlike
open Go.ChangeShapes Go.WideShapes Go.ChangeAt Go.RowKit LexPure Bytes Ret PLsmall Mem
set_option maxRecDepth 20000
set_option maxHeartbeats 1600000 in
theorem palike_any (s t : ByteArray) (hs : s.size ≤ maxLen) (w : World) :
    Calls Tryz.prog 52 #[.string s, .string t] w fun e w' => e = .returned (.bool (alike (toL s) (toL t))) ∧ Below w.heap.size w w' := by
  unfold maxLen at hs
  by_cases hl : s.size = t.size
  · go_enter Tryz.func52, Tryz.ntmps52
    go_wp2_with fail
    have HB : Hid (∃ m, w = w.drewN m) := Lib.hid ⟨0, rfl⟩
    go_loopw [13] (fun i wr => ∃ k : Nat, k ≤ s.size ∧ i = .int .i64 k ∧ Hid (lower ((toL s).take k) = lower ((toL t).take k)) ∧ Hid (∃ m, wr = w.drewN m)) (fun i _ => s.size - (intOf i).toNat)
    case atStart => exact ⟨0, Nat.zero_le _, rfl, Lib.hid rfl, HB⟩
    case round =>
      obtain ⟨k, hk, rfl, ha, HM⟩ := hrel
      clear HB
      by_cases hlt : k < s.size
      · have hlt2 : k < t.size := by omega
        have hki : (k : Int) < (s.size : Int) := by omega
        have hki2 : (k : Int) < (t.size : Int) := by omega
        have HS := Lib.hid (toL_take_succ s k hlt)
        have HT := Lib.hid (toL_take_succ t k hlt2)
        have GS := Lib.hid (toL_get s k hlt)
        have GT := Lib.hid (toL_get t k hlt2)
        by_cases hm : small s[k] = small t[k]
        · have HA : Hid (lower ((toL s).take (k + 1)) = lower ((toL t).take (k + 1))) := Lib.hid (by
            rw [HS.out, HT.out]
            unfold lower
            rw [List.map_append, List.map_append]
            have h := ha.out
            unfold lower at h
            rw [h]
            simp [hm])
          have hx : ((small s[k]).toNat : Int) = ((small t[k]).toNat : Int) := by rw [hm]
          clear hm HS HT GS GT ha
          go_wp2_with fail
          go_quiet ((go_at_call 73; exact Calls.quiet_of_same (psmall_same _ _)))
          go_wp2_with fail
          go_roundw
          case rel => exact ⟨k + 1, by omega, by go_num, HA, Lib.hid (by obtain ⟨m, hm⟩ := HM.out; exact ⟨_, by rw [hm, World.drewN_drewN]⟩)⟩
          case measure => simp [intOf]; omega
        · have HV : Hid (alike (toL s) (toL t) = false) := Lib.hid (by
            unfold alike
            rw [beq_eq_false_iff_ne]
            intro h
            have h2 := congrArg (·[k]?) h
            unfold lower at h2
            simp only [List.getElem?_map, GS.out, GT.out, Option.map_some, Option.some.injEq] at h2
            exact hm h2)
          have hx : ¬ (((small s[k]).toNat : Int) = ((small t[k]).toNat : Int)) := fun h => hm (UInt8.toNat_inj.1 (by exact_mod_cast h))
          clear hm HS HT GS GT ha
          go_wp2_with fail
          go_quiet ((go_at_call 73; exact Calls.quiet_of_same (psmall_same _ _)))
          go_wp2_with fail
          go_ret
          obtain ⟨m, rfl⟩ := HM.out
          exact ⟨by rw [HV.out]; rfl, ⟨rfl, rfl, rfl, Nat.le_refl _, fun _ _ => rfl⟩⟩
      · have hall : (toL s).take k = toL s := toL_take_all s (by omega)
        have hall2 : (toL t).take k = toL t := toL_take_all t (by omega)
        have HV : Hid (alike (toL s) (toL t) = true) := Lib.hid (by
          have h := ha.out
          rw [hall, hall2] at h
          unfold alike
          rw [h]
          exact beq_self_eq_true _)
        clear ha hall hall2
        go_wp2_with fail
        go_ret
        obtain ⟨m, rfl⟩ := HM.out
        exact ⟨by rw [HV.out]; rfl, ⟨rfl, rfl, rfl, Nat.le_refl _, fun _ _ => rfl⟩⟩
  · have HV : Hid (alike (toL s) (toL t) = false) := Lib.hid (by
      unfold alike
      rw [beq_eq_false_iff_ne]
      intro h
      have := congrArg List.length h
      rw [lower_length, lower_length, toL_length, toL_length] at this
      exact hl this)
    have hx : ¬ ((s.size : Int) = (t.size : Int)) := by omega
    clear hl
    go_enter Tryz.func52, Tryz.ntmps52
    go_wp2_with fail
    go_ret
    exact ⟨by rw [HV.out]; rfl, ⟨rfl, rfl, rfl, Nat.le_refl _, fun _ _ => rfl⟩⟩
end Go.Proofs.YtmlpdhmafmdkcaaGreatDoor.PAlike

/- Layer 7 of the program: values, the values of a name's fields, one after the other. -/
namespace Go.Proofs.YtmlpdhmafmdkcaaGreatDoor.PVals
open Go.ChangeShapes Go.WideShapes Go.ChangeAt Go.RowKit LexPure Bytes Ret FieldsPure Flds R7Get PAlike Mem Go.Shelf
set_option maxRecDepth 20000
attribute [local go_sem] Oper.semAt_some
/-- a value, as long as a value may be -/
def V : Type := { x : List UInt8 // x.length ≤ 1048576 }
def clamp (x : List UInt8) : V := ⟨x.take 1048576, by rw [List.length_take]; omega⟩
theorem clamp_val {x : List UInt8} (h : x.length ≤ 1048576) : (clamp x).1 = x := List.take_of_length_le h
def encV (x : V) : Array Value := #[.string (ofL x.1)]
/-- the values of a name -/
def vs (G : List HField) (n : List UInt8) : List V := (G.filter (hit n)).map (fun f => clamp f.2)
theorem vs_append (a b : List HField) (n : List UInt8) : vs (a ++ b) n = vs a n ++ vs b n := by simp [vs]
theorem vs_one (f : HField) (n : List UInt8) : vs [f] n = if hit n f then [clamp f.2] else [] := by
  unfold vs
  cases h : hit n f <;> simp [h]
theorem vs_len (G : List HField) (n : List UInt8) : (vs G n).length ≤ G.length := by
  unfold vs
  rw [List.length_map]
  exact List.length_filter_le _ _
/-- what a round keeps: what lay below n₀, and the name's box -/
def Kp (n₀ Bn : Nat) (nm : ByteArray) (A B : World) : Prop := Below n₀ A B ∧ (A.cell? ⟨Bn, 0, none⟩ = some (.string nm) → B.cell? ⟨Bn, 0, none⟩ = some (.string nm))
theorem kp_t {n₀ Bn : Nat} {nm : ByteArray} {A B C : World} (h : Kp n₀ Bn nm A B) (k : Kp n₀ Bn nm B C) : Kp n₀ Bn nm A C := ⟨h.1.trans k.1, fun x => k.2 (h.2 x)⟩
theorem kp_b {n₀ Bn : Nat} {nm : ByteArray} {w : World} (hn : n₀ ≤ w.heap.size) (hb : Bn < w.heap.size) (W : World) (l : Nat) (o o' : Obj) (hl : w.heap.size ≤ l) (h : W.heap[l]? = some o) (h1 : o.isCells = false) (h2 : o.isWalk = false) : Kp n₀ Bn nm W (W.putObj l o') :=
  ⟨belowK_b hn W l o o' hl h h1 h2, fun x => by
    have hne : l ≠ Bn := by omega
    have hb := World.block_lt_of_cell? _ _ x
    have := (Below.refl (Bn + 1) W).grown (grownBy_putObj' W l o') (by exact hb) (fun k e => by cases e; omega)
    exact (this.cell (p := ⟨Bn, 0, none⟩) (Nat.lt_succ_self _)).trans x⟩
/-- the list lies in a block below n₀ -/
def Under (n₀ : Nat) (w : World) (v : Value) (G : List HField) : Prop := ∃ p cap, v = .slice p G.length cap ∧ G.length ≤ 4398046511104 ∧ (0 < G.length → ∃ g o, p = some ⟨g, o, none⟩ ∧ g < n₀ ∧ ∀ j (hj : j < G.length), w.cell? ⟨g, o + j * 2, none⟩ = some (.string (ofL G[j].1)) ∧ w.cell? ⟨g, o + j * 2 + 1, none⟩ = some (.string (ofL G[j].2)))
theorem FL.under {w : World} {v : Value} {G : List HField} (h : FL w v G) : Under w.heap.size w v G := h
theorem Under.below {n₀ : Nat} {w w' : World} {v : Value} {G : List HField} (h : Under n₀ w v G) (hb : Below n₀ w w') : Under n₀ w' v G := by
  obtain ⟨p, cap, hv, hn, hc⟩ := h
  refine ⟨p, cap, hv, hn, fun h0 => ?_⟩
  obtain ⟨g, o, hp, hlt, hcell⟩ := hc h0
  exact ⟨g, o, hp, hlt, fun j hj => ⟨(hb.cell (p := ⟨g, o + j * 2, none⟩) hlt).trans (hcell j hj).1, (hb.cell (p := ⟨g, o + j * 2 + 1, none⟩) hlt).trans (hcell j hj).2⟩⟩
theorem grown_of_below {w w' : World} (h : Below w.heap.size w w') : w.grownBy w' none := ⟨h.os, h.tape, h.output, h.size, fun k hk _ => h.block k hk⟩
set_option maxHeartbeats 1600000 in
theorem pvalues_any (p : Option Addr) (len cap : Nat) (nm : ByteArray) (w : World) :
    Calls Tryz.prog 55 #[.slice p len cap, .string nm] w fun e w' => e = .returned (.func (.func 76) #[] #[.pointer (some ⟨w.heap.size, 0, none⟩), .pointer (some ⟨w.heap.size + 1, 0, none⟩)]) ∧ w' = (w.alloc (.cells #[.slice p len cap] 29)).alloc (.cells #[.string nm] 9) := by
  go_enter Tryz.func55, Tryz.ntmps55
  go_wp2_with fail
  go_ret
  exact ⟨rfl, rfl⟩
set_option maxHeartbeats 3200000 in
theorem vals_in (n l Bs Bn n₀ : Nat) (G : List HField) (hG : Few G) (nm : ByteArray) (v : Value) (J Jx : List V → World → Prop) (W : World)
    (hJ : AbidesFrom W.heap.size J) (hn0 : n₀ ≤ W.heap.size)
    (hY : ∀ pre x W1, J pre W1 → pre.length < G.length → YieldAt Fence.wide (n - 1) Tryz.prog l (encV x) W1 fun e W' =>
      (e = .returned (.bool true) ∧ J (pre ++ [x]) W' ∧ Kp n₀ Bn nm W1 W') ∨ (e = .returned (.bool false) ∧ Jx (pre ++ [x]) W'))
    (hBs : W.cell? ⟨Bs, 0, none⟩ = some v) (hBn : W.cell? ⟨Bn, 0, none⟩ = some (.string nm)) (hL : Under n₀ W v G) (h0 : J [] W) :
    CallsIn Fence.wide n Tryz.prog 76 #[.func (.yield l) #[] #[], .pointer (some ⟨Bs, 0, none⟩), .pointer (some ⟨Bn, 0, none⟩)] W fun e W' => (∃ v, e = .returned v) ∧
      ((∃ ys, ys = vs G (toL nm) ∧ J ys W') ∨ (∃ pre, pre <+: vs G (toL nm) ∧ Jx pre W')) := by
  obtain ⟨p, cap, rfl, hle, hc⟩ := hL
  refine callsIn_of_wp Tryz.func76 rfl trivial ?_ rfl
  simp only [Tryz.ntmps76, List.size_toArray, List.length_cons, List.length_nil, Nat.reduceAdd, Nat.reduceSub, Array.replicate_succ, Array.replicate_zero, List.push_toArray, List.append_toArray, List.nil_append, List.cons_append]
  replace hc := Lib.hid hc
  replace hG := Lib.hid hG
  replace hJ := Lib.hid hJ
  replace hY := Lib.hid hY
  have H0 := Lib.hid h0
  clear h0
  gi_wp2
  clear hBs
  have HB0 : Hid (Below n₀ W W) := Lib.hid (Below.refl _ _)
  have HN0 := Lib.hid hBn
  clear hBn
  gi_loopw [8] (fun i wr => ∃ k : Nat, k ≤ G.length ∧ i = .int .i64 k ∧ Hid (J (vs (G.take k) (toL nm)) wr) ∧ Hid (Below n₀ W wr) ∧ Hid (wr.cell? ⟨Bn, 0, none⟩ = some (.string nm)))
    (fun i _ => G.length - (intOf i).toNat)
  case atStart => exact ⟨0, Nat.zero_le _, rfl, H0, HB0, HN0⟩
  case round =>
    obtain ⟨k, hk, rfl, HJ, HB, HN⟩ := hrel
    clear H0 HB0 HN0
    by_cases hlt : k < G.length
    · obtain ⟨g, o, rfl, hgl, hcell⟩ := hc.out (by omega)
      obtain ⟨c1, c2⟩ := hcell k hlt
      have hki : (k : Int) < (G.length : Int) := by omega
      obtain ⟨s1, s2⟩ := hG.out k hlt
      replace c1 := (HB.out.cell (p := ⟨g, o + k * 2, none⟩) hgl).trans c1
      replace c2 := (HB.out.cell (p := ⟨g, o + k * 2 + 1, none⟩) hgl).trans c2
      have hgw : n₀ ≤ wr.heap.size := Nat.le_trans hn0 HB.out.size
      have HA := Lib.hid (fun w => palike_any (ofL G[k].1) nm (by rw [ofL_size]; unfold maxLen; omega) w)
      rw [toL_ofL] at HA
      have HT : Hid (vs (G.take (k + 1)) (toL nm) = vs (G.take k) (toL nm) ++ if hit (toL nm) G[k] then [clamp G[k].2] else []) := Lib.hid (by rw [← vs_one, ← vs_append, List.take_add_one, List.getElem?_eq_getElem hlt]; rfl)
      have hn := HN.out
      have hbn := World.block_lt_of_cell? _ _ hn
      clear hcell
      cases hh : hit (toL nm) G[k]
      · rw [hh] at HT
        rw [show alike G[k].1 (toL nm) = false from hh] at HA
        clear hh
        gi_wp2_with fail
        refine ⟨trivial, fun h => (by cases h), ?_⟩
        refine (callsIn_wide.2 (HA.out _)).mono ?_
        rintro e w2 ⟨rfl, hb2⟩
        have hb3 := below_chain ((Below.refl wr.heap.size wr).alloc (Nat.le_refl _) (.cells #[.string (ofL G[k].1), .string (ofL G[k].2)] 117)) hb2
        have HJ2 : Hid (J (vs (G.take (k + 1)) (toL nm)) w2) := Lib.hid (by
          rw [HT.out, if_neg (by decide), List.append_nil]
          exact hJ.out _ _ _ none HJ.out (grown_of_below hb3) (fun _ e => by cases e))
        have HB2 : Hid (Below n₀ W w2) := Lib.hid (HB.out.trans (hb3.mono hgw))
        have HN2 : Hid (w2.cell? ⟨Bn, 0, none⟩ = some (.string nm)) := Lib.hid ((hb3.cell (p := ⟨Bn, 0, none⟩) hbn).trans hn)
        clear hb3 hb2 c1 c2 hn hbn HJ HB HN HT HA hY hJ
        gi_wp2_with fail
        refine ⟨fun _ h => (by cases h), ?_⟩
        gi_wp2
        go_roundw
        case rel => exact ⟨k + 1, by omega, by go_num, HJ2, HB2, HN2⟩
        case measure => simp [intOf]; omega
      · rw [hh] at HT
        rw [show alike G[k].1 (toL nm) = true from hh] at HA
        clear hh
        gi_wp2_with fail
        refine ⟨trivial, fun h => (by cases h), ?_⟩
        refine (callsIn_wide.2 (HA.out _)).mono ?_
        rintro e w2 ⟨rfl, hb2⟩
        have hbx := (Has.new wr 117 #[.string (ofL G[k].1), .string (ofL G[k].2)]).cell 1
        have hb3 := below_chain ((Below.refl wr.heap.size wr).alloc (Nat.le_refl _) (.cells #[.string (ofL G[k].1), .string (ofL G[k].2)] 117)) hb2
        have cv : w2.cell? ⟨wr.heap.size, 1, none⟩ = some (.string (ofL G[k].2)) := (hb2.cell (p := ⟨wr.heap.size, 1, none⟩) (by simp)).trans hbx
        have HJ2 : Hid (J (vs (G.take k) (toL nm)) w2) := Lib.hid (hJ.out _ _ _ none HJ.out (grown_of_below hb3) (fun _ e => by cases e))
        have HB2 : Hid (Below n₀ W w2) := Lib.hid (HB.out.trans (hb3.mono hgw))
        have HN2 : Hid (w2.cell? ⟨Bn, 0, none⟩ = some (.string nm)) := Lib.hid ((hb3.cell (p := ⟨Bn, 0, none⟩) hbn).trans hn)
        have hlen : (vs (G.take k) (toL nm)).length < G.length := by
          have h1 := vs_len (G.take k) (toL nm)
          have h2 := List.length_take_le k G
          omega
        obtain ⟨fn, tmps, assign, body, hy, hR⟩ := hY.out (vs (G.take k) (toL nm)) (clamp G[k].2) w2 HJ2.out hlen
        rw [show encV (clamp G[k].2) = #[.string (ofL G[k].2)] by unfold encV; rw [clamp_val s2]] at hy
        have HR := Lib.hid hR
        rw [if_pos trivial] at HT
        clear hR hb3 hb2 hbx c1 c2 hn hbn HJ HB HN HA hJ hlen HJ2
        gi_wp2_with fail
        refine ⟨fun h => (by cases h), ?_⟩
        refine HR.out.mono ?_
        rintro e W3 (⟨rfl, hJ3, hk3⟩ | ⟨rfl, hJx3⟩)
        · have HJ3 : Hid (J (vs (G.take (k + 1)) (toL nm)) W3) := Lib.hid (by rw [HT.out]; exact hJ3)
          have HB3 : Hid (Below n₀ W W3) := Lib.hid (HB2.out.trans hk3.1)
          have HN3 := Lib.hid (hk3.2 HN2.out)
          clear hJ3 hk3 HR HB2 HN2 HT cv hY
          gi_wp2
          go_roundw
          case rel => exact ⟨k + 1, by omega, by go_num, HJ3, HB3, HN3⟩
          case measure => simp [intOf]; omega
        · have HX : Hid (∃ pre, pre <+: vs G (toL nm) ∧ Jx pre W3) := Lib.hid ⟨_, ⟨vs (G.drop (k + 1)) (toL nm), by rw [← HT.out, ← vs_append, List.take_append_drop]⟩, hJx3⟩
          clear hJx3 HR HB2 HN2 HT cv hY
          gi_wp2
          refine bodyPost_ret (results_none rfl _ _ _) rfl ?_
          exact ⟨⟨_, rfl⟩, .inr HX.out⟩
    · have hall : G.take k = G := List.take_of_length_le (by omega)
      have HJE := HJ.out
      rw [hall] at HJE
      have HJH := Lib.hid HJE
      clear HJE HJ hall hY hJ
      gi_wp2
      go_end0
      exact ⟨⟨_, rfl⟩, .inl ⟨_, rfl, HJH.out⟩⟩
/-- the values, one after the other: all of them, or as many as a round let come -/
theorem vals_stops (n Bs Bn n₀ : Nat) (G : List HField) (hG : Few G) (nm : ByteArray) (v : Value) (w : World) (hBs : Bs < w.heap.size) (hn0 : n₀ ≤ w.heap.size)
    (hc : w.cell? ⟨Bs, 0, none⟩ = some v) (hcn : w.cell? ⟨Bn, 0, none⟩ = some (.string nm)) (hL : Under n₀ w v G) :
    SeqStopsK Fence.wide n Tryz.prog 76 #[.pointer (some ⟨Bs, 0, none⟩), .pointer (some ⟨Bn, 0, none⟩)] encV (Kp n₀ Bn nm) (fun ys => ys = vs G (toL nm)) (fun pre => pre <+: vs G (toL nm)) G.length w :=
  fun l J Jx W hW hJ _ hY h0 =>
    vals_in n l Bs Bn n₀ G hG nm v J Jx W hJ (Nat.le_trans hn0 hW.size) hY ((hW.cell (p := ⟨Bs, 0, none⟩) hBs).trans hc) ((hW.cell (p := ⟨Bn, 0, none⟩) (World.block_lt_of_cell? _ _ hcn)).trans hcn) (hL.below (hW.mono hn0)) h0
end Go.Proofs.YtmlpdhmafmdkcaaGreatDoor.PVals

/- Layer 7 of the program: Get. -/
namespace Go.Proofs.YtmlpdhmafmdkcaaGreatDoor.PGet
open Go.ChangeShapes Go.WideShapes Go.ChangeAt Go.RowKit LexPure Bytes Ret FieldsPure Flds R7Get PAlike PVals Mem Go.Shelf
set_option maxRecDepth 100000
attribute [local go_sem] Oper.semAt_some
def firstV : List V → List UInt8
  | [] => []
  | x :: _ => x.1
theorem firstV_snoc (pre : List V) (x : V) : firstV (pre ++ [x]) = if pre.length = 0 then x.1 else firstV pre := by
  cases pre with
  | nil => rfl
  | cons => rfl
theorem vs_first (G : List HField) (hG : ∀ f ∈ G, f.2.length ≤ 1048576) (n : List UInt8) : firstV (vs G n) = getV G n ∧ (vs G n).length = getN G n := by
  induction G with
  | nil => exact ⟨rfl, rfl⟩
  | cons f G ih =>
    obtain ⟨h1, h2⟩ := ih (fun g hg => hG g (List.mem_cons_of_mem _ hg))
    rw [show f :: G = [f] ++ G from rfl, vs_append, vs_one, List.singleton_append, getV_cons, getN_cons]
    cases h : hit n f
    · simp only [Bool.false_eq_true, if_false, List.nil_append]
      exact ⟨h1, h2⟩
    · simp only [if_true, List.singleton_append, List.length_cons]
      exact ⟨clamp_val (hG f List.mem_cons_self), by rw [h2]⟩
theorem few_all {G : List HField} (h : Few G) : ∀ f ∈ G, f.1.length ≤ 1048576 ∧ f.2.length ≤ 1048576 := fun f hf => by
  obtain ⟨j, hj, rfl⟩ := List.mem_iff_getElem.1 hf
  exact h j hj
set_option maxHeartbeats 3200000 in
theorem pget_any (v : Value) (G : List HField) (nm : ByteArray) (hG : Few G) (w : World) (hF : FL w v G) :
    Calls Tryz.prog 37 #[v, .string nm] w fun e w' => e = .returned (.tuple #[.string (ofL (getV G (toL nm))), .int .i64 (getN G (toL nm))]) ∧ Below w.heap.size w w' := by
  obtain ⟨hv1, hv2⟩ := vs_first G (fun f hf => (few_all hG f hf).2) (toL nm)
  obtain ⟨p, cap, hvv, hle, _⟩ := id hF
  subst hvv
  have HF := Lib.hid hF
  have HG := Lib.hid hG
  have HV := Lib.hid hv1
  have HN := Lib.hid hv2
  clear hF hG hv1 hv2
  refine (callsIn_wide (n := 3)).1 ?_
  refine callsIn_of_wp_marks Tryz.func37 rfl trivial ?_ rfl
  simp only [Tryz.ntmps37, List.size_toArray, List.length_cons, List.length_nil, Nat.reduceAdd, Nat.reduceSub, Array.replicate_succ, Array.replicate_zero, List.push_toArray, List.append_toArray, List.nil_append, List.cons_append]
  gi_wp2_with fail
  refine ⟨trivial, ?_⟩
  refine (callsIn_wide.2 (pvalues_any _ _ _ nm _)).mono ?_
  rintro e w' ⟨rfl, rfl⟩
  gi_wp2
  have b0 := (((Boxed.new w 9 (.string ⟨#[]⟩)).alloc (.cells #[.int .i64 0] 3)).alloc (.cells #[.slice p G.length cap] 29)).alloc (.cells #[.string nm] 9)
  have b1 := ((Boxed.new (w.alloc (.cells #[.string ⟨#[]⟩] 9)) 3 (.int .i64 0)).alloc (.cells #[.slice p G.length cap] 29)).alloc (.cells #[.string nm] 9)
  have b2 := (Boxed.new ((w.alloc (.cells #[.string ⟨#[]⟩] 9)).alloc (.cells #[.int .i64 0] 3)) 29 (.slice p G.length cap)).alloc (.cells #[.string nm] 9)
  have b3 := Boxed.new (((w.alloc (.cells #[.string ⟨#[]⟩] 9)).alloc (.cells #[.int .i64 0] 3)).alloc (.cells #[.slice p G.length cap] 29)) 9 (.string nm)
  have hB0 : Below w.heap.size w ((((w.alloc (.cells #[.string ⟨#[]⟩] 9)).alloc (.cells #[.int .i64 0] 3)).alloc (.cells #[.slice p G.length cap] 29)).alloc (.cells #[.string nm] 9)) :=
    ((((Below.refl _ w).alloc (Nat.le_refl _) _).alloc (by simp) _).alloc (by simp; omega) _).alloc (by simp; omega) _
  have hsz : ((((w.alloc (.cells #[.string ⟨#[]⟩] 9)).alloc (.cells #[.int .i64 0] 3)).alloc (.cells #[.slice p G.length cap] 29)).alloc (.cells #[.string nm] 9)).heap.size = w.heap.size + 1 + 1 + 1 + 1 := by simp
  simp only [World.size_alloc] at b1 b2 b3
  generalize ((((w.alloc (.cells #[.string ⟨#[]⟩] 9)).alloc (.cells #[.int .i64 0] 3)).alloc (.cells #[.slice p G.length cap] 29)).alloc (.cells #[.string nm] 9)) = W0 at *
  have hU := (FL.under HF.out).below hB0
  clear HF
  refine wpIn_rangeFunc_ownG rfl (by omega) (gf := 76) (lb := #[.pointer (some ⟨w.heap.size + 1 + 1, 0, none⟩), .pointer (some ⟨w.heap.size + 1 + 1 + 1, 0, none⟩)]) rfl trivial (enters_of Tryz.func76 (by kernel_rfl) rfl)
    (vals_stops (3 - 1) (w.heap.size + 1 + 1) (w.heap.size + 1 + 1 + 1) w.heap.size G HG.out nm (.slice p G.length cap) W0 b2.lt (by omega) b2.cell b3.cell hU) kp_t (kp_b (by omega) b3.lt) (Below.refl _ _) (fun _ => rfl)
    (fun pre W => Boxed W w.heap.size 9 (.string (ofL (firstV pre))) ∧ Boxed W (w.heap.size + 1) 3 (.int .i64 (pre.length : Nat)) ∧ Boxed W (w.heap.size + 1 + 1 + 1) 9 (.string nm) ∧ Below w.heap.size w W)
    (fun _ _ _ => False)
    (OwnFrom.and (Own.from (boxed_own _ _ _) _) (OwnFrom.and (Own.from (boxed_own _ _ (fun pre : List V => Value.int .i64 (pre.length : Nat))) _) (OwnFrom.and (Own.from (boxed_own _ _ (fun _ => Value.string nm)) _) (ownFrom_below (Nat.le_refl _) (by omega)))))
    (fun _ _ _ _ _ hs _ _ => hs)
    ⟨b0, b1, b3, hB0⟩
    (fun x => { tmps := #[.slice p G.length cap, .string nm, undef, undef, .string ⟨#[]⟩, .int .i64 0, .pointer (some ⟨w.heap.size, 0, none⟩), .pointer (some ⟨w.heap.size + 1, 0, none⟩), .string (ofL x.1), .slice p G.length cap, .string nm, .func (.func 76) #[] #[.pointer (some ⟨w.heap.size + 1 + 1, 0, none⟩), .pointer (some ⟨w.heap.size + 1 + 1 + 1, 0, none⟩)], .string (ofL x.1), undef, undef, undef, undef, undef, undef, undef], defers := [] }) ?assign ?body ?done ?stop
  case assign =>
    intro l x W K hK
    dsimp only [encV]
    gi_wp2
    exact hK
  case body =>
    rintro l pre x W ⟨h0, h1, h3, hB⟩ hlt
    have c0 := h0.cell
    have f0 := h0.frozen
    have c1 := h1.cell
    have f1 := h1.frozen
    have hfs := firstV_snoc pre x
    have hls : ((pre ++ [x]).length : Int) = (pre.length : Int) + 1 := by simp
    have hk : ∀ u : Value, KeepsFrom W0.heap.size W ((W.setCell ⟨w.heap.size, 0, none⟩ (.string (ofL x.1))).setCell ⟨w.heap.size + 1, 0, none⟩ u) ∧ Below w.heap.size W ((W.setCell ⟨w.heap.size, 0, none⟩ (.string (ofL x.1))).setCell ⟨w.heap.size + 1, 0, none⟩ u) := fun u =>
      ⟨((KeepsOthers.setCell _ _ _).trans (KeepsOthers.setCell _ _ _)).from _, ((Below.refl w.heap.size W).setCell (p := ⟨w.heap.size, 0, none⟩) (Nat.le_refl _) _).setCell (p := ⟨w.heap.size + 1, 0, none⟩) (by simp) _⟩
    have hk2 : ∀ u : Value, KeepsFrom W0.heap.size W (W.setCell ⟨w.heap.size + 1, 0, none⟩ u) ∧ Below w.heap.size W (W.setCell ⟨w.heap.size + 1, 0, none⟩ u) := fun u =>
      ⟨(KeepsOthers.setCell _ _ _).from _, (Below.refl w.heap.size W).setCell (p := ⟨w.heap.size + 1, 0, none⟩) (by simp) _⟩
    clear b0 b1 b2 b3 hU HG HV HN
    by_cases hz : pre.length = 0
    · rw [if_pos hz] at hfs
      have hz2 : (pre.length : Int) = 0 := by omega
      rw [hz2] at c1 hls
      clear hz2
      gi_wp2
      obtain ⟨k1, k2⟩ := hk (.int .i64 1)
      refine ⟨k1, ⟨k2, fun _ => ((h3.other (by omega) _).other (by omega) _).cell⟩, ?_, ?_, (h3.other (by omega) _).other (by omega) _, hB.trans k2⟩
      · rw [hfs]
        exact (h0.set _).other (by omega) _
      · rw [hls]
        exact (h1.other (by omega) _).set _
    · rw [if_neg hz] at hfs
      have hlt2 : (pre.length : Int) < 4398046511104 := by omega
      have hpos : (0 : Int) < (pre.length : Int) := by omega
      have hne : ((pre.length : Int) == 0) = false := beq_eq_false_iff_ne.2 (by omega)
      replace hls := Lib.hid hls
      replace hfs := Lib.hid hfs
      replace h1 := Lib.hid h1
      clear hz hlt
      generalize hm : (pre.length : Int) = m at *
      replace hm := Lib.hid hm
      gi_wp2
      obtain ⟨k1, k2⟩ := hk2 (.int .i64 (m + 1))
      refine ⟨k1, ⟨k2, fun _ => (h3.other (by omega) _).cell⟩, ?_, ?_, h3.other (by omega) _, hB.trans k2⟩
      · rw [hfs.out]
        exact h0.other (by omega) _
      · rw [hls.out]
        exact h1.out.set _
  case done =>
    rintro D ys W hD rfl ⟨h0, h1, h3, hB⟩ hK
    have c0 := h0.cell
    have c1 := h1.cell
    clear b0 b1 b2 b3 hU
    gi_wp2
    gi_quiet (fail)
    gi_wp2
    have hBd : Below w.heap.size w (W.drewN nq) := ⟨hB.os, hB.tape, hB.output, hB.size, hB.block⟩
    refine ⟨by simp, .inl ⟨_, _, rfl, run_takeDeferred (w := W.drewN nq) hK, ?_⟩⟩
    refine ⟨_, results_tmp2 rfl _ _ _, ?_, hBd.trans (belowK_b (w := w) (Nat.le_refl _) (W.drewN nq) D _ _ (by omega) hK rfl rfl)⟩
    rw [← HV.out, ← HN.out]
    rfl
  case stop =>
    rintro D c pre W _ _ h _
    exact h.elim
end Go.Proofs.YtmlpdhmafmdkcaaGreatDoor.PGet

/- The shelf's words for strings.Split at a slash, and the grammar's: they say one thing. No program is named. -/

namespace Go.Proofs.YtmlpdhmafmdkcaaGreatDoor.CutsSplit
open LexPure Bytes PathPure
/-! ### Split -/
theorem index_cons (c : UInt8) (l : List UInt8) (h : (c == 47) = false) : Go.Lib.index (c :: l) [47] = if Go.Lib.index l [47] == -1 then -1 else Go.Lib.index l [47] + 1 := by
  have hp : ([47] : List UInt8).isPrefixOf (c :: l) = false := by
    have : ¬ (47 : UInt8) = c := fun e => by rw [← e] at h; cases h
    simp [List.isPrefixOf, this]
  rw [Go.Lib.index, hp]
  rfl
theorem split_cuts : ∀ s : List UInt8, Go.Lib.splitK [47] 0 (s.count 47) s = cuts s
  | [] => rfl
  | c :: l => by
    by_cases hc : c = 47
    · subst hc
      have hix : Go.Lib.index (47 :: l) [47] = 0 := by rw [Go.Lib.index]; simp [List.isPrefixOf]
      rw [List.count_cons_self, Go.Lib.splitK, hix, if_neg (by decide), cuts, if_pos (by decide), ← split_cuts l]
      rfl
    · have hq : (c == 47) = false := by simpa using hc
      have ih := split_cuts l
      rw [List.count_cons_of_ne (by simpa using hc), cuts, if_neg (by simp [hq]), ← ih]
      cases hk : l.count 47 with
      | zero => rfl
      | succ k =>
        unfold Go.Lib.splitK
        rw [index_cons c l hq]
        by_cases hm : Go.Lib.index l [47] = -1
        · rw [hm]; rfl
        · have hge := Go.Lib.index_ge l [47]
          obtain ⟨i, hi⟩ : ∃ i : Nat, Go.Lib.index l [47] = i := ⟨(Go.Lib.index l [47]).toNat, by omega⟩
          rw [hi]
          have h1 : ((i : Int) == -1) = false := beq_eq_false_iff_ne.2 (by omega)
          have h2 : (((i : Int) + 1) == -1) = false := beq_eq_false_iff_ne.2 (by omega)
          have h3 : ((i : Int) + 1).toNat = i + 1 := by omega
          have h4 : ((i : Int)).toNat = i := by omega
          simp [h1, h2, h3, h4]
/-- the marks that are plain beside digits and letters -/
def plainA : ByteArray := ⟨#[45, 46, 95, 126]⟩
def plainI (b : UInt8) : Int := Go.Lib.indexByte plainA.data.toList b
theorem plain_cases (b : UInt8) : plainP b.toNat = (decide (48 ≤ (b.toNat : Int) ∧ (b.toNat : Int) ≤ 57) || decide (65 ≤ (b.toNat : Int) ∧ (b.toNat : Int) ≤ 90) || decide (97 ≤ (b.toNat : Int) ∧ (b.toNat : Int) ≤ 122) || decide (0 ≤ plainI b)) := by
  have := all_bytes (p := fun b => plainP b.toNat == (decide (48 ≤ (b.toNat : Int) ∧ (b.toNat : Int) ≤ 57) || decide (65 ≤ (b.toNat : Int) ∧ (b.toNat : Int) ≤ 90) || decide (97 ≤ (b.toNat : Int) ∧ (b.toNat : Int) ≤ 122) || decide (0 ≤ plainI b))) (by decide +kernel) b
  simpa using this
theorem okc_cases (b : UInt8) : okc b = decide (32 < (b.toNat : Int) ∧ (b.toNat : Int) < 127 ∧ ¬ (b.toNat : Int) = 63 ∧ ¬ (b.toNat : Int) = 35) := by
  have := all_bytes (p := fun b => okc b == decide (32 < (b.toNat : Int) ∧ (b.toNat : Int) < 127 ∧ ¬ (b.toNat : Int) = 63 ∧ ¬ (b.toNat : Int) = 35)) (by decide +kernel) b
  simpa using this
end Go.Proofs.YtmlpdhmafmdkcaaGreatDoor.CutsSplit

/- Layer 5 of the program: the pieces about a question mark, and how a text begins and ends. -/
namespace Go.Proofs.YtmlpdhmafmdkcaaGreatDoor.PUnder
open Go.ChangeShapes Go.WideShapes Go.ChangeAt Go.RowKit LexPure Bytes Ret PathPure
/-- internal/bytealg.MaxLen holds an int -/
def MaxInt (w : World) : Prop := ∃ m, w.cell? ⟨0, 0, none⟩ = some (.int .i64 m)
theorem MaxInt.of_shape {w : World} (h : w.ShapedOpen Tryz.prog) : MaxInt w :=
  cell_of_shapedOpen_int (t := 3) (zero := #[.int .i64 0]) h (of_decide_eq_true (by kernel_rfl)) (by kernel_rfl) rfl (by kernel_rfl) (by kernel_rfl) Tryz.underlying3
theorem MaxInt.below {w w' : World} (h : MaxInt w) (hb : Below w.heap.size w w') : MaxInt w' := by
  obtain ⟨m, hm⟩ := h
  exact ⟨m, (hb.cell (p := ⟨0, 0, none⟩) (World.block_lt_of_cell? _ _ hm)).trans hm⟩
def cutA (s : List UInt8) : List UInt8 := s.takeWhile (fun c => c != 63)
def cutB (s : List UInt8) : List UInt8 := (s.dropWhile (fun c => c != 63)).tail
def cutQ (s : List UInt8) : Bool := s.any (fun c => c == 63)
theorem lib_has (s p : ByteArray) (w : World) :
    Calls Tryz.prog 32 #[.string s, .string p] w fun e w' => e = .returned (.bool ((toL p).isPrefixOf (toL s))) ∧ w' = w :=
  Any.strings_HasPrefix Tryz.lays99 s p w
theorem starts_one (s : List UInt8) (c : UInt8) : ([c] : List UInt8).isPrefixOf s = (s.head? == some c) := by
  cases s with
  | nil => rfl
  | cons a t =>
    rw [Bool.eq_iff_iff]
    simp only [List.isPrefixOf, List.head?_cons, Bool.and_true, beq_iff_eq, Option.some.injEq]
    exact eq_comm
theorem ends_one (s : List UInt8) (c : UInt8) : ([c] : List UInt8).isSuffixOf s = (s.getLast? == some c) := by
  unfold List.isSuffixOf
  rw [List.reverse_singleton, starts_one, List.head?_reverse]
end Go.Proofs.YtmlpdhmafmdkcaaGreatDoor.PUnder

/- Layer 8 of the program: read, over whatever its function answers; Request, Response. -/
import Derived.Test.YtclecgopmegjeaaDoorPFlds8
import Derived.Test.YtclecgopmegjeaaDoorPStart8
import Derived.Test.YtclecgopmegjeaaDoorPStatus8
namespace Go.Proofs.YtclecgopmegjeaaDoor.PRead8
open Go.ChangeShapes Go.WideShapes Go.ChangeAt Go.RowKit LexPure Bytes Ret Rows1 FieldsPure Flds HeadPure HBox Mem KeptRow PNext PFlds8
set_option maxRecDepth 20000
/-- the first line by g, then the fields -/
def fromG (g : List UInt8 → H8 × Int) (s : List UInt8) : Res :=
  match scan 1100 82 0 s with
  | .wait => .wait
  | .bad e => .bad e
  | .whole k => if (g (s.take k)).2 = 0 then fields8 (g (s.take k)).1 32 [] (k + 2) (s.drop (k + 2)) else .bad (g (s.take k)).2
theorem from_g (r : Bool) (s : List UInt8) : from8 r 0 s = fromG (if r then status8 else start8) s := by
  unfold from8 fromG
  cases r <;> (cases scan 1100 82 0 s <;> simp)
/-- a reading of fields, with another head -/
def reHead (h : H8) (d : Nat) : Res → Res
  | .wait => .wait
  | .bad e => .bad e
  | .done h' n => .done { h with fields := h'.fields } (n + d)
theorem fields_head (h : H8) (d : Nat) : ∀ (m : Nat) (acc : List HField) (a : Nat) (s : List UInt8), fields8 h m acc (a + d) s = reHead h d (fields8 zero8 m acc a s) := by
  intro m
  induction m with
  | zero =>
    intro acc a s
    unfold fields8
    cases scan 512 83 0 s with
    | wait => rfl
    | bad e => rfl
    | whole k =>
      simp only
      split
      · unfold reHead; simp only; congr 1; omega
      · rfl
  | succ m ih =>
    intro acc a s
    unfold fields8
    cases scan 512 83 0 s with
    | wait => rfl
    | bad e => rfl
    | whole k =>
      simp only
      split
      · unfold reHead; simp only; congr 1; omega
      · split
        · rw [show a + d + k + 2 = a + k + 2 + d by omega]
          exact ih _ _ _
        · rfl
theorem fields_most {h : H8} {m : Nat} {acc : List HField} {s : List UInt8} {h' : H8} {n : Nat} (hd : fields8 h m acc 0 s = .done h' n) : n ≤ s.length := by
  obtain ⟨p, q, e, hn, hp, _⟩ := fields_done h m acc 0 s h' n hd
  have := congrArg List.length e
  rw [List.length_append] at this
  omega
theorem fields_some {m : Nat} {acc : List HField} {a : Nat} {s : List UInt8} {h h' : H8} {n : Nat} (hd : fields8 h m acc a s = .done h' n) : 0 < n := by
  obtain ⟨p, q, _, hn, hp, _⟩ := fields_done h m acc a s h' n hd
  omega
theorem ret_head {W w : World} {R : Res} {h : H8} {v : Value} {n e : Int} {l : List HField} (h1 : hv (resH R) v = hv h v) (h2 : (resN R : Int) = n) (h3 : resE R = e) (h4 : (resH R).fields = l) (hf : RowF W w.heap.size v l) (hb : Below w.heap.size w W) :
    ∃ u, Ending.returned (hrv3 h v n e) = .returned (hrv3 (resH R) u (resN R) (resE R)) ∧ RowF W w.heap.size u (resH R).fields ∧ Below w.heap.size w W :=
  ⟨v, by unfold hrv3; rw [h1, h2, h3], by rw [h4]; exact hf, hb⟩
set_option maxHeartbeats 1600000 in
theorem pread_any (fid : Nat) (hent : ∀ args w, (callFunc fid args).run Tryd.prog w = .ok (.enter fid args) w) (g : List UInt8 → H8 × Int)
    (hcall : ∀ (l : ByteArray), l.size ≤ 140737488351232 → ∀ w, Calls Tryd.prog fid #[.string l] w fun e w' => e = .returned (hrv (g (toL l)).1 (.slice none 0 0) (g (toL l)).2) ∧ Below w.heap.size w w')
    (s : ByteArray) (hs : s.size ≤ 4611686018427387904) (w : World) :
    Calls Tryd.prog 22 #[.string s, .func (.func fid) #[] #[]] w fun e w' => ∃ v, e = .returned (hrv3 (resH (fromG g (toL s))) v (resN (fromG g (toL s))) (resE (fromG g (toL s)))) ∧ RowF w' w.heap.size v (resH (fromG g (toL s))).fields ∧ Below w.heap.size w w' := by
  have HO := Lib.hid (HOne.start w)
  obtain ⟨X, hX⟩ : ∃ X, X = fromG g (toL s) := ⟨_, rfl⟩
  rw [← hX]
  unfold fromG at hX
  have HN := Lib.hid (fun w => pnext_any s hs 1100 82 w)
  cases hsc : scan 1100 82 0 (toL s) with
  | wait =>
    rw [hsc] at HN hX
    have HV : X = .wait := hX
    subst HV
    unfold lineT lineB lineE at HN
    clear hX hsc hcall
    go_enter Tryd.func22, Tryd.ntmps22
    go_wp2_with fail
    generalize w.alloc (.cells #[.string ⟨#[]⟩, .string ⟨#[]⟩, .int .i64 0, .string ⟨#[]⟩, .int .i64 0, .slice none 0 0] 25) = W at HO ⊢
    obtain ⟨b, hb⟩ : ∃ b, b = w.heap.size := ⟨_, rfl⟩
    rw [← hb] at HO ⊢
    replace hb := Lib.hid hb
    refine (HN.out _).mono ?_
    rintro e w' ⟨rfl, rfl⟩
    obtain ⟨d0, d1, d2, d3, d4, d5⟩ := HO.out.box.cells
    obtain ⟨y0, y1, y2, y3, y4, y5⟩ := HO.out.box.frees
    have HE := Lib.hid (HO.out.box.put zero8 (.slice none 0 0))
    have HB := Lib.hid (HO.out.put zero8 (.slice none 0 0))
    go_wp2_with fail
    refine bodyPost_ret (v := hrv3 zero8 (.slice none 0 0) 0 0) ?_ rfl (ret_head (R := .wait) rfl rfl rfl rfl (row_none _ _) HB.out)
    rw [results_cell_tmp2 rfl]
    exact end_hbox3 rfl rfl rfl HE.out
  | bad er =>
    rw [hsc] at HN hX
    have HV : X = .bad er := hX
    subst HV
    unfold lineT lineB lineE at HN
    clear hX hsc hcall
    go_enter Tryd.func22, Tryd.ntmps22
    go_wp2_with fail
    generalize w.alloc (.cells #[.string ⟨#[]⟩, .string ⟨#[]⟩, .int .i64 0, .string ⟨#[]⟩, .int .i64 0, .slice none 0 0] 25) = W at HO ⊢
    obtain ⟨b, hb⟩ : ∃ b, b = w.heap.size := ⟨_, rfl⟩
    rw [← hb] at HO ⊢
    replace hb := Lib.hid hb
    refine (HN.out _).mono ?_
    rintro e w' ⟨rfl, rfl⟩
    obtain ⟨d0, d1, d2, d3, d4, d5⟩ := HO.out.box.cells
    obtain ⟨y0, y1, y2, y3, y4, y5⟩ := HO.out.box.frees
    have HE := Lib.hid (HO.out.box.put zero8 (.slice none 0 0))
    have HB := Lib.hid (HO.out.put zero8 (.slice none 0 0))
    go_wp2_with fail
    refine bodyPost_ret (v := hrv3 zero8 (.slice none 0 0) 0 er) ?_ rfl (ret_head (R := .bad er) rfl rfl rfl rfl (row_none _ _) HB.out)
    rw [results_cell_tmp2 rfl]
    exact end_hbox3 rfl rfl rfl HE.out
  | whole k =>
    have hkl := whole_len hsc
    have hkm := whole_most hsc
    rw [toL_length] at hkl
    rw [hsc] at HN hX
    unfold lineT lineB lineE at HN
    dsimp only at hX HN
    obtain ⟨LN, hLN⟩ : ∃ LN, LN = ofL ((toL s).take k) := ⟨_, rfl⟩
    have lLN : LN.size = k := by rw [hLN, ofL_size, List.length_take, toL_length]; omega
    have HC := Lib.hid (hcall LN (by omega))
    rw [show toL LN = (toL s).take k by rw [hLN, toL_ofL]] at HC
    rw [← hLN] at HN
    generalize g ((toL s).take k) = x at *
    obtain ⟨xh, er⟩ := x
    dsimp only at hX HC
    have hk2 : (LN.size : Int) + 2 ≤ (s.size : Int) := by omega
    have hsi : (s.size : Int) ≤ 4611686018427387904 := by omega
    unfold hrv hv at HC
    clear hsc hcall hLN
    go_enter Tryd.func22, Tryd.ntmps22
    go_wp2_with fail
    generalize w.alloc (.cells #[.string ⟨#[]⟩, .string ⟨#[]⟩, .int .i64 0, .string ⟨#[]⟩, .int .i64 0, .slice none 0 0] 25) = W at HO ⊢
    obtain ⟨b, hb⟩ : ∃ b, b = w.heap.size := ⟨_, rfl⟩
    rw [← hb] at HO ⊢
    replace hb := Lib.hid hb
    refine (HN.out _).mono ?_
    rintro e w' ⟨rfl, rfl⟩
    clear HN
    go_wp2_with fail
    refine (HC.out _).mono ?_
    rintro e w3 ⟨rfl, hb3⟩
    clear HC
    replace HO := Lib.hid (HO.out.call hb3)
    clear hb3
    have hbG : b < w3.heap.size := by have := HO.out.size; omega
    have HO3 := HO
    replace HO := Lib.hid (HO.out.call ((Below.refl _ _).alloc (Nat.le_refl _) (.cells #[.string (ofL xh.method), .string (ofL xh.target), .int .i64 xh.status, .string (ofL xh.reason), .int .i64 xh.minor, .slice none 0 0] 25)))
    have HG : Hid (HBox (w3.alloc (.cells #[.string (ofL xh.method), .string (ofL xh.target), .int .i64 xh.status, .string (ofL xh.reason), .int .i64 xh.minor, .slice none 0 0] 25)) w3.heap.size xh (.slice none 0 0)) := Lib.hid ⟨Has.new w3 _ _⟩
    by_cases h9 : er = 0
    · rw [if_pos h9] at hX
      subst h9
      have HX : Hid (X = reHead xh (k + 2) (fields8 zero8 32 [] 0 ((toL s).drop (k + 2)))) := Lib.hid (by
        rw [hX, ← fields_head, Nat.zero_add])
      clear hX
      have HF := Lib.hid (fun w => pfields_any (s.extract (k + 2) s.size) (by rw [ByteArray.size_extract]; omega) w)
      rw [show toL (s.extract (k + 2) s.size) = (toL s).drop (k + 2) by rw [toL_extract, toL_take_all s (Nat.le_refl _)]] at HF
      generalize hY : fields8 zero8 32 [] 0 ((toL s).drop (k + 2)) = Y at *
      replace hY := Lib.hid hY
      have hGs : w3.heap.size < (w3.alloc (.cells #[.string (ofL xh.method), .string (ofL xh.target), .int .i64 xh.status, .string (ofL xh.reason), .int .i64 xh.minor, .slice none 0 0] 25)).heap.size := by simp
      go_wp2_with fail
      generalize w3.alloc (.cells #[.string (ofL xh.method), .string (ofL xh.target), .int .i64 xh.status, .string (ofL xh.reason), .int .i64 xh.minor, .slice none 0 0] 25) = W4 at HO HG hGs ⊢
      generalize w3.heap.size = G at HG hbG hGs ⊢
      cases Y with
      | wait =>
        dsimp only [resN, resE, resH] at HF
        have HV : X = .wait := HX.out
        subst HV
        clear HX hY
        refine (HF.out _).mono ?_
        rintro e w5 ⟨v, rfl, _, hb5⟩
        replace HO := Lib.hid (HO.out.call hb5)
        clear hb5 HF HG hGs hbG
        obtain ⟨d0, d1, d2, d3, d4, d5⟩ := HO.out.box.cells
        obtain ⟨y0, y1, y2, y3, y4, y5⟩ := HO.out.box.frees
        have HE := Lib.hid (HO.out.box.put zero8 (.slice none 0 0))
        have HB := Lib.hid (HO.out.put zero8 (.slice none 0 0))
        clear HO
        go_wp2_with fail
        refine bodyPost_ret (v := hrv3 zero8 (.slice none 0 0) 0 0) ?_ rfl (ret_head (R := .wait) rfl rfl rfl rfl (row_none _ _) HB.out)
        rw [results_cell_tmp2 rfl]
        exact end_hbox3 rfl rfl rfl HE.out
      | bad er =>
        dsimp only [resN, resE, resH] at HF
        have HV : X = .bad er := HX.out
        subst HV
        clear HX hY
        refine (HF.out _).mono ?_
        rintro e w5 ⟨v, rfl, _, hb5⟩
        replace HO := Lib.hid (HO.out.call hb5)
        clear hb5 HF HG hGs hbG
        obtain ⟨d0, d1, d2, d3, d4, d5⟩ := HO.out.box.cells
        obtain ⟨y0, y1, y2, y3, y4, y5⟩ := HO.out.box.frees
        have HE := Lib.hid (HO.out.box.put zero8 (.slice none 0 0))
        have HB := Lib.hid (HO.out.put zero8 (.slice none 0 0))
        clear HO
        go_wp2_with fail
        refine bodyPost_ret (v := hrv3 zero8 (.slice none 0 0) 0 er) ?_ rfl (ret_head (R := .bad er) rfl rfl rfl rfl (row_none _ _) HB.out)
        rw [results_cell_tmp2 rfl]
        exact end_hbox3 rfl rfl rfl HE.out
      | done h' n =>
        dsimp only [resN, resE, resH] at HF
        have HV : X = .done { xh with fields := h'.fields } (n + (k + 2)) := HX.out
        subst HV
        have hn1 := fields_some hY.out
        have hn2 := fields_most hY.out
        rw [List.length_drop, toL_length] at hn2
        have hz : ((n : Int) == 0) = false := beq_eq_false_iff_ne.2 (by omega)
        have hsum : (k : Int) + 2 + (n : Int) ≤ (s.size : Int) := by omega
        clear HX hY hn1 hn2
        refine (HF.out _).mono ?_
        rintro e w5 ⟨v, rfl, hrow, hb5⟩
        clear HO3
        replace HO := Lib.hid (HO.out.call hb5)
        replace HG := Lib.hid (HG.out.below hb5 hGs)
        have hne : b ≠ G := by omega
        have hne2 : G ≠ b := by omega
        obtain ⟨p, cap, rfl, _, _⟩ := fl_of hrow.1 (by have := hrow.2; omega)
        have hrow2 : Hid (RowF (hput (w5.setCell ⟨G, 5, none⟩ (.slice p h'.fields.length cap)) b xh (.slice p h'.fields.length cap)) w.heap.size (.slice p h'.fields.length cap) h'.fields) := Lib.hid ⟨row_mono (row_hput (ownsRow_setCell_below hrow.1 (a := ⟨G, 5, none⟩) hGs _) (g := b) (by omega) xh _) (by have := HO.out.at_; omega), hrow.2⟩
        clear hb5 HF hrow
        have HG6 := Lib.hid (HG.out.setF (.slice p h'.fields.length cap))
        have HO6 := Lib.hid (HO.out.box.far (p := ⟨G, 5, none⟩) hne (.slice p h'.fields.length cap))
        have HB6 := Lib.hid (below_hput (HO.out.below.setCell (p := ⟨G, 5, none⟩) (by have := HO.out.at_; show w.heap.size ≤ G; omega) (.slice p h'.fields.length cap)) (g := b) (by have := HO.out.at_; omega) xh (.slice p h'.fields.length cap))
        have HE := Lib.hid (HO6.out.put xh (.slice p h'.fields.length cap))
        obtain ⟨e0, e1, e2, e3, e4, e5⟩ := HG.out.cells
        obtain ⟨x0, x1, x2, x3, x4, x5⟩ := HG.out.frees
        obtain ⟨d0, d1, d2, d3, d4, d5⟩ := HO6.out.cells
        obtain ⟨y0, y1, y2, y3, y4, y5⟩ := HO6.out.frees
        clear HO HG HO6
        go_wp2_with fail
        refine bodyPost_ret (v := hrv3 xh (.slice p h'.fields.length cap) ((k : Int) + 2 + (n : Int)) 0) ?_ rfl (ret_head (R := .done { xh with fields := h'.fields } (n + (k + 2))) rfl (show ((n + (k + 2) : Nat) : Int) = (k : Int) + 2 + (n : Int) by omega) rfl rfl hrow2.out HB6.out)
        rw [results_cell_tmp2 rfl]
        exact end_hbox3 rfl rfl rfl HE.out
    · rw [if_neg h9] at hX
      subst hX
      have h7 : (er != 0) = true := bne_iff_ne.2 h9
      clear h9 HO3 HG hbG
      dsimp only
      iterate 15 go_step
      generalize w3.alloc (.cells #[.string (ofL xh.method), .string (ofL xh.target), .int .i64 xh.status, .string (ofL xh.reason), .int .i64 xh.minor, .slice none 0 0] 25) = W4 at HO ⊢
      obtain ⟨d0, d1, d2, d3, d4, d5⟩ := HO.out.box.cells
      obtain ⟨y0, y1, y2, y3, y4, y5⟩ := HO.out.box.frees
      have HE := Lib.hid (HO.out.box.put zero8 (.slice none 0 0))
      have HB := Lib.hid (HO.out.put zero8 (.slice none 0 0))
      clear HO
      go_wp2_with fail
      refine bodyPost_ret (v := hrv3 zero8 (.slice none 0 0) 0 er) ?_ rfl (ret_head (R := .bad er) rfl rfl rfl rfl (row_none _ _) HB.out)
      rw [results_cell_tmp2 rfl]
      exact end_hbox3 rfl rfl rfl HE.out
end Go.Proofs.YtclecgopmegjeaaDoor.PRead8

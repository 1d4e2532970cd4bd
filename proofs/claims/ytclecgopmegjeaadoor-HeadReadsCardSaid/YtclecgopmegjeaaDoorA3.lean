/- Texts of this seat, one behind another: PStatus8, PRead8, PHead8, HAnchor, HLaw, R7Same, R8Same. -/
import Derived.Outline
import Derived.LoopTactic
import Derived.Laws.StructEq
import Derived.Deep.QuietTactic
import Derived.BigQuiet
import Derived.Handy
import Derived.Test.YtclecgopmegjeaaDoorA2
import Derived.Test.YtclecgopmegjeaaDoorA1
/- Layer 8 of the program: statusLine. -/
namespace Go.Proofs.YtclecgopmegjeaaDoor.PStatus8
open Go.ChangeShapes Go.WideShapes Go.ChangeAt Go.RowKit LexPure Bytes Ret FieldsPure HeadPure CutAt HeadCut HBox Mem PCutLib PDecimal PVer8 PSeen
set_option maxRecDepth 20000
theorem cut_sizes2 (x : UInt8) (s : List UInt8) : (aheadOf x s).length ≤ s.length ∧ (behind x s).length ≤ s.length :=
  ⟨by rw [ahead_take, List.length_take]; omega, by rw [cut_drop, List.length_drop]; omega⟩
set_option maxHeartbeats 1600000 in
theorem pstatus_any (s : ByteArray) (hs : s.size ≤ 140737488351232) (w : World) :
    Calls Tryd.prog 28 #[.string s] w fun e w' => e = .returned (hrv (status8 (toL s)).1 (.slice none 0 0) (status8 (toL s)).2) ∧ Below w.heap.size w w' := by
  have HO := Lib.hid (HOne.start w)
  obtain ⟨x, hx⟩ : ∃ x, x = status8 (toL s) := ⟨_, rfl⟩
  rw [← hx]
  rw [status_prog] at hx
  unfold statusP at hx
  have z1 := cut_sizes2 32 (toL s)
  have z2 := cut_sizes2 32 (behind 32 (toL s))
  rw [toL_length] at z1
  have HC1 := Lib.hid (fun w => full_cut 32 s hs w)
  have HC2 := Lib.hid (fun w => full_cut 32 (ofL (behind 32 (toL s))) (by rw [ofL_size]; omega) w)
  rw [toL_ofL] at HC2
  have HD := Lib.hid (fun w => (pdecimal_any (ofL (aheadOf 32 (behind 32 (toL s)))) (by unfold maxLen; rw [ofL_size]; omega) 3 w).mono (fun e w' h => (⟨h.1, h.2.symm⟩ : e = .returned (.tuple #[.int .i64 (numR 10 (min 3 18) (toL (ofL (aheadOf 32 (behind 32 (toL s)))))), .bool (numOk 10 (min 3 18) (toL (ofL (aheadOf 32 (behind 32 (toL s))))))]) ∧ w' = w)))
  have HG := Lib.hid (fun w => preason_any (ofL (behind 32 (behind 32 (toL s)))) (by rw [ofL_size]; omega) w)
  have HV := Lib.hid (fun w => pversion_any (ofL (aheadOf 32 (toL s))) (by rw [ofL_size]; omega) w)
  rw [toL_ofL] at HD HG HV
  rw [show min (3 : Int) 18 = 3 from rfl] at HD
  generalize hasB 32 (toL s) = q1 at *
  generalize hasB 32 (behind 32 (toL s)) = q2 at *
  generalize aheadOf 32 (toL s) = V at *
  generalize behind 32 (toL s) = R at *
  generalize aheadOf 32 R = D at *
  generalize behind 32 R = T at *
  generalize version8 V = v at *
  generalize numOk 10 3 D = ok at *
  generalize numR 10 3 D = n at *
  generalize hrb : T.all plainB = rb at *
  clear hrb
  obtain ⟨m, er⟩ := v
  clear z1 z2 hs
  replace hx := Lib.hid hx
  have hcases : n < 100 ∨ (¬ n < 100 ∧ (599 : Int) < n) ∨ (¬ n < 100 ∧ ¬ (599 : Int) < n) := by omega
  go_enter Tryd.func28, Tryd.ntmps28
  go_wp2_with fail
  generalize w.alloc (.cells #[.string ⟨#[]⟩, .string ⟨#[]⟩, .int .i64 0, .string ⟨#[]⟩, .int .i64 0, .slice none 0 0] 25) = W at HO ⊢
  obtain ⟨g, hg⟩ : ∃ g, g = w.heap.size := ⟨_, rfl⟩
  rw [← hg] at HO ⊢
  replace hg := Lib.hid hg
  refine (HC1.out _).mono ?_
  rintro e w1 ⟨rfl, hb1⟩
  replace HO := Lib.hid (HO.out.call hb1)
  clear hb1 HC1
  go_wp2_with fail
  refine (HC2.out _).mono ?_
  rintro e w2 ⟨rfl, hb2⟩
  replace HO := Lib.hid (HO.out.call hb2)
  clear hb2 HC2
  go_wp2_with fail
  refine (HD.out _).mono ?_
  rintro e w' ⟨rfl, rfl⟩
  clear HD
  obtain ⟨d0, d1, d2, d3, d4, d5⟩ := HO.out.box.cells
  obtain ⟨y0, y1, y2, y3, y4, y5⟩ := HO.out.box.frees
  have HE := Lib.hid (HO.out.box.put zero8 (.slice none 0 0))
  have HB := Lib.hid (HO.out.put zero8 (.slice none 0 0))
  cases ok with
  | false =>
    have HX : x = (zero8, 80) := by rw [hx.out, if_neg]; rintro ⟨h, _⟩; cases h
    subst HX
    clear hx HO HG HV hcases
    go_wp2_with fail
    refine bodyPost_ret (v := hrv zero8 (.slice none 0 0) 80) ?_ rfl ⟨rfl, HB.out⟩
    rw [results_cell_tmp rfl]
    exact end_hbox rfl rfl HE.out
  | true =>
  rcases hcases with hi | ⟨hi, hj⟩ | ⟨hi, hj⟩
  · have HX : x = (zero8, 80) := by rw [hx.out, if_neg]; rintro ⟨_, h, _⟩; omega
    subst HX
    clear hx HO HG HV
    go_wp2_with fail
    refine bodyPost_ret (v := hrv zero8 (.slice none 0 0) 80) ?_ rfl ⟨rfl, HB.out⟩
    rw [results_cell_tmp rfl]
    exact end_hbox rfl rfl HE.out
  · have HX : x = (zero8, 80) := by rw [hx.out, if_neg]; rintro ⟨_, _, h, _⟩; omega
    subst HX
    clear hx HO HG HV
    go_wp2_with fail
    refine bodyPost_ret (v := hrv zero8 (.slice none 0 0) 80) ?_ rfl ⟨rfl, HB.out⟩
    rw [results_cell_tmp rfl]
    exact end_hbox rfl rfl HE.out
  clear HE HB d0 d1 d2 d3 d4 d5 y0 y1 y2 y3 y4 y5
  go_wp2_with fail
  refine (HG.out _).mono ?_
  rintro e w2 ⟨rfl, hb2⟩
  replace HO := Lib.hid (HO.out.call hb2)
  clear hb2 HG
  cases rb with
  | false =>
    obtain ⟨d0, d1, d2, d3, d4, d5⟩ := HO.out.box.cells
    obtain ⟨y0, y1, y2, y3, y4, y5⟩ := HO.out.box.frees
    have HE := Lib.hid (HO.out.box.put zero8 (.slice none 0 0))
    have HB := Lib.hid (HO.out.put zero8 (.slice none 0 0))
    have HX : x = (zero8, 80) := by rw [hx.out, if_neg]; rintro ⟨_, _, _, h⟩; cases h
    subst HX
    clear hx HO HV
    go_wp2_with fail
    refine bodyPost_ret (v := hrv zero8 (.slice none 0 0) 80) ?_ rfl ⟨rfl, HB.out⟩
    rw [results_cell_tmp rfl]
    exact end_hbox rfl rfl HE.out
  | true =>
  have HX1 : x = if er = 0 then (⟨[], [], n, T, m, []⟩, 0) else (zero8, er) := by
    rw [hx.out, if_pos ⟨by trivial, by omega, by omega, by trivial⟩]
  clear hx
  go_wp2_with fail
  refine (HV.out _).mono ?_
  rintro e w3 ⟨rfl, hb3⟩
  replace HO := Lib.hid (HO.out.call hb3)
  clear hb3 HV
  obtain ⟨d0, d1, d2, d3, d4, d5⟩ := HO.out.box.cells
  obtain ⟨y0, y1, y2, y3, y4, y5⟩ := HO.out.box.frees
  by_cases h6 : er = 0
  · rw [if_pos h6] at HX1
    subst HX1
    subst h6
    have HE := Lib.hid (HO.out.box.put ⟨[], [], n, T, m, []⟩ (.slice none 0 0))
    have HB := Lib.hid (HO.out.put ⟨[], [], n, T, m, []⟩ (.slice none 0 0))
    unfold hput at HE HB
    clear HO
    go_wp2_with fail
    refine bodyPost_ret (v := hrv ⟨[], [], n, T, m, []⟩ (.slice none 0 0) 0) ?_ rfl ⟨rfl, HB.out⟩
    rw [results_cell_tmp rfl]
    exact end_hbox rfl rfl HE.out
  · rw [if_neg h6] at HX1
    subst HX1
    have h7 : (er != 0) = true := bne_iff_ne.2 h6
    have HE := Lib.hid (HO.out.box.put zero8 (.slice none 0 0))
    have HB := Lib.hid (HO.out.put zero8 (.slice none 0 0))
    clear HO h6
    go_wp2_with fail
    refine bodyPost_ret (v := hrv zero8 (.slice none 0 0) er) ?_ rfl ⟨rfl, HB.out⟩
    rw [results_cell_tmp rfl]
    exact end_hbox rfl rfl HE.out
end Go.Proofs.YtclecgopmegjeaaDoor.PStatus8

/- Layer 8 of the program: read, over whatever its function answers; Request, Response. -/
namespace Go.Proofs.YtclecgopmegjeaaDoor.PRead8
open Go.ChangeShapes Go.WideShapes Go.ChangeAt Go.RowKit LexPure Bytes Ret Rows1 FieldsPure Flds HeadPure HBox Mem KeptRow PNext PFlds8
set_option maxRecDepth 20000
/-- the first line by g, then the fields -/
def fromG (g : List UInt8 → H8 × Int) (s : List UInt8) : Res :=
  match scan 1100 82 0 s with
  | .wait => .wait
  | .bad e => .bad e
  | .whole k => if (g (s.take k)).2 = 0 then fields8 (g (s.take k)).1 32 [] (k + 2) (s.drop (k + 2)) else .bad (g (s.take k)).2
theorem from_g (r : Bool) (s : List UInt8) : from8 r 0 s = fromG (if r then status8 else start8) s := by
  unfold from8 fromG
  cases r <;> (cases scan 1100 82 0 s <;> simp)
/-- a reading of fields, with another head -/
def reHead (h : H8) (d : Nat) : Res → Res
  | .wait => .wait
  | .bad e => .bad e
  | .done h' n => .done { h with fields := h'.fields } (n + d)
theorem fields_head (h : H8) (d : Nat) : ∀ (m : Nat) (acc : List HField) (a : Nat) (s : List UInt8), fields8 h m acc (a + d) s = reHead h d (fields8 zero8 m acc a s) := by
  intro m
  induction m with
  | zero =>
    intro acc a s
    unfold fields8
    cases scan 512 83 0 s with
    | wait => rfl
    | bad e => rfl
    | whole k =>
      simp only
      split
      · unfold reHead; simp only; congr 1; omega
      · rfl
  | succ m ih =>
    intro acc a s
    unfold fields8
    cases scan 512 83 0 s with
    | wait => rfl
    | bad e => rfl
    | whole k =>
      simp only
      split
      · unfold reHead; simp only; congr 1; omega
      · split
        · rw [show a + d + k + 2 = a + k + 2 + d by omega]
          exact ih _ _ _
        · rfl
theorem fields_most {h : H8} {m : Nat} {acc : List HField} {s : List UInt8} {h' : H8} {n : Nat} (hd : fields8 h m acc 0 s = .done h' n) : n ≤ s.length := by
  obtain ⟨p, q, e, hn, hp, _⟩ := fields_done h m acc 0 s h' n hd
  have := congrArg List.length e
  rw [List.length_append] at this
  omega
theorem fields_some {m : Nat} {acc : List HField} {a : Nat} {s : List UInt8} {h h' : H8} {n : Nat} (hd : fields8 h m acc a s = .done h' n) : 0 < n := by
  obtain ⟨p, q, _, hn, hp, _⟩ := fields_done h m acc a s h' n hd
  omega
theorem ret_head {W w : World} {R : Res} {h : H8} {v : Value} {n e : Int} {l : List HField} (h1 : hv (resH R) v = hv h v) (h2 : (resN R : Int) = n) (h3 : resE R = e) (h4 : (resH R).fields = l) (hf : RowF W w.heap.size v l) (hb : Below w.heap.size w W) :
    ∃ u, Ending.returned (hrv3 h v n e) = .returned (hrv3 (resH R) u (resN R) (resE R)) ∧ RowF W w.heap.size u (resH R).fields ∧ Below w.heap.size w W :=
  ⟨v, by unfold hrv3; rw [h1, h2, h3], by rw [h4]; exact hf, hb⟩
set_option maxHeartbeats 1600000 in
theorem pread_any (fid : Nat) (hent : ∀ args w, (callFunc fid args).run Tryd.prog w = .ok (.enter fid args) w) (g : List UInt8 → H8 × Int)
    (hcall : ∀ (l : ByteArray), l.size ≤ 140737488351232 → ∀ w, Calls Tryd.prog fid #[.string l] w fun e w' => e = .returned (hrv (g (toL l)).1 (.slice none 0 0) (g (toL l)).2) ∧ Below w.heap.size w w')
    (s : ByteArray) (hs : s.size ≤ 4611686018427387904) (w : World) :
    Calls Tryd.prog 22 #[.string s, .func (.func fid) #[] #[]] w fun e w' => ∃ v, e = .returned (hrv3 (resH (fromG g (toL s))) v (resN (fromG g (toL s))) (resE (fromG g (toL s)))) ∧ RowF w' w.heap.size v (resH (fromG g (toL s))).fields ∧ Below w.heap.size w w' := by
  have HO := Lib.hid (HOne.start w)
  obtain ⟨X, hX⟩ : ∃ X, X = fromG g (toL s) := ⟨_, rfl⟩
  rw [← hX]
  unfold fromG at hX
  have HN := Lib.hid (fun w => pnext_any s hs 1100 82 w)
  cases hsc : scan 1100 82 0 (toL s) with
  | wait =>
    rw [hsc] at HN hX
    have HV : X = .wait := hX
    subst HV
    unfold lineT lineB lineE at HN
    clear hX hsc hcall
    go_enter Tryd.func22, Tryd.ntmps22
    go_wp2_with fail
    generalize w.alloc (.cells #[.string ⟨#[]⟩, .string ⟨#[]⟩, .int .i64 0, .string ⟨#[]⟩, .int .i64 0, .slice none 0 0] 25) = W at HO ⊢
    obtain ⟨b, hb⟩ : ∃ b, b = w.heap.size := ⟨_, rfl⟩
    rw [← hb] at HO ⊢
    replace hb := Lib.hid hb
    refine (HN.out _).mono ?_
    rintro e w' ⟨rfl, rfl⟩
    obtain ⟨d0, d1, d2, d3, d4, d5⟩ := HO.out.box.cells
    obtain ⟨y0, y1, y2, y3, y4, y5⟩ := HO.out.box.frees
    have HE := Lib.hid (HO.out.box.put zero8 (.slice none 0 0))
    have HB := Lib.hid (HO.out.put zero8 (.slice none 0 0))
    go_wp2_with fail
    refine bodyPost_ret (v := hrv3 zero8 (.slice none 0 0) 0 0) ?_ rfl (ret_head (R := .wait) rfl rfl rfl rfl (row_none _ _) HB.out)
    rw [results_cell_tmp2 rfl]
    exact end_hbox3 rfl rfl rfl HE.out
  | bad er =>
    rw [hsc] at HN hX
    have HV : X = .bad er := hX
    subst HV
    unfold lineT lineB lineE at HN
    clear hX hsc hcall
    go_enter Tryd.func22, Tryd.ntmps22
    go_wp2_with fail
    generalize w.alloc (.cells #[.string ⟨#[]⟩, .string ⟨#[]⟩, .int .i64 0, .string ⟨#[]⟩, .int .i64 0, .slice none 0 0] 25) = W at HO ⊢
    obtain ⟨b, hb⟩ : ∃ b, b = w.heap.size := ⟨_, rfl⟩
    rw [← hb] at HO ⊢
    replace hb := Lib.hid hb
    refine (HN.out _).mono ?_
    rintro e w' ⟨rfl, rfl⟩
    obtain ⟨d0, d1, d2, d3, d4, d5⟩ := HO.out.box.cells
    obtain ⟨y0, y1, y2, y3, y4, y5⟩ := HO.out.box.frees
    have HE := Lib.hid (HO.out.box.put zero8 (.slice none 0 0))
    have HB := Lib.hid (HO.out.put zero8 (.slice none 0 0))
    go_wp2_with fail
    refine bodyPost_ret (v := hrv3 zero8 (.slice none 0 0) 0 er) ?_ rfl (ret_head (R := .bad er) rfl rfl rfl rfl (row_none _ _) HB.out)
    rw [results_cell_tmp2 rfl]
    exact end_hbox3 rfl rfl rfl HE.out
  | whole k =>
    have hkl := whole_len hsc
    have hkm := whole_most hsc
    rw [toL_length] at hkl
    rw [hsc] at HN hX
    unfold lineT lineB lineE at HN
    dsimp only at hX HN
    obtain ⟨LN, hLN⟩ : ∃ LN, LN = ofL ((toL s).take k) := ⟨_, rfl⟩
    have lLN : LN.size = k := by rw [hLN, ofL_size, List.length_take, toL_length]; omega
    have HC := Lib.hid (hcall LN (by omega))
    rw [show toL LN = (toL s).take k by rw [hLN, toL_ofL]] at HC
    rw [← hLN] at HN
    generalize g ((toL s).take k) = x at *
    obtain ⟨xh, er⟩ := x
    dsimp only at hX HC
    have hk2 : (LN.size : Int) + 2 ≤ (s.size : Int) := by omega
    have hsi : (s.size : Int) ≤ 4611686018427387904 := by omega
    unfold hrv hv at HC
    clear hsc hcall hLN
    go_enter Tryd.func22, Tryd.ntmps22
    go_wp2_with fail
    generalize w.alloc (.cells #[.string ⟨#[]⟩, .string ⟨#[]⟩, .int .i64 0, .string ⟨#[]⟩, .int .i64 0, .slice none 0 0] 25) = W at HO ⊢
    obtain ⟨b, hb⟩ : ∃ b, b = w.heap.size := ⟨_, rfl⟩
    rw [← hb] at HO ⊢
    replace hb := Lib.hid hb
    refine (HN.out _).mono ?_
    rintro e w' ⟨rfl, rfl⟩
    clear HN
    go_wp2_with fail
    refine (HC.out _).mono ?_
    rintro e w3 ⟨rfl, hb3⟩
    clear HC
    replace HO := Lib.hid (HO.out.call hb3)
    clear hb3
    have hbG : b < w3.heap.size := by have := HO.out.size; omega
    have HO3 := HO
    replace HO := Lib.hid (HO.out.call ((Below.refl _ _).alloc (Nat.le_refl _) (.cells #[.string (ofL xh.method), .string (ofL xh.target), .int .i64 xh.status, .string (ofL xh.reason), .int .i64 xh.minor, .slice none 0 0] 25)))
    have HG : Hid (HBox (w3.alloc (.cells #[.string (ofL xh.method), .string (ofL xh.target), .int .i64 xh.status, .string (ofL xh.reason), .int .i64 xh.minor, .slice none 0 0] 25)) w3.heap.size xh (.slice none 0 0)) := Lib.hid ⟨Has.new w3 _ _⟩
    by_cases h9 : er = 0
    · rw [if_pos h9] at hX
      subst h9
      have HX : Hid (X = reHead xh (k + 2) (fields8 zero8 32 [] 0 ((toL s).drop (k + 2)))) := Lib.hid (by
        rw [hX, ← fields_head, Nat.zero_add])
      clear hX
      have HF := Lib.hid (fun w => pfields_any (s.extract (k + 2) s.size) (by rw [ByteArray.size_extract]; omega) w)
      rw [show toL (s.extract (k + 2) s.size) = (toL s).drop (k + 2) by rw [toL_extract, toL_take_all s (Nat.le_refl _)]] at HF
      generalize hY : fields8 zero8 32 [] 0 ((toL s).drop (k + 2)) = Y at *
      replace hY := Lib.hid hY
      have hGs : w3.heap.size < (w3.alloc (.cells #[.string (ofL xh.method), .string (ofL xh.target), .int .i64 xh.status, .string (ofL xh.reason), .int .i64 xh.minor, .slice none 0 0] 25)).heap.size := by simp
      go_wp2_with fail
      generalize w3.alloc (.cells #[.string (ofL xh.method), .string (ofL xh.target), .int .i64 xh.status, .string (ofL xh.reason), .int .i64 xh.minor, .slice none 0 0] 25) = W4 at HO HG hGs ⊢
      generalize w3.heap.size = G at HG hbG hGs ⊢
      cases Y with
      | wait =>
        dsimp only [resN, resE, resH] at HF
        have HV : X = .wait := HX.out
        subst HV
        clear HX hY
        refine (HF.out _).mono ?_
        rintro e w5 ⟨v, rfl, _, hb5⟩
        replace HO := Lib.hid (HO.out.call hb5)
        clear hb5 HF HG hGs hbG
        obtain ⟨d0, d1, d2, d3, d4, d5⟩ := HO.out.box.cells
        obtain ⟨y0, y1, y2, y3, y4, y5⟩ := HO.out.box.frees
        have HE := Lib.hid (HO.out.box.put zero8 (.slice none 0 0))
        have HB := Lib.hid (HO.out.put zero8 (.slice none 0 0))
        clear HO
        go_wp2_with fail
        refine bodyPost_ret (v := hrv3 zero8 (.slice none 0 0) 0 0) ?_ rfl (ret_head (R := .wait) rfl rfl rfl rfl (row_none _ _) HB.out)
        rw [results_cell_tmp2 rfl]
        exact end_hbox3 rfl rfl rfl HE.out
      | bad er =>
        dsimp only [resN, resE, resH] at HF
        have HV : X = .bad er := HX.out
        subst HV
        clear HX hY
        refine (HF.out _).mono ?_
        rintro e w5 ⟨v, rfl, _, hb5⟩
        replace HO := Lib.hid (HO.out.call hb5)
        clear hb5 HF HG hGs hbG
        obtain ⟨d0, d1, d2, d3, d4, d5⟩ := HO.out.box.cells
        obtain ⟨y0, y1, y2, y3, y4, y5⟩ := HO.out.box.frees
        have HE := Lib.hid (HO.out.box.put zero8 (.slice none 0 0))
        have HB := Lib.hid (HO.out.put zero8 (.slice none 0 0))
        clear HO
        go_wp2_with fail
        refine bodyPost_ret (v := hrv3 zero8 (.slice none 0 0) 0 er) ?_ rfl (ret_head (R := .bad er) rfl rfl rfl rfl (row_none _ _) HB.out)
        rw [results_cell_tmp2 rfl]
        exact end_hbox3 rfl rfl rfl HE.out
      | done h' n =>
        dsimp only [resN, resE, resH] at HF
        have HV : X = .done { xh with fields := h'.fields } (n + (k + 2)) := HX.out
        subst HV
        have hn1 := fields_some hY.out
        have hn2 := fields_most hY.out
        rw [List.length_drop, toL_length] at hn2
        have hz : ((n : Int) == 0) = false := beq_eq_false_iff_ne.2 (by omega)
        have hsum : (k : Int) + 2 + (n : Int) ≤ (s.size : Int) := by omega
        clear HX hY hn1 hn2
        refine (HF.out _).mono ?_
        rintro e w5 ⟨v, rfl, hrow, hb5⟩
        clear HO3
        replace HO := Lib.hid (HO.out.call hb5)
        replace HG := Lib.hid (HG.out.below hb5 hGs)
        have hne : b ≠ G := by omega
        have hne2 : G ≠ b := by omega
        obtain ⟨p, cap, rfl, _, _⟩ := fl_of hrow.1 (by have := hrow.2; omega)
        have hrow2 : Hid (RowF (hput (w5.setCell ⟨G, 5, none⟩ (.slice p h'.fields.length cap)) b xh (.slice p h'.fields.length cap)) w.heap.size (.slice p h'.fields.length cap) h'.fields) := Lib.hid ⟨row_mono (row_hput (ownsRow_setCell_below hrow.1 (a := ⟨G, 5, none⟩) hGs _) (g := b) (by omega) xh _) (by have := HO.out.at_; omega), hrow.2⟩
        clear hb5 HF hrow
        have HG6 := Lib.hid (HG.out.setF (.slice p h'.fields.length cap))
        have HO6 := Lib.hid (HO.out.box.far (p := ⟨G, 5, none⟩) hne (.slice p h'.fields.length cap))
        have HB6 := Lib.hid (below_hput (HO.out.below.setCell (p := ⟨G, 5, none⟩) (by have := HO.out.at_; show w.heap.size ≤ G; omega) (.slice p h'.fields.length cap)) (g := b) (by have := HO.out.at_; omega) xh (.slice p h'.fields.length cap))
        have HE := Lib.hid (HO6.out.put xh (.slice p h'.fields.length cap))
        obtain ⟨e0, e1, e2, e3, e4, e5⟩ := HG.out.cells
        obtain ⟨x0, x1, x2, x3, x4, x5⟩ := HG.out.frees
        obtain ⟨d0, d1, d2, d3, d4, d5⟩ := HO6.out.cells
        obtain ⟨y0, y1, y2, y3, y4, y5⟩ := HO6.out.frees
        clear HO HG HO6
        go_wp2_with fail
        refine bodyPost_ret (v := hrv3 xh (.slice p h'.fields.length cap) ((k : Int) + 2 + (n : Int)) 0) ?_ rfl (ret_head (R := .done { xh with fields := h'.fields } (n + (k + 2))) rfl (show ((n + (k + 2) : Nat) : Int) = (k : Int) + 2 + (n : Int) by omega) rfl rfl hrow2.out HB6.out)
        rw [results_cell_tmp2 rfl]
        exact end_hbox3 rfl rfl rfl HE.out
    · rw [if_neg h9] at hX
      subst hX
      have h7 : (er != 0) = true := bne_iff_ne.2 h9
      clear h9 HO3 HG hbG
      dsimp only
      iterate 15 go_step
      generalize w3.alloc (.cells #[.string (ofL xh.method), .string (ofL xh.target), .int .i64 xh.status, .string (ofL xh.reason), .int .i64 xh.minor, .slice none 0 0] 25) = W4 at HO ⊢
      obtain ⟨d0, d1, d2, d3, d4, d5⟩ := HO.out.box.cells
      obtain ⟨y0, y1, y2, y3, y4, y5⟩ := HO.out.box.frees
      have HE := Lib.hid (HO.out.box.put zero8 (.slice none 0 0))
      have HB := Lib.hid (HO.out.put zero8 (.slice none 0 0))
      clear HO
      go_wp2_with fail
      refine bodyPost_ret (v := hrv3 zero8 (.slice none 0 0) 0 er) ?_ rfl (ret_head (R := .bad er) rfl rfl rfl rfl (row_none _ _) HB.out)
      rw [results_cell_tmp2 rfl]
      exact end_hbox3 rfl rfl rfl HE.out
end Go.Proofs.YtclecgopmegjeaaDoor.PRead8

/- Layer 8 of the program: Request, Response. -/
namespace Go.Proofs.YtclecgopmegjeaaDoor.PHead8
open Go.ChangeShapes Go.WideShapes Go.ChangeAt Go.RowKit LexPure Bytes Ret Rows1 FieldsPure Flds HeadPure HBox Mem KeptRow PNext PFlds8 PStart8 PStatus8 PRead8 PPre
set_option maxRecDepth 20000
theorem skip_pre : ∀ l : List UInt8, ([13, 10] : List UInt8).isPrefixOf l = true → 2 ≤ l.length ∧ skip8 l = skip8 (l.drop 2) + 2
  | [], h => by cases h
  | [c], h => by simp [List.isPrefixOf] at h
  | c :: d :: s, h => by
    have : 13 = c ∧ 10 = d := by simpa [List.isPrefixOf] using h
    obtain ⟨rfl, rfl⟩ := this
    exact ⟨by simp, rfl⟩
theorem skip_not : ∀ l : List UInt8, ([13, 10] : List UInt8).isPrefixOf l = false → skip8 l = 0
  | [], _ => rfl
  | [c], _ => rfl
  | c :: d :: s, h => by
    unfold skip8
    rw [if_neg]
    rintro ⟨rfl, rfl⟩
    simp [List.isPrefixOf] at h
theorem read_at {s : List UInt8} {a : Nat} (h : skip8 s = a) : read8 false s = shift a (fromG start8 (s.drop a)) := by
  unfold read8 skipOf
  rw [if_neg (by decide), h, show fromG start8 (s.drop a) = from8 false 0 (s.drop a) from (from_g false _).symm, ← from_shift, Nat.zero_add]
theorem read_response (s : List UInt8) : read8 true s = fromG status8 s := by
  unfold read8 skipOf
  rw [if_pos rfl, List.drop_zero, from_g]
  rfl
theorem resN_most {g : List UInt8 → H8 × Int} {s : List UInt8} {h' : H8} {n : Nat} (hd : fromG g s = .done h' n) : 0 < n ∧ n ≤ s.length := by
  unfold fromG at hd
  cases hs : scan 1100 82 0 s with
  | wait => rw [hs] at hd; cases hd
  | bad e => rw [hs] at hd; cases hd
  | whole k =>
    rw [hs] at hd
    dsimp only at hd
    have hk := whole_len hs
    split at hd
    · obtain ⟨p, q, e, hn, hp, _⟩ := fields_done _ _ _ _ _ h' n hd
      have := congrArg List.length e
      rw [List.length_append, List.length_drop] at this
      omega
    · cases hd
theorem presponse_row (s : ByteArray) (hs : s.size ≤ 4611686018427387904) (w : World) :
    Calls Tryd.prog 15 #[.string s] w fun e w' => ∃ v, e = .returned (hrv3 (resH (read8 true (toL s))) v (resN (read8 true (toL s))) (resE (read8 true (toL s)))) ∧ RowF w' w.heap.size v (resH (read8 true (toL s))).fields ∧ Below w.heap.size w w' := by
  have HO := Lib.hid (HOne.start w)
  rw [read_response]
  have HR := Lib.hid (fun w => pread_any 28 (enters_of Tryd.func28 (by kernel_rfl) rfl) status8 (fun l hl w => pstatus_any l hl w) s hs w)
  generalize fromG status8 (toL s) = X at *
  generalize hXn : (resN X : Int) = n at *
  generalize resE X = er at *
  go_enter Tryd.func15, Tryd.ntmps15
  go_wp2_with fail
  generalize w.alloc (.cells #[.string ⟨#[]⟩, .string ⟨#[]⟩, .int .i64 0, .string ⟨#[]⟩, .int .i64 0, .slice none 0 0] 25) = W at HO ⊢
  obtain ⟨b, hb⟩ : ∃ b, b = w.heap.size := ⟨_, rfl⟩
  rw [← hb] at HO ⊢
  replace hb := Lib.hid hb
  refine (HR.out _).mono ?_
  rintro e w' ⟨v, rfl, hrow, hb1⟩
  have hrow2 : Hid (RowF (hput w' b (resH X) v) w.heap.size v (resH X).fields) := Lib.hid ⟨row_mono (row_hput hrow.1 (g := b) (by have := HO.out.size; omega) (resH X) v) HO.out.below.size, hrow.2⟩
  obtain ⟨p, cap, rfl, _, _⟩ := fl_of hrow.1 (by have := hrow.2; omega)
  replace HO := Lib.hid (HO.out.call hb1)
  clear hb1 hrow
  have HE := Lib.hid (HO.out.box.put (resH X) (.slice p (resH X).fields.length cap))
  have HB := Lib.hid (HO.out.put (resH X) (.slice p (resH X).fields.length cap))
  obtain ⟨d0, d1, d2, d3, d4, d5⟩ := HO.out.box.cells
  obtain ⟨y0, y1, y2, y3, y4, y5⟩ := HO.out.box.frees
  unfold hrv3 hv
  clear HO HR
  go_wp2_with fail
  refine bodyPost_ret (v := hrv3 (resH X) (.slice p (resH X).fields.length cap) n er) ?_ rfl ⟨_, rfl, hrow2.out, HB.out⟩
  rw [results_cell_tmp2 rfl]
  exact end_hbox3 rfl rfl rfl HE.out
set_option maxHeartbeats 1600000 in
theorem prequest_row (s : ByteArray) (hs : s.size ≤ 4611686018427387904) (w : World) :
    Calls Tryd.prog 12 #[.string s] w fun e w' => ∃ v, e = .returned (hrv3 (resH (read8 false (toL s))) v (resN (read8 false (toL s))) (resE (read8 false (toL s)))) ∧ RowF w' w.heap.size v (resH (read8 false (toL s))).fields ∧ Below w.heap.size w w' := by
  have HO := Lib.hid (HOne.start w)
  have HP := Lib.hid (fun a w => lib_has (s.extract a s.size) ⟨#[13, 10]⟩ w)
  have HA := Lib.hid (fun l hl w => pstart_any l hl w)
  obtain ⟨Z, hZ⟩ : ∃ Z, Z = read8 false (toL s) := ⟨_, rfl⟩
  rw [← hZ]
  replace hZ := Lib.hid hZ
  go_enter Tryd.func12, Tryd.ntmps12
  go_wp2_with fail
  generalize w.alloc (.cells #[.string ⟨#[]⟩, .string ⟨#[]⟩, .int .i64 0, .string ⟨#[]⟩, .int .i64 0, .slice none 0 0] 25) = W at HO ⊢
  obtain ⟨b, hb⟩ : ∃ b, b = w.heap.size := ⟨_, rfl⟩
  rw [← hb] at HO ⊢
  replace hb := Lib.hid hb
  go_loop [5] (fun i => ∃ a : Nat, a ≤ s.size ∧ i = .int .i64 a ∧ Hid (skip8 (toL s) = a + skip8 ((toL s).drop a))) (fun i => s.size - (intOf i).toNat)
  case atStart => exact ⟨0, Nat.zero_le _, rfl, Lib.hid (by rw [List.drop_zero, Nat.zero_add])⟩
  case round =>
    obtain ⟨a, ha, rfl, hq⟩ := hrel
    have hai : (a : Int) ≤ (s.size : Int) := by omega
    have hsi : (s.size : Int) ≤ 4611686018427387904 := by omega
    have HC := HP.out a
    have eD : toL (s.extract a s.size) = (toL s).drop a := by rw [toL_extract, toL_take_all s (Nat.le_refl _)]
    rw [eD, show toL (⟨#[13, 10]⟩ : ByteArray) = [13, 10] from rfl] at HC
    cases hp : ([13, 10] : List UInt8).isPrefixOf ((toL s).drop a) with
    | true =>
      rw [hp] at HC
      replace HC := Lib.hid HC
      obtain ⟨h2, h3⟩ := skip_pre _ hp
      rw [List.length_drop, toL_length] at h2
      have HQ : Hid (skip8 (toL s) = a + 2 + skip8 ((toL s).drop (a + 2))) := Lib.hid (by rw [hq.out, h3, List.drop_drop]; omega)
      clear hq h3 hp eD
      go_wp2_with fail
      refine (HC.out _).mono ?_
      rintro e w' ⟨rfl, rfl⟩
      go_wp2_with fail
      go_round
      case rel => exact ⟨a + 2, by omega, by go_num, HQ⟩
      case measure => simp [intOf]; omega
    | false =>
      rw [hp] at HC
      replace HC := Lib.hid HC
      have h0 := skip_not _ hp
      have hsk : skip8 (toL s) = a := by rw [hq.out, h0, Nat.add_zero]
      have HZ : Z = shift a (fromG start8 ((toL s).drop a)) := by rw [hZ.out]; exact read_at hsk
      have HR := Lib.hid (fun w => pread_any 23 (enters_of Tryd.func23 (by kernel_rfl) rfl) start8 (fun l hl w => HA.out l hl w) (s.extract a s.size) (by rw [ByteArray.size_extract]; omega) w)
      rw [eD] at HR
      have hm : ∀ h' n, fromG start8 ((toL s).drop a) = .done h' n → 0 < n ∧ n ≤ s.size - a := fun h' n h => by have := resN_most h; rwa [List.length_drop, toL_length] at this
      generalize fromG start8 ((toL s).drop a) = X at *
      clear hq hp eD h0 hsk
      go_wp2_with fail
      refine (HC.out _).mono ?_
      rintro e w' ⟨rfl, rfl⟩
      clear HC
      go_wp2_with fail
      refine (HR.out _).mono ?_
      rintro e w3 ⟨v, rfl, hrow, hb3⟩
      obtain ⟨p, cap, rfl, _, _⟩ := fl_of hrow.1 (by have := hrow.2; omega)
      have hbG : b < w3.heap.size := by have := HO.out.size; have := hb3.size; omega
      have hbW : b < w'.heap.size := by have := HO.out.size; omega
      have hbw := HO.out.below.size
      replace HO := Lib.hid (HO.out.call hb3)
      clear hb3 HR
      replace HO := Lib.hid (HO.out.call ((Below.refl _ _).alloc (Nat.le_refl _) (.cells #[.string (ofL (resH X).method), .string (ofL (resH X).target), .int .i64 (resH X).status, .string (ofL (resH X).reason), .int .i64 (resH X).minor, .slice p (resH X).fields.length cap] 25)))
      have HG : Hid (HBox (w3.alloc (.cells #[.string (ofL (resH X).method), .string (ofL (resH X).target), .int .i64 (resH X).status, .string (ofL (resH X).reason), .int .i64 (resH X).minor, .slice p (resH X).fields.length cap] 25)) w3.heap.size (resH X) (.slice p (resH X).fields.length cap)) := Lib.hid ⟨Has.new w3 _ _⟩
      have hRow : Hid (RowF (w3.alloc (.cells #[.string (ofL (resH X).method), .string (ofL (resH X).target), .int .i64 (resH X).status, .string (ofL (resH X).reason), .int .i64 (resH X).minor, .slice p (resH X).fields.length cap] 25)) w'.heap.size (.slice p (resH X).fields.length cap) (resH X).fields) := Lib.hid ⟨row_below hrow.1 ((Below.refl _ _).alloc (Nat.le_refl _) _), hrow.2⟩
      clear hrow
      unfold hrv3 hv
      dsimp only
      iterate 18 go_step
      generalize w3.alloc (.cells #[.string (ofL (resH X).method), .string (ofL (resH X).target), .int .i64 (resH X).status, .string (ofL (resH X).reason), .int .i64 (resH X).minor, .slice p (resH X).fields.length cap] 25) = W4 at HO HG hRow ⊢
      generalize w3.heap.size = G at HG hbG ⊢
      have hne : b ≠ G := by omega
      have hne2 : G ≠ b := by omega
      cases X with
      | wait =>
        have HV : Z = .wait := HZ
        subst HV
        obtain ⟨d0, d1, d2, d3, d4, d5⟩ := HO.out.box.cells
        obtain ⟨y0, y1, y2, y3, y4, y5⟩ := HO.out.box.frees
        have HE := Lib.hid (HO.out.box.put zero8 (.slice none 0 0))
        have HB := Lib.hid (HO.out.put zero8 (.slice none 0 0))
        clear HO HG hRow hm
        dsimp only [resN, resE, resH]
        go_wp2_with fail
        refine bodyPost_ret (v := hrv3 zero8 (.slice none 0 0) 0 0) ?_ rfl ⟨_, rfl, row_none _ _, HB.out⟩
        rw [results_cell_tmp2 rfl]
        exact end_hbox3 rfl rfl rfl HE.out
      | bad er =>
        have HV : Z = .bad er := HZ
        subst HV
        obtain ⟨d0, d1, d2, d3, d4, d5⟩ := HO.out.box.cells
        obtain ⟨y0, y1, y2, y3, y4, y5⟩ := HO.out.box.frees
        have HE := Lib.hid (HO.out.box.put zero8 (.slice none 0 0))
        have HB := Lib.hid (HO.out.put zero8 (.slice none 0 0))
        clear HO HG hRow hm
        dsimp only [resN, resE, resH]
        go_wp2_with fail
        refine bodyPost_ret (v := hrv3 zero8 (.slice none 0 0) 0 er) ?_ rfl ⟨_, rfl, row_none _ _, HB.out⟩
        rw [results_cell_tmp2 rfl]
        exact end_hbox3 rfl rfl rfl HE.out
      | done h' n =>
        have HV : Z = .done h' (n + a) := HZ
        subst HV
        obtain ⟨hn1, hn2⟩ := hm h' n rfl
        have hz : ((n : Int) == 0) = false := beq_eq_false_iff_ne.2 (by omega)
        have hsum : (a : Int) + (n : Int) ≤ (s.size : Int) := by omega
        dsimp only [resN, resE, resH] at HG hRow ⊢
        obtain ⟨d0, d1, d2, d3, d4, d5⟩ := HO.out.box.cells
        obtain ⟨y0, y1, y2, y3, y4, y5⟩ := HO.out.box.frees
        obtain ⟨e0, e1, e2, e3, e4, e5⟩ := HG.out.cells
        obtain ⟨x0, x1, x2, x3, x4, x5⟩ := HG.out.frees
        have HE := Lib.hid (HO.out.box.put h' (.slice p h'.fields.length cap))
        have HB := Lib.hid (HO.out.put h' (.slice p h'.fields.length cap))
        have HL : Hid (RowF (hput W4 b h' (.slice p h'.fields.length cap)) w.heap.size (.slice p h'.fields.length cap) h'.fields) := Lib.hid ⟨row_mono (row_hput hRow.out.1 (g := b) hbW h' (.slice p h'.fields.length cap)) hbw, hRow.out.2⟩
        clear HO HG hRow hm hn1 hn2
        go_wp2_with fail
        refine bodyPost_ret (v := hrv3 h' (.slice p h'.fields.length cap) ((a : Int) + (n : Int)) 0) ?_ rfl ⟨_, (by show _ = Ending.returned (hrv3 h' _ ((n + a : Nat) : Int) 0); rw [show ((n + a : Nat) : Int) = (a : Int) + (n : Int) by omega]), HL.out, HB.out⟩
        rw [results_cell_tmp2 rfl]
        exact end_hbox3 rfl rfl rfl HE.out
theorem presponse_any (s : ByteArray) (hs : s.size ≤ 4611686018427387904) (w : World) :
    Calls Tryd.prog 15 #[.string s] w fun e w' => ∃ v, e = .returned (hrv3 (resH (read8 true (toL s))) v (resN (read8 true (toL s))) (resE (read8 true (toL s)))) ∧ FL w' v (resH (read8 true (toL s))).fields ∧ Below w.heap.size w w' :=
  (presponse_row s hs w).mono (fun e w' ⟨v, h1, h2, h3⟩ => ⟨v, h1, fl_of h2.1 (by have := h2.2; omega), h3⟩)
theorem prequest_any (s : ByteArray) (hs : s.size ≤ 4611686018427387904) (w : World) :
    Calls Tryd.prog 12 #[.string s] w fun e w' => ∃ v, e = .returned (hrv3 (resH (read8 false (toL s))) v (resN (read8 false (toL s))) (resE (read8 false (toL s)))) ∧ FL w' v (resH (read8 false (toL s))).fields ∧ Below w.heap.size w w' :=
  (prequest_row s hs w).mono (fun e w' ⟨v, h1, h2, h3⟩ => ⟨v, h1, fl_of h2.1 (by have := h2.2; omega), h3⟩)
end Go.Proofs.YtclecgopmegjeaaDoor.PHead8

/- The document's example, with which each law of layer 8 begins. -/
namespace Go.Proofs.YtclecgopmegjeaaDoor.HAnchor
open Go.ChangeShapes Go.WideShapes Go.ChangeAt Go.RowKit LexPure Bytes Ret Rows1 FieldsPure Flds HeadPure HBox Mem PHead8
set_option maxRecDepth 20000
def exT : ByteArray := ⟨#[13, 10, 71, 69, 84, 32, 47, 97, 32, 72, 84, 84, 80, 47, 49, 46, 49, 13, 10, 72, 111, 115, 116, 58, 32, 32, 104, 32, 13, 10, 13, 10, 114, 101, 115, 116]⟩
theorem ex1 : resN (read8 false (toL exT)) = 32 ∧ resE (read8 false (toL exT)) = 0 := by decide +kernel
theorem ex2 : (resH (read8 false (toL exT))).method = [71, 69, 84] ∧ (resH (read8 false (toL exT))).target = [47, 97] ∧ (resH (read8 false (toL exT))).minor = 1 ∧ (resH (read8 false (toL exT))).fields = [([72, 111, 115, 116], [104])] := by decide +kernel
set_option maxHeartbeats 1600000 in
theorem anchor_any (w : World) :
    Calls Tryd.prog 11 #[] w fun e w' => e = .returned (.bool true) ∧ Below w.heap.size w w' := by
  have HR := prequest_any exT (by decide) w
  obtain ⟨e1, e2⟩ := ex1
  obtain ⟨e3, e4, e5, e6⟩ := ex2
  rw [e1, e2] at HR
  generalize resH (read8 false (toL exT)) = H at *
  obtain ⟨m, t, st, re, mi, fs⟩ := H
  dsimp only at e3 e4 e5 e6
  subst e3 e4 e5 e6
  unfold hrv3 hv exT at HR
  dsimp only at HR
  rw [show ofL [71, 69, 84] = ⟨#[71, 69, 84]⟩ from rfl, show ofL [47, 97] = ⟨#[47, 97]⟩ from rfl] at HR
  replace HR := Lib.hid HR
  clear e1 e2
  go_enter Tryd.func11, Tryd.ntmps11
  go_wp2_with fail
  refine HR.out.mono ?_
  rintro e w1 ⟨v, rfl, hF, hb1⟩
  obtain ⟨p, cap, rfl, _, hc⟩ := hF
  obtain ⟨g, o, rfl, hlt, hcell⟩ := hc (by decide)
  have c0 : w1.cell? ⟨g, o, none⟩ = some (.string ⟨#[72, 111, 115, 116]⟩) := (hcell 0 (by decide)).1
  have c1 : w1.cell? ⟨g, o + 1, none⟩ = some (.string ⟨#[104]⟩) := (hcell 0 (by decide)).2
  clear hc hcell HR
  have HB := Lib.hid (below_chain hb1 ((Below.refl _ _).alloc (Nat.le_refl _) (.cells #[.string ⟨#[71, 69, 84]⟩, .string ⟨#[47, 97]⟩, .int .i64 st, .string (ofL re), .int .i64 1, .slice (some ⟨g, o, none⟩) 1 cap] 25)))
  clear hb1
  go_wp2_with fail
  go_ret
  exact ⟨rfl, HB.out⟩
end Go.Proofs.YtclecgopmegjeaaDoor.HAnchor

/- Layer 8: a law's variable that holds a head. -/
namespace Go.Proofs.YtclecgopmegjeaaDoor.HLaw
open Go.ChangeShapes Go.WideShapes Go.ChangeAt Go.RowKit LexPure Bytes Ret Rows1 FieldsPure Flds HeadPure HBox KeptRow PFlds8 Mem
set_option maxRecDepth 20000
/-- box g, made behind w, holds head H with its list v -/
structure LB (w W : World) (g : Nat) (H : H8) (v : Value) : Prop where
  below : Below w.heap.size w W
  low : w.heap.size ≤ g
  box : HBox W g H v
  list : FL W v H.fields
  lt : g < W.heap.size
theorem LB.new {w W : World} {H : H8} {v : Value} (hb : Below w.heap.size w W) (hf : FL W v H.fields) : LB w (W.alloc (.cells (hc H v) 25)) W.heap.size H v :=
  ⟨hb.alloc hb.size _, hb.size, ⟨Has.new W _ _⟩, hf.below ((Below.refl _ _).alloc (Nat.le_refl _) _), by simp⟩
theorem LB.call {w W W' : World} {g : Nat} {H : H8} {v : Value} (h : LB w W g H v) (hb : Below W.heap.size W W') : LB w W' g H v :=
  ⟨below_chain h.below hb, h.low, h.box.below hb h.lt, h.list.below hb, Nat.lt_of_lt_of_le h.lt hb.size⟩
theorem LB.alloc {w W : World} {g : Nat} {H : H8} {v : Value} (h : LB w W g H v) (o : Obj) : LB w (W.alloc o) g H v := h.call ((Below.refl _ _).alloc (Nat.le_refl _) o)
/-- an answer with a row of its own is stored over -/
theorem LB.put {w W W' : World} {g : Nat} {H H' : H8} {v v' : Value} (h : LB w W g H v) (hb : Below W.heap.size W W') (hr : RowF W' W.heap.size v' H'.fields) : LB w (hput W' g H' v') g H' v' :=
  ⟨below_hput (below_chain h.below hb) h.low _ _, h.low, (h.box.below hb h.lt).put _ _, fl_of (row_hput hr.1 (g := g) h.lt H' v') (by have := hr.2; omega), by rw [size_hput]; exact Nat.lt_of_lt_of_le h.lt hb.size⟩
theorem LB.drewN {w W : World} {g : Nat} {H : H8} {v : Value} (h : LB w W g H v) (n : Nat) : LB w (W.drewN n) g H v :=
  ⟨below_drewN h.below n, h.low, ⟨h.box.has.drewN n⟩, h.list, h.lt⟩
end Go.Proofs.YtclecgopmegjeaaDoor.HLaw

/- Layer 7, the document's own Same. -/
namespace Go.Proofs.YtclecgopmegjeaaDoor.R7Same
open Go.ChangeShapes Go.WideShapes Go.ChangeAt Go.RowKit LexPure Bytes Ret Rows1 FieldsPure Flds Mem
set_option maxRecDepth 20000
theorem neqF (a b c d : ByteArray) (p q : Bool) (h1 : (a.toList == c.toList) = p) (h2 : (b.toList == d.toList) = q) (w : World) : (binOp .neq 37 (.agg #[.string a, .string b]) (.agg #[.string c, .string d])).run Tryd.prog w = .ok (.bool (!(p && q))) w := by
  have u9 := Tryd.underlying9
  have a9 := Tryd.isAgg9
  have z9 := Tryd.sizeOf9
  have hS : Tryd.prog.underlying 37 = some (.struct (Tryd.prog.fieldsOf 37)) := by kernel_rfl
  have hp : Tryd.prog.stoodInHeld 37 = false := by kernel_rfl
  rw [run_neq_struct, show (10000 : Nat) = 9999 + 1 from rfl, run_equalIn_agg w 9999 37 _ _ hS hp]
  simp only [Program.fieldsOf, Tryd.underlying37]
  cases p
  · go_simp
  · cases q
    · go_simp
    · go_simp
theorem take_ext7 {G H : List HField} {k : Nat} (hk : k < G.length) (hk2 : k < H.length) (h : G.take k = H.take k) (he : G[k] = H[k]) : G.take (k + 1) = H.take (k + 1) := by
  rw [List.take_add_one, List.take_add_one, h, List.getElem?_eq_getElem hk, List.getElem?_eq_getElem hk2, he]
set_option maxHeartbeats 1600000 in
theorem r7same_any (v1 v2 : Value) (G H : List HField) (w : World) (h1 : FL w v1 G) (h2 : FL w v2 H) :
    Calls Tryd.prog 27 #[v1, v2] w fun e w' => e = .returned (.bool (G == H)) ∧ ∃ m, w' = w.drewN m := by
  obtain ⟨p1, c1, rfl, hn1, HC1⟩ := h1
  obtain ⟨p2, c2, rfl, hn2, HC2⟩ := h2
  replace HC1 := Lib.hid HC1
  replace HC2 := Lib.hid HC2
  by_cases hl : G.length = H.length
  · have hq : ((G.length : Int) != (H.length : Int)) = false := by rw [hl]; exact bne_self_eq_false _
    go_enter Tryd.func27, Tryd.ntmps27
    go_wp2_with fail
    go_loopw [5] (fun i wr => ∃ k : Nat, k ≤ G.length ∧ i = .int .i64 k ∧ Hid (G.take k = H.take k) ∧ Hid (∃ m, wr = w.drewN m)) (fun i _ => G.length - (intOf i).toNat)
    case atStart => exact ⟨0, Nat.zero_le _, rfl, Lib.hid rfl, Lib.hid ⟨0, rfl⟩⟩
    case round =>
      obtain ⟨k, hk, rfl, ht, hw⟩ := hrel
      obtain ⟨m, rfl⟩ := hw.out
      by_cases hlt : k < G.length
      · have hki : (k : Int) < (G.length : Int) := by omega
        have hkj : (k : Int) < (H.length : Int) := by omega
        obtain ⟨g1, o1, rfl, _, hcell1⟩ := HC1.out (by omega)
        obtain ⟨g2, o2, rfl, _, hcell2⟩ := HC2.out (by omega)
        obtain ⟨d1, d3⟩ := hcell1 k hlt
        obtain ⟨d2, d4⟩ := hcell2 k (by omega)
        clear hcell1 hcell2
        have hd : ∀ q : Bool, (G[k] == H[k]'(by omega)) = q → (((ofL G[k].1).toList == (ofL (H[k]'(by omega)).1).toList) && ((ofL G[k].2).toList == (ofL (H[k]'(by omega)).2).toList)) = q := fun q hq => by
          rw [same_ofL, same_ofL]; exact hq
        by_cases he : G[k] = H[k]'(by omega)
        · have HT := Lib.hid (take_ext7 hlt (by omega) ht.out he)
          have hnq := fun w => neqF (ofL G[k].1) (ofL G[k].2) (ofL (H[k]'(by omega)).1) (ofL (H[k]'(by omega)).2) true true (by rw [same_ofL, he]; exact beq_self_eq_true _) (by rw [same_ofL, he]; exact beq_self_eq_true _) w
          clear he hd
          generalize ofL G[k].1 = s1 at *
          generalize ofL G[k].2 = s2 at *
          generalize ofL (H[k]'(by omega)).1 = s3 at *
          generalize ofL (H[k]'(by omega)).2 = s4 at *
          clear HC1 HC2 ht hw
          go_wp2_with fail
          go_quiet (fail)
          have HW : Hid (∃ m1, (w.drewN m).drewN nq = w.drewN m1) := Lib.hid ⟨m + nq, by simp⟩
          generalize ((w.drewN m).drewN nq) = w2 at *
          go_wp2_with fail
          go_roundw
          case rel => exact ⟨k + 1, by omega, by go_num, HT, HW⟩
          case measure => simp [intOf]; omega
        · have HV : Hid ((G == H) = false) := Lib.hid (by
            rw [beq_eq_false_iff_ne]
            intro h
            subst h
            exact he rfl)
          have hde := hd false (beq_eq_false_iff_ne.2 he)
          have hnq : ∀ w, (binOp .neq 37 (.agg #[.string (ofL G[k].1), .string (ofL G[k].2)]) (.agg #[.string (ofL (H[k]'(by omega)).1), .string (ofL (H[k]'(by omega)).2)])).run Tryd.prog w = .ok (.bool true) w := fun w => by
            have := neqF (ofL G[k].1) (ofL G[k].2) (ofL (H[k]'(by omega)).1) (ofL (H[k]'(by omega)).2) _ _ rfl rfl w
            rw [hde] at this
            exact this
          clear he hd hde
          generalize ofL G[k].1 = s1 at *
          generalize ofL G[k].2 = s2 at *
          generalize ofL (H[k]'(by omega)).1 = s3 at *
          generalize ofL (H[k]'(by omega)).2 = s4 at *
          clear HC1 HC2 ht hw
          go_wp2_with fail
          go_quiet (fail)
          have HW : Hid (∃ m1, (w.drewN m).drewN nq = w.drewN m1) := Lib.hid ⟨m + nq, by simp⟩
          generalize ((w.drewN m).drewN nq) = w2 at *
          go_wp2_with fail
          go_ret
          exact ⟨ret_bool HV.out.symm, HW.out⟩
      · have HV : Hid ((G == H) = true) := Lib.hid (by
          have h := ht.out
          rw [List.take_of_length_le (by omega), List.take_of_length_le (by omega)] at h
          rw [h]
          exact beq_self_eq_true _)
        have HW := Lib.hid hw.out
        clear hw
        generalize (w.drewN m) = w2 at *
        go_wp2_with fail
        go_ret
        exact ⟨ret_bool HV.out.symm, HW.out⟩
  · have HV : Hid ((G == H) = false) := Lib.hid (by
      rw [beq_eq_false_iff_ne]
      intro h
      exact hl (by rw [h]))
    have hq : ((G.length : Int) != (H.length : Int)) = true := by
      rw [bne_iff_ne]
      omega
    go_enter Tryd.func27, Tryd.ntmps27
    go_wp2_with fail
    go_ret
    exact ⟨ret_bool HV.out.symm, 0, rfl⟩
end Go.Proofs.YtclecgopmegjeaaDoor.R7Same

/- Layer 8: a head held against itself by the document's own SameHead. -/
namespace Go.Proofs.YtclecgopmegjeaaDoor.R8Same
open Go.ChangeShapes Go.WideShapes Go.ChangeAt Go.RowKit LexPure Bytes Ret FieldsPure HeadPure Flds R7Same HBox Mem
set_option maxRecDepth 20000
set_option maxHeartbeats 1600000 in
theorem same8_any (h : H8) (v1 v2 : Value) (w : World) (h1 : FL w v1 h.fields) (h2 : FL w v2 h.fields) :
    Calls Tryd.prog 14 #[hv h v1, hv h v2] w fun e w' => e = .returned (.bool true) ∧ Below w.heap.size w w' := by
  obtain ⟨m, t, st, re, mi, l⟩ := h
  have q1 := fun s : ByteArray => (show (s.toList == s.toList) = true from beq_self_eq_true _)
  have q2 := fun n : Int => (show (n == n) = true from beq_self_eq_true _)
  have hb1 := (Below.refl w.heap.size w).alloc (Nat.le_refl _) (.cells (hc ⟨m, t, st, re, mi, l⟩ v1) 25)
  have hb2 := hb1.alloc (by simp) (.cells (hc ⟨m, t, st, re, mi, l⟩ v2) 25)
  have b1 : HBox (w.alloc (.cells (hc ⟨m, t, st, re, mi, l⟩ v1) 25)) w.heap.size ⟨m, t, st, re, mi, l⟩ v1 := ⟨Has.new w _ _⟩
  have b2 : HBox ((w.alloc (.cells (hc ⟨m, t, st, re, mi, l⟩ v1) 25)).alloc (.cells (hc ⟨m, t, st, re, mi, l⟩ v2) 25)) (w.heap.size + 1) ⟨m, t, st, re, mi, l⟩ v2 := ⟨by
    have := Has.new (w.alloc (.cells (hc ⟨m, t, st, re, mi, l⟩ v1) 25)) 25 (hc ⟨m, t, st, re, mi, l⟩ v2)
    rw [show (w.alloc (.cells (hc ⟨m, t, st, re, mi, l⟩ v1) 25)).heap.size = w.heap.size + 1 by simp] at this
    exact this⟩
  have b3 : HBox ((w.alloc (.cells (hc ⟨m, t, st, re, mi, l⟩ v1) 25)).alloc (.cells (hc ⟨m, t, st, re, mi, l⟩ v2) 25)) w.heap.size ⟨m, t, st, re, mi, l⟩ v1 := ⟨b1.has.alloc _⟩
  have HS := Lib.hid (r7same_any v1 v2 l l ((w.alloc (.cells (hc ⟨m, t, st, re, mi, l⟩ v1) 25)).alloc (.cells (hc ⟨m, t, st, re, mi, l⟩ v2) 25)) (h1.below hb2) (h2.below hb2))
  rw [beq_self_eq_true] at HS
  replace hb2 := Lib.hid hb2
  obtain ⟨c0, c1, c2, c3, c4, c5⟩ := b2.cells
  obtain ⟨d0, d1, d2, d3, d4, d5⟩ := b3.cells
  clear b1 b2 b3 hb1 h1 h2
  unfold hv
  dsimp only at HS hb2 c0 c1 c2 c3 c4 c5 d0 d1 d2 d3 d4 d5 ⊢
  unfold hc at HS hb2 c0 c1 c2 c3 c4 c5 d0 d1 d2 d3 d4 d5
  dsimp only at HS hb2 c0 c1 c2 c3 c4 c5 d0 d1 d2 d3 d4 d5
  generalize ofL m = M at *
  generalize ofL t = T at *
  generalize ofL re = R at *
  go_enter Tryd.func14, Tryd.ntmps14
  go_wp2_with fail
  generalize (w.alloc (.cells #[.string M, .string T, .int .i64 st, .string R, .int .i64 mi, v1] 25)).alloc (.cells #[.string M, .string T, .int .i64 st, .string R, .int .i64 mi, v2] 25) = W at *
  obtain ⟨g, hg⟩ : ∃ g, g = w.heap.size := ⟨_, rfl⟩
  rw [← hg] at c0 c1 c2 c3 c4 c5 d0 d1 d2 d3 d4 d5 ⊢
  replace hg := Lib.hid hg
  have k1 := q1 M
  have k2 := q1 T
  have k3 := q1 R
  have k4 := q2 st
  have k5 := q2 mi
  clear q1 q2
  refine HS.out.mono ?_
  rintro e w' ⟨rfl, n, rfl⟩
  replace hb2 := Lib.hid (below_drewN hb2.out n)
  clear HS
  go_wp2_with fail
  go_ret
  exact ⟨rfl, hb2.out⟩
end Go.Proofs.YtclecgopmegjeaaDoor.R8Same

/- Texts of this seat, one behind another: TQuery, PCut, RNormP, JoinLays, PResolved, RPlainP, PBytes5, PBuild, POneForm, PCur, PSettled, PathObj, TPath. -/
import Derived.Lib.Hide
import Derived.Outline
import Derived.LoopTactic
import Derived.Handy
import Derived.Shelf.Strings.OnBuilder
import Derived.Test.YtmlpdhmafmdkcaaGreatDoorProg
import Derived.Maps.AppendAt
import Derived.Laws.DeepStrings4
import Derived.RegionTactic
import Derived.ChangeAlike
import Derived.BigRegion
import Derived.Laws.BitsAllLaws
import Derived.Test.YtmlpdhmafmdkcaaGreatDoorA2
import Derived.Test.YtmlpdhmafmdkcaaGreatDoorA1
import Derived.Test.YtmlpdhmafmdkcaaGreatDoorA4
import Derived.Test.YtmlpdhmafmdkcaaGreatDoorA3
import Derived.Test.YtmlpdhmafmdkcaaGreatDoorA5
/- Layer 6 of the program: isQuery. -/
namespace Go.Proofs.YtmlpdhmafmdkcaaGreatDoor.TQuery
open Go.ChangeShapes Go.WideShapes Go.ChangeAt Go.RowKit LexPure Bytes Ret TargetPure
set_option maxRecDepth 20000
theorem qc_cases (b : UInt8) : (qc b = true ∧ 33 ≤ (b.toNat : Int) ∧ (b.toNat : Int) ≤ 126 ∧ ((b.toNat : Int) == 35) = false) ∨ (qc b = false ∧ (b.toNat : Int) < 33) ∨ (qc b = false ∧ 33 ≤ (b.toNat : Int) ∧ 126 < (b.toNat : Int)) ∨ (qc b = false ∧ 33 ≤ (b.toNat : Int) ∧ (b.toNat : Int) ≤ 126 ∧ ((b.toNat : Int) == 35) = true) := by
  have := all_bytes (p := fun b => decide ((qc b = true ∧ 33 ≤ (b.toNat : Int) ∧ (b.toNat : Int) ≤ 126 ∧ ((b.toNat : Int) == 35) = false) ∨ (qc b = false ∧ (b.toNat : Int) < 33) ∨ (qc b = false ∧ 33 ≤ (b.toNat : Int) ∧ 126 < (b.toNat : Int)) ∨ (qc b = false ∧ 33 ≤ (b.toNat : Int) ∧ (b.toNat : Int) ≤ 126 ∧ ((b.toNat : Int) == 35) = true))) (by decide +kernel) b
  exact of_decide_eq_true this
theorem tquery_any (s : ByteArray) (hs : s.size ≤ 140737488351232) (w : World) :
    Calls Tryz.prog 72 #[.string s] w fun e w' => e = .returned (.bool (qok (toL s))) ∧ w = w' := by
  go_enter Tryz.func72, Tryz.ntmps72
  go_wp2_with fail
  go_loop [6] (fun i => ∃ k : Nat, k ≤ s.size ∧ i = .int .i64 k ∧ Hid (((toL s).take k).all qc = true)) (fun i => s.size - (intOf i).toNat)
  case atStart => exact ⟨0, Nat.zero_le _, rfl, Lib.hid rfl⟩
  case round =>
    obtain ⟨k, hk, rfl, ha⟩ := hrel
    by_cases hlt : k < s.size
    · have hki : (k : Int) < (s.size : Int) := by omega
      have HS := Lib.hid (toL_take_succ s k hlt)
      have HG := Lib.hid (toL_get s k hlt)
      have HN : qc s[k] = true → Hid (((toL s).take (k + 1)).all qc = true) := fun hh => Lib.hid (by rw [HS.out, List.all_append, ha.out]; simp [hh])
      have HF : qc s[k] = false → Hid (qok (toL s) = false) := fun hh => Lib.hid (by
        unfold qok
        rw [List.all_eq_false]
        exact ⟨s[k], List.mem_of_getElem? HG.out, by simpa using hh⟩)
      rcases qc_cases s[k] with ⟨hh, h1, h2, h3⟩ | ⟨hh, h1⟩ | ⟨hh, h1, h2⟩ | ⟨hh, h1, h2, h3⟩
      · have HA := HN hh
        clear hh HS HG HN HF ha
        go_wp2_with fail
        go_round
        case rel => exact ⟨k + 1, by omega, by go_num, HA⟩
        case measure => simp [intOf]; omega
      all_goals
        have HV := HF hh
        clear hh HS HG HN HF ha
        go_wp2_with fail
        go_ret
        exact ⟨ret_bool HV.out.symm, rfl⟩
    · have hall : (toL s).take k = toL s := toL_take_all s (by omega)
      have HV : Hid (qok (toL s) = true) := Lib.hid (by
        have h := ha.out
        rw [hall] at h
        exact h)
      clear hall ha
      go_wp2_with fail
      go_ret
      exact ⟨ret_bool HV.out.symm, rfl⟩
end Go.Proofs.YtmlpdhmafmdkcaaGreatDoor.TQuery

/- Layer 5 of the program: Cut, at whatever size. -/
namespace Go.Proofs.YtmlpdhmafmdkcaaGreatDoor.PCut
open Go.ChangeShapes Go.WideShapes Go.ChangeAt Go.RowKit Bytes Ret PUnder CutAt PCutLib
set_option maxRecDepth 20000
theorem cut_full (s : ByteArray) (hs : s.size ≤ 140737488351232) (w : World) :
    Calls Tryz.prog 70 #[.string s] w fun e w' => e = .returned (.tuple #[.string (ofL (cutA (toL s))), .string (ofL (cutB (toL s))), .bool (cutQ (toL s))]) ∧ Below w.heap.size w w' := by
  have H := Lib.hid (full_cut 63 s hs)
  clear hs
  go_enter Tryz.func70, Tryz.ntmps70
  go_wp2_with fail
  refine (H.out _).mono ?_
  rintro e w' ⟨rfl, hb⟩
  go_wp2_with fail
  go_ret3
  exact ⟨rfl, hb⟩
end Go.Proofs.YtmlpdhmafmdkcaaGreatDoor.PCut

/- Layer 5: what Normal answers, and how long it is. No program is named. -/
namespace Go.Proofs.YtmlpdhmafmdkcaaGreatDoor.RNormal
open LexPure Bytes Ret PathPure PathForm
set_option maxRecDepth 20000
theorem ret_norm {a b : ByteArray} {n : Int} (h : a = b) : Ending.returned (.tuple #[.string a, .int .i64 n]) = .returned (.tuple #[.string b, .int .i64 n]) := by rw [h]
/-- the text that Normal answers, and the error -/
def normS (s : List UInt8) : ByteArray := ofL ((normal s).getD [])
def normE (s : List UInt8) : Int := if (normal s).isSome then 0 else 50
theorem norm_none {s : List UInt8} (h : normal s = none) : normS s = ⟨#[]⟩ ∧ normE s = 50 := by
  unfold normS normE
  rw [h]
  exact ⟨rfl, rfl⟩
theorem norm_some {s t : List UInt8} (h : normal s = some t) : normS s = ofL t ∧ normE s = 0 := by
  unfold normS normE
  rw [h]
  exact ⟨rfl, rfl⟩
theorem wr_len (n : Nat) : (PathPure.wr n).length ≤ 3 := by
  unfold PathPure.wr
  split <;> simp
theorem esc_len : ∀ (n : Nat) {s t : List UInt8}, s.length ≤ n → esc s = some t → t.length ≤ s.length
  | _, [], t, _, h => by
    simp only [esc, Option.some.injEq] at h
    subst h
    exact Nat.le_refl _
  | 0, c :: s, t, hn, _ => by simp at hn
  | n + 1, c :: s, t, hn, h => by
    rw [esc_cons] at h
    split at h
    · split at h
      · split at h
        · rename_i a b r
          split at h
          · obtain ⟨u, hu, rfl⟩ := Option.map_eq_some_iff.1 h
            have ih := esc_len n (s := r) (by simp at hn; omega) hu
            have := wr_len (two a b)
            simp
            omega
          · cases h
        · cases h
      · obtain ⟨u, hu, rfl⟩ := Option.map_eq_some_iff.1 h
        have ih := esc_len n (s := s) (by simp at hn; omega) hu
        simp
        omega
    · cases h
theorem escapes_esc {s t : List UInt8} (h : escapes s = some t) : esc s = some t ∧ ∃ r, s = 47 :: r := by
  cases s with
  | nil => cases h
  | cons c r =>
    have h : (if (c == 47) = true then esc (c :: r) else none) = some t := h
    by_cases hc : (c == 47) = true
    · rw [if_pos hc] at h
      exact ⟨h, r, by rw [show c = 47 by simpa using hc]⟩
    · rw [if_neg hc] at h
      cases h
theorem escapes_len {s t : List UInt8} (h : escapes s = some t) : t.length ≤ s.length := esc_len _ (Nat.le_refl _) (escapes_esc h).1
theorem escapes_pos {s t : List UInt8} (h : escapes s = some t) : 1 ≤ t.length := by
  obtain ⟨he, r, rfl⟩ := escapes_esc h
  rw [esc_cons, if_pos (by decide), if_neg (by decide)] at he
  obtain ⟨u, _, rfl⟩ := Option.map_eq_some_iff.1 he
  simp
theorem join_len {n : Nat} : ∀ {G : List (List UInt8)}, (∀ e ∈ G, e.length ≤ n) → (join G).length ≤ G.length * (n + 1)
  | [], _ => by simp [join]
  | e :: G, h => by
    have h0 := h e (by simp)
    have h1 := join_len (G := G) (fun x hx => h x (by simp [hx]))
    show ((47 :: e) ++ join G).length ≤ _
    rw [List.length_append, List.length_cons, List.length_cons, Nat.add_mul, Nat.one_mul]
    omega
theorem join_nil {G : List (List UInt8)} : (join G).isEmpty = G.isEmpty := by
  cases G <;> rfl
theorem join_snoc (G : List (List UInt8)) (e : List UInt8) : join (G ++ [e]) = join G ++ 47 :: e := by simp [join]
theorem keeps_up {G ps : List (List UInt8)} {X : List UInt8} (h1 : isDot X = false) (h2 : isUp X = true) : keeps G (X :: ps) = if G.isEmpty then none else keeps G.dropLast ps := by
  rw [keeps, if_neg (by simp [h1]), if_pos h2]
theorem keeps_in {G ps : List (List UInt8)} {X : List UInt8} (h1 : isDot X = false) (h2 : isUp X = false) : keeps G (X :: ps) = keeps (G ++ [X]) ps := by
  rw [keeps, if_neg (by simp [h1]), if_neg (by simp [h2])]
end Go.Proofs.YtmlpdhmafmdkcaaGreatDoor.RNormal

/-
  DERIVED: THE SHELF's CONTRACTS AT THIS DUMP, IN PLAIN WORDS (tools/lay-plain.mjs out of 'YtmlpdhmafmdkcaaGreatDoorJoinLaysT.lean', which tools/lay-shelf.mjs wrote): THE SAME DECLARATIONS UNDER THE SAME NAMES: 'import', 'namespace', 'open', 'def', 'theorem' AND NOTHING ELSE: no command of the shelf's: FOR A HAND-IN. Each laying: the table of numbers ('.._ren') and one theorem, a field a fact of the dump's own or the kernel's comparison; each contract: ONE APPLICATION.
-/
namespace Go.Proofs
open Go.Shelf
def Tryz.lays156_ren : Go.Shelf.Ren := ⟨fun | 156 => 116 | 165 => 130 | 166 => 16 | 169 => 29 | 240 => 22 | 241 => 136 | 276 => 31 | 277 => 141 | n => n, fun | 31 => 22 | 9 => 9 | 3 => 3 | 4 => 4 | 0 => 0 | 20 => 20 | 72 => 51 | 76 => 57 | 70 => 49 | 37 => 46 | 75 => 56 | 127 => 93 | 164 => 75 | 5 => 5 | 80 => 62 | n => n, fun | n => n⟩
theorem Tryz.lays156 : Go.Proofs.Lays.n156 Tryz.prog Tryz.lays156_ren := {
  mixed := by kernel_rfl
  f156 := Tryz.func116.trans (congrArg some (by kernel_rfl))
  f165 := Tryz.func130.trans (congrArg some (by kernel_rfl))
  f166 := Tryz.func16.trans (congrArg some (by kernel_rfl))
  f169 := Tryz.func29.trans (congrArg some (by kernel_rfl))
  f240 := Tryz.func22.trans (congrArg some (by kernel_rfl))
  f241 := Tryz.func136.trans (congrArg some (by kernel_rfl))
  f276 := Tryz.func31.trans (congrArg some (by kernel_rfl))
  f277 := Tryz.func141.trans (congrArg some (by kernel_rfl))
  t0 := Tryz.underlying0
  a0 := Tryz.isAgg0
  z0 := Tryz.sizeOf0
  v0 := Tryz.zeroValue0
  t3 := Tryz.underlying3
  a3 := Tryz.isAgg3
  z3 := Tryz.sizeOf3
  v3 := Tryz.zeroValue3
  t4 := Tryz.underlying4
  a4 := Tryz.isAgg4
  z4 := Tryz.sizeOf4
  v4 := Tryz.zeroValue4
  t9 := Tryz.underlying9
  a9 := Tryz.isAgg9
  z9 := Tryz.sizeOf9
  v9 := Tryz.zeroValue9
  t20 := Tryz.underlying20
  a20 := Tryz.isAgg20
  z20 := Tryz.sizeOf20
  v20 := Tryz.zeroValue20
  t31 := Tryz.underlying22
  a31 := Tryz.isAgg22
  z31 := Tryz.sizeOf22
  v31 := Tryz.zeroValue22
  t37 := Tryz.underlying46
  a37 := Tryz.isAgg46
  z37 := Tryz.sizeOf46
  v37 := Tryz.zeroValue46
  t70 := Tryz.underlying49
  a70 := Tryz.isAgg49
  z70 := Tryz.sizeOf49
  v70 := Tryz.zeroValue49
  t72 := Tryz.underlying51
  a72 := Tryz.isAgg51
  z72 := Tryz.sizeOf51
  v72 := Tryz.zeroValue51
  t75 := Tryz.underlying56
  a75 := Tryz.isAgg56
  z75 := Tryz.sizeOf56
  v75 := Tryz.zeroValue56
  t76 := Tryz.underlying57
  a76 := Tryz.isAgg57
  z76 := Tryz.sizeOf57
  v76 := Tryz.zeroValue57
  t127 := Tryz.underlying93
  a127 := Tryz.isAgg93
  z127 := Tryz.sizeOf93
  v127 := Tryz.zeroValue93
  t164 := Tryz.underlying75
  a164 := Tryz.isAgg75
  z164 := Tryz.sizeOf75
  v164 := Tryz.zeroValue75 }
end Go.Proofs

/- Layer 5 of the program: resolved: dots resolved, piece by piece. -/
namespace Go.Proofs.YtmlpdhmafmdkcaaGreatDoor.PResolved
open Go.ChangeShapes Go.WideShapes Go.ChangeAt Go.RowKit LexPure Bytes Ret PathPure PathForm Rows1 Texts RNormal CutsSplit PUnder Mem
set_option maxRecDepth 20000
theorem extra156 : Builder.Extra Tryz.prog Tryz.lays156_ren := {
  sizeBuilder := by kernel_rfl
  liesBuilder := by kernel_rfl
  t5 := Tryz.underlying5
  a5 := Tryz.isAgg5
  z5 := Tryz.sizeOf5
  v5 := Tryz.zeroValue5
  infoByte := by kernel_rfl
  cellsByte := by kernel_rfl
  sizeByte := by kernel_rfl
  neB5 := by decide }
theorem join_say (G : List (List UInt8)) : Lib.join G [47] = (join G).drop 1 := by
  cases G with
  | nil => rfl
  | cons x r =>
    rw [Lib.join_cons]
    have : Lib.joinTail [47] r = join r := by
      unfold Lib.joinTail join
      rw [List.flatMap_def]
      rfl
    rw [this]
    simp [join]
theorem map_ofL (G : List (List UInt8)) : (G.map ofL).map (·.data.toList) = G := by
  rw [List.map_map]
  conv => rhs; rw [← List.map_id G]
  exact List.map_congr_left (fun x _ => toL_ofL x)
theorem lib_join {w : World} {base : Nat} {v : Value} {G : List (List UInt8)} (h : w.ownsRow base 9 1 v G.length (Texts.strs G)) (hl : (join G).length ≤ 140737488355328) (hn : G.length ≤ 140737488355328) :
    Calls Tryz.prog 116 #[v, .string ⟨#[47]⟩] w fun e w' => e = .returned (.string (ofL ((join G).drop 1))) ∧ Below w.heap.size w w' := by
  obtain ⟨p, cap, hv, hcap, hc⟩ := row_cells h
  subst hv
  by_cases h0 : 0 < G.length
  · obtain ⟨g, rfl, _, hg, _, hcell⟩ := hc h0
    have H := Any.strings_Join Tryz.lays156 extra156 g 0 cap (G.map ofL) ⟨#[47]⟩ w (fun j x hx => by
      rw [List.getElem?_map] at hx
      cases hj : G[j]? with
      | none => rw [hj] at hx; cases hx
      | some y =>
        rw [hj] at hx
        have hx' : ofL y = x := by simpa using hx
        have hlt : j < G.length := (List.getElem?_eq_some_iff.1 hj).1
        rw [Nat.zero_add, hcell j hlt]
        simp [Texts.strs, hj, hx']) hg (by rw [List.length_map]; exact hn) (by rw [List.length_map]; exact hcap) (by
      rw [map_ofL, show (⟨#[47]⟩ : ByteArray).data.toList = [47] from rfl, join_say, List.length_drop]; omega)
    rw [map_ofL, show (⟨#[47]⟩ : ByteArray).data.toList = [47] from rfl, join_say, List.length_map] at H
    exact H
  · have hG : G = [] := List.length_eq_zero_iff.1 (by omega)
    subst hG
    refine (Any.strings_Join_none Tryz.lays156 extra156 p cap ⟨#[47]⟩ w).mono ?_
    rintro e w' ⟨rfl, rfl⟩
    exact ⟨rfl, Below.refl _ _⟩
theorem lib_cuts (s : ByteArray) (hs : s.size < 4294967281) (w : World) (hm : MaxInt w) :
    Calls Tryz.prog 100 #[.string s, .string ⟨#[47]⟩] w fun e w' => ∃ cap, e = .returned (.slice (some ⟨w.heap.size, 0, none⟩) (cuts (toL s)).length cap) ∧ (cuts (toL s)).length = cap ∧ w.heap.size < w'.heap.size ∧ (∀ j (hj : j < (cuts (toL s)).length), w'.cell? ⟨w.heap.size, j, none⟩ = some (.string (ofL (cuts (toL s))[j]))) ∧ Below w.heap.size w w' := by
  obtain ⟨m, hm⟩ := hm
  refine (Any.strings_Split Tryz.lays146 (by kernel_rfl) s ⟨#[47]⟩ m w hs hm (by decide)).mono ?_
  rintro e w' ⟨rfl, rfl⟩
  have hl : (Go.Lib.splitB ⟨#[47]⟩ 0 (Go.Lib.countB s ⟨#[47]⟩) s).map (·.data.toList) = cuts (toL s) := by
    rw [Go.Lib.splitB_data, show Go.Lib.countB s ⟨#[47]⟩ = s.data.toList.count 47 from Go.Lib.count_one 47 _]
    exact split_cuts _
  have hn : (cuts (toL s)).length = Go.Lib.countB s ⟨#[47]⟩ + 1 := by
    rw [← hl, List.length_map]
    exact Go.Lib.splitB_all ⟨#[47]⟩ (by decide) 0 _ s rfl
  generalize Go.Lib.splitB ⟨#[47]⟩ 0 (Go.Lib.countB s ⟨#[47]⟩) s = B at *
  refine ⟨_, by rw [hn], hn, by simp, fun j hj => ?_, (Below.refl _ _).alloc (Nat.le_refl _) _⟩
  have hB : (cuts (toL s))[j]? = (B[j]?).map (·.data.toList) := by rw [← hl, List.getElem?_map]
  rw [List.getElem?_eq_getElem hj] at hB
  cases hx : B[j]? with
  | none => rw [hx] at hB; cases hB
  | some x =>
    rw [hx] at hB
    have hq : (cuts (toL s))[j] = x.data.toList := by simpa using hB
    rw [World.cell?_alloc_at _ _ _ _ (by simp)]
    rw [hq, show ofL x.data.toList = x from toL_inj (toL_ofL _)]
    simp [hx]
theorem cuts_ne : ∀ s : List UInt8, cuts s ≠ []
  | [] => by simp [cuts]
  | c :: s => by
    rw [cuts_cons]
    split
    · simp
    · split <;> simp
theorem cuts_count (s : List UInt8) : (cuts s).length ≤ s.length + 1 := by
  induction s with
  | nil => simp [cuts]
  | cons c s ih =>
    rw [cuts_cons]
    split
    · simp only [List.length_cons]; omega
    · split
      · simp
      · rename_i h
        rw [h] at ih
        simp only [List.length_cons] at ih ⊢; omega
theorem cuts_short (s : List UInt8) : ∀ p ∈ cuts s, p.length ≤ s.length := by
  induction s with
  | nil => intro p hp; simp [cuts] at hp; subst hp; simp
  | cons c s ih =>
    intro p hp
    rw [cuts_cons] at hp
    split at hp
    · rcases List.mem_cons.1 hp with rfl | hp
      · simp
      · have := ih p hp; simp only [List.length_cons]; omega
    · split at hp
      · rcases List.mem_cons.1 hp with rfl | hp
        · simp
        · cases hp
      · rename_i q qs h
        rcases List.mem_cons.1 hp with rfl | hp
        · have := ih q (by rw [h]; exact List.mem_cons_self ..)
          simp only [List.length_cons]; omega
        · have := ih p (by rw [h]; exact List.mem_cons_of_mem _ hp)
          simp only [List.length_cons]; omega
/-- behind the first k pieces: G is kept -/
structure PI (w : World) (L : List (List UInt8)) (n k : Nat) (v : Value) (G : List (List UInt8)) (wr : World) : Prop where
  row : wr.ownsRow w.heap.size 9 1 v G.length (Texts.strs G)
  below : Below w.heap.size w wr
  all_ : keeps [] L = keeps G (L.drop k)
  few : G.length ≤ k
  short : ∀ e ∈ G, e.length ≤ n
/-- whether the piece that came last was not kept -/
def flag (L : List (List UInt8)) (k : Nat) : Bool := decide (0 < k) && endsOpen (L.take k)
theorem flag_next {L : List (List UInt8)} {k : Nat} (h : k < L.length) : flag L (k + 1) = (isDot L[k] || isUp L[k]) := by
  unfold flag endsOpen
  rw [List.take_add_one, List.getElem?_eq_getElem h, List.getLastD_eq_getLast?, List.getLast?_append]
  simp
theorem flag_all {L : List (List UInt8)} (h : L ≠ []) : flag L L.length = endsOpen L := by
  unfold flag
  rw [List.take_length, decide_eq_true (by cases L with | nil => exact absurd rfl h | cons => simp)]
  rfl
theorem four (X : List UInt8) : X = [] ∨ X = [46] ∨ X = [46, 46] ∨ (isDot X = false ∧ isUp X = false) := by
  by_cases h1 : X = []
  · exact .inl h1
  · by_cases h2 : X = [46]
    · exact .inr (.inl h2)
    · by_cases h3 : X = [46, 46]
      · exact .inr (.inr (.inl h3))
      · refine .inr (.inr (.inr ⟨?_, ?_⟩))
        · unfold isDot
          rw [Bool.or_eq_false_iff, beq_eq_false_iff_ne, Bool.eq_false_iff, ne_eq, List.isEmpty_iff]
          exact ⟨h1, h2⟩
        · unfold isUp
          rw [beq_eq_false_iff_ne]
          exact h3
def resS (L : List (List UInt8)) : ByteArray := match keeps [] L with
  | none => ⟨#[]⟩
  | some G => ofL (finish G L)
def resE (L : List (List UInt8)) : Int := if (keeps [] L).isSome then 0 else 50
theorem ret_norm2 {a b : ByteArray} {n m : Int} (h : a = b) (k : n = m) : Ending.returned (.tuple #[.string a, .int .i64 n]) = .returned (.tuple #[.string b, .int .i64 m]) := by rw [h, k]
set_option maxHeartbeats 4000000 in
theorem presolved_any (s : ByteArray) (hs : s.size ≤ 4194304) (t : List UInt8) (ht : toL s = 47 :: t) (w : World) (hm : MaxInt w) :
    Calls Tryz.prog 91 #[.string s] w fun e w' => e = .returned (.tuple #[.string (resS (cuts t)), .int .i64 (resE (cuts t))]) ∧ Below w.heap.size w w' := by
  obtain ⟨i0, hi, hz0, hz1, hz2⟩ := info_parts infoS
  have HSp := Lib.hid (lib_cuts s (by omega) w hm)
  have htl : t.length ≤ 4194304 := by
    have := toL_length s
    rw [ht] at this
    simp at this
    omega
  have hcc := cuts_count t
  have HSH := Lib.hid (cuts_short t)
  have HNE := Lib.hid (cuts_ne t)
  have hL0 : 1 ≤ (cuts t).length := by
    cases h : cuts t with
    | nil => exact absurd h (cuts_ne t)
    | cons => simp
  rw [ht, show cuts (47 :: t) = [] :: cuts t by rw [cuts_cons, if_pos (by decide)]] at HSp
  generalize cuts t = L at *
  clear ht hm
  go_enter Tryz.func91, Tryz.ntmps91
  go_wp2_with fail
  refine HSp.out.mono ?_
  rintro e w1 ⟨cap, rfl, hcap, hlt1, hcells, hb⟩
  have HCE := Lib.hid (fun j (hj : j < L.length) => hcells (j + 1) (by simp; omega))
  have hcp : L.length + 1 = cap := hcap
  clear HSp hcells hcap
  subst hcp
  have hI0 : Hid (∃ G, PI w1 L t.length 0 (.slice none 0 0) G w1) := Lib.hid ⟨[], World.ownsRow_nil _ _ _ _, Below.refl _ _, rfl, Nat.le_refl _, fun e he => by simp at he⟩
  have HBW := Lib.hid hb
  clear hb
  go_wp2_with fail
  go_loopw [4, 5, 13] (fun v o i wr => ∃ k : Nat, k ≤ L.length ∧ i = .int .i64 k ∧ o = .bool (flag L k) ∧ Hid (∃ G, PI w1 L t.length k v G wr)) (fun _ _ i _ => L.length - (intOf i).toNat)
  case atStart => exact ⟨0, Nat.zero_le _, rfl, rfl, hI0⟩
  case round =>
    clear hI0
    obtain ⟨k, hk, rfl, rfl, HI⟩ := hrel
    obtain ⟨G, I⟩ := HI.out
    clear HI
    have hbw := I.below
    have hfew := I.few
    have hrow := I.row
    have hs1 := hbw.size
    obtain ⟨pp, cap, rfl, hcap, _⟩ := row_cells I.row
    by_cases hlt : k < L.length
    · have hki : (k : Int) < (L.length : Int) := by omega
      have cx := (hbw.cell (p := ⟨w.heap.size, k + 1, none⟩) hlt1).trans (HCE.out k hlt)
      rw [show ([] :: L)[k + 1]'(by simp; omega) = L[k] from rfl, Nat.add_comm k 1] at cx
      have hXs : L[k].length ≤ t.length := HSH.out _ (List.getElem_mem hlt)
      have HFL := Lib.hid (flag_next hlt)
      have hdrop : L.drop k = L[k] :: L.drop (k + 1) := List.drop_eq_getElem_cons hlt
      have hall := I.all_
      rw [hdrop] at hall
      have HALL := Lib.hid hall
      have HSHO := Lib.hid I.short
      clear I hdrop hall
      generalize hX : L[k] = X at *
      clear hX
      have hET : (ofL X).toList = X := by rw [ByteArray.toList_eq]; exact toL_ofL X
      rcases four X with rfl | rfl | rfl | ⟨hd, hu⟩
      · have HF : Hid (flag L (k + 1) = true) := Lib.hid (by rw [HFL.out]; rfl)
        have HR : Hid (∃ G', PI w1 L t.length (k + 1) (.slice pp G.length cap) G' wr) := Lib.hid ⟨G, hrow, hbw, by rw [HALL.out, keeps, if_pos (by decide)], by omega, HSHO.out⟩
        have hEe : (ofL []).toList.isEmpty = true := by rw [hET]; rfl
        clear HALL HFL hrow hbw
        generalize ofL [] = E at *
        go_wp2_with fail
        go_roundw
        case rel => exact ⟨k + 1, by omega, by go_num, by rw [HF.out], HR⟩
        case measure => simp [intOf]; omega
      · have HF : Hid (flag L (k + 1) = true) := Lib.hid (by rw [HFL.out]; rfl)
        have HR : Hid (∃ G', PI w1 L t.length (k + 1) (.slice pp G.length cap) G' wr) := Lib.hid ⟨G, hrow, hbw, by rw [HALL.out, keeps, if_pos (by decide)], by omega, HSHO.out⟩
        clear HALL HFL hrow hbw
        generalize ofL [46] = E at *
        go_wp2_with fail
        go_roundw
        case rel => exact ⟨k + 1, by omega, by go_num, by rw [HF.out], HR⟩
        case measure => simp [intOf]; omega
      · have HF : Hid (flag L (k + 1) = true) := Lib.hid (by rw [HFL.out]; rfl)
        by_cases hG : G = []
        · have HNO : Hid (keeps [] L = none) := Lib.hid (by rw [HALL.out, keeps_up (by decide) (by decide), hG]; rfl)
          have hgl : ((G.length : Int) == 0) = true := by rw [hG]; rfl
          have HB : Hid (Below w.heap.size w wr) := Lib.hid (below_chain HBW.out hbw)
          clear HALL HFL hrow hbw
          generalize ofL [46, 46] = E at *
          go_wp2_with fail
          go_ret2
          refine ⟨ret_norm2 ?_ ?_, HB.out⟩
          · unfold resS; rw [HNO.out]
          · unfold resE; rw [HNO.out]; rfl
        · have hgl : ((G.length : Int) == 0) = false := beq_eq_false_iff_ne.2 (fun h => hG (List.length_eq_zero_iff.1 (by omega)))
          have hg0 : 1 ≤ G.length := by
            cases G with
            | nil => exact absurd rfl hG
            | cons => simp
          have hcutr := row_cut hrow (m := G.length - 1) (by omega)
          have hstr : (Texts.strs G).take (G.length - 1) = Texts.strs G.dropLast := by
            unfold Texts.strs
            rw [← List.map_take, List.dropLast_eq_take]
          rw [hstr] at hcutr
          have HR : Hid (∃ G', PI w1 L t.length (k + 1) (.slice pp (G.length - 1) cap) G' wr) := Lib.hid ⟨G.dropLast, by rw [List.length_dropLast]; exact hcutr, hbw, by rw [HALL.out, keeps_up (by decide) (by decide), if_neg (by simpa using hG)], by rw [List.length_dropLast]; omega, fun e he => HSHO.out e ((List.dropLast_sublist G).subset he)⟩
          clear HALL HFL hrow hbw hcutr hstr hG
          generalize ofL [46, 46] = E at *
          go_wp2_with fail
          go_roundw
          case rel => exact ⟨k + 1, by omega, by go_num, by rw [HF.out], HR⟩
          case measure => simp [intOf]; omega
      · have HF : Hid (flag L (k + 1) = false) := Lib.hid (by rw [HFL.out, hd, hu]; rfl)
        have HR : Hid (∀ v' w3, w3.ownsRow w1.heap.size 9 1 v' (G.length + 1) (Texts.strs G ++ [.string (ofL X)]) → Below w1.heap.size w1 w3 → ∃ G', PI w1 L t.length (k + 1) v' G' w3) := Lib.hid (fun v' w3 h1 h2 => ⟨G ++ [X], by rw [List.length_append, Texts.strs_append]; exact h1, h2, by rw [HALL.out, keeps_in hd hu], by rw [List.length_append]; simp; omega, fun e he => by
          rw [List.mem_append, List.mem_singleton] at he
          rcases he with he | rfl
          · exact HSHO.out e he
          · exact hXs⟩)
        have hd1 : (ofL X).toList.isEmpty = false ∧ ((ofL X).toList == [46]) = false := by
          rw [hET]
          unfold isDot at hd
          rw [Bool.or_eq_false_iff] at hd
          exact hd
        have hu1 : ((ofL X).toList == [46, 46]) = false := by
          rw [hET]
          exact hu
        have hne : ¬ (ofL X).toList = [] := fun h => by rw [h] at hd1; exact absurd hd1.1 (by decide)
        obtain ⟨hd1, hd2⟩ := hd1
        have hG9 : G.length ≤ 4194305 := by omega
        clear HALL HFL hd hu hET
        generalize ofL X = E at *
        go_wp2_with (at_builtin; refine wpList_append_own _ rfl _ _ 22 rfl w1.heap.size 9 i0 (.string ByteArray.empty) 1 16 Tryz.underlying22 hi hz0 hz1 hz2 rfl (by decide) _ _ _ rfl (hrow.alloc _) ⟨wr.heap.size, 0, none⟩ 1 1 [.string E] rfl rfl (cell_one_new _ _ _) (fun x hx => by simp at hx; subst hx; rfl) (by unfold maxLen; omega) (by omega) (by simp; omega) ?_; intro v' w3 hown' hgrow3 hnil3)
        have HR2 := Lib.hid (HR.out v' w3 hown' (Below.grown (hbw.alloc (by omega) _) hgrow3 (by simp; omega) (fun j hj => (hrow.lt _ hj).1)))
        clear hown' hgrow3 hnil3 HR hrow hbw
        go_wp2_with fail
        go_roundw
        case rel => exact ⟨k + 1, by omega, by go_num, by rw [HF.out], HR2⟩
        case measure => simp [intOf]; omega
    · have hkeep : keeps [] L = some G := by
        rw [I.all_, List.drop_of_length_le (by omega)]
        rfl
      have hkl : k = L.length := by omega
      subst hkl
      have HFA : Hid (flag L L.length = endsOpen L) := Lib.hid (flag_all HNE.out)
      have hjl := join_len I.short
      have hJ : (join G).length ≤ 17592202821632 := by
        have h1 : G.length * (t.length + 1) ≤ 4194305 * 4194305 := Nat.mul_le_mul (by omega) (by omega)
        omega
      have HJ := Lib.hid (fun (w2 : World) (h : w2.ownsRow w1.heap.size 9 1 (.slice pp G.length cap) G.length (Texts.strs G)) => lib_join h (by omega) (by omega))
      have HB : Hid (Below w.heap.size w wr) := Lib.hid (below_chain HBW.out hbw)
      have HRW := Lib.hid hrow
      have hsz : (ofL ((join G).drop 1)).size ≤ 17592202821632 := by rw [ofL_size, List.length_drop]; omega
      have HS1 : Hid (resS L = ofL (finish G L)) := Lib.hid (by unfold resS; rw [hkeep])
      have HS2 : Hid (resE L = 0) := Lib.hid (by unfold resE; rw [hkeep]; rfl)
      clear I hkeep hjl hrow hbw
      have hGl : G.length ≤ 4194305 := by omega
      by_cases hG : G = []
      · have hgl : ¬ (0 : Int) < (G.length : Int) := by rw [hG]; simp
        have HF1 : Hid (ofL (finish G L) = ⟨#[47]⟩ ++ ofL ((join G).drop 1)) := Lib.hid (by rw [hG]; rfl)
        rw [HFA.out]
        cases endsOpen L
        all_goals
          clear HFA hG hJ
          generalize ofL ((join G).drop 1) = E at *
          go_wp2_with fail
          refine (HJ.out _ HRW.out).mono ?_
          rintro e w2 ⟨rfl, hb2⟩
          have HB2 := Lib.hid (below_chain HB.out hb2)
          clear hb2 HJ HRW
          go_wp2_with fail
          go_ret2
          exact ⟨ret_norm2 (by rw [HS1.out, HF1.out]) HS2.out.symm, HB2.out⟩
      · have hg0 : 1 ≤ G.length := by
          cases G with
          | nil => exact absurd rfl hG
          | cons => simp
        have hgl : (0 : Int) < (G.length : Int) := by omega
        have hJJ : join G = 47 :: (join G).drop 1 := by
          cases G with
          | nil => exact absurd rfl hG
          | cons x r => simp [join]
        have HF1 : Hid (ofL (finish G L) = if endsOpen L then ⟨#[47]⟩ ++ ofL ((join G).drop 1) ++ ⟨#[47]⟩ else ⟨#[47]⟩ ++ ofL ((join G).drop 1)) := Lib.hid (by
          have he : G.isEmpty = false := by simpa using hG
          refine toL_inj ?_
          unfold finish
          rw [he, Bool.false_or]
          cases endsOpen L
          · simp only [Bool.false_eq_true, if_false, toL_append, toL_ofL]
            exact hJJ
          · simp only [if_true, toL_append, toL_ofL]
            conv => lhs; rw [hJJ]
            rfl)
        have hE2 : (ByteArray.mk #[47] ++ ofL ((join G).drop 1)).size ≤ 17592202821640 := by
          rw [ByteArray.size_append]
          have : (ByteArray.mk #[47]).size = 1 := rfl
          omega
        rw [HFA.out]
        cases ho : endsOpen L
        all_goals
          rw [ho] at HF1
          clear HFA hG hJ ho hJJ
          generalize ofL ((join G).drop 1) = E at *
          go_wp2_with fail
          refine (HJ.out _ HRW.out).mono ?_
          rintro e w2 ⟨rfl, hb2⟩
          have HB2 := Lib.hid (below_chain HB.out hb2)
          clear hb2 HJ HRW
          go_wp2_with fail
          go_ret2
          exact ⟨ret_norm2 (by rw [HS1.out, HF1.out]; rfl) HS2.out.symm, HB2.out⟩
end Go.Proofs.YtmlpdhmafmdkcaaGreatDoor.PResolved

/- Layer 5: two hexadecimal digits. No program is named. -/
namespace Go.Proofs.YtmlpdhmafmdkcaaGreatDoor.RPlain
open LexPure Bytes LexNum PathPure
set_option maxRecDepth 20000
theorem num_two (a b : UInt8) : numOk 16 (min 2 15) [a, b] = (isHex a && isHex b) ∧ (numOk 16 (min 2 15) [a, b] = true → numR 16 (min 2 15) [a, b] = (two a b : Int)) := by
  have h1 : numOk 16 (min 2 15) [a, b] = (isHex a && isHex b) := by
    unfold numOk isHex
    simp
    intro _ _
    decide
  refine ⟨h1, fun h => ?_⟩
  unfold numR
  rw [h, if_pos rfl]
  unfold numV two
  simp
end Go.Proofs.YtmlpdhmafmdkcaaGreatDoor.RPlain

/- Layer 5 of the program: what its functions of one byte and of one escape answer (ofPath, plain, escaped). -/
namespace Go.Proofs.YtmlpdhmafmdkcaaGreatDoor.PBytes5
open Go.ChangeShapes Go.WideShapes Go.ChangeAt Go.RowKit LexPure Bytes Ret LexNum PathPure PEsc CutsSplit PHex
set_option maxRecDepth 20000
theorem lib_plain (b : UInt8) (w : World) :
    Calls Tryz.prog 87 #[.string plainA, .int .u8 (b.toNat : Int)] w fun e w' => e = .returned (.int .i64 (plainI b)) ∧ w' = w := by
  have h := Any.strings_IndexByte Tryz.lays137 plainA (b.toNat : Int) w
  rw [show ((b.toNat : Int)).toNat.toUInt8 = b from by simp] at h
  exact h
theorem pofpath_any (b : UInt8) (w : World) :
    Calls Tryz.prog 112 #[.int .u8 (b.toNat : Int)] w fun e w' => e = .returned (.bool (okc b)) ∧ w = w' := by
  rw [okc_cases]
  generalize (b.toNat : Int) = c
  go_enter Tryz.func112, Tryz.ntmps112
  go_wp2_with fail
  all_goals
    go_ret
    refine ⟨ret_bool ?_, rfl⟩
    try simp only [beq_eq_false_iff_ne, beq_iff_eq, ne_eq] at *
    first
      | exact Eq.symm (decide_eq_true (by omega))
      | exact Eq.symm (decide_eq_false (by omega))
      | (by_cases e1 : c = 63 <;> by_cases e2 : c = 35 <;> by_cases e3 : 32 < c <;> by_cases e4 : c < 127 <;> first | (exfalso; omega) | simp [e1, e2, e3, e4] | (subst e1; decide) | (subst e2; decide))
theorem pplain_any (b : UInt8) (w : World) :
    Calls Tryz.prog 129 #[.int .u8 (b.toNat : Int)] w fun e w' => e = .returned (.bool (plainP b.toNat)) ∧ w = w' := by
  have HM := Lib.hid (lib_plain b w)
  rw [plain_cases]
  unfold plainA at HM
  generalize plainI b = i at *
  generalize (b.toNat : Int) = c at *
  go_enter Tryz.func129, Tryz.ntmps129
  go_wp2_with (refine HM.out.mono ?_; rintro e w' ⟨rfl, rfl⟩)
  all_goals
    go_ret
    refine ⟨ret_bool ?_, rfl⟩
  all_goals first
    | rfl
    | exact Eq.symm (decide_eq_true (by omega))
    | exact Eq.symm (by rw [decide_eq_true (show 48 ≤ c ∧ c ≤ 57 by omega)]; rfl)
    | exact Eq.symm (by rw [decide_eq_true (show 65 ≤ c ∧ c ≤ 90 by omega), Bool.or_true]; rfl)
    | exact Eq.symm (by rw [decide_eq_true (show 97 ≤ c ∧ c ≤ 122 by omega), Bool.or_true]; rfl)
    | (rw [decide_eq_false (show ¬ (48 ≤ c ∧ c ≤ 57) by omega), decide_eq_false (show ¬ (65 ≤ c ∧ c ≤ 90) by omega), decide_eq_false (show ¬ (97 ≤ c ∧ c ≤ 122) by omega)]; first | (simp; done) | (simp; intro h; omega))
theorem ret_esc {a b : Int} {p q : Bool} (h : a = b) (k : p = q) : Ending.returned (.tuple #[.int .u8 a, .bool p]) = .returned (.tuple #[.int .u8 b, .bool q]) := by rw [h, k]
theorem pescaped_any (s : ByteArray) (hs : s.size ≤ 140737488355328) (w : World) :
    Calls Tryz.prog 114 #[.string s] w fun e w' => e = .returned (.tuple #[.int .u8 (escN (toL s) : Int), .bool (escO (toL s))]) ∧ w = w' := by
  by_cases h3 : s.size < 3
  · have h3i : (s.size : Int) < 3 := by omega
    have hv : escO (toL s) = false ∧ escN (toL s) = 0 := by
      have hl := toL_length s
      match hm : toL s with
      | [] => exact ⟨rfl, rfl⟩
      | [_] => exact ⟨rfl, rfl⟩
      | [_, _] => exact ⟨rfl, rfl⟩
      | _ :: _ :: _ :: _ => rw [hm] at hl; simp at hl; omega
    rw [hv.1, hv.2]
    clear hv h3
    go_enter Tryz.func114, Tryz.ntmps114
    go_wp2_with fail
    go_ret2
    exact ⟨rfl, rfl⟩
  · have h3i : ¬ (s.size : Int) < 3 := by omega
    have h3j : 3 ≤ (s.size : Int) := by omega
    obtain ⟨c, a, b, r, hl⟩ : ∃ c a b r, toL s = c :: a :: b :: r := by
      have hl := toL_length s
      match hm : toL s with
      | [] => rw [hm] at hl; simp at hl; omega
      | [_] => rw [hm] at hl; simp at hl; omega
      | [_, _] => rw [hm] at hl; simp at hl; omega
      | c :: a :: b :: r => exact ⟨c, a, b, r, rfl⟩
    have hx : toL (s.extract 1 3) = [a, b] := by rw [toL_extract, hl]; rfl
    have HC := Lib.hid (phex_any (s.extract 1 3) (by rw [ByteArray.size_extract]; unfold maxLen; omega) 2)
    rw [hx] at HC
    obtain ⟨n1, n2⟩ := RPlain.num_two a b
    have HO : Hid (numOk 16 (min 2 15) [a, b] = escO (toL s)) := Lib.hid (by rw [n1, hl]; rfl)
    have HN : Hid (numR 16 (min 2 15) [a, b] = (escN (toL s) : Int)) := Lib.hid (by
      rw [hl]
      unfold escN
      simp only
      by_cases hh : numOk 16 (min 2 15) [a, b] = true
      · rw [n2 hh, if_pos (by rw [← n1]; exact hh)]
      · rw [if_neg (by rw [← n1]; exact hh)]
        unfold numR
        rw [if_neg hh]
        rfl)
    have hlt := escN_lt (toL s)
    rw [HO.out, HN.out] at HC
    have h0 : (0 : Int) ≤ (escN (toL s) : Int) := by omega
    have h1 : (escN (toL s) : Int) ≤ 255 := by omega
    clear hx hl n1 n2 HO HN hlt h3
    generalize (escN (toL s) : Int) = v at *
    generalize escO (toL s) = o at *
    go_enter Tryz.func114, Tryz.ntmps114
    go_wp2_with fail
    refine (HC.out _).mono ?_
    rintro e w' ⟨rfl, rfl⟩
    go_wp2_with fail
    go_ret2
    exact ⟨ret_esc (by omega) rfl, rfl⟩
end Go.Proofs.YtmlpdhmafmdkcaaGreatDoor.PBytes5

/- A strings.Builder's WriteByte. -/
namespace Go.Proofs.YtmlpdhmafmdkcaaGreatDoor.PBuild
open Go.ChangeShapes Go.WideShapes Go.ChangeAt Go.RowKit Bytes PBuildT
theorem extra167 : Builder.Extra Tryz.prog Tryz.lays167_ren := {
  sizeBuilder := by kernel_rfl
  liesBuilder := by kernel_rfl
  t5 := Tryz.underlying5
  a5 := Tryz.isAgg5
  z5 := Tryz.sizeOf5
  v5 := Tryz.zeroValue5
  infoByte := by kernel_rfl
  cellsByte := by kernel_rfl
  sizeByte := by kernel_rfl
  neB5 := by decide }
theorem bld_byte {w wr : World} {b : Nat} {acc : List UInt8} (h : Bld w b acc wr) (c : UInt8) (hl : acc.length + 1 ≤ 140737488355328) :
    Calls Tryz.prog 113 #[.pointer (some ⟨b, 0, none⟩), .int .u8 (c.toNat : Int)] wr fun e w' => e = .returned .nilIface ∧ Bld w b (acc ++ [c]) w' := by
  refine (Any.Builder_WriteByte Tryz.lays167 extra167 w.heap.size b _ (c.toNat : Int) wr h.1 (by rw [Lib.byteCells_length]; exact hl) h.2.size).mono ?_
  rintro e w' ⟨rfl, h1, h2⟩
  refine ⟨rfl, ?_, h.2.trans h2⟩
  rw [Lib.byteCells_append]
  exact .inr h1
theorem bld_num {w wr : World} {b : Nat} {acc : List UInt8} (h : Bld w b acc wr) (n : Nat) (hn : n < 256) (hl : acc.length + 1 ≤ 140737488355328) :
    Calls Tryz.prog 113 #[.pointer (some ⟨b, 0, none⟩), .int .u8 (n : Int)] wr fun e w' => e = .returned .nilIface ∧ Bld w b (acc ++ [UInt8.ofNat n]) w' := by
  have := bld_byte h (UInt8.ofNat n) hl
  rwa [UInt8.toNat_ofNat_of_lt' hn] at this
end Go.Proofs.YtmlpdhmafmdkcaaGreatDoor.PBuild

/- Layer 5 of the program: oneForm: how a byte that was escaped is written. -/
namespace Go.Proofs.YtmlpdhmafmdkcaaGreatDoor.POneForm
open Go.ChangeShapes Go.WideShapes Go.ChangeAt Go.RowKit LexPure Bytes Ret PathPure PEsc PBytes5 BRow
set_option maxRecDepth 20000
/-- string([]byte{..}) -/
theorem text_at (W : World) (g : Nat) (l : List UInt8) (cs : Array Value) (fr : Nat × Nat) (cap : Nat) (hg : W.heap[g]? = some (.cells cs 5 fr)) (hc : ∀ j (h : j < l.length), cs[j]? = some (.int .u8 (l[j].toNat : Int))) :
    (Go.convert 46 9 (.slice (some ⟨g, 0, none⟩) l.length cap)).run Tryz.prog W = .ok (.string (ofL l)) W :=
  run_convert_bytes_back _ 46 9 5 ⟨g, 0, none⟩ cap l Tryz.underlying46 Tryz.underlying5 Tryz.underlying9 (fun j hj => by
    have e : (⟨g, 0, none⟩ : Addr).add j = ⟨g, j, none⟩ := by unfold Addr.add; split <;> simp_all
    rw [e]
    simp only [World.cell?, hg]
    exact hc j hj)
theorem heap_new (w : World) (o : Obj) : (w.alloc o).heap[w.heap.size]? = some o := by
  show (w.heap.push _)[w.heap.size]? = _
  simp
def digs : ByteArray := ⟨#[48, 49, 50, 51, 52, 53, 54, 55, 56, 57, 65, 66, 67, 68, 69, 70]⟩
theorem digs_hx (n : Nat) (h : n < digs.size) : digs[n] = hx n := by
  have : n = 0 ∨ n = 1 ∨ n = 2 ∨ n = 3 ∨ n = 4 ∨ n = 5 ∨ n = 6 ∨ n = 7 ∨ n = 8 ∨ n = 9 ∨ n = 10 ∨ n = 11 ∨ n = 12 ∨ n = 13 ∨ n = 14 ∨ n = 15 := by
    have : digs.size = 16 := rfl
    omega
  rcases this with h | h | h | h | h | h | h | h | h | h | h | h | h | h | h | h <;> subst h <;> rfl
theorem poneform_any (b : UInt8) (w : World) :
    Calls Tryz.prog 115 #[.int .u8 (b.toNat : Int)] w fun e w' => e = .returned (.string (ofL (wr b.toNat))) ∧ Below w.heap.size w w' := by
  have HP := Lib.hid (fun w => pplain_any b w)
  have hlt : (b.toNat : Int) ≤ 255 := by have := b.toNat_lt; omega
  by_cases hp : plainP b.toNat = true
  · have HW : Hid (wr b.toNat = [b]) := Lib.hid (by unfold wr; rw [if_pos hp]; simp)
    rw [hp] at HP
    have hconv : (Go.convert 46 9 (.slice (some ⟨w.heap.size, 0, none⟩) 1 1)).run Tryz.prog (w.alloc (.cells #[.int .u8 (b.toNat : Int)] 5)) = .ok (.string (ofL [b])) (w.alloc (.cells #[.int .u8 (b.toNat : Int)] 5)) :=
      text_at _ _ [b] _ _ 1 (heap_new w _) (by intro j hj; match j, hj with | 0, _ => rfl)
    clear hp
    go_enter Tryz.func115, Tryz.ntmps115
    go_wp2_with fail
    refine (HP.out _).mono ?_
    rintro e w' ⟨rfl, rfl⟩
    go_wp2_with fail
    go_ret
    rw [HW.out]
    exact ⟨rfl, (Below.refl _ _).alloc (Nat.le_refl _) _⟩
  · have hpf : plainP b.toNat = false := by simpa using hp
    have HW : Hid (ofL (wr b.toNat) = ofL [37, hx (b.toNat / 16), hx (b.toNat % 16)]) := Lib.hid (by unfold wr; rw [hpf]; rfl)
    have k1 : (0 : Int) ≤ (b.toNat : Int) / 16 := by omega
    have k2 : (b.toNat : Int) / 16 < 16 := by omega
    have k3 : (0 : Int) ≤ (b.toNat : Int) % 16 := by omega
    have k4 : (b.toNat : Int) % 16 < 16 := by omega
    rw [hpf] at HP
    have hconv : ∀ p q : UInt8, (Go.convert 46 9 (.slice (some ⟨w.heap.size, 0, none⟩) 3 3)).run Tryz.prog (w.alloc (.cells #[.int .u8 37, .int .u8 (p.toNat : Int), .int .u8 (q.toNat : Int)] 5)).drew = .ok (.string (ofL [37, p, q])) (w.alloc (.cells #[.int .u8 37, .int .u8 (p.toNat : Int), .int .u8 (q.toNat : Int)] 5)).drew := fun p q =>
      text_at (w.alloc _).drew _ [37, p, q] _ _ 3 (heap_new w _) (by intro j hj; match j, hj with | 0, _ => rfl | 1, _ => rfl | 2, _ => rfl)
    clear hp hpf
    go_enter Tryz.func115, Tryz.ntmps115
    go_wp2_with fail
    refine (HP.out _).mono ?_
    rintro e w' ⟨rfl, rfl⟩
    go_wp2_with fail
    go_region
    go_wp2_with fail
    go_ret
    refine ⟨ret_string ?_, ((Below.refl _ _).alloc (Nat.le_refl _) _).drew⟩
    rw [HW.out]
    have s16 : digs.size = 16 := rfl
    have e1 := digs_hx (b.toNat / 16) (by omega)
    have e2 := digs_hx (b.toNat % 16) (by omega)
    rw [← e1, ← e2]
    rfl
end Go.Proofs.YtmlpdhmafmdkcaaGreatDoor.POneForm

/- Layer 5 of the program: a text whose front is taken off, byte by byte. -/
namespace Go.Proofs.YtmlpdhmafmdkcaaGreatDoor.PCur
open Go.ChangeShapes Go.WideShapes Go.ChangeAt Go.RowKit LexPure Bytes Ret PathPure PEsc PBytes5 PBuildT PBuild
def sizeOfS : Value → Nat | .string s => s.size | _ => 0
theorem empty_no {s : ByteArray} (h : 0 < s.size) : ¬ s.toList = [] ∧ s.toList.isEmpty = false := by
  have h1 : ¬ s.toList = [] := fun e => by
    rw [ByteArray.toList_eq] at e
    have := toL_length s
    rw [show toL s = [] from e] at this
    simp at this
    omega
  refine ⟨h1, ?_⟩
  cases h2 : s.toList with
  | nil => exact absurd h2 h1
  | cons => rfl
theorem empty_yes {s : ByteArray} (h : ¬ 0 < s.size) : s.toList = [] ∧ s.toList.isEmpty = true := by
  have h1 : s.toList = [] := by
    rw [ByteArray.toList_eq]
    exact List.length_eq_zero_iff.1 (by have := toL_length s; unfold toL at this; omega)
  exact ⟨h1, by rw [h1]; rfl⟩
theorem sign_cases (c : UInt8) : (c = 37 ∧ ((c.toNat : Int) != 37) = false) ∨ (¬ c = 37 ∧ ((c.toNat : Int) != 37) = true) := by
  have := all_bytes (p := fun c => (c == 37 && (((c.toNat : Int) != 37) == false)) || (!(c == 37) && (((c.toNat : Int) != 37) == true))) (by decide +kernel) c
  simpa using this
theorem cut_one (s : ByteArray) (h : 0 < s.size) : toL s = s[0] :: toL (s.extract 1 s.size) ∧ (s.extract 1 s.size).size + 1 = s.size := by
  constructor
  · have h1 := toL_drop s 0 h
    rw [List.drop_zero] at h1
    rw [h1, toL_extract, List.take_of_length_le (by rw [toL_length]; exact Nat.le_refl _)]
  · rw [ByteArray.size_extract]; omega
theorem cut_three (s : ByteArray) : toL (s.extract 3 s.size) = (toL s).drop 3 ∧ (s.extract 3 s.size).size = s.size - 3 := by
  constructor
  · rw [toL_extract, List.take_of_length_le (by rw [toL_length]; exact Nat.le_refl _)]
  · rw [ByteArray.size_extract]; omega
theorem ret_dec {a b : ByteArray} {p q : Bool} (h : a = b) (k : p = q) : Ending.returned (.tuple #[.string a, .bool p]) = .returned (.tuple #[.string b, .bool q]) := by rw [h, k]
end Go.Proofs.YtmlpdhmafmdkcaaGreatDoor.PCur

/- Layer 5 of the program: settled: escapes in their one form, round by round. -/
namespace Go.Proofs.YtmlpdhmafmdkcaaGreatDoor.PSettled
open Go.ChangeShapes Go.WideShapes Go.ChangeAt Go.RowKit LexPure Bytes Ret PathPure PEsc PBytes5 PBuildT PBuild POneForm PCur
set_option maxRecDepth 20000
set_option maxHeartbeats 1600000 in
theorem psettled_any (s : ByteArray) (hs : s.size ≤ 140737488351232) (w : World) :
    Calls Tryz.prog 90 #[.string s] w fun e w' => e = .returned (.tuple #[.string (ofL ((esc (toL s)).getD [])), .bool (esc (toL s)).isSome]) ∧ Below w.heap.size w w' := by
  have HB := Lib.hid (Bld.start w)
  go_enter Tryz.func90, Tryz.ntmps90
  go_wp2_with fail
  go_loopw [0] (fun v wr => ∃ cur acc, v = .string cur ∧ acc.length + cur.size ≤ s.size ∧ Hid (Bld w w.heap.size acc wr) ∧ Hid (esc (toL s) = (esc (toL cur)).map (acc ++ ·))) (fun v _ => sizeOfS v)
  case atStart => exact ⟨s, [], rfl, by simp, HB, Lib.hid (by simp)⟩
  case round =>
    clear HB
    obtain ⟨cur, acc, rfl, hlen, HI, HD⟩ := hrel
    by_cases hpos : 0 < cur.size
    · obtain ⟨m1, m2⟩ := empty_no hpos
      obtain ⟨hc1, hc2⟩ := cut_one cur hpos
      have hC1 := Lib.hid hc1
      have hpi : (0 : Int) < (cur.size : Int) := by omega
      have hcs : (cur.size : Int) ≤ 140737488351232 := by omega
      clear hc1
      have HK := Lib.hid (fun w => pofpath_any cur[0] w)
      by_cases hk : okc cur[0] = true
      rotate_left
      · have hkf : okc cur[0] = false := by simpa using hk
        have HV : Hid (esc (toL s) = none) := Lib.hid (by
          rw [HD.out, hC1.out, esc_bad hkf]
          rfl)
        rw [hkf] at HK
        clear HD hk hkf hC1
        go_wp2_with fail
        refine (HK.out _).mono ?_
        rintro e w' ⟨rfl, rfl⟩
        go_wp2_with fail
        go_ret2
        exact ⟨ret_dec (by rw [HV.out]; rfl) (by rw [HV.out]; rfl), HI.out.2⟩
      rw [hk] at HK
      rcases sign_cases cur[0] with ⟨h37, hq⟩ | ⟨h37, hq⟩
      · have HE := Lib.hid (fun w => pescaped_any cur (by omega) w)
        obtain ⟨hd1, hd2⟩ := cut_three cur
        have hlt := escN_lt (toL cur)
        by_cases ho : escO (toL cur) = true
        · have h3 := esc_three ho
          rw [toL_length] at h3
          have HD2 : Hid (esc (toL s) = (esc (toL (cur.extract 3 cur.size))).map ((acc ++ PathPure.wr (escN (toL cur))) ++ ·)) := Lib.hid (by
            rw [HD.out, hd1, ← map_map, hC1.out, h37]
            rw [hC1.out, h37] at ho
            rw [esc_yes ho])
          rw [ho] at HE
          have hwl := wr_le (escN (toL cur))
          have HN := Lib.hid (fun wr' (h : Bld w w.heap.size acc wr') => bld_text h (ofL (PathPure.wr (escN (toL cur)))) (by rw [ofL_size]; omega))
          have HF := Lib.hid (fun w => poneform_any (UInt8.ofNat (escN (toL cur))) w)
          rw [UInt8.toNat_ofNat_of_lt' hlt] at HF
          rw [toL_ofL] at HN
          have h3i : 3 ≤ (cur.size : Int) := by omega
          clear HD ho hC1 hd1 h37
          generalize escN (toL cur) = n at *
          generalize ofL (PathPure.wr n) = X at *
          go_wp2_with fail
          refine (HK.out _).mono ?_
          rintro e w' ⟨rfl, rfl⟩
          go_wp2_with fail
          refine (HE.out _).mono ?_
          rintro e w' ⟨rfl, rfl⟩
          go_wp2_with fail
          refine (HF.out _).mono ?_
          rintro e w3 ⟨rfl, hb3⟩
          have HI3 := Lib.hid (HI.out.keep hb3)
          clear hb3 HI
          go_wp2_with fail
          refine (HN.out _ HI3.out).mono ?_
          rintro e w2 ⟨rfl, hb2⟩
          have HB2 := Lib.hid hb2
          clear hb2 HI3
          go_wp2_with fail
          go_roundw
          case rel => exact ⟨_, _, rfl, by rw [hd2, List.length_append]; omega, HB2, HD2⟩
          case measure => simp [sizeOfS]; omega
        · have hof : escO (toL cur) = false := by simpa using ho
          have HV : Hid (esc (toL s) = none) := Lib.hid (by
            rw [HD.out, hC1.out, h37, esc_no (by rw [← h37, ← hC1.out]; exact hof)]
            rfl)
          rw [hof] at HE
          clear HD ho hof hC1 hd1 h37 hd2 hlt
          generalize escN (toL cur) = n at *
          go_wp2_with fail
          refine (HK.out _).mono ?_
          rintro e w' ⟨rfl, rfl⟩
          go_wp2_with fail
          refine (HE.out _).mono ?_
          rintro e w' ⟨rfl, rfl⟩
          go_wp2_with fail
          go_ret2
          exact ⟨ret_dec (by rw [HV.out]; rfl) (by rw [HV.out]; rfl), HI.out.2⟩
      · have HD2 : Hid (esc (toL s) = (esc (toL (cur.extract 1 cur.size))).map ((acc ++ [cur[0]]) ++ ·)) := Lib.hid (by
          rw [HD.out, ← map_cons, ← esc_other hk h37, ← hC1.out])
        have HN := Lib.hid (fun wr' (h : Bld w w.heap.size acc wr') => bld_byte h cur[0] (by omega))
        clear HD hC1 h37
        go_wp2_with fail
        refine (HK.out _).mono ?_
        rintro e w' ⟨rfl, rfl⟩
        go_wp2_with fail
        refine (HN.out _ HI.out).mono ?_
        rintro e w2 ⟨rfl, hb2⟩
        have HB2 := Lib.hid hb2
        clear hb2 HI
        go_wp2_with fail
        go_roundw
        case rel => exact ⟨_, _, rfl, by simp; omega, HB2, HD2⟩
        case measure => simp [sizeOfS]; omega
    · obtain ⟨m1, m2⟩ := empty_yes hpos
      have HV : Hid (esc (toL s) = some acc) := Lib.hid (by
        rw [HD.out, show toL cur = [] from (ByteArray.toList_eq cur).symm.trans m1]
        simp [esc])
      have HN := Lib.hid (fun wr' (h : Bld w w.heap.size acc wr') => bld_out h)
      clear HD hpos
      go_wp2_with fail
      refine (HN.out _ HI.out).mono ?_
      rintro e w2 ⟨rfl, hb2⟩
      have HB2 := Lib.hid hb2
      clear hb2 HI
      go_wp2_with fail
      go_ret2
      exact ⟨ret_dec (by rw [HV.out]; rfl) (by rw [HV.out, Option.isSome_some]), HB2.out⟩
end Go.Proofs.YtmlpdhmafmdkcaaGreatDoor.PSettled

/- Layer 5: what each call of the program's answers. -/
namespace Go.Proofs.YtmlpdhmafmdkcaaGreatDoor.PathObj
open Go.ChangeShapes Go.WideShapes Go.ChangeAt Go.RowKit LexPure Bytes Ret PathPure PathForm RNormal PSettled PUnder PResolved Mem
set_option maxRecDepth 20000
theorem esc_head {t u : List UInt8} (h : esc (47 :: t) = some u) : ∃ v, u = 47 :: v := by
  rw [esc_cons, if_pos (by decide), if_neg (by decide)] at h
  obtain ⟨v, _, rfl⟩ := Option.map_eq_some_iff.1 h
  exact ⟨v, rfl⟩
theorem head_cases (s : List UInt8) : (([47] : List UInt8).isPrefixOf s = false ∧ escapes s = none) ∨ (∃ t, s = 47 :: t ∧ ([47] : List UInt8).isPrefixOf s = true ∧ escapes s = esc s) := by
  rw [starts_one]
  cases s with
  | nil => exact .inl ⟨rfl, rfl⟩
  | cons c t =>
    by_cases h : c = 47
    · subst h
      exact .inr ⟨t, rfl, by simp, by unfold escapes; simp⟩
    · have hq : (c == 47) = false := by simpa using h
      exact .inl ⟨by simp [h], by unfold escapes; simp [hq]⟩
theorem normal_any (s : ByteArray) (hs : s.size ≤ 4194304) (w : World) (hm : MaxInt w) :
    Calls Tryz.prog 71 #[.string s] w fun e w' => e = .returned (.tuple #[.string (normS (toL s)), .int .i64 (normE (toL s))]) ∧ Below w.heap.size w w' := by
  have HP := Lib.hid (fun w => lib_has s ⟨#[47]⟩ w)
  rw [show toL ⟨#[47]⟩ = [47] from rfl] at HP
  rcases head_cases (toL s) with ⟨h1, h2⟩ | ⟨t, h0, h1, h2⟩
  · have hn : normal (toL s) = none := by unfold normal; rw [h2]
    rw [(norm_none hn).1, (norm_none hn).2]
    rw [h1] at HP
    clear h1 h2 hn hm
    go_enter Tryz.func71, Tryz.ntmps71
    go_wp2_with fail
    refine (HP.out _).mono ?_
    rintro e w' ⟨rfl, rfl⟩
    go_wp2_with fail
    go_ret2
    exact ⟨rfl, Below.refl _ _⟩
  · rw [h1] at HP
    have HS := Lib.hid (fun w => psettled_any s (by omega) w)
    cases hesc : esc (toL s) with
    | none =>
      have hn : normal (toL s) = none := by unfold normal; rw [h2, hesc]
      rw [(norm_none hn).1, (norm_none hn).2]
      rw [hesc] at HS
      clear h1 h2 hn hm h0 hesc
      go_enter Tryz.func71, Tryz.ntmps71
      go_wp2_with fail
      refine (HP.out _).mono ?_
      rintro e w' ⟨rfl, rfl⟩
      go_wp2_with fail
      refine (HS.out _).mono ?_
      rintro e w1 ⟨rfl, hb1⟩
      go_wp2_with fail
      go_ret2
      exact ⟨rfl, hb1⟩
    | some u =>
      obtain ⟨v, rfl⟩ := esc_head (by rw [← h0]; exact hesc)
      have hul := esc_len _ (Nat.le_refl _) hesc
      rw [toL_length] at hul
      have HR := Lib.hid (fun w hm => presolved_any (ofL (47 :: v)) (by rw [ofL_size]; omega) v (toL_ofL _) w hm)
      have hn : normS (toL s) = resS (cuts v) ∧ normE (toL s) = resE (cuts v) := by
        cases hk : keeps [] (cuts v) with
        | none =>
          have hnn : normal (toL s) = none := by unfold normal; rw [h2, hesc]; simp only [List.tail_cons, hk]
          exact ⟨(norm_none hnn).1.trans (by unfold resS; rw [hk]), (norm_none hnn).2.trans (by unfold resE; rw [hk]; rfl)⟩
        | some G =>
          have hnn : normal (toL s) = some (finish G (cuts v)) := by unfold normal; rw [h2, hesc]; simp only [List.tail_cons, hk]
          exact ⟨(norm_some hnn).1.trans (by unfold resS; rw [hk]), (norm_some hnn).2.trans (by unfold resE; rw [hk]; rfl)⟩
      rw [hn.1, hn.2]
      rw [hesc, show (some (47 :: v)).getD [] = 47 :: v from rfl] at HS
      have HM := Lib.hid hm
      clear h1 h2 hn hm h0 hesc hul
      generalize ofL (47 :: v) = E at *
      generalize resS (cuts v) = x at *
      generalize resE (cuts v) = y at *
      go_enter Tryz.func71, Tryz.ntmps71
      go_wp2_with fail
      refine (HP.out _).mono ?_
      rintro e w' ⟨rfl, rfl⟩
      go_wp2_with fail
      refine (HS.out _).mono ?_
      rintro e w1 ⟨rfl, hb1⟩
      have HM1 := Lib.hid (HM.out.below hb1)
      clear HM
      go_wp2_with fail
      refine (HR.out _ HM1.out).mono ?_
      rintro e w2 ⟨rfl, hb2⟩
      have HB := Lib.hid (below_chain hb1 hb2)
      clear hb1 hb2 HM1
      go_wp2_with fail
      go_ret2
      exact ⟨rfl, HB.out⟩
end Go.Proofs.YtmlpdhmafmdkcaaGreatDoor.PathObj

/- Layer 6 of the program: withPath. -/
namespace Go.Proofs.YtmlpdhmafmdkcaaGreatDoor.TPath
open Go.ChangeShapes Go.WideShapes Go.ChangeAt Go.RowKit LexPure Bytes Ret CutAt HostPure TargetPure RNormal PathPure PUnder PCut PathObj TQuery TAuth TBox Mem
set_option maxRecDepth 20000
set_option maxHeartbeats 1600000 in
theorem tpath_any (t : Tgt) (s : ByteArray) (hs : s.size ≤ 4194304) (w : World) (hm : MaxInt w) :
    Calls Tryz.prog 51 #[tv t, .string s] w fun e w' => e = .returned (rv (local6 t (toL s))) ∧ Below w.heap.size w w' := by
  have HC := Lib.hid (fun w => cut_full s (by omega) w)
  have hl1 := ahead_len 63 (toL s)
  have hl2 := behind_len 63 (toL s)
  rw [toL_length] at hl1 hl2
  rw [show cutA (toL s) = aheadOf 63 (toL s) from rfl, show cutB (toL s) = behind 63 (toL s) from rfl, show cutQ (toL s) = hasB 63 (toL s) from rfl] at HC
  have HN := Lib.hid (fun w hm => normal_any (ofL (aheadOf 63 (toL s))) (by rw [ofL_size]; omega) w hm)
  have HQ := Lib.hid (fun w => tquery_any (ofL (behind 63 (toL s))) (by rw [ofL_size]; omega) w)
  rw [toL_ofL] at HN HQ
  have HM := Lib.hid hm
  clear hm hl1 hl2 hs
  obtain ⟨fo, ho, po, pa, qu, ha⟩ := t
  have HT := Lib.hid (Two.start w fo ho po pa qu ha)
  have HLO : Hid (∀ x, local6 ⟨fo, ho, po, pa, qu, ha⟩ (toL s) = x → Hid (local6 ⟨fo, ho, po, pa, qu, ha⟩ (toL s) = x)) := Lib.hid (fun _ h => Lib.hid h)
  have HX : Hid (∃ x, x = local6 ⟨fo, ho, po, pa, qu, ha⟩ (toL s)) := Lib.hid ⟨_, rfl⟩
  obtain ⟨x, hx⟩ := HX.out
  rw [← hx]
  replace hx := Lib.hid hx
  clear HX HLO
  unfold tv
  simp only
  obtain ⟨B0, hB0⟩ : ∃ B0, B0 = Below w.heap.size w := ⟨_, rfl⟩
  rw [← hB0]
  replace hB0 := Lib.hid hB0
  go_enter Tryz.func51, Tryz.ntmps51
  go_wp2_with fail
  generalize (w.alloc (.cells #[.int .i64 fo, .string (ofL ho), .int .i64 po, .string (ofL pa), .string (ofL qu), .bool ha] 33)).alloc (.cells #[.int .i64 0, .string ⟨#[]⟩, .int .i64 0, .string ⟨#[]⟩, .string ⟨#[]⟩, .bool false] 33) = W at HT ⊢
  generalize w.heap.size = g at HT ⊢
  refine (HC.out _).mono ?_
  rintro e w1 ⟨rfl, hb1⟩
  replace HT := Lib.hid (HT.out.call hb1)
  clear HC hb1
  go_wp2_with fail
  refine (HN.out _ (HM.out.below HT.out.below)).mono ?_
  rintro e w2 ⟨rfl, hb2⟩
  replace HT := Lib.hid (HT.out.call hb2)
  clear HN hb2
  generalize hahead : aheadOf 63 (toL s) = A at *
  generalize hbehind : behind 63 (toL s) = B at *
  generalize hhas : hasB 63 (toL s) = q at *
  cases hn : normal A with
  | none =>
    have hr : x = (zero, 50) := by rw [hx.out]; unfold local6; rw [hahead, hn]
    subst hr
    obtain ⟨r0, r1, r2, r3, r4, r5⟩ := HT.out.rbox.cells
    obtain ⟨f0, f1, f2, f3, f4, f5⟩ := HT.out.rbox.frees
    rw [(norm_none hn).1, (norm_none hn).2]
    have HE := Lib.hid (HT.out.rbox.put zero)
    have HB : Hid (B0 (put w2 (g + 1) zero)) := Lib.hid (by rw [hB0.out]; exact below_put HT.out.below (by rw [HT.out.at_]; omega) zero)
    clear hn hx HQ hahead hbehind hhas
    go_wp2_with fail
    refine bodyPost_ret (v := rv (zero, 50)) ?_ rfl ⟨rfl, HB.out⟩
    rw [results_cell_tmp rfl]
    exact end_box rfl rfl HE.out
  | some p =>
    rw [(norm_some hn).1, (norm_some hn).2]
    cases hk : qok B with
    | false =>
      have hr : x = (zero, 60) := by rw [hx.out]; unfold local6; rw [hahead, hn, hbehind]; simp only; rw [hk]; rfl
      subst hr
      obtain ⟨r0, r1, r2, r3, r4, r5⟩ := HT.out.rbox.cells
      obtain ⟨f0, f1, f2, f3, f4, f5⟩ := HT.out.rbox.frees
      have HE := Lib.hid (HT.out.rbox.put zero)
      have HB : Hid (B0 (put w2 (g + 1) zero)) := Lib.hid (by rw [hB0.out]; exact below_put HT.out.below (by rw [HT.out.at_]; omega) zero)
      rw [hk] at HQ
      clear hn hx hk hahead hbehind hhas
      go_wp2_with (refine (HQ.out _).mono ?_; rintro e w3 ⟨rfl, rfl⟩)
      refine bodyPost_ret (v := rv (zero, 60)) ?_ rfl ⟨rfl, HB.out⟩
      rw [results_cell_tmp rfl]
      exact end_box rfl rfl HE.out
    | true =>
      have hr : x = (⟨fo, ho, po, p, B, q⟩, 0) := by rw [hx.out]; unfold local6; rw [hahead, hn, hbehind, hhas]; simp only; rw [hk]; rfl
      subst hr
      obtain ⟨t0, t1, t2, t3, t4, t5⟩ := HT.out.tbox.cells
      obtain ⟨u0, u1, u2, u3, u4, u5⟩ := HT.out.tbox.frees
      obtain ⟨r0, r1, r2, r3, r4, r5⟩ := HT.out.rbox.cells
      obtain ⟨f0, f1, f2, f3, f4, f5⟩ := HT.out.rbox.frees
      have hne : ∀ i, g + 1 ≠ (⟨g, i, none⟩ : Addr).block := fun i => by simp
      have HE := Lib.hid ((((HT.out.rbox.far (hne 3) (.string (ofL p))).far (hne 4) (.string (ofL B))).far (hne 5) (.bool q)).put ⟨fo, ho, po, p, B, q⟩)
      have HB : Hid (B0 (put (((w2.setCell ⟨g, 3, none⟩ (.string (ofL p))).setCell ⟨g, 4, none⟩ (.string (ofL B))).setCell ⟨g, 5, none⟩ (.bool q)) (g + 1) ⟨fo, ho, po, p, B, q⟩)) := Lib.hid (by
        rw [hB0.out]
        have hg : w.heap.size ≤ g := by rw [HT.out.at_]; exact Nat.le_refl _
        exact below_put (((HT.out.below.setCell (p := ⟨g, 3, none⟩) hg _).setCell (p := ⟨g, 4, none⟩) hg _).setCell (p := ⟨g, 5, none⟩) hg _) (by omega) _)
      rw [hk] at HQ
      clear hn hx hk hahead hbehind hhas hne
      go_wp2_with (refine (HQ.out _).mono ?_; rintro e w3 ⟨rfl, rfl⟩)
      refine bodyPost_ret (v := rv (⟨fo, ho, po, p, B, q⟩, 0)) ?_ rfl ⟨rfl, HB.out⟩
      rw [results_cell_tmp rfl]
      exact end_box rfl rfl HE.out
end Go.Proofs.YtmlpdhmafmdkcaaGreatDoor.TPath

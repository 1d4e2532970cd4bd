/- Texts of this seat, one behind another: Step, R7Set, R7One, R7Strip, R7Same. -/
import Derived.Test.YtgkmkkgneipabaaDoorMem
import Derived.Laws.AppendOwn
import Derived.Maps.OwnSet
import Derived.Test.YtgkmkkgneipabaaDoorR7Remove
import Derived.Test.YtgkmkkgneipabaaDoorR7Has
import Derived.Test.YtgkmkkgneipabaaDoorFlds
import Derived.Outline
import Derived.LoopTactic
import Derived.Laws.StructEq
import Derived.Deep.QuietTactic
import Derived.BigQuiet
/- Words for memory, of my own: an object that holds several blocks (F: which), and a world in which only these, and what is new, have turned. No program is named. -/
namespace Go.Proofs.YtgkmkkgneipabaaDoor.Step
open Go.RowKit Mem

/-- w' is w but for the blocks of F and new ones; F' is F and perhaps some of the new ones -/
structure Step (w w' : World) (F F' : Nat → Prop) : Prop where
  os : w'.os = w.os
  tape : w'.tape = w.tape
  output : w'.output = w.output
  size : w.heap.size ≤ w'.heap.size
  block : ∀ k, k < w.heap.size → ¬ F k → w'.heap[k]? = w.heap[k]?
  grow : ∀ k, F' k → F k ∨ (w.heap.size ≤ k ∧ k < w'.heap.size)

section
variable {w w1 w2 w' : World} {F F1 F2 F' : Nat → Prop}
theorem Step.refl (w : World) (F : Nat → Prop) : Step w w F F := ⟨rfl, rfl, rfl, Nat.le_refl _, fun _ _ _ => rfl, fun _ h => .inl h⟩
theorem Step.trans (h : Step w w1 F F1) (k : Step w1 w2 F1 F2) : Step w w2 F F2 :=
  ⟨k.os.trans h.os, k.tape.trans h.tape, k.output.trans h.output, Nat.le_trans h.size k.size,
    fun i hi hn => (k.block i (Nat.lt_of_lt_of_le hi h.size) (fun hf => (h.grow i hf).elim hn (fun ⟨a, _⟩ => by omega))).trans (h.block i hi hn),
    fun i hi => (k.grow i hi).elim (fun hf => (h.grow i hf).elim .inl (fun ⟨a, b⟩ => .inr ⟨a, Nat.lt_of_lt_of_le b k.size⟩)) (fun ⟨a, b⟩ => .inr ⟨Nat.le_trans h.size a, b⟩)⟩
/-- a wider F -/
theorem Step.widen (h : Step w w' F F') {G : Nat → Prop} (hG : ∀ k, F k → G k) : Step w w' G (fun k => F' k ∨ G k) :=
  ⟨h.os, h.tape, h.output, h.size, fun k hk hn => h.block k hk (fun hf => hn (hG k hf)), fun k hk => hk.elim (fun hf => (h.grow k hf).imp (hG k) id) .inl⟩
theorem Step.less (h : Step w w' F F') {G : Nat → Prop} (hG : ∀ k, G k → F' k) : Step w w' F G := { h with grow := fun k hk => h.grow k (hG k hk) }
theorem Step.regrow (h : Step w w' F F') {G : Nat → Prop} (hG : ∀ k, G k → F k ∨ (w.heap.size ≤ k ∧ k < w'.heap.size)) : Step w w' F G := { h with grow := hG }
theorem Step.more (h : Step w w' F F') {G : Nat → Prop} (hG : ∀ k, F k → G k) (hG' : ∀ k, F' k → G k ∨ (w.heap.size ≤ k ∧ k < w'.heap.size)) : Step w w' G F' :=
  ⟨h.os, h.tape, h.output, h.size, fun k hk hn => h.block k hk (fun hf => hn (hG k hf)), hG'⟩
theorem Step.up (h : Step w w' F F') {G : Nat → Prop} (hG : ∀ k, F k → G k) : Step w w' G G :=
  ⟨h.os, h.tape, h.output, h.size, fun k hk hn => h.block k hk (fun hf => hn (hG k hf)), fun _ hk => .inl hk⟩
theorem Step.up2 (h : Step w w' F F') {G : Nat → Prop} (hG : ∀ k, F k → G k) : Step w w' G F' :=
  ⟨h.os, h.tape, h.output, h.size, fun k hk hn => h.block k hk (fun hf => hn (hG k hf)), fun k hk => (h.grow k hk).imp (hG k) id⟩
theorem Step.beyond (h : Step w w1 F F') {G G' : Nat → Prop} (k : Step w1 w2 G G') (hG : ∀ j, G j → w.heap.size ≤ j) : Step w w2 F F' :=
  ⟨k.os.trans h.os, k.tape.trans h.tape, k.output.trans h.output, Nat.le_trans h.size k.size,
    fun i hi hn => (k.block i (Nat.lt_of_lt_of_le hi h.size) (fun hg => by have := hG i hg; omega)).trans (h.block i hi hn),
    fun i hi => (h.grow i hi).imp id (fun ⟨a, b⟩ => ⟨a, Nat.lt_of_lt_of_le b k.size⟩)⟩
theorem Step.of_grown {row : Option Nat} (h : w.grownBy w' row) (hF : ∀ k, row = some k → F k) : Step w w' F F :=
  ⟨h.os, h.tape, h.output, h.size, fun k hk hn => h.block k hk (fun e => hn (hF k e.symm)), fun _ h => .inl h⟩
theorem Step.alloc (w : World) (o : Obj) (F : Nat → Prop) : Step w (w.alloc o) F F := Step.of_grown (World.grownBy_alloc w o none) (fun _ e => by cases e)
theorem Step.drew (w : World) (F : Nat → Prop) : Step w w.drew F F := ⟨rfl, rfl, rfl, Nat.le_refl _, fun _ _ _ => rfl, fun _ h => .inl h⟩
theorem Step.drewN (w : World) (n : Nat) (F : Nat → Prop) : Step w (w.drewN n) F F := ⟨rfl, rfl, rfl, Nat.le_refl _, fun _ _ _ => rfl, fun _ h => .inl h⟩
theorem Step.set_ (w : World) {g : Nat} (hg : F g) (i : Nat) (u : Value) : Step w (w.setCell ⟨g, i, none⟩ u) F F :=
  ⟨rfl, rfl, rfl, by simp [World.setCell], fun k _ hn => Below.heap_setCell w _ u k (fun e => hn (by rw [e]; exact hg)), fun _ h => .inl h⟩
theorem Step.of_below (h : Below w.heap.size w w') (F : Nat → Prop) : Step w w' F F := ⟨h.os, h.tape, h.output, h.size, fun k hk _ => h.block k hk, fun _ h => .inl h⟩
theorem Step.cell (h : Step w w' F F') {b i : Nat} (hb : b < w.heap.size) (hn : ¬ F b) : w'.cell? ⟨b, i, none⟩ = w.cell? ⟨b, i, none⟩ :=
  World.cell?_of_block (w := w) (h.block b hb hn)
theorem Step.has {g : Nat} {t : TypeId} {cs : Array Value} (h : Step w w' F F') (hh : Has w g t cs) (hn : ¬ F g) : Has w' g t cs := ⟨(h.block g hh.lt hn).trans hh.at_⟩
theorem Step.row {base n size : Nat} {e : TypeId} {v : Value} {xs : List Value} (h : Step w w' F F') (hr : w.ownsRow base e size v n xs) (hn : ∀ b, v.ownBlock = some b → ¬ F b) : w'.ownsRow base e size v n xs := by
  refine ⟨hr.1, ?_⟩
  rcases hr.2 with hx | ⟨g, cap, cur, rfl, hb, hgg, rest⟩
  · exact .inl hx
  · refine .inr ⟨g, cap, cur, rfl, hb, ?_, rest⟩
    rw [h.block g (Array.getElem?_eq_some_iff.1 hgg).1 (hn g rfl)]
    exact hgg
theorem Step.map {H : Type} {P : Program} {k : TypeId} {R : Value → Option (DataW H × List MemPlace)} {b n : Nat} {D : DataW H} (h : Step w w' F F') (hm : w.ownsMap P k R b n D) (hn : ¬ F b) : w'.ownsMap P k R b n D := by
  have hlt := hm.lt
  obtain ⟨es, clock, hb, rest⟩ := hm
  exact ⟨es, clock, (h.block b hlt hn).trans hb, rest⟩
theorem Step.below (h : Step w w' F F') {B : Nat} (hB : B ≤ w.heap.size) (hF : ∀ k, F k → B ≤ k) : Below B w w' :=
  ⟨h.os, h.tape, h.output, Nat.le_trans hB h.size |> fun _ => h.size, fun k hk => h.block k (by omega) (fun hf => by have := hF k hf; omega)⟩
end

/-- F, and one block more -/
def plus (F : Nat → Prop) (m : Nat) : Nat → Prop := fun k => F k ∨ k = m
theorem Step.with_ {w w' : World} {F F' : Nat → Prop} (h : Step w w' F F') (m : Nat) : Step w w' (plus F m) (plus F' m) :=
  ⟨h.os, h.tape, h.output, h.size, fun k hk hn => h.block k hk (fun hf => hn (.inl hf)), fun k hk => hk.elim (fun hf => (h.grow k hf).imp .inl id) (fun e => .inl (.inr e))⟩
theorem Step.with2 {w w' : World} {F F' : Nat → Prop} {m : Nat} (h : Step w w' (plus F m) F') : Step w w' (plus F m) (plus F' m) :=
  h.regrow (fun k hk => hk.elim (h.grow k) (fun e => .inl (.inr e)))
theorem Step.only {w w' : World} {G : Nat → Prop} (h : Step w w' G G) (F : Nat → Prop) {m : Nat} (hG : ∀ k, G k → k = m) : Step w w' (plus F m) (plus F m) := h.up (fun k hk => .inr (hG k hk))
theorem Step.none {w w' : World} {G : Nat → Prop} (h : Step w w' G G) (F : Nat → Prop) (hG : ∀ k, ¬ G k) : Step w w' F F := h.up (fun k hk => (hG k hk).elim)
theorem new_cell {W : World} {cs : Array Value} {t : TypeId} {n : Nat} (h : W.heap.size = n) (i : Nat) : (W.alloc (.cells cs t)).cell? ⟨n, i, none⟩ = cs[i]? := by
  subst h
  exact (Has.new W t cs).cell i
theorem row_lt {w : World} {base n size : Nat} {e : TypeId} {v : Value} {xs : List Value} (hr : w.ownsRow base e size v n xs) {b : Nat} (h : v.ownBlock = some b) : b < w.heap.size := (hr.lt b h).2
end Go.Proofs.YtgkmkkgneipabaaDoor.Step

/- Layer 7, the document's own Set. -/
namespace Go.Proofs.YtgkmkkgneipabaaDoor.R7Set
open Go.ChangeShapes Go.WideShapes Go.ChangeAt Go.RowKit LexPure Bytes Ret Rows1 FieldsPure Flds RAlike7 R7Get R7Remove Mem
set_option maxRecDepth 20000
set_option maxHeartbeats 1600000 in
theorem rset_any (v : Value) (G : List HField) (n x : ByteArray) (hn : n.size ≤ 1048576) (hG : Few G) (hle2 : G.length ≤ 1048576) (w : World) (hF : FL w v G) :
    Calls Tryd.prog 21 #[v, .string n, .string x] w fun e w' => ∃ v', e = .returned v' ∧ w'.ownsRow w.heap.size 38 2 v' (setF G (toL n) (toL x)).length (encFs (setF G (toL n) (toL x))) ∧ Below w.heap.size w w' := by
  obtain ⟨i0, hi, hz0, hz1, hz2⟩ := info_parts infoF
  have HR := Lib.hid (rremove_any v G n hn hG hle2 w hF)
  have hlen := remove_len G (toL n)
  have HX : Hid (encFs (setF G (toL n) (toL x)) = encFs (remove G (toL n)) ++ encF (toL n, toL x)) := Lib.hid (by unfold setF; rw [encFs_append]; rfl)
  have HL : Hid ((setF G (toL n) (toL x)).length = (remove G (toL n)).length + 1) := Lib.hid (by unfold setF; simp)
  clear hF hG
  go_enter Tryd.func21, Tryd.ntmps21
  go_wp2_with fail
  refine HR.out.mono ?_
  rintro e w2 ⟨v2, rfl, hrow2, hb2⟩
  have hrow := row_below hrow2 ((Below.refl w2.heap.size w2).alloc (Nat.le_refl _) (.cells #[.string n, .string x] 38))
  have HB := Lib.hid (hb2.alloc hb2.size (.cells #[.string n, .string x] 38))
  have HLT := Lib.hid (fun j (hj : v2.ownBlock = some j) => (hrow2.lt j hj).1)
  have HN := Lib.hid (World.news_of_block (heap_alloc_new w2 (.cells #[.string n, .string x] 38)))
  clear hrow2 hb2 HR
  go_wp2_with (at_builtin; refine wpList_append_own_at _ rfl (.tmp 11) (.tmp 15) 22 rfl w.heap.size 38 i0 _ 2 32 Tryd.underlying22 hi hz0 hz1 hz2 rfl (by omega) _ _ _ rfl hrow ⟨w2.heap.size, 0, none⟩ 1 1 [.string n, .string x] rfl rfl HN.out (by simp [Value.oneCell']) (by simp only [maxLen]; omega) (by omega) HB.out.size ?_; intro v4 w4 hown4 hg4 _ hat4)
  have HE : Hid (w4.ownsRow w.heap.size 38 2 v4 (setF G (toL n) (toL x)).length (encFs (setF G (toL n) (toL x))) ∧ Below w.heap.size w w4) := Lib.hid (by
    rw [HX.out, HL.out]
    unfold encF
    rw [ofL_toL, ofL_toL]
    exact ⟨hown4, Below.grown HB.out hg4 HB.out.size HLT.out⟩)
  clear hown4 hg4 hat4 hrow
  go_wp2_with fail
  go_ret
  exact ⟨_, rfl, HE.out⟩
end Go.Proofs.YtgkmkkgneipabaaDoor.R7Set

/- Layer 7, the document's own One. -/
namespace Go.Proofs.YtgkmkkgneipabaaDoor.R7One
open Go.ChangeShapes Go.WideShapes Go.ChangeAt Go.RowKit LexPure Bytes Ret Rows1 Texts FieldsPure Flds RAlike7 R7Get R7Has Mem
set_option maxRecDepth 20000
theorem fixed_short (k : Nat) (h : k < fixed.length) : fixed[k].length ≤ 1048576 := by
  have : fixed.all (fun f => decide (f.length ≤ 1048576)) = true := by decide
  have := List.all_eq_true.1 this _ (List.getElem_mem h)
  exact of_decide_eq_true this
set_option maxHeartbeats 1600000 in
theorem r7one_any (v : Value) (G : List HField) (n : ByteArray) (hn : n.size ≤ 1048576) (hG : Few G) (hle2 : G.length ≤ 1048576) (w : World) (hF : FL w v G) :
    Calls Tryd.prog 43 #[v, .string n] w fun e w' => e = .returned (.bool (one G (toL n))) ∧ Below w.heap.size w w' := by
  have hcells : ∀ j (hj : j < 7), (w.alloc (.cells #[.string ⟨#[99, 111, 110, 110, 101, 99, 116, 105, 111, 110]⟩, .string ⟨#[107, 101, 101, 112, 45, 97, 108, 105, 118, 101]⟩, .string ⟨#[112, 114, 111, 120, 121, 45, 99, 111, 110, 110, 101, 99, 116, 105, 111, 110]⟩, .string ⟨#[116, 101]⟩, .string ⟨#[116, 114, 97, 105, 108, 101, 114]⟩, .string ⟨#[116, 114, 97, 110, 115, 102, 101, 114, 45, 101, 110, 99, 111, 100, 105, 110, 103]⟩, .string ⟨#[117, 112, 103, 114, 97, 100, 101]⟩] 63)).cell? ⟨w.heap.size, j, none⟩ = some (.string (ofL (fixed[j]'hj))) := fun j hj => by
    have h := (Has.new w 63 #[.string ⟨#[99, 111, 110, 110, 101, 99, 116, 105, 111, 110]⟩, .string ⟨#[107, 101, 101, 112, 45, 97, 108, 105, 118, 101]⟩, .string ⟨#[112, 114, 111, 120, 121, 45, 99, 111, 110, 110, 101, 99, 116, 105, 111, 110]⟩, .string ⟨#[116, 101]⟩, .string ⟨#[116, 114, 97, 105, 108, 101, 114]⟩, .string ⟨#[116, 114, 97, 110, 115, 102, 101, 114, 45, 101, 110, 99, 111, 100, 105, 110, 103]⟩, .string ⟨#[117, 112, 103, 114, 97, 100, 101]⟩]).cell j
    rw [h]
    match j, hj with
    | 0, _ => rfl
    | 1, _ => rfl
    | 2, _ => rfl
    | 3, _ => rfl
    | 4, _ => rfl
    | 5, _ => rfl
    | 6, _ => rfl
  have hbl := (Below.refl w.heap.size w).alloc (Nat.le_refl _) (.cells #[.string ⟨#[99, 111, 110, 110, 101, 99, 116, 105, 111, 110]⟩, .string ⟨#[107, 101, 101, 112, 45, 97, 108, 105, 118, 101]⟩, .string ⟨#[112, 114, 111, 120, 121, 45, 99, 111, 110, 110, 101, 99, 116, 105, 111, 110]⟩, .string ⟨#[116, 101]⟩, .string ⟨#[116, 114, 97, 105, 108, 101, 114]⟩, .string ⟨#[116, 114, 97, 110, 115, 102, 101, 114, 45, 101, 110, 99, 111, 100, 105, 110, 103]⟩, .string ⟨#[117, 112, 103, 114, 97, 100, 101]⟩] 63)
  have hsz : w.heap.size < (w.alloc (.cells #[.string ⟨#[99, 111, 110, 110, 101, 99, 116, 105, 111, 110]⟩, .string ⟨#[107, 101, 101, 112, 45, 97, 108, 105, 118, 101]⟩, .string ⟨#[112, 114, 111, 120, 121, 45, 99, 111, 110, 110, 101, 99, 116, 105, 111, 110]⟩, .string ⟨#[116, 101]⟩, .string ⟨#[116, 114, 97, 105, 108, 101, 114]⟩, .string ⟨#[116, 114, 97, 110, 115, 102, 101, 114, 45, 101, 110, 99, 111, 100, 105, 110, 103]⟩, .string ⟨#[117, 112, 103, 114, 97, 100, 101]⟩] 63)).heap.size := by simp
  have HF := Lib.hid (hF.below hbl)
  replace hcells := Lib.hid hcells
  replace hbl := Lib.hid hbl
  replace hsz := Lib.hid hsz
  have HV : Hid (one G (toL n) = (fixed.any (fun x => alike x (toL n)) || hasE G CONNECTION (toL n))) := Lib.hid rfl
  have HH := Lib.hid (fun w hF => r7has_any v G ⟨#[99, 111, 110, 110, 101, 99, 116, 105, 111, 110]⟩ n (by decide) hn hG hle2 w hF)
  rw [show toL ⟨#[99, 111, 110, 110, 101, 99, 116, 105, 111, 110]⟩ = CONNECTION from rfl] at HH
  obtain ⟨b, hb⟩ : ∃ b, b = one G (toL n) := ⟨_, rfl⟩
  rw [← hb] at HV ⊢
  clear hb hF hG
  generalize hasE G CONNECTION (toL n) = c at *
  go_enter Tryd.func43, Tryd.ntmps43
  go_wp2_with fail
  generalize w.alloc (.cells #[.string ⟨#[99, 111, 110, 110, 101, 99, 116, 105, 111, 110]⟩, .string ⟨#[107, 101, 101, 112, 45, 97, 108, 105, 118, 101]⟩, .string ⟨#[112, 114, 111, 120, 121, 45, 99, 111, 110, 110, 101, 99, 116, 105, 111, 110]⟩, .string ⟨#[116, 101]⟩, .string ⟨#[116, 114, 97, 105, 108, 101, 114]⟩, .string ⟨#[116, 114, 97, 110, 115, 102, 101, 114, 45, 101, 110, 99, 111, 100, 105, 110, 103]⟩, .string ⟨#[117, 112, 103, 114, 97, 100, 101]⟩] 63) = W at HF hcells hbl hsz ⊢
  generalize w.heap.size = g at hcells hsz ⊢
  go_loopw [6] (fun i wr => ∃ k : Nat, k ≤ 7 ∧ i = .int .i64 k ∧ Hid ((fixed.take k).any (fun x => alike x (toL n)) = false) ∧ Hid (Below W.heap.size W wr)) (fun i _ => 7 - (intOf i).toNat)
  case atStart => exact ⟨0, by omega, rfl, Lib.hid rfl, Lib.hid (Below.refl _ _)⟩
  case round =>
    obtain ⟨k, hk, rfl, ha, HB⟩ := hrel
    by_cases hlt : k < 7
    · have hki : (k : Int) < 7 := by omega
      have hlf : k < fixed.length := hlt
      have c1 := (HB.out.cell (p := ⟨g, k, none⟩) hsz.out).trans (hcells.out k hlt)
      have hfl : (fixed[k]'hlf).length ≤ 1048576 := fixed_short k hlf
      have HA := Lib.hid (fun w => ralike7_any (ofL (fixed[k]'hlf)) n (by rw [ofL_size]; omega) (by omega) w)
      rw [toL_ofL] at HA
      cases hh : alike (fixed[k]'hlf) (toL n)
      · have HN : Hid ((fixed.take (k + 1)).any (fun x => alike x (toL n)) = false) := Lib.hid (by
          rw [List.take_add_one, List.getElem?_eq_getElem hlf, List.any_append, ha.out]
          simp [hh])
        rw [hh] at HA
        clear hh ha
        generalize ofL (fixed[k]'hlf) = F at *
        go_wp2_with fail
        refine (HA.out _).mono ?_
        rintro e w3 ⟨rfl, hb3⟩
        have HB3 := Lib.hid (below_chain HB.out hb3)
        clear hb3 c1
        go_wp2_with fail
        go_roundw
        case rel => exact ⟨k + 1, by omega, by go_num, HN, HB3⟩
        case measure => simp [intOf]; omega
      · have HV2 : Hid (b = true) := Lib.hid (by
          rw [HV.out, Bool.or_eq_true]
          left
          rw [List.any_eq_true]
          exact ⟨_, List.getElem_mem hlf, hh⟩)
        rw [hh] at HA
        clear hh ha
        generalize ofL (fixed[k]'hlf) = F at *
        go_wp2_with fail
        refine (HA.out _).mono ?_
        rintro e w3 ⟨rfl, hb3⟩
        have HB3 := Lib.hid (hbl.out.trans ((below_chain HB.out hb3).mono hbl.out.size))
        clear hb3 c1
        go_wp2_with fail
        go_ret
        exact ⟨ret_bool HV2.out.symm, HB3.out⟩
    · have HV2 : Hid (b = c) := Lib.hid (by
        have h := ha.out
        rw [List.take_of_length_le (by exact Nat.not_lt.1 hlt)] at h
        rw [HV.out, h, Bool.false_or])
      have HFL := Lib.hid (HF.out.below HB.out)
      clear ha
      go_wp2_with fail
      refine (HH.out _ HFL.out).mono ?_
      rintro e w3 ⟨rfl, hb3⟩
      have HB3 := Lib.hid (hbl.out.trans ((below_chain HB.out hb3).mono hbl.out.size))
      clear hb3
      go_wp2_with fail
      go_ret
      exact ⟨ret_bool HV2.out.symm, HB3.out⟩
end Go.Proofs.YtgkmkkgneipabaaDoor.R7One

/- Layer 7, the document's own Strip. -/
namespace Go.Proofs.YtgkmkkgneipabaaDoor.R7Strip
open Go.ChangeShapes Go.WideShapes Go.ChangeAt Go.RowKit LexPure Bytes Ret Rows1 FieldsPure Flds RAlike7 R7Get R7Remove R7One Mem
set_option maxRecDepth 20000
/-- the fields of l that by G don't concern one connection alone -/
def stripBy (G l : List HField) : List HField := l.filter (fun f => !one G f.1)
theorem strip_snoc (G l : List HField) (f : HField) : stripBy G (l ++ [f]) = if one G f.1 then stripBy G l else stripBy G l ++ [f] := by
  unfold stripBy
  rw [List.filter_append]
  cases h : one G f.1 <;> simp [h]
set_option maxHeartbeats 1600000 in
theorem r7strip_any (v : Value) (G : List HField) (hG : Few G) (hle2 : G.length ≤ 1048576) (w : World) (hF : FL w v G) :
    Calls Tryd.prog 25 #[v] w fun e w' => ∃ v', e = .returned v' ∧ w'.ownsRow w.heap.size 38 2 v' (strip G).length (encFs (strip G)) ∧ Below w.heap.size w w' := by
  obtain ⟨i0, hi, hz0, hz1, hz2⟩ := info_parts infoF
  obtain ⟨p, cap, rfl, hle, hc⟩ := hF
  have HOne := Lib.hid (fun (m : ByteArray) (hm : m.size ≤ 1048576) w hF => r7one_any (.slice p G.length cap) G m hm hG hle2 w hF)
  have HFL : Hid (FL w (.slice p G.length cap) G) := Lib.hid ⟨p, cap, rfl, hle, hc⟩
  replace hc := Lib.hid hc
  replace hG := Lib.hid hG
  have HK := Lib.hid (Kept.start w)
  go_enter Tryd.func25, Tryd.ntmps25
  go_wp2_with fail
  go_loopw [3, 4] (fun x i wr => ∃ k : Nat, k ≤ G.length ∧ i = .int .i64 k ∧ Hid (Kept w (stripBy G (G.take k)) x wr)) (fun _ i _ => G.length - (intOf i).toNat)
  case atStart => exact ⟨0, Nat.zero_le _, rfl, HK⟩
  case round =>
    obtain ⟨k, hk, rfl, HI⟩ := hrel
    clear HK
    by_cases hlt : k < G.length
    · obtain ⟨g, o, rfl, hgl, hcell⟩ := hc.out (by omega)
      obtain ⟨c1, c2⟩ := hcell k hlt
      have hki : (k : Int) < (G.length : Int) := by omega
      obtain ⟨s1, s2⟩ := hG.out k hlt
      have HA := Lib.hid (HOne.out (ofL G[k].1) (by rw [ofL_size]; omega) _ (HFL.out.below HI.out.below))
      rw [toL_ofL] at HA
      have HT : Hid (stripBy G (G.take (k + 1)) = if one G G[k].1 then stripBy G (G.take k) else stripBy G (G.take k) ++ [G[k]]) := Lib.hid (by rw [← strip_snoc, List.take_add_one, List.getElem?_eq_getElem hlt]; rfl)
      replace c1 := (HI.out.below.cell (p := ⟨g, o + k * 2, none⟩) hgl).trans c1
      replace c2 := (HI.out.below.cell (p := ⟨g, o + k * 2 + 1, none⟩) hgl).trans c2
      have hgl2 := Nat.lt_of_lt_of_le hgl HI.out.below.size
      clear hcell
      cases hh : one G G[k].1
      · rw [hh] at HT
        rw [hh] at HA
        clear hh
        go_wp2_with fail
        refine HA.out.mono ?_
        rintro e w2 ⟨rfl, hb2⟩
        have HK2 := (HI.out.call hb2).alloc (.cells #[.string (ofL G[k].1), .string (ofL G[k].2)] 38)
        have hlen : (stripBy G (G.take k)).length ≤ k := Nat.le_trans (List.length_filter_le _ _) (List.length_take_le _ _)
        replace c1 := (hb2.cell (p := ⟨g, o + k * 2, none⟩) hgl2).trans c1
        replace c2 := (hb2.cell (p := ⟨g, o + k * 2 + 1, none⟩) hgl2).trans c2
        have HN := Lib.hid (World.news_of_block (heap_alloc_new w2 (.cells #[.string (ofL G[k].1), .string (ofL G[k].2)] 38)))
        have HKH := Lib.hid HK2
        have hrow := HK2.row
        clear hb2 HK2
        go_wp2_with (at_builtin; refine wpList_append_own_at _ rfl (.tmp 19) (.tmp 24) 22 rfl w.heap.size 38 i0 _ 2 32 Tryd.underlying22 hi hz0 hz1 hz2 rfl (by omega) _ _ _ rfl hrow ⟨w2.heap.size, 0, none⟩ 1 1 (encF G[k]) rfl rfl HN.out (by simp [encF, Value.oneCell']) (by simp only [maxLen]; omega) (by omega) (by have := HKH.out.below.size; exact this) ?_; intro v4 w4 hown4 hg4 _ hat4)
        have HK3 : Hid (Kept w (stripBy G (G.take (k + 1))) v4 w4) := Lib.hid (by
          rw [HT.out]
          refine ⟨?_, Below.grown HKH.out.below hg4 HKH.out.below.size HKH.out.lt⟩
          rw [if_neg (by decide), encFs_append, List.length_append]
          exact hown4)
        clear hown4 hg4 hat4 hrow
        go_wp2_with fail
        go_roundw
        case rel => exact ⟨k + 1, by omega, by go_num, HK3⟩
        case measure => simp [intOf]; omega
      · rw [hh] at HT
        rw [hh] at HA
        clear hh
        go_wp2_with fail
        refine HA.out.mono ?_
        rintro e w2 ⟨rfl, hb2⟩
        have HK3 : Hid (Kept w (stripBy G (G.take (k + 1))) u3 w2) := Lib.hid (by
          rw [HT.out]
          exact HI.out.call hb2)
        clear hb2
        go_wp2_with fail
        go_roundw
        case rel => exact ⟨k + 1, by omega, by go_num, HK3⟩
        case measure => simp [intOf]; omega
    · have hall : G.take k = G := List.take_of_length_le (by omega)
      have HE := HI.out
      rw [hall] at HE
      have HEH := Lib.hid HE
      clear HE HI hall
      go_wp2_with fail
      go_ret
      exact ⟨_, rfl, HEH.out.row, HEH.out.below⟩
end Go.Proofs.YtgkmkkgneipabaaDoor.R7Strip

/- Layer 7, the document's own Same. -/
namespace Go.Proofs.YtgkmkkgneipabaaDoor.R7Same
open Go.ChangeShapes Go.WideShapes Go.ChangeAt Go.RowKit LexPure Bytes Ret Rows1 FieldsPure Flds Mem
set_option maxRecDepth 20000
theorem neqF (a b c d : ByteArray) (p q : Bool) (h1 : (a.toList == c.toList) = p) (h2 : (b.toList == d.toList) = q) (w : World) : (binOp .neq 38 (.agg #[.string a, .string b]) (.agg #[.string c, .string d])).run Tryd.prog w = .ok (.bool (!(p && q))) w := by
  have u9 := Tryd.underlying9
  have a9 := Tryd.isAgg9
  have z9 := Tryd.sizeOf9
  have hS : Tryd.prog.underlying 38 = some (.struct (Tryd.prog.fieldsOf 38)) := by kernel_rfl
  have hp : Tryd.prog.stoodInHeld 38 = false := by kernel_rfl
  rw [run_neq_struct, show (10000 : Nat) = 9999 + 1 from rfl, run_equalIn_agg w 9999 38 _ _ hS hp]
  simp only [Program.fieldsOf, Tryd.underlying38]
  cases p
  · go_simp
  · cases q
    · go_simp
    · go_simp
theorem take_ext7 {G H : List HField} {k : Nat} (hk : k < G.length) (hk2 : k < H.length) (h : G.take k = H.take k) (he : G[k] = H[k]) : G.take (k + 1) = H.take (k + 1) := by
  rw [List.take_add_one, List.take_add_one, h, List.getElem?_eq_getElem hk, List.getElem?_eq_getElem hk2, he]
set_option maxHeartbeats 1600000 in
theorem r7same_any (v1 v2 : Value) (G H : List HField) (w : World) (h1 : FL w v1 G) (h2 : FL w v2 H) :
    Calls Tryd.prog 19 #[v1, v2] w fun e w' => e = .returned (.bool (G == H)) ∧ ∃ m, w' = w.drewN m := by
  obtain ⟨p1, c1, rfl, hn1, HC1⟩ := h1
  obtain ⟨p2, c2, rfl, hn2, HC2⟩ := h2
  replace HC1 := Lib.hid HC1
  replace HC2 := Lib.hid HC2
  by_cases hl : G.length = H.length
  · have hq : ((G.length : Int) != (H.length : Int)) = false := by rw [hl]; exact bne_self_eq_false _
    go_enter Tryd.func19, Tryd.ntmps19
    go_wp2_with fail
    go_loopw [5] (fun i wr => ∃ k : Nat, k ≤ G.length ∧ i = .int .i64 k ∧ Hid (G.take k = H.take k) ∧ Hid (∃ m, wr = w.drewN m)) (fun i _ => G.length - (intOf i).toNat)
    case atStart => exact ⟨0, Nat.zero_le _, rfl, Lib.hid rfl, Lib.hid ⟨0, rfl⟩⟩
    case round =>
      obtain ⟨k, hk, rfl, ht, hw⟩ := hrel
      obtain ⟨m, rfl⟩ := hw.out
      by_cases hlt : k < G.length
      · have hki : (k : Int) < (G.length : Int) := by omega
        have hkj : (k : Int) < (H.length : Int) := by omega
        obtain ⟨g1, o1, rfl, _, hcell1⟩ := HC1.out (by omega)
        obtain ⟨g2, o2, rfl, _, hcell2⟩ := HC2.out (by omega)
        obtain ⟨d1, d3⟩ := hcell1 k hlt
        obtain ⟨d2, d4⟩ := hcell2 k (by omega)
        clear hcell1 hcell2
        have hd : ∀ q : Bool, (G[k] == H[k]'(by omega)) = q → (((ofL G[k].1).toList == (ofL (H[k]'(by omega)).1).toList) && ((ofL G[k].2).toList == (ofL (H[k]'(by omega)).2).toList)) = q := fun q hq => by
          rw [same_ofL, same_ofL]; exact hq
        by_cases he : G[k] = H[k]'(by omega)
        · have HT := Lib.hid (take_ext7 hlt (by omega) ht.out he)
          have hnq := fun w => neqF (ofL G[k].1) (ofL G[k].2) (ofL (H[k]'(by omega)).1) (ofL (H[k]'(by omega)).2) true true (by rw [same_ofL, he]; exact beq_self_eq_true _) (by rw [same_ofL, he]; exact beq_self_eq_true _) w
          clear he hd
          generalize ofL G[k].1 = s1 at *
          generalize ofL G[k].2 = s2 at *
          generalize ofL (H[k]'(by omega)).1 = s3 at *
          generalize ofL (H[k]'(by omega)).2 = s4 at *
          clear HC1 HC2 ht hw
          go_wp2_with fail
          go_quiet (fail)
          have HW : Hid (∃ m1, (w.drewN m).drewN nq = w.drewN m1) := Lib.hid ⟨m + nq, by simp⟩
          generalize ((w.drewN m).drewN nq) = w2 at *
          go_wp2_with fail
          go_roundw
          case rel => exact ⟨k + 1, by omega, by go_num, HT, HW⟩
          case measure => simp [intOf]; omega
        · have HV : Hid ((G == H) = false) := Lib.hid (by
            rw [beq_eq_false_iff_ne]
            intro h
            subst h
            exact he rfl)
          have hde := hd false (beq_eq_false_iff_ne.2 he)
          have hnq : ∀ w, (binOp .neq 38 (.agg #[.string (ofL G[k].1), .string (ofL G[k].2)]) (.agg #[.string (ofL (H[k]'(by omega)).1), .string (ofL (H[k]'(by omega)).2)])).run Tryd.prog w = .ok (.bool true) w := fun w => by
            have := neqF (ofL G[k].1) (ofL G[k].2) (ofL (H[k]'(by omega)).1) (ofL (H[k]'(by omega)).2) _ _ rfl rfl w
            rw [hde] at this
            exact this
          clear he hd hde
          generalize ofL G[k].1 = s1 at *
          generalize ofL G[k].2 = s2 at *
          generalize ofL (H[k]'(by omega)).1 = s3 at *
          generalize ofL (H[k]'(by omega)).2 = s4 at *
          clear HC1 HC2 ht hw
          go_wp2_with fail
          go_quiet (fail)
          have HW : Hid (∃ m1, (w.drewN m).drewN nq = w.drewN m1) := Lib.hid ⟨m + nq, by simp⟩
          generalize ((w.drewN m).drewN nq) = w2 at *
          go_wp2_with fail
          go_ret
          exact ⟨ret_bool HV.out.symm, HW.out⟩
      · have HV : Hid ((G == H) = true) := Lib.hid (by
          have h := ht.out
          rw [List.take_of_length_le (by omega), List.take_of_length_le (by omega)] at h
          rw [h]
          exact beq_self_eq_true _)
        have HW := Lib.hid hw.out
        clear hw
        generalize (w.drewN m) = w2 at *
        go_wp2_with fail
        go_ret
        exact ⟨ret_bool HV.out.symm, HW.out⟩
  · have HV : Hid ((G == H) = false) := Lib.hid (by
      rw [beq_eq_false_iff_ne]
      intro h
      exact hl (by rw [h]))
    have hq : ((G.length : Int) != (H.length : Int)) = true := by
      rw [bne_iff_ne]
      omega
    go_enter Tryd.func19, Tryd.ntmps19
    go_wp2_with fail
    go_ret
    exact ⟨ret_bool HV.out.symm, 0, rfl⟩
end Go.Proofs.YtgkmkkgneipabaaDoor.R7Same

/- Texts of this seat, one behind another: OutInt, Read, Ints, OutflowInterimW. -/
import Derived.ChangeArms
import Derived.ChangeMaps5
import Derived.DataReads
import Derived.Deep.Fields
import Derived.ProofKit
import Derived.Test.YtggmafmebocoaaaGreatDoorP
import Derived.Test.YtggmafmebocoaaaGreatDoorB
import Derived.Test.YtggmafmebocoaaaGreatDoorC1
/- Layer 12: interim heads change nothing. No program is named. -/
namespace Go.Proofs.YtggmafmebocoaaaGreatDoor.OutInt
open Bytes LexPure LexNum FieldsPure HeadPure FramePure ChunkPure OutPure OutSay OutSpc OutEnd DecN
set_option maxRecDepth 20000
def HT1 : List UInt8 := [72, 84, 84, 80, 47, 49, 46, 49, 32]
def WT1 : List UInt8 := [32, 87, 97, 105, 116, 13, 10, 88, 58, 32, 121, 13, 10, 13, 10]
def intL (n : Nat) : List UInt8 := HT1 ++ decN n ++ WT1
theorem int_read : ∀ n : Fin 100, (match read8 true (HT1 ++ [decB ((n.1 + 100) / 100), decB ((n.1 + 100) / 10 % 10), decB ((n.1 + 100) % 10)] ++ WT1) with | .done h k => h.status == ((n.1 + 100 : Nat) : Int) && k == 27 | _ => false) = true := by decide +kernel
theorem int_len {n : Nat} (h1 : 100 ≤ n) (h2 : n < 200) : (intL n).length = 27 := by
  unfold intL
  rw [decN_three h1 (by omega)]
  rfl
theorem int_step {n : Nat} (h1 : 100 ≤ n) (h2 : n < 200) (h3 : n ≠ 101) (x : List UInt8) : headsOf (intL n ++ x) = headsOf x := by
  have h := int_read ⟨n - 100, by omega⟩
  have e : n - 100 + 100 = n := by omega
  dsimp only at h
  rw [e, ← decN_three h1 (by omega)] at h
  have hl := int_len h1 h2
  cases hr : read8 true (intL n) with
  | wait => unfold intL at hr; rw [hr] at h; cases h
  | bad e => unfold intL at hr; rw [hr] at h; cases h
  | done hd k =>
    have hr' := hr
    unfold intL at hr'
    rw [hr'] at h
    simp only [Bool.and_eq_true, beq_iff_eq] at h
    obtain ⟨e1, e2⟩ := h
    have ha := read_append true (intL n) x (by rw [hr]; exact fun y => by cases y)
    rw [hr] at ha
    rw [heads_step ha (by unfold interim; rw [e1]; simp; omega), e2, ← hl, List.drop_left]
end Go.Proofs.YtggmafmebocoaaaGreatDoor.OutInt

/- How an argument that is read as data lies in memory: slices, structs, numbers, texts. No program is named. -/
namespace Go.Proofs.YtggmafmebocoaaaGreatDoor.Rdg
open Go.ChangeShapes Go.WideShapes Go.RowKit
variable {H : Type} {enc : TypeId × Value → H} {P : Program} {w : World}

/-- cells cs read as datum d, in the way in which a law's arguments are read -/
def Rd (enc : TypeId × Value → H) (P : Program) (w : World) (t : TypeId) (cs : List Value) (d : DataW H) : Prop :=
  ∃ m pl, DataW.trod enc P w 0 (fun _ => true) true m t cs = some (d, pl)

theorem cell_lt {p : Addr} {v : Value} (h : w.cell? p = some v) : p.block < w.heap.size := by
  unfold World.cell? at h
  rcases Nat.lt_or_ge p.block w.heap.size with hl | hl
  · exact hl
  · rw [Array.getElem?_eq_none hl] at h; simp at h
theorem cell_spot {p : Addr} {v : Value} (h : w.cell? p = some v) : p.spot = none := by
  unfold World.cell? at h
  split at h
  · split at h
    · cases h
    · rename_i hs
      simpa using hs
  · cases h
theorem add_off (b o i : Nat) : Addr.add ⟨b, o, none⟩ i = ⟨b, o + i, none⟩ := by
  unfold Addr.add
  split <;> simp_all
theorem add_add (a : Addr) (i j : Nat) : (a.add i).add j = a.add (i + j) := by
  unfold Addr.add
  by_cases hi : i = 0 <;> by_cases hj : j = 0 <;> simp [hi, hj, Nat.add_assoc]

theorem rd_of {t : TypeId} {v : Value} {d : DataW H} {ps : List MemPlace} (h : DataW.Trod enc P w 0 (fun _ => true) true t v d ps) : Rd enc P w t v.cells.toList d := by
  obtain ⟨m, hm⟩ := h
  exact ⟨m, ps, hm⟩

theorem Rd.int {t : TypeId} {k : IntKind} {cs : List Value} {d : DataW H} (h : Rd enc P w t cs d) (ht : P.underlying t = some (.int k)) : ∃ n, cs = [.int k n] ∧ d = .lit (.int k n) ∧ (Lit.int k n).wf = true := by
  obtain ⟨m, pl, hm⟩ := h
  obtain ⟨n, h1, h2, h3⟩ := DataW.trod_int ht hm
  exact ⟨n, h1, (Prod.mk.inj h2).1, h3⟩
theorem Rd.string {t : TypeId} {cs : List Value} {d : DataW H} (h : Rd enc P w t cs d) (ht : P.underlying t = some .string) : ∃ s : ByteArray, cs = [.string s] ∧ d = .lit (.string s.data.toList) ∧ s.size ≤ maxLen := by
  obtain ⟨m, pl, hm⟩ := h
  obtain ⟨n, h1, h2, h3⟩ := DataW.trod_string ht hm
  exact ⟨n, h1, (Prod.mk.inj h2).1, h3⟩
theorem Rd.struct {t : TypeId} {fs : Array Field} {cs : List Value} {d : DataW H} (h : Rd enc P w t cs d) (ht : P.underlying t = some (.struct fs)) :
    ∃ ds : List (DataW H), d = .agg ds ∧ cs.length = P.cellsOf t ∧ ds.length = fs.size ∧ ∀ (i : Nat) (f : Field), fs[i]? = some f → ∃ di, ds[i]? = some di ∧ Rd enc P w f.type ((cs.drop f.offset).take (P.cellsOf f.type)) di := by
  obtain ⟨m, pl, hm⟩ := h
  obtain ⟨xs, n, _, h2, h3, h4, h5⟩ := DataW.trod_struct ht hm
  refine ⟨xs.map (·.1), (Prod.mk.inj h2).1, h3, by simpa using h4, fun i f hf => ?_⟩
  have hi : i < xs.length := by rw [h4]; exact (Array.getElem?_eq_some_iff.1 hf).1
  refine ⟨xs[i].1, by simp [hi], n, xs[i].2, ?_⟩
  rw [h5 i f hf, List.getElem?_eq_getElem hi]
theorem Rd.slice_any {t e : TypeId} {cs : List Value} {d : DataW H} (h : Rd enc P w t cs d) (ht : P.underlying t = some (.slice e)) :
    ∃ (A : Option Addr) (n c : Nat) (D S : List (DataW H)), cs = [.slice A n c] ∧ n ≤ c ∧ c ≤ maxLen ∧ ((d = .nil ∧ n = 0 ∧ c = 0 ∧ A = none ∧ D = []) ∨ (d = .slice D S ∧ D.length = n ∧ S.length = c - n ∧ A.isSome = true)) ∧
      ∀ i, i < n → ∃ (a : Addr) (xs : List Value) (di : DataW H), A = some a ∧ D[i]? = some di ∧ xs.length = P.cellsOf e ∧ (∀ j u, xs[j]? = some u → w.cell? (a.add (i * P.cellsOf e + j)) = some u) ∧ Rd enc P w e xs di := by
  obtain ⟨m, pl, hm⟩ := h
  rcases DataW.trod_slice ht hm with ⟨h1, h2⟩ | ⟨a, len, cap, elems, rest, n, _, h2, h3, hb, hl, hmx, hlen, hel, hsp, hns⟩
  · exact ⟨none, 0, 0, [], [], h1, Nat.le_refl _, Nat.zero_le _, .inl ⟨(Prod.mk.inj h2).1, rfl, rfl, rfl, rfl⟩, fun i hi => absurd hi (by omega)⟩
  · refine ⟨some a, len, cap, elems.map (·.1), rest.map (·.1), h2, hl, hmx, .inr ⟨(Prod.mk.inj h3).1, by simpa using hlen, by simpa using (hsp rfl).1, rfl⟩, fun i hi => ?_⟩
    have hi' : i < elems.length := by omega
    have he := hel i hi
    rw [List.getElem?_eq_getElem hi'] at he
    obtain ⟨xs, hx, hy⟩ := Option.bind_eq_some_iff.1 he
    obtain ⟨_, hcl, hat⟩ := World.cells?_some hx
    refine ⟨a, xs, elems[i].1, rfl, by simp [hi'], hcl, fun j u hu => ?_, n, elems[i].2, hy⟩
    have hj : j < P.cellsOf e := by rw [← hcl]; exact (List.getElem?_eq_some_iff.1 hu).1
    rw [← add_add, hat j hj, hu]
/-- a slice: how long it is, where it lies if it isn't empty, and how each element reads -/
theorem Rd.slice {t e : TypeId} {cs : List Value} {d : DataW H} (h : Rd enc P w t cs d) (ht : P.underlying t = some (.slice e)) (hpos : 0 < P.cellsOf e) :
    ∃ (A : Option Addr) (n c : Nat) (D S : List (DataW H)), cs = [.slice A n c] ∧ n ≤ c ∧ c ≤ maxLen ∧ ((d = .nil ∧ n = 0 ∧ c = 0 ∧ A = none ∧ D = []) ∨ (d = .slice D S ∧ D.length = n ∧ S.length = c - n ∧ A.isSome = true)) ∧
      (0 < n → ∃ b o, A = some ⟨b, o, none⟩ ∧ b < w.heap.size ∧
        ∀ i, i < n → ∃ (xs : List Value) (di : DataW H), D[i]? = some di ∧ xs.length = P.cellsOf e ∧ (∀ j u, xs[j]? = some u → w.cell? ⟨b, o + (i * P.cellsOf e + j), none⟩ = some u) ∧ Rd enc P w e xs di) := by
  obtain ⟨A, n, c, D, S, h1, h2, h3, h4, h5⟩ := h.slice_any ht
  refine ⟨A, n, c, D, S, h1, h2, h3, h4, fun hn => ?_⟩
  obtain ⟨⟨b, o, sp⟩, xs, di, rfl, hd, hl, hc, hr⟩ := h5 0 hn
  have h0 : 0 < xs.length := by omega
  have hc0 := hc 0 xs[0] (List.getElem?_eq_getElem h0)
  simp only [Nat.zero_mul, Nat.zero_add] at hc0
  have hs : sp = none := cell_spot hc0
  subst hs
  refine ⟨b, o, rfl, cell_lt hc0, fun i hi => ?_⟩
  obtain ⟨a, ys, dj, ha, hd', hl', hc', hr'⟩ := h5 i hi
  injection ha with ha
  subst ha
  refine ⟨ys, dj, hd', hl', fun j u hu => ?_, hr'⟩
  rw [← add_off]
  exact hc' j u hu
/-- an element of several one-cell parts -/
theorem Rd.part {t : TypeId} {fs : Array Field} {cs : List Value} {d : DataW H} (h : Rd enc P w t cs d) (ht : P.underlying t = some (.struct fs)) (hone : Go.Deep.oneCellFields P fs = true) (hC : P.cellsOf t = fs.size) (j : Nat) (f : Field) (hf : fs[j]? = some f) :
    ∃ (u : Value) (ds : List (DataW H)) (dj : DataW H), cs[j]? = some u ∧ d = .agg ds ∧ ds[j]? = some dj ∧ Rd enc P w f.type [u] dj := by
  obtain ⟨ds, h1, h2, h3, h4⟩ := h.struct ht
  obtain ⟨dj, h5, h6⟩ := h4 j f hf
  obtain ⟨ho, hk⟩ := Go.Deep.hone_of hone j f hf
  have hjl : j < cs.length := by rw [h2, hC]; exact (Array.getElem?_eq_some_iff.1 hf).1
  rw [ho, hk] at h6
  have e1 : (cs.drop j).take 1 = [cs[j]] := by rw [List.drop_eq_getElem_cons hjl]; rfl
  rw [e1] at h6
  exact ⟨cs[j], ds, dj, List.getElem?_eq_getElem hjl, h1, h5, h6⟩
end Go.Proofs.YtggmafmebocoaaaGreatDoor.Rdg

/- How a list of integers that came in lies in memory. -/
namespace Go.Proofs.YtggmafmebocoaaaGreatDoor.IntsP
open Go.ChangeShapes Go.WideShapes Go.ChangeAt Go.RowKit Rdg
set_option maxRecDepth 20000

/-- numbers asked for lie where the list points -/
def Ints (w : World) (A : Option Addr) (n : Nat) : Prop :=
  0 < n → ∃ b o : Nat, A = some ⟨b, o, none⟩ ∧ b < w.heap.size ∧ ∀ i, i < n → ∃ x : Int, w.cell? ⟨b, o + i, none⟩ = some (.int .i64 x) ∧ -9223372036854775808 ≤ x ∧ x ≤ 9223372036854775807
theorem ints_read {H : Type} {enc : TypeId × Value → H} {w : World} {base : Nat} {v : Value} {d : DataW H} {p : List MemPlace} (hv : Value.okWide Tryz.prog w .any base 45 v) (h : DataW.Trod enc Tryz.prog w 0 (fun _ => true) true 45 v d p) :
    ∃ A n c, v = .slice A n c ∧ n ≤ maxLen ∧ Ints w A n := by
  have hC : Tryz.prog.cellsOf 3 = 1 := by kernel_rfl
  obtain ⟨A, n, c, rfl⟩ := okWide_slice Tryz.underlying45 hv
  obtain ⟨A', n', c', D, S, h1, h2, h3, h4, h5⟩ := (rd_of h).slice Tryz.underlying45 (by rw [hC]; decide)
  simp only [Value.cells, List.cons.injEq, and_true, Value.slice.injEq] at h1
  obtain ⟨rfl, rfl, rfl⟩ := h1
  refine ⟨_, _, _, rfl, Nat.le_trans h2 h3, fun hn => ?_⟩
  obtain ⟨b, o, rfl, hb, h5⟩ := h5 hn
  refine ⟨b, o, rfl, hb, fun i hi => ?_⟩
  obtain ⟨xs, di, _, hl, hc, hr⟩ := h5 i hi
  obtain ⟨x, e0, _, wx⟩ := hr.int Tryz.underlying3
  subst e0
  have c0 := hc 0 _ rfl
  rw [hC] at c0
  exact ⟨x, by simpa using c0, (bounds_i64 wx).1, (bounds_i64 wx).2⟩
theorem Ints.below {w w' : World} {A : Option Addr} {n : Nat} (h : Ints w A n) (hb : Below w.heap.size w w') : Ints w' A n := fun hn => by
  obtain ⟨b, o, e, hlt, hc⟩ := h hn
  exact ⟨b, o, e, Nat.lt_of_lt_of_le hlt hb.size, fun i hi => by
    obtain ⟨x, hx, h1⟩ := hc i hi
    exact ⟨x, (hb.cell (p := ⟨b, o + i, none⟩) hlt).trans hx, h1⟩⟩
end Go.Proofs.YtggmafmebocoaaaGreatDoor.IntsP

/- Any number of interim responses ahead change nothing of what is told: OutflowInterim returns true. -/
namespace Go.Proofs.YtggmafmebocoaaaGreatDoor.OutflowInterimW
open Go.ChangeShapes Go.WideShapes Go.ChangeAt Go.RowKit Bytes LexPure Ret Rows1 FieldsPure HeadPure OutPure OutEnd OutInt DecN L12Dig IntsP OutBox OutObj POutUse L12Read L12Anchor L12Told OutflowPiecesW PLib Texts Mem Step
set_option maxRecDepth 100000
set_option linter.unusedVariables false
set_option linter.unusedSimpArgs false
/-- what stands ahead -/
def Ah (L : List UInt8) (k : Nat) : Prop := (∀ x, headsOf (L ++ x) = headsOf x) ∧ L.length ≤ 27 * k
theorem Ah.more {L : List UInt8} {k m : Nat} (h : Ah L k) (h1 : 100 ≤ m) (h2 : m < 200) (h3 : m ≠ 101) : Ah (L ++ intL m) (k + 1) :=
  ⟨fun x => by rw [List.append_assoc, h.1, int_step h1 h2 h3], by rw [List.length_append, int_len h1 h2]; have := h.2; omega⟩
set_option maxHeartbeats 6400000 in
theorem walkIn (meth data : ByteArray) (A : Option Addr) (n cap : Nat) (fin : Bool) (w : World) (hV : Ints w A n) (hm : MaxInt w) :
    Calls Tryz.prog 6 #[.string meth, .string data, .slice A n cap, .bool fin] w fun e w' => e = .returned (.bool true) ∧ Below w.heap.size w w' := by
  have HA := Lib.hid (anchor_any w hm)
  replace hm := Lib.hid hm
  replace hV := Lib.hid hV
  by_cases hd : data.size ≤ 10000 ∧ n ≤ 20
  · obtain ⟨hd, hn⟩ := hd
    have hdi : ¬ (10000 : Int) < (data.size : Int) := by omega
    have hni : ¬ (20 : Int) < (n : Int) := by omega
    go_enter Tryz.func6, Tryz.ntmps6
    go_wp2_with fail
    refine HA.out.mono ?_
    rintro e w1 ⟨rfl, hb1⟩
    have HB := Lib.hid hb1
    clear HA hb1
    go_wp2_with fail
    go_loopw [9, 34] (fun a i wr => ∃ (k : Nat) (L : List UInt8), k ≤ n ∧ i = .int .i64 k ∧ a = .string (ofL L) ∧ Hid (Ah L k) ∧ Hid (Below w.heap.size w wr)) (fun _ i _ => n - (intOf i).toNat)
    case atStart => exact ⟨0, [], Nat.zero_le _, rfl, rfl, Lib.hid ⟨fun x => rfl, Nat.zero_le _⟩, HB⟩
    case round =>
      clear HB
      obtain ⟨k, L, hk, rfl, rfl, HL, HB⟩ := hrel
      by_cases hlk : k < n
      · obtain ⟨gp, o, rfl, hgl, hcl⟩ := hV.out (by omega)
        obtain ⟨x, hx, hx1, hx2⟩ := hcl k hlk
        have hki : (k : Int) < (n : Int) := by omega
        have d1 := (HB.out.cell (p := ⟨gp, o + k, none⟩) hgl).trans hx
        have hkk : IntKind.i64.wrap ((k : Int) + 1) = (k : Int) + 1 := IntWalk.i64_in _ (by omega)
        clear hx hcl hgl
        by_cases hr : 100 ≤ x ∧ x ≤ 199 ∧ x ≠ 101
        · obtain ⟨r1, r2, r3⟩ := hr
          obtain ⟨m, rfl⟩ : ∃ m : Nat, x = (m : Int) := ⟨x.toNat, by omega⟩
          have r4 : ((m : Int) != 101) = true := bne_iff_ne.2 r3
          have HD := Lib.hid (digits_any m (by omega) wr)
          have sD : (ofL (decN m)).size = 3 := by rw [ofL_size, decN_three (by omega) (by omega)]; rfl
          have HL2 := Lib.hid (HL.out.more (m := m) (by omega) (by omega) (by omega))
          have hap : Hid (ofL L ++ ((⟨#[72, 84, 84, 80, 47, 49, 46, 49, 32]⟩ : ByteArray) ++ ofL (decN m) ++ ⟨#[32, 87, 97, 105, 116, 13, 10, 88, 58, 32, 121, 13, 10, 13, 10]⟩) = ofL (L ++ intL m)) := Lib.hid (by
            apply toL_inj
            rw [toL_append, toL_append, toL_append, toL_ofL, toL_ofL, toL_ofL]
            rfl)
          have e1 : ((⟨#[72, 84, 84, 80, 47, 49, 46, 49, 32]⟩ : ByteArray) ++ ofL (decN m)).size = 12 := by rw [ByteArray.size_append, sD]; rfl
          have e2 : ((⟨#[72, 84, 84, 80, 47, 49, 46, 49, 32]⟩ : ByteArray) ++ ofL (decN m) ++ ⟨#[32, 87, 97, 105, 116, 13, 10, 88, 58, 32, 121, 13, 10, 13, 10]⟩).size = 27 := by rw [ByteArray.size_append, e1]; rfl
          have sL : (ofL L).size ≤ 540 := by rw [ofL_size]; have := HL.out.2; omega
          have q1 : 9 + (ofL (decN m)).size ≤ 9223372036854775807 := by omega
          have q2 : ((⟨#[72, 84, 84, 80, 47, 49, 46, 49, 32]⟩ : ByteArray) ++ ofL (decN m)).size + 15 ≤ 9223372036854775807 := by omega
          have q3 : (ofL L).size + ((⟨#[72, 84, 84, 80, 47, 49, 46, 49, 32]⟩ : ByteArray) ++ ofL (decN m) ++ ⟨#[32, 87, 97, 105, 116, 13, 10, 88, 58, 32, 121, 13, 10, 13, 10]⟩).size ≤ 9223372036854775807 := by omega
          clear r3 HL
          go_wp2_with fail
          refine HD.out.mono ?_
          rintro e w2 ⟨rfl, hb2⟩
          have HB2 := Lib.hid (HB.out.trans (hb2.mono HB.out.size))
          clear HD hb2 HB
          go_wp2_with fail
          exact ⟨⟨k + 1, L ++ intL m, by omega, by simp, by rw [hap.out], HL2, HB2⟩, by simp [intOf]; omega⟩
        · rcases (show x < 100 ∨ (100 ≤ x ∧ 199 < x) ∨ (100 ≤ x ∧ x ≤ 199 ∧ x = 101) by omega) with r1 | ⟨r1, r2⟩ | ⟨r1, r2, rfl⟩
          · clear hr
            go_wp2_with fail
            exact ⟨⟨k + 1, L, by omega, by simp, rfl, Lib.hid ⟨HL.out.1, by have := HL.out.2; omega⟩, HB⟩, by simp [intOf]; omega⟩
          · clear hr
            go_wp2_with fail
            exact ⟨⟨k + 1, L, by omega, by simp, rfl, Lib.hid ⟨HL.out.1, by have := HL.out.2; omega⟩, HB⟩, by simp [intOf]; omega⟩
          · clear hr
            go_wp2_with fail
            exact ⟨⟨k + 1, L, by omega, by simp, rfl, Lib.hid ⟨HL.out.1, by have := HL.out.2; omega⟩, HB⟩, by simp [intOf]; omega⟩
      · obtain rfl : k = n := by omega
        have hki : ¬ (k : Int) < (k : Int) := by omega
        have hLl := HL.out.2
        have sL : (ofL L).size ≤ 540 := by rw [ofL_size]; omega
        have hcat : Hid (ofL L ++ data = ofL (L ++ toL data)) := Lib.hid (by rw [← POutText.str_app, ofL_toL])
        have hsz : (ofL L).size + data.size ≤ 9223372036854775807 := by omega
        have HT1 := Lib.hid (told_any meth _ [toL data] fin (wr.alloc (.cells #[.string (ofL (toL data))] 9)) (hm.out.below (HB.out.alloc HB.out.size _)) (texts_one wr (toL data)) (by simp) (by rw [show [toL data].flatten = toL data by simp, toL_length]; omega))
        have HB3 := Lib.hid (HB.out.alloc HB.out.size (.cells #[.string (ofL (toL data))] 9))
        rw [ofL_toL] at HT1 HB3
        clear hlk HB hLl
        go_wp2_with fail
        refine HT1.out.mono ?_
        rintro e w2 ⟨c1, b1, dn1, er1, rfl, hq1, hb2⟩
        have HB4 := Lib.hid (HB3.out.trans (hb2.mono HB3.out.size))
        have HT2 := Lib.hid (told_any meth _ [L ++ toL data] fin (w2.alloc (.cells #[.string (ofL (L ++ toL data))] 9)) (hm.out.below (HB4.out.alloc HB4.out.size _)) (texts_one w2 (L ++ toL data)) (by simp) (by rw [show [L ++ toL data].flatten = L ++ toL data by simp, List.length_append, toL_length]; have := HL.out.2; omega))
        have HB5 := Lib.hid (HB4.out.alloc HB4.out.size (.cells #[.string (ofL (L ++ toL data))] 9))
        rw [← hcat.out] at HT2 HB5
        clear HT1 hb2 HB3 HB4
        go_wp2_with fail
        refine HT2.out.mono ?_
        rintro e w3 ⟨c2, b2, dn2, er2, rfl, hq2, hb3⟩
        have HB6 := Lib.hid (HB5.out.trans (hb3.mono HB5.out.size))
        have hsame : c1 = c2 ∧ b1 = b2 ∧ dn1 = dn2 ∧ er1 = er2 := by
          obtain ⟨s1, q1, q2, _⟩ := hq1.out
          obtain ⟨s2, p1, p2, _⟩ := hq2.out
          have := told_heads (toL meth) (toL data) (L ++ toL data) fin (HL.out.1 _).symm
          rw [q1, p1] at this
          injection this with i1 this
          injection this with i2 this
          injection this with i3 i4
          exact ⟨i2, i3, by rw [q2, p2, i1], i4⟩
        obtain ⟨rfl, rfl, rfl, rfl⟩ := hsame
        have hcc : (c1 == c1) = true := by simp
        have hdd : (dn1 == dn1) = true := by simp
        have hee : (er1 == er1) = true := by simp
        have htt : ((ofL b1).toList == (ofL b1).toList) = true := by simp
        clear HT2 hb3 HB5 hq1 hq2 HL
        go_wp2_with fail
        go_ret
        exact ⟨rfl, HB6.out⟩
  · have hdn : (10000 : Int) < (data.size : Int) ∨ (¬ (10000 : Int) < (data.size : Int) ∧ (20 : Int) < (n : Int)) := by omega
    rcases hdn with hdi | ⟨hdi, hni⟩
    all_goals
      go_enter Tryz.func6, Tryz.ntmps6
      go_wp2_with fail
      refine HA.out.mono ?_
      rintro e w1 ⟨rfl, hb1⟩
      have HB := Lib.hid hb1
      clear HA hb1
      go_wp2_with fail
      go_ret
      exact ⟨rfl, HB.out⟩
theorem walk {H : Type} {enc : TypeId × Value → H} {W : World} {base : Nat} (meth : ByteArray) (_w0 : meth.size ≤ maxLen) (_z0 : meth.size ≤ 140737488351232) (data : ByteArray) (_w1 : data.size ≤ maxLen) (_z1 : data.size ≤ 140737488351232) (v : Value) (d : DataW H) (p : List MemPlace) (hv : Value.okWide Tryz.prog W .any base 45 v)
    (hd : DataW.Trod enc Tryz.prog W 0 (fun _ => true) true 45 v d p) (_hl : ∀ x ∈ p, x.block < W.heap.size) (_hb : (d.weights Tryz.prog 45).all (· ≤ reachBytes) = true) (fin : Bool) (hsh : W.ShapedOpen Tryz.prog) :
    Calls Tryz.prog 6 #[.string meth, .string data, v, .bool fin] W fun e W' => e = .returned (.bool true) ∧ Below W.heap.size W W' := by
  obtain ⟨A, n, c, rfl, _, hI⟩ := ints_read hv hd
  exact walkIn meth data A n c fin W hI (MaxInt.of_shape hsh)
end Go.Proofs.YtggmafmebocoaaaGreatDoor.OutflowInterimW

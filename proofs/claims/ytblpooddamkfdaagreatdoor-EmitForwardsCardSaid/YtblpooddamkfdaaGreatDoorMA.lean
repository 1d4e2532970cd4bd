/- Texts of this seat, one behind another: EmitForwardsA. -/
import Derived.Deep.RegionHeld3
import Derived.Test.YtblpooddamkfdaaGreatDoorL
import Derived.Test.YtblpooddamkfdaaGreatDoorG
import Derived.Test.YtblpooddamkfdaaGreatDoorO
import Derived.Test.YtblpooddamkfdaaGreatDoorB3
import Derived.Test.YtblpooddamkfdaaGreatDoorA3
import Derived.Test.YtblpooddamkfdaaGreatDoorA1
/- Up to the loop over the fields. A request that was read off a connection, written to go on and read by a server, is the same request (its method, target, host and body, framed by its length alone, and nothing that concerned the first connection alone): EmitForwards returns true, whatever the arguments. -/
namespace Go.Proofs.YtblpooddamkfdaaGreatDoor.EmitForwardsW
open Go.ChangeShapes Go.WideShapes Go.ChangeAt Go.RowKit Bytes LexPure FieldsPure HeadPure FramePure TargetPure InflowPure EmitPure Flds HBox Mem Step PEmJoin PLib FRow KeptRow L13Base R11D EmitForwS
set_option maxRecDepth 100000
set_option linter.unusedVariables false
set_option linter.unusedSimpArgs false
theorem fail_pos {most : Int} {D : List UInt8} {s : Int} (h : readD most D = .fail s) : s ≠ 0 := by
  unfold readD at h
  cases hr : read8 false D with
  | wait => rw [hr] at h; cases h
  | bad e =>
    rw [hr] at h
    injection h with e1
    rw [← e1]
    exact status_pos e
  | done hd k =>
    rw [hr] at h
    dsimp only at h
    unfold restD at h
    split at h
    · injection h with e1; omega
    split at h
    · injection h with e1; omega
    split at h
    · injection h with e1; omega
    split at h
    · injection h with e1; rw [← e1]; exact status_pos _
    split at h
    · injection h with e1; omega
    unfold bodyD at h
    split at h
    · cases h
    split at h
    · split at h <;> cases h
    split at h
    · injection h with e1; rw [← e1]; exact status_pos _
    split at h <;> cases h
/-- a request in a block of its own -/
structure Qs (w : World) (g : Nat) (q : Rq) (l : Value) (W : World) : Prop where
  box : Has W g R11Read.QT (R11Read.qcl q l)
  fl : FL W l q.head.fields
  below : Below w.heap.size w W
theorem Qs.call {w W W' : World} {g : Nat} {q : Rq} {l : Value} (h : Qs w g q l W) (hb : Below W.heap.size W W') : Qs w g q l W' := ⟨h.box.below hb h.box.lt, h.fl.below hb, below_chain h.below hb⟩
theorem Qs.drew {w W : World} {g : Nat} {q : Rq} {l : Value} (h : Qs w g q l W) : Qs w g q l W.drew := ⟨h.box.drew, h.fl.drewN 1, ⟨h.below.os, h.below.tape, h.below.output, h.below.size, h.below.block⟩⟩
theorem Qs.new {w W : World} {q : Rq} {l : Value} (hb : Below w.heap.size w W) (hF : FL W l q.head.fields) : Qs w W.heap.size q l (W.alloc (.cells (R11Read.qcl q l) R11Read.QT)) :=
  ⟨Has.new W _ _, hF.below ((Below.refl _ _).alloc (Nat.le_refl _) _), hb.alloc hb.size _⟩
theorem is_text2 (s : ByteArray) : (s.toList != s.toList) = false := by rw [bne, beq_self_eq_true]; rfl
theorem emptyT (l : List UInt8) : ((ofL l).toList == []) = decide (l = []) ∧ (ofL l).toList.isEmpty = decide (l = []) := by
  rw [ByteArray.toList_eq, show (ofL l).data.toList = l from by simp [ofL]]
  cases l <;> simp
theorem nice_of {w : World} {base : Nat} {v : Value} {G : List HField} (h : w.ownsRow base 36 2 v G.length (encFs G)) : Nice v G.length := by
  rcases h.2 with ⟨hv, hn⟩ | ⟨g, cap, cur, hv, _⟩
  · exact .inl hv
  · exact .inr ⟨_, cap, hv⟩
def Short (G : List HField) (k : Nat) : Prop := ∀ j (hj : j < G.length), j < k → G[j].1.length + G[j].2.length ≤ 200
theorem few_of {D : List UInt8} {q : Rq} (R : Read1 D q) : Few q.head.fields := fun j hj => by
  obtain ⟨k, hk⟩ := R.head
  have := (HeadFew.read_few hk).2.2 _ (List.getElem_mem hj)
  exact ⟨Nat.le_trans this.1 (by decide), Nat.le_trans this.2 (by decide)⟩
theorem up_len (q : Rq) (D : List UInt8) (R : Read1 D q) : q.upgrade.length ≤ 512 := by
  obtain ⟨kind, hu, -⟩ := R.up
  obtain ⟨k, hk⟩ := R.head
  rw [hu]
  unfold up11
  split
  · rw [lower_length]
    cases he : elems q.head.fields UPG with
    | nil => simp
    | cons e es =>
      have hm : e ∈ elems q.head.fields UPG := by rw [he]; exact List.mem_cons_self
      unfold elems at hm
      rw [List.mem_flatMap] at hm
      obtain ⟨f, hf, hm⟩ := hm
      have h4 := LexFlat.elements_short hm
      have := ((HeadFew.read_few hk).2.2 f (List.mem_filter.1 hf).1).2
      show e.length ≤ 512
      omega
  · simp
/-- what is asked of the text that goes on -/
theorem fit_of {D : List UInt8} {q : Rq} {from_ : List UInt8} (R : Read1 D q) (h3 : q.target.form ≠ 3) (hne : q.host ≠ []) (hf : from_.length ≤ 40) :
    PEmReq.Fit ⟨q.head.method, origin6 q.target, q.host, q.port, q.head.fields, q.body, q.sized, from_, q.upgrade⟩ ∧ q.target.path.length + q.target.query.length ≤ 140737488351232 := by
  obtain ⟨k, hk⟩ := R.head
  obtain ⟨g1, g2, g3, g4, g5, g6⟩ := EmitForwP.read_good hk
  rw [R.tgt] at h3 ⊢
  obtain ⟨_, _, p1, p2, p3⟩ := EmitForwP.parse_go R.ok h3
  obtain ⟨v, hv⟩ := EmitForwR.host_of R.ok h3 R.host hne
  obtain ⟨a1, a2, a3, a4⟩ := HostPure.authO_some hv
  have hhl : q.host.length ≤ 64 := by have h := a1; unfold HostPure.host at h; simp only [Bool.and_eq_true, decide_eq_true_eq] at h; omega
  have hfew := (HeadFew.read_few hk).2.1
  have hup := up_len q D R
  have hbd := R.body
  refine ⟨⟨few_of R, by show q.head.fields.length ≤ _; omega, by show q.head.method.length ≤ _; omega, by show (origin6 _).length ≤ _; omega, by show q.host.length ≤ _; omega, by show q.body.length ≤ _; omega, by show from_.length ≤ _; omega, by show q.upgrade.length ≤ _; omega, by show _ ≤ q.port; omega, by show q.port ≤ _; omega⟩, ?_⟩
  exact TargetLen.parse_len _ _ (by omega)
/-- a walk that leaves one goal for a text of its own -/
def cut1 {G P : Prop} (h : Hid P → G) : PSigma fun P : Prop => P → G := ⟨P, fun a => h (Lib.hid a)⟩
set_option maxHeartbeats 12800000 in
noncomputable def coreA (data from_ : ByteArray) (hd : data.size ≤ 140737488351232) (hf : from_.size ≤ 140737488351232) (w : World) (hm : MaxInt w) (hp : Pow w) :
    PSigma fun P : Prop => P → Calls Tryz.prog 3 #[.string data, .string from_] w fun e w' => e = .returned (.bool true) ∧ Below w.heap.size w w' := by
  have HM := Lib.hid hm
  have HP := Lib.hid hp
  have HS := Lib.hid hf
  clear hm hp hf
  apply cut1
  intro CUT
  have HAn := Lib.hid (anchor_any w HM.out HP.out)
  have HR := Lib.hid (fun w => R11Read.r11read_any data hd 1000 (by decide) w)
  go_enter Tryz.func3, Tryz.ntmps3
  go_wp2_with fail
  refine HAn.out.mono ?_
  rintro e w1 ⟨rfl, hb1⟩
  have HB1 := Lib.hid hb1
  clear HAn hb1
  go_wp2_with fail
  refine (HR.out _).mono ?_
  rintro e w2 ⟨hans, hb2⟩
  have HB2 := Lib.hid (below_chain HB1.out hb2)
  clear HR hb2 HB1
  obtain ⟨X, hX⟩ : ∃ X, X = readD 1000 (toL data) := ⟨_, rfl⟩
  rw [← hX] at hans
  cases X with
  | wait =>
    obtain rfl : e = _ := hans
    unfold R11Read.zq
    clear hX
    as_aux_lemma =>
      go_wp2_with fail
      go_ret
      exact ⟨rfl, HB2.out.alloc HB2.out.size _⟩
  | fail s =>
    have hs : (s != 0) = true := bne_iff_ne.2 (fail_pos hX.symm)
    obtain rfl : e = _ := hans
    unfold R11Read.zq
    clear hX
    as_aux_lemma =>
      go_wp2_with fail
      go_ret
      exact ⟨rfl, HB2.out.alloc HB2.out.size _⟩
  | whole q n =>
    obtain ⟨l, rfl, hrow⟩ := hans
    have R1 := Lib.hid (read_first hX.symm)
    have hFl := fl_of hrow.1 (Nat.le_trans hrow.2 (by decide))
    have HNi := Lib.hid (nice_of hrow.1)
    obtain ⟨pp, cap, rfl, -, -⟩ := id hFl
    have Q2 := Lib.hid (Qs.new (q := q) HB2.out hFl)
    clear hX hrow hFl HB2
    unfold R11Read.qcl at Q2 ⊢
    unfold R11Read.QT at Q2
    dsimp only
    iterate 22 go_step
    generalize w2.alloc (.cells #[.string (ofL q.head.method), .string (ofL q.head.target), .int .i64 q.head.status, .string (ofL q.head.reason), .int .i64 q.head.minor, .slice pp q.head.fields.length cap, .int .i64 q.target.form, .string (ofL q.target.host), .int .i64 q.target.port, .string (ofL q.target.path), .string (ofL q.target.query), .bool q.target.has, .string (ofL q.host), .int .i64 q.port, .string (ofL q.body), .bool q.sized, .bool q.keep, .string (ofL q.upgrade)] 29) = W3 at Q2 ⊢
    generalize w2.heap.size = g at Q2 ⊢
    have e5 := Q2.out.box.cell 5
    have c5 : W3.cell? ⟨g, 5, none⟩ = some (.slice pp q.head.fields.length cap) := e5
    have c6 : W3.cell? ⟨g, 6, none⟩ = some (.int .i64 q.target.form) := Q2.out.box.cell 6
    have c12 : W3.cell? ⟨g, 12, none⟩ = some (.string (ofL q.host)) := Q2.out.box.cell 12
    clear e5
    by_cases n0 : n = 0
    · subst n0
      as_aux_lemma =>
        go_wp2_with fail
        go_ret
        exact ⟨rfl, Q2.out.below⟩
    have i0 : (n == 0) = false := beq_false_of_ne n0
    by_cases n1 : 20 < q.head.fields.length
    · have i1 : decide ((20 : Int) < (q.head.fields.length : Int)) = true := decide_eq_true (by omega)
      clear n1
      as_aux_lemma =>
        go_wp2_with fail
        go_ret
        exact ⟨rfl, Q2.out.below⟩
    have i1 : decide ((20 : Int) < (q.head.fields.length : Int)) = false := decide_eq_false (by omega)
    have N1 := Lib.hid n1
    clear n1 n0
    by_cases n2 : q.target.form = 3
    · have i2 : (q.target.form == 3) = true := by rw [n2]; rfl
      clear n2
      as_aux_lemma =>
        go_wp2_with fail
        go_ret
        exact ⟨rfl, Q2.out.below⟩
    have i2 : (q.target.form == 3) = false := beq_false_of_ne n2
    have N2 := Lib.hid n2
    clear n2
    obtain ⟨y1, y2⟩ := emptyT q.host
    by_cases n3 : q.host = []
    · rw [decide_eq_true n3] at y1 y2
      have y3 : (ofL q.host).toList = [] := by simpa using y1
      clear n3
      as_aux_lemma =>
        go_wp2_with fail
        go_ret
        exact ⟨rfl, Q2.out.below⟩
    rw [decide_eq_false n3] at y1 y2
    have y3 : ¬ ((ofL q.host).toList = []) := by simpa using y1
    have N3 := Lib.hid n3
    clear n3
    have HVal := Lib.hid (fun w => RValue.rvalue_any from_ (by have := HS.out; unfold maxLen; omega) w)
    obtain ⟨vb, hvb⟩ : ∃ vb, vb = value (toL from_) := ⟨_, rfl⟩
    rw [← hvb] at HVal
    have HVb := Lib.hid hvb
    clear hvb
    go_wp2_with fail
    refine (HVal.out _).mono ?_
    rintro e w4 ⟨rfl, rfl⟩
    clear HVal
    cases vb with
    | false =>
      as_aux_lemma =>
        go_wp2_with fail
        go_ret
        exact ⟨rfl, Q2.out.below⟩
    | true =>
      by_cases n4 : 40 < from_.size
      · have i4 : decide ((40 : Int) < (from_.size : Int)) = true := decide_eq_true (by omega)
        clear n4
        as_aux_lemma =>
          go_wp2_with fail
          go_ret
          exact ⟨rfl, Q2.out.below⟩
      have i4 : decide ((40 : Int) < (from_.size : Int)) = false := decide_eq_false (by omega)
      have N4 := Lib.hid n4
      have HFw := Lib.hid (few_of R1.out)
      have HG := Lib.hid (fun w' hF => R7Get.rget_any (.slice pp q.head.fields.length cap) q.head.fields ⟨#[118, 105, 97]⟩ (by decide) HFw.out w' hF)
      rw [show toL ⟨#[118, 105, 97]⟩ = [118, 105, 97] from rfl] at HG
      have HG2 := Lib.hid (fun w' hF => R7Get.rget_any (.slice pp q.head.fields.length cap) q.head.fields ⟨#[120, 45, 102, 111, 114, 119, 97, 114, 100, 101, 100, 45, 102, 111, 114]⟩ (by decide) HFw.out w' hF)
      rw [show toL ⟨#[120, 45, 102, 111, 114, 119, 97, 114, 100, 101, 100, 45, 102, 111, 114]⟩ = [120, 45, 102, 111, 114, 119, 97, 114, 100, 101, 100, 45, 102, 111, 114] from rfl] at HG2
      obtain ⟨nv, hnv⟩ : ∃ nv, nv = getN q.head.fields [118, 105, 97] := ⟨_, rfl⟩
      obtain ⟨nx, hnx⟩ : ∃ nx, nx = getN q.head.fields [120, 45, 102, 111, 114, 119, 97, 114, 100, 101, 100, 45, 102, 111, 114] := ⟨_, rfl⟩
      rw [← hnv] at HG
      rw [← hnx] at HG2
      have HNv := Lib.hid (And.intro hnv hnx)
      clear n4 hnv hnx
      go_wp2_with fail
      refine (HG.out _ Q2.out.fl).mono ?_
      rintro e w5 ⟨rfl, hb5⟩
      have Q5 := Lib.hid (Q2.out.call hb5)
      clear i0 i1 i2 i4 y1 y2 y3 c5 c6 c12 HG hb5 Q2
      have c5 : w5.cell? ⟨g, 5, none⟩ = some (.slice pp q.head.fields.length cap) := Q5.out.box.cell 5
      go_wp2_with fail
      refine (HG2.out _ Q5.out.fl).mono ?_
      rintro e w6 ⟨rfl, hb6⟩
      have Q2 := Lib.hid (Q5.out.call hb6)
      clear c5 HG2 hb6 Q5
      have c5 : w6.cell? ⟨g, 5, none⟩ = some (.slice pp q.head.fields.length cap) := Q2.out.box.cell 5
      by_cases n5 : 1 < nv
      · have i5 : decide ((1 : Int) < (nv : Int)) = true := decide_eq_true (by omega)
        clear n5
        as_aux_lemma =>
          go_wp2_with fail
          go_ret
          exact ⟨rfl, Q2.out.below⟩
      have i5 : decide ((1 : Int) < (nv : Int)) = false := decide_eq_false (by omega)
      by_cases n6 : 1 < nx
      · have i6 : decide ((1 : Int) < (nx : Int)) = true := decide_eq_true (by omega)
        clear n6 n5
        as_aux_lemma =>
          go_wp2_with fail
          go_ret
          exact ⟨rfl, Q2.out.below⟩
      have i6 : decide ((1 : Int) < (nx : Int)) = false := decide_eq_false (by omega)
      have N5 : Hid (getN q.head.fields [118, 105, 97] ≤ 1 ∧ getN q.head.fields [120, 45, 102, 111, 114, 119, 97, 114, 100, 101, 100, 45, 102, 111, 114] ≤ 1) := Lib.hid (by rw [← HNv.out.1, ← HNv.out.2]; omega)
      obtain ⟨_, _, heq, -, hcell⟩ := Q2.out.fl
      injection heq with e1 e2 e3
      subst e1
      subst e3
      have HC := Lib.hid hcell
      obtain ⟨W3, hW3⟩ : ∃ W3, W3 = w6 := ⟨_, rfl⟩
      subst hW3
      clear hcell e2 HNv n5 n6
      go_wp2_with fail
      clear i5 i6 c5
      go_loopw [88] (fun i wr => ∃ k : Nat, k ≤ q.head.fields.length ∧ i = .int .i64 k ∧ Hid (Short q.head.fields k ∧ Below W3.heap.size W3 wr)) (fun i _ => q.head.fields.length - (intOf i).toNat)
      case atStart => exact ⟨0, Nat.zero_le _, rfl, Lib.hid ⟨fun j _ h => absurd h (by omega), Below.refl _ _⟩⟩
      case round =>
        obtain ⟨k, hk, rfl, HJ⟩ := hrel
        by_cases hlt : k < q.head.fields.length
        · obtain ⟨gl, o, rfl, hgl, hcell⟩ := HC.out (by omega)
          obtain ⟨c1, c2⟩ := hcell k hlt
          replace c1 := (HJ.out.2.cell (p := ⟨gl, o + k * 2, none⟩) hgl).trans c1
          replace c2 := (HJ.out.2.cell (p := ⟨gl, o + k * 2 + 1, none⟩) hgl).trans c2
          have hki : (k : Int) < (q.head.fields.length : Int) := by omega
          obtain ⟨kf, hkf⟩ := R1.out.head
          have hsh := (HeadFew.read_few hkf).2.2 _ (List.getElem_mem hlt)
          obtain ⟨f, hf⟩ : ∃ f, f = q.head.fields[k] := ⟨_, rfl⟩
          rw [← hf] at c1 c2 hsh
          have hs1 : f.1.length ≤ 512 := hsh.1
          have hs2 : f.2.length ≤ 512 := hsh.2
          have z1 : (ofL f.1).size = f.1.length := ofL_size _
          have z2 : (ofL f.2).size = f.2.length := ofL_size _
          have HN : Hid (Has (wr.alloc (.cells #[.string (ofL f.1), .string (ofL f.2)] 36)) wr.heap.size 36 #[.string (ofL f.1), .string (ofL f.2)]) := Lib.hid (Has.new wr _ _)
          have HBa : Hid (Below W3.heap.size W3 (wr.alloc (.cells #[.string (ofL f.1), .string (ofL f.2)] 36))) := Lib.hid (HJ.out.2.alloc HJ.out.2.size _)
          have HZ : Hid ((ofL f.1).size = f.1.length ∧ (ofL f.2).size = f.2.length ∧ f = q.head.fields[k]) := Lib.hid ⟨z1, z2, hf⟩
          have b1 : (ofL f.1).size + (ofL f.2).size ≤ 1024 := by omega
          have a0 : (wr.alloc (.cells #[.string (ofL f.1), .string (ofL f.2)] 36)).cell? ⟨wr.heap.size, 0, none⟩ = some (.string (ofL f.1)) := HN.out.cell 0
          have a1 : (wr.alloc (.cells #[.string (ofL f.1), .string (ofL f.2)] 36)).cell? ⟨wr.heap.size, 1, none⟩ = some (.string (ofL f.2)) := HN.out.cell 1
          clear hcell hf hsh hs1 hs2 z1 z2 hkf
          by_cases h2 : 200 < (ofL f.1).size + (ofL f.2).size
          · have h2i : (200 : Int) < ((ofL f.1).size : Int) + ((ofL f.2).size : Int) := by omega
            as_aux_lemma =>
              go_wp2_with fail
              go_ret
              exact ⟨rfl, below_chain Q2.out.below HBa.out⟩
          have h2i : ¬ (200 : Int) < ((ofL f.1).size : Int) + ((ofL f.2).size : Int) := by omega
          have HK : Hid (Short q.head.fields (k + 1) ∧ Below W3.heap.size W3 (wr.alloc (.cells #[.string (ofL f.1), .string (ofL f.2)] 36))) := Lib.hid ⟨fun j hj hjk => by
            rcases Nat.lt_or_ge j k with h | h
            · exact HJ.out.1 j hj h
            · obtain rfl : j = k := by omega
              obtain ⟨y1, y2, y3⟩ := HZ.out
              rw [← y3]
              omega, HBa.out⟩
          have k20 : q.head.fields.length ≤ 20 := by have := N1.out; omega
          clear HJ HZ HN h2 HBa
          go_wp2_with fail
          exact ⟨⟨k + 1, by omega, by go_num, HK⟩, by simp [intOf]; omega⟩
        · have hki : ¬ (k : Int) < (q.head.fields.length : Int) := by omega
          rename_i Q0 Wz K0 hK0
          revert Q0 Wz K0 HVb N4 q n pp cap g nv nx W3 k wr u4 u13 u89 u90 u91 u92 u93 u94 u95 u96 u97 u98 u99 u100
          exact CUT.out
end Go.Proofs.YtblpooddamkfdaaGreatDoor.EmitForwardsW

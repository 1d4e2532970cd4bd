/- How an argument that is read as data lies in memory: slices, structs, numbers, texts. No program is named. -/
import Derived.ChangeArms
import Derived.ChangeMaps5
import Derived.DataReads
import Derived.Deep.Fields
import Derived.ProofKit
namespace Go.Proofs.Ytlajneljcmaiiaa.Rdg
open Go.ChangeShapes Go.WideShapes Go.RowKit
variable {H : Type} {enc : TypeId × Value → H} {P : Program} {w : World}

/-- cells cs read as datum d, in the way in which a law's arguments are read -/
def Rd (enc : TypeId × Value → H) (P : Program) (w : World) (t : TypeId) (cs : List Value) (d : DataW H) : Prop :=
  ∃ m pl, DataW.trod enc P w 0 (fun _ => true) true m t cs = some (d, pl)

theorem cell_lt {p : Addr} {v : Value} (h : w.cell? p = some v) : p.block < w.heap.size := by
  unfold World.cell? at h
  rcases Nat.lt_or_ge p.block w.heap.size with hl | hl
  · exact hl
  · rw [Array.getElem?_eq_none hl] at h; simp at h
theorem cell_spot {p : Addr} {v : Value} (h : w.cell? p = some v) : p.spot = none := by
  unfold World.cell? at h
  split at h
  · split at h
    · cases h
    · rename_i hs
      simpa using hs
  · cases h
theorem add_off (b o i : Nat) : Addr.add ⟨b, o, none⟩ i = ⟨b, o + i, none⟩ := by
  unfold Addr.add
  split <;> simp_all
theorem add_add (a : Addr) (i j : Nat) : (a.add i).add j = a.add (i + j) := by
  unfold Addr.add
  by_cases hi : i = 0 <;> by_cases hj : j = 0 <;> simp [hi, hj, Nat.add_assoc]

theorem rd_of {t : TypeId} {v : Value} {d : DataW H} {ps : List MemPlace} (h : DataW.Trod enc P w 0 (fun _ => true) true t v d ps) : Rd enc P w t v.cells.toList d := by
  obtain ⟨m, hm⟩ := h
  exact ⟨m, ps, hm⟩

theorem Rd.int {t : TypeId} {k : IntKind} {cs : List Value} {d : DataW H} (h : Rd enc P w t cs d) (ht : P.underlying t = some (.int k)) : ∃ n, cs = [.int k n] ∧ d = .lit (.int k n) ∧ (Lit.int k n).wf = true := by
  obtain ⟨m, pl, hm⟩ := h
  obtain ⟨n, h1, h2, h3⟩ := DataW.trod_int ht hm
  exact ⟨n, h1, (Prod.mk.inj h2).1, h3⟩
theorem Rd.string {t : TypeId} {cs : List Value} {d : DataW H} (h : Rd enc P w t cs d) (ht : P.underlying t = some .string) : ∃ s : ByteArray, cs = [.string s] ∧ d = .lit (.string s.data.toList) ∧ s.size ≤ maxLen := by
  obtain ⟨m, pl, hm⟩ := h
  obtain ⟨n, h1, h2, h3⟩ := DataW.trod_string ht hm
  exact ⟨n, h1, (Prod.mk.inj h2).1, h3⟩
theorem Rd.struct {t : TypeId} {fs : Array Field} {cs : List Value} {d : DataW H} (h : Rd enc P w t cs d) (ht : P.underlying t = some (.struct fs)) :
    ∃ ds : List (DataW H), d = .agg ds ∧ cs.length = P.cellsOf t ∧ ds.length = fs.size ∧ ∀ (i : Nat) (f : Field), fs[i]? = some f → ∃ di, ds[i]? = some di ∧ Rd enc P w f.type ((cs.drop f.offset).take (P.cellsOf f.type)) di := by
  obtain ⟨m, pl, hm⟩ := h
  obtain ⟨xs, n, _, h2, h3, h4, h5⟩ := DataW.trod_struct ht hm
  refine ⟨xs.map (·.1), (Prod.mk.inj h2).1, h3, by simpa using h4, fun i f hf => ?_⟩
  have hi : i < xs.length := by rw [h4]; exact (Array.getElem?_eq_some_iff.1 hf).1
  refine ⟨xs[i].1, by simp [hi], n, xs[i].2, ?_⟩
  rw [h5 i f hf, List.getElem?_eq_getElem hi]
theorem Rd.slice_any {t e : TypeId} {cs : List Value} {d : DataW H} (h : Rd enc P w t cs d) (ht : P.underlying t = some (.slice e)) :
    ∃ (A : Option Addr) (n c : Nat) (D S : List (DataW H)), cs = [.slice A n c] ∧ n ≤ c ∧ c ≤ maxLen ∧ ((d = .nil ∧ n = 0 ∧ c = 0 ∧ A = none ∧ D = []) ∨ (d = .slice D S ∧ D.length = n ∧ S.length = c - n ∧ A.isSome = true)) ∧
      ∀ i, i < n → ∃ (a : Addr) (xs : List Value) (di : DataW H), A = some a ∧ D[i]? = some di ∧ xs.length = P.cellsOf e ∧ (∀ j u, xs[j]? = some u → w.cell? (a.add (i * P.cellsOf e + j)) = some u) ∧ Rd enc P w e xs di := by
  obtain ⟨m, pl, hm⟩ := h
  rcases DataW.trod_slice ht hm with ⟨h1, h2⟩ | ⟨a, len, cap, elems, rest, n, _, h2, h3, hb, hl, hmx, hlen, hel, hsp, hns⟩
  · exact ⟨none, 0, 0, [], [], h1, Nat.le_refl _, Nat.zero_le _, .inl ⟨(Prod.mk.inj h2).1, rfl, rfl, rfl, rfl⟩, fun i hi => absurd hi (by omega)⟩
  · refine ⟨some a, len, cap, elems.map (·.1), rest.map (·.1), h2, hl, hmx, .inr ⟨(Prod.mk.inj h3).1, by simpa using hlen, by simpa using (hsp rfl).1, rfl⟩, fun i hi => ?_⟩
    have hi' : i < elems.length := by omega
    have he := hel i hi
    rw [List.getElem?_eq_getElem hi'] at he
    obtain ⟨xs, hx, hy⟩ := Option.bind_eq_some_iff.1 he
    obtain ⟨_, hcl, hat⟩ := World.cells?_some hx
    refine ⟨a, xs, elems[i].1, rfl, by simp [hi'], hcl, fun j u hu => ?_, n, elems[i].2, hy⟩
    have hj : j < P.cellsOf e := by rw [← hcl]; exact (List.getElem?_eq_some_iff.1 hu).1
    rw [← add_add, hat j hj, hu]
/-- a slice: how long it is, where it lies if it isn't empty, and how each element reads -/
theorem Rd.slice {t e : TypeId} {cs : List Value} {d : DataW H} (h : Rd enc P w t cs d) (ht : P.underlying t = some (.slice e)) (hpos : 0 < P.cellsOf e) :
    ∃ (A : Option Addr) (n c : Nat) (D S : List (DataW H)), cs = [.slice A n c] ∧ n ≤ c ∧ c ≤ maxLen ∧ ((d = .nil ∧ n = 0 ∧ c = 0 ∧ A = none ∧ D = []) ∨ (d = .slice D S ∧ D.length = n ∧ S.length = c - n ∧ A.isSome = true)) ∧
      (0 < n → ∃ b o, A = some ⟨b, o, none⟩ ∧ b < w.heap.size ∧
        ∀ i, i < n → ∃ (xs : List Value) (di : DataW H), D[i]? = some di ∧ xs.length = P.cellsOf e ∧ (∀ j u, xs[j]? = some u → w.cell? ⟨b, o + (i * P.cellsOf e + j), none⟩ = some u) ∧ Rd enc P w e xs di) := by
  obtain ⟨A, n, c, D, S, h1, h2, h3, h4, h5⟩ := h.slice_any ht
  refine ⟨A, n, c, D, S, h1, h2, h3, h4, fun hn => ?_⟩
  obtain ⟨⟨b, o, sp⟩, xs, di, rfl, hd, hl, hc, hr⟩ := h5 0 hn
  have h0 : 0 < xs.length := by omega
  have hc0 := hc 0 xs[0] (List.getElem?_eq_getElem h0)
  simp only [Nat.zero_mul, Nat.zero_add] at hc0
  have hs : sp = none := cell_spot hc0
  subst hs
  refine ⟨b, o, rfl, cell_lt hc0, fun i hi => ?_⟩
  obtain ⟨a, ys, dj, ha, hd', hl', hc', hr'⟩ := h5 i hi
  injection ha with ha
  subst ha
  refine ⟨ys, dj, hd', hl', fun j u hu => ?_, hr'⟩
  rw [← add_off]
  exact hc' j u hu
/-- an element of several one-cell parts -/
theorem Rd.part {t : TypeId} {fs : Array Field} {cs : List Value} {d : DataW H} (h : Rd enc P w t cs d) (ht : P.underlying t = some (.struct fs)) (hone : Go.Deep.oneCellFields P fs = true) (hC : P.cellsOf t = fs.size) (j : Nat) (f : Field) (hf : fs[j]? = some f) :
    ∃ (u : Value) (ds : List (DataW H)) (dj : DataW H), cs[j]? = some u ∧ d = .agg ds ∧ ds[j]? = some dj ∧ Rd enc P w f.type [u] dj := by
  obtain ⟨ds, h1, h2, h3, h4⟩ := h.struct ht
  obtain ⟨dj, h5, h6⟩ := h4 j f hf
  obtain ⟨ho, hk⟩ := Go.Deep.hone_of hone j f hf
  have hjl : j < cs.length := by rw [h2, hC]; exact (Array.getElem?_eq_some_iff.1 hf).1
  rw [ho, hk] at h6
  have e1 : (cs.drop j).take 1 = [cs[j]] := by rw [List.drop_eq_getElem_cons hjl]; rfl
  rw [e1] at h6
  exact ⟨cs[j], ds, dj, List.getElem?_eq_getElem hjl, h1, h5, h6⟩
end Go.Proofs.Ytlajneljcmaiiaa.Rdg

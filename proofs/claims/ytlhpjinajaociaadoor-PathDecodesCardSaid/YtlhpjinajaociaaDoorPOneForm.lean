/- Layer 5 of the program: oneForm: how a byte that was escaped is written. -/
import Derived.Test.YtlhpjinajaociaaDoorPBytes5
import Derived.Test.YtlhpjinajaociaaDoorBRow
import Derived.Handy
import Derived.RegionTactic
import Derived.ChangeAlike
import Derived.BigRegion
import Derived.Laws.BitsAllLaws
namespace Go.Proofs.YtlhpjinajaociaaDoor.POneForm
open Go.ChangeShapes Go.WideShapes Go.ChangeAt Go.RowKit LexPure Bytes Ret PathPure PEsc PBytes5 BRow
/-- string([]byte{..}) -/
theorem text_at (W : World) (g : Nat) (l : List UInt8) (cs : Array Value) (fr : Nat × Nat) (cap : Nat) (hg : W.heap[g]? = some (.cells cs 5 fr)) (hc : ∀ j (h : j < l.length), cs[j]? = some (.int .u8 (l[j].toNat : Int))) :
    (Go.convert 40 9 (.slice (some ⟨g, 0, none⟩) l.length cap)).run Tryd.prog W = .ok (.string (ofL l)) W :=
  run_convert_bytes_back _ 40 9 5 ⟨g, 0, none⟩ cap l Tryd.underlying40 Tryd.underlying5 Tryd.underlying9 (fun j hj => by
    have e : (⟨g, 0, none⟩ : Addr).add j = ⟨g, j, none⟩ := by unfold Addr.add; split <;> simp_all
    rw [e]
    simp only [World.cell?, hg]
    exact hc j hj)
theorem heap_new (w : World) (o : Obj) : (w.alloc o).heap[w.heap.size]? = some o := by
  show (w.heap.push _)[w.heap.size]? = _
  simp
def digs : ByteArray := ⟨#[48, 49, 50, 51, 52, 53, 54, 55, 56, 57, 65, 66, 67, 68, 69, 70]⟩
theorem digs_hx (n : Nat) (h : n < digs.size) : digs[n] = hx n := by
  have : n = 0 ∨ n = 1 ∨ n = 2 ∨ n = 3 ∨ n = 4 ∨ n = 5 ∨ n = 6 ∨ n = 7 ∨ n = 8 ∨ n = 9 ∨ n = 10 ∨ n = 11 ∨ n = 12 ∨ n = 13 ∨ n = 14 ∨ n = 15 := by
    have : digs.size = 16 := rfl
    omega
  rcases this with h | h | h | h | h | h | h | h | h | h | h | h | h | h | h | h <;> subst h <;> rfl
theorem poneform_any (b : UInt8) (w : World) :
    Calls Tryd.prog 34 #[.int .u8 (b.toNat : Int)] w fun e w' => e = .returned (.string (ofL (wr b.toNat))) ∧ Below w.heap.size w w' := by
  have HP := Lib.hid (fun w => pplain_any b w)
  have hlt : (b.toNat : Int) ≤ 255 := by have := b.toNat_lt; omega
  by_cases hp : plainP b.toNat = true
  · have HW : Hid (wr b.toNat = [b]) := Lib.hid (by unfold wr; rw [if_pos hp]; simp)
    rw [hp] at HP
    have hconv : (Go.convert 40 9 (.slice (some ⟨w.heap.size, 0, none⟩) 1 1)).run Tryd.prog (w.alloc (.cells #[.int .u8 (b.toNat : Int)] 5)) = .ok (.string (ofL [b])) (w.alloc (.cells #[.int .u8 (b.toNat : Int)] 5)) :=
      text_at _ _ [b] _ _ 1 (heap_new w _) (by intro j hj; match j, hj with | 0, _ => rfl)
    clear hp
    go_enter Tryd.func34, Tryd.ntmps34
    go_wp2_with fail
    refine (HP.out _).mono ?_
    rintro e w' ⟨rfl, rfl⟩
    go_wp2_with fail
    go_ret
    rw [HW.out]
    exact ⟨rfl, (Below.refl _ _).alloc (Nat.le_refl _) _⟩
  · have hpf : plainP b.toNat = false := by simpa using hp
    have HW : Hid (ofL (wr b.toNat) = ofL [37, hx (b.toNat / 16), hx (b.toNat % 16)]) := Lib.hid (by unfold wr; rw [hpf]; rfl)
    have k1 : (0 : Int) ≤ (b.toNat : Int) / 16 := by omega
    have k2 : (b.toNat : Int) / 16 < 16 := by omega
    have k3 : (0 : Int) ≤ (b.toNat : Int) % 16 := by omega
    have k4 : (b.toNat : Int) % 16 < 16 := by omega
    rw [hpf] at HP
    have hconv : ∀ p q : UInt8, (Go.convert 40 9 (.slice (some ⟨w.heap.size, 0, none⟩) 3 3)).run Tryd.prog (w.alloc (.cells #[.int .u8 37, .int .u8 (p.toNat : Int), .int .u8 (q.toNat : Int)] 5)).drew = .ok (.string (ofL [37, p, q])) (w.alloc (.cells #[.int .u8 37, .int .u8 (p.toNat : Int), .int .u8 (q.toNat : Int)] 5)).drew := fun p q =>
      text_at (w.alloc _).drew _ [37, p, q] _ _ 3 (heap_new w _) (by intro j hj; match j, hj with | 0, _ => rfl | 1, _ => rfl | 2, _ => rfl)
    clear hp hpf
    go_enter Tryd.func34, Tryd.ntmps34
    go_wp2_with fail
    refine (HP.out _).mono ?_
    rintro e w' ⟨rfl, rfl⟩
    go_wp2_with fail
    go_region
    go_wp2_with fail
    go_ret
    refine ⟨ret_string ?_, ((Below.refl _ _).alloc (Nat.le_refl _) _).drew⟩
    rw [HW.out]
    have s16 : digs.size = 16 := rfl
    have e1 := digs_hx (b.toNat / 16) (by omega)
    have e2 := digs_hx (b.toNat % 16) (by omega)
    rw [← e1, ← e2]
    rfl
end Go.Proofs.YtlhpjinajaociaaDoor.POneForm

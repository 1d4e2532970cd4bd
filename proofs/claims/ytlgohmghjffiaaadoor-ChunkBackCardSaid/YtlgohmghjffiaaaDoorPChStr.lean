/- strings.Builder's String beside another row of the call's own: only the builder's row turns. -/
import Derived.Test.YtlgohmghjffiaaaDoorPChPart
namespace Go.Proofs.YtlgohmghjffiaaaDoor.PChStr
open Go.ChangeShapes Go.WideShapes Go.ChangeAt Go.RowKit Bytes Mem Step Rows1 PBuildT PChPart
set_option maxRecDepth 100000
theorem freeze_far (w : World) (p : Addr) (n k : Nat) (h : k ≠ p.block) : (w.freeze p n).heap[k]? = w.heap[k]? := by
  unfold World.freeze
  split
  · rfl
  · simp only [Array.getElem?_modify]
    rw [if_neg (fun e => h e.symm)]
theorem freeze_size (w : World) (p : Addr) (n : Nat) : (w.freeze p n).heap.size = w.heap.size := by
  unfold World.freeze
  split <;> simp
theorem freeze_rest (w : World) (p : Addr) (n : Nat) : (w.freeze p n).os = w.os ∧ (w.freeze p n).tape = w.tape ∧ (w.freeze p n).output = w.output := by
  unfold World.freeze
  split <;> exact ⟨rfl, rfl, rfl⟩
theorem freeze_step (w : World) (g n : Nat) : Step w (w.drew.freeze ⟨g, 0, none⟩ n) (fun k => k = g) (fun k => k = g) := by
  obtain ⟨h1, h2, h3⟩ := freeze_rest w.drew ⟨g, 0, none⟩ n
  exact ⟨h1, h2, h3, by rw [freeze_size]; exact Nat.le_refl _, fun k _ hk => freeze_far w.drew ⟨g, 0, none⟩ n k hk, fun _ h => .inl h⟩
set_option maxHeartbeats 2000000 in
theorem str_row {B b g cap : Nat} {p : Value} {l : List UInt8} {w : World} (h0 : 0 < l.length) (hbk : w.heap[b]? = some (.cells #[p, .slice (some ⟨g, 0, none⟩) l.length cap] 42 (0, 0)))
    (hown : w.ownsRow B 5 1 (.slice (some ⟨g, 0, none⟩) l.length cap) l.length (Lib.byteCells l)) :
    Calls Tryd.prog 18 #[.pointer (some ⟨b, 0, none⟩)] w fun e w' => e = .returned (.string (ofL l)) ∧ Step w w' (fun k => k = g) (fun k => k = g) := by
  have hs := freeze_step w g l.length
  have c1 : w.drew.cell? ⟨b, 1, none⟩ = some (.slice (some ⟨g, 0, none⟩) l.length cap) := by
    have : w.drew.heap[b]? = some (.cells #[p, .slice (some ⟨g, 0, none⟩) l.length cap] 42 (0, 0)) := hbk
    rw [Lib.cell_of_heap this]; rfl
  rcases hown.2 with ⟨hv, _⟩ | ⟨g2, cap2, cur, hv, hbg, hg, hlc, hcm, hcs, htk⟩
  · cases hv
  · injection hv with e1 e2 e3
    injection e1 with e1
    injection e1 with e1
    subst e1
    subst e3
    have hSD : (Builtin.unsafeSliceData_ #[31] 52 #[.slice (some ⟨g, 0, none⟩) l.length cap]).run Tryd.prog w.drew = .ok (.pointer (some ⟨g, 0, none⟩)) w.drew :=
      Lib.run_unsafeSliceData_row _ _ _ _ _ _ (by omega)
    have hUS : (Builtin.unsafeString_ #[52, 3] 9 #[.pointer (some ⟨g, 0, none⟩), .int .i64 l.length]).run Tryd.prog w.drew = .ok (.string ⟨l.toArray⟩) (w.drew.freeze ⟨g, 0, none⟩ l.length) := by
      refine Lib.run_unsafeString_row w.drew 52 3 9 5 Tryd.underlying52 (by kernel_rfl) g cur.size (by have hg' : w.drew.heap[g]? = some (.cells cur 5 (0, 0)) := hg; simp [World.shape?, hg']) l (by intro e; rw [e] at h0; simp at h0) (by omega) (by unfold maxLen at hcm; omega) ?_
      intro j x hx
      exact hown.cells (g := g) rfl j (.int .u8 x.toNat) (by simp [Lib.byteCells, hx])
    replace hs := Lib.hid hs
    clear hg hcs htk hlc hcm hown hbk
    go_enter Tryd.func18, Tryd.ntmps18
    go_wp2_with fail
    go_region
    all_goals
      go_wp2_with fail
      go_ret
      exact ⟨rfl, hs.out⟩
theorem Bl.text {B b : Nat} {acc : List UInt8} {F : Nat → Prop} {w : World} (h : Bl B b acc F w) :
    Calls Tryd.prog 18 #[.pointer (some ⟨b, 0, none⟩)] w fun e w' => e = .returned (.string (ofL acc)) ∧ ∃ G, Step w w' G G ∧ ∀ k, G k → B ≤ k ∧ ¬ F k := by
  obtain ⟨p, v, h1, h2, h3, h4, h5, h6, h7⟩ := h.is
  cases acc with
  | nil =>
    have key : ∀ (e : Ending) (w' : World), (e = .returned (.string ⟨#[]⟩) ∧ Below w.heap.size w w') → e = .returned (.string (ofL [])) ∧ ∃ G, Step w w' G G ∧ ∀ k, G k → B ≤ k ∧ ¬ F k :=
      fun e w' ⟨q1, q2⟩ => ⟨q1, fun _ => False, Step.of_below q2 _, fun _ h => h.elim⟩
    rcases h3.2 with ⟨rfl, _⟩ | ⟨g, cap, cur, rfl, hbg, hg, _, _, _, _⟩
    · exact (Any.Builder_String_nil Tryd.lays169 extra169 w.heap.size b p w h2).mono key
    · by_cases hc0 : cap = 0
      · subst hc0
        exact (Any.Builder_String_noroom Tryd.lays169 extra169 w.heap.size b g p cur w (Nat.le_refl _) h2 hg).mono key
      · exact (Any.Builder_String_room Tryd.lays169 extra169 w.heap.size b g cap p w hc0 h2).mono key
  | cons x r =>
    have hl : (Lib.byteCells (x :: r)).length = (x :: r).length := Lib.byteCells_length _
    rw [hl] at h3
    rcases h3.2 with ⟨_, q⟩ | ⟨g, cap, cur, hv, hbg, rest⟩
    · cases q
    · subst hv
      refine (str_row (l := x :: r) (by simp) h2 h3).mono ?_
      rintro e w' ⟨rfl, hs⟩
      exact ⟨rfl, _, hs, fun k hk => by rw [hk]; exact ⟨hbg, h7 g rfl⟩⟩
end Go.Proofs.YtlgohmghjffiaaaDoor.PChStr

/-
  Zero values of the two structs that hold all bytes: their cells, one by one. No condition.
-/
import Derived.Test.YtlnpadekgakghaaDoorMosObj
namespace Go.Proofs.YtlnpadekgakghaaDoor
open Go.RowKit
namespace Ms
set_option linter.unusedVariables false

def isZ : Value → Bool
  | .int .u8 0 => true
  | _ => false
theorem isZ_eq (v : Value) (h : isZ v = true) : v = .int .u8 0 := by
  unfold isZ at h
  split at h
  · rfl
  · cases h

/-- All of them are the byte nought. -/
def Mid (L : List Value) : Prop := ∀ x ∈ L, x = .int .u8 0
def LeftZ (pre L : List Value) : Prop := ∃ M, L = pre ++ M ∧ Mid M
def RightZ (post L : List Value) : Prop := ∃ M, L = M ++ post ∧ Mid M
def BothZ (pre post L : List Value) : Prop := ∃ M, L = pre ++ M ++ post ∧ Mid M
theorem mid_all {L : List Value} (h : L.all isZ = true) : Mid L := fun x hx => isZ_eq x (List.all_eq_true.1 h x hx)
theorem mid_app {A B : List Value} (ha : Mid A) (hb : Mid B) : Mid (List.append A B) := by
  intro x hx
  rcases List.mem_append.1 hx with h | h
  · exact ha x h
  · exact hb x h
theorem left_app {pre A B : List Value} (ha : LeftZ pre A) (hb : Mid B) : LeftZ pre (List.append A B) := by
  obtain ⟨M, rfl, hm⟩ := ha
  exact ⟨M ++ B, List.append_assoc _ _ _, mid_app hm hb⟩
theorem right_app {post A B : List Value} (ha : Mid A) (hb : RightZ post B) : RightZ post (List.append A B) := by
  obtain ⟨M, rfl, hm⟩ := hb
  exact ⟨A ++ M, (List.append_assoc _ _ _).symm, mid_app ha hm⟩
theorem both_app {pre post A B : List Value} (ha : LeftZ pre A) (hb : RightZ post B) : BothZ pre post (List.append A B) := by
  obtain ⟨M, rfl, hm⟩ := ha
  obtain ⟨N, rfl, hn⟩ := hb
  refine ⟨M ++ N, ?_, mid_app hm hn⟩
  show pre ++ M ++ (N ++ post) = pre ++ (M ++ N) ++ post
  simp

theorem left_leaf {pre L : List Value} (h1 : L.take pre.length = pre) (h2 : (L.drop pre.length).all isZ = true) : LeftZ pre L :=
  ⟨L.drop pre.length, (List.take_append_drop pre.length L).symm.trans (congrArg (· ++ L.drop pre.length) h1), mid_all h2⟩
theorem right_leaf {post L : List Value} (h1 : L.drop (L.length - post.length) = post) (h2 : (L.take (L.length - post.length)).all isZ = true) : RightZ post L :=
  ⟨L.take (L.length - post.length), (List.take_append_drop (L.length - post.length) L).symm.trans (congrArg (L.take (L.length - post.length) ++ ·) h1), mid_all h2⟩

set_option maxRecDepth 100000 in
set_option maxHeartbeats 4000000 in
theorem zeroF : BothZ [] [.slice none 0 0] Tryd.zeroCells37.toList := by
  delta Tryd.zeroCells37
  change BothZ _ _ (List.append _ _)
  refine both_app ?_ ?_
  · repeat' with_reducible (first | apply left_app | apply mid_app)
    all_goals first | exact mid_all rfl | exact left_leaf rfl rfl
  · repeat' with_reducible (first | apply right_app | apply mid_app)
    all_goals first | exact mid_all rfl | exact right_leaf rfl rfl
set_option maxRecDepth 100000 in
set_option maxHeartbeats 4000000 in
theorem zeroC : BothZ [.int .u8 0, .int .u8 0, .int .u8 0, .int .u8 0, .int .u8 0, .int .u16 0, .bool false] [.slice none 0 0, .bool false, .slice none 0 0, .int .i64 0, .int .i64 0] Tryd.zeroCells40.toList := by
  delta Tryd.zeroCells40
  change BothZ _ _ (List.append _ _)
  refine both_app ?_ ?_
  · repeat' with_reducible (first | apply left_app | apply mid_app)
    all_goals first | exact mid_all rfl | exact left_leaf rfl rfl
  · repeat' with_reducible (first | apply right_app | apply mid_app)
    all_goals first | exact mid_all rfl | exact right_leaf rfl rfl

end Ms
end Go.Proofs.YtlnpadekgakghaaDoor

/-
  A patch that was made of records has those records: in mathematics.
-/
import Derived.Test.YtchakjknndpmpaaIpsPut
namespace Go.Proofs.Ytchakjknndpmpaa
namespace Ips

def eof : List UInt8 := [69, 79, 70]

theorem lo_nat (p : Nat) : (lo p).toNat = p % 256 := by simp [lo]
theorem mid_nat (p : Nat) : (mid p).toNat = p / 256 % 256 := by simp [mid]
theorem hi_nat (p : Nat) : (hi p).toNat = p / 65536 % 256 := by simp [hi]
theorem be3 (p : Nat) (h : p < 16777216) : be [hi p, mid p, lo p] = p := by
  simp [be, lo_nat, mid_nat, hi_nat]
  omega
theorem be2 (p : Nat) (h : p < 65536) : be [mid p, lo p] = p := by
  simp [be, lo_nat, mid_nat]
  omega
theorem drop_on (l s t : List UInt8) (k a : Nat) (h : l.drop k = s ++ t) (hs : s.length = a) : l.drop (k + a) = t := by
  subst hs
  rw [← List.drop_drop, h, List.drop_left]
theorem drop_len (l s : List UInt8) (k : Nat) (h : l.drop k = s) (h0 : 0 < s.length) : k + s.length = l.length := by
  have := congrArg List.length h
  simp at this
  omega
theorem num_on (l s t : List UInt8) (k n : Nat) (h : l.drop k = s ++ t) (hs : s.length = n) : num l k n = be s := by
  subst hs
  rw [num, h, List.take_left]

theorem recB_length (r : Rec) : (recB r).length = if 0 < r.run then 8 else 5 + r.data.length := by
  unfold recB
  split <;> simp <;> omega

theorem recAt_put (l rest : List UInt8) (k : Nat) (r : Rec) (hf : Fits r) (h : l.drop k = recB r ++ rest) : recAt l (k + 3) r.pos = .inr (r, k + (recB r).length) := by
  obtain ⟨⟨h1, h2⟩, h3, h4, h5⟩ := hf
  have hlen := drop_len l _ k h (by rw [List.length_append, recB_length]; split <;> omega)
  rw [recB_length] at *
  obtain ⟨pos, run, data⟩ := r
  simp only at *
  by_cases h0 : 0 < run
  · have hb : recB ⟨pos, run, data⟩ = [hi pos, mid pos, lo pos] ++ [0, 0, mid run, lo run, data.headD 0] := by simp [recB, h0]
    have hd : data = [data.headD 0] := by
      obtain ⟨x, hx⟩ := List.length_eq_one_iff.1 (h2 h0)
      rw [hx]; rfl
    rw [hb] at h
    rw [List.append_assoc] at h
    have d3 := drop_on l _ _ k 3 h rfl
    have n2 : num l (k + 3) 2 = 0 := num_on l [0, 0] ([mid run, lo run, data.headD 0] ++ rest) (k + 3) 2 d3 rfl
    have d5 := drop_on l [0, 0] ([mid run, lo run, data.headD 0] ++ rest) (k + 3) 2 d3 rfl
    have n5 : num l (k + 3 + 2) 2 = run := by rw [num_on l [mid run, lo run] ([data.headD 0] ++ rest) (k + 3 + 2) 2 d5 rfl, be2 run h4]
    have d7 := drop_on l [mid run, lo run] ([data.headD 0] ++ rest) (k + 3 + 2) 2 d5 rfl
    have hl2 : k + 3 + 5 ≤ l.length := by simp [hb] at hlen; omega
    rw [recAt_r l (k + 3) pos run hl2 n2 n5 h0, if_pos h0]
    have e : (l.drop (k + 3 + 4)).take 1 = data := by
      show (l.drop (k + 3 + 2 + 2)).take 1 = data
      rw [d7, hd]
      rfl
    rw [e]
  · have h0' : run = 0 := by omega
    subst h0'
    have hb : recB ⟨pos, 0, data⟩ = [hi pos, mid pos, lo pos] ++ ([mid data.length, lo data.length] ++ data) := by simp [recB]
    rw [hb, List.append_assoc] at h
    have d3 := drop_on l _ _ k 3 h rfl
    have n2 : num l (k + 3) 2 = data.length := by
      rw [num_on l [mid data.length, lo data.length] (data ++ rest) (k + 3) 2 (by rw [d3, List.append_assoc]) rfl, be2 _ h5]
    have d5 := drop_on l [mid data.length, lo data.length] (data ++ rest) (k + 3) 2 (by rw [d3, List.append_assoc]) rfl
    have hl2 : k + 3 + 2 + data.length ≤ l.length := by simp [hb] at hlen; omega
    rw [recAt_d l (k + 3) pos data.length (by omega) n2 h1 hl2, d5, List.take_left, if_neg h0]
    congr 2
    omega

theorem recs_made (l tl : List UInt8) : ∀ (rs : List Rec) (f k : Nat), l.length < f + k → l.drop k = rs.flatMap recB ++ (eof ++ tl) → (∀ r ∈ rs, Fits r ∧ r.pos ≠ 4542278) → recs l f k = .inr (rs, l.length - tl.length) := by
  intro rs
  induction rs with
  | nil =>
    intro f k hf h _
    have h' : l.drop k = eof ++ tl := by simpa using h
    have hl := drop_len l _ k h' (by simp [eof])
    rw [recs_end l f k hf (by simp [eof] at hl; omega) (by rw [num_on l eof tl k 3 h' rfl]; rfl)]
    congr 2
    simp [eof] at hl
    omega
  | cons r rs ih =>
    intro f k hf h hr
    have h' : l.drop k = recB r ++ (rs.flatMap recB ++ (eof ++ tl)) := by rw [h]; simp
    have hr0 := hr r (by simp)
    have hl := drop_len l _ k h' (by simp [eof]; omega)
    have hb : 5 < (recB r).length := by rw [recB_length]; have := hr0.1.1.1; split <;> omega
    have hn : num l k 3 = r.pos := by
      have e : recB r = [hi r.pos, mid r.pos, lo r.pos] ++ (recB r).drop 3 := by unfold recB; split <;> rfl
      rw [num_on l [hi r.pos, mid r.pos, lo r.pos] ((recB r).drop 3 ++ (rs.flatMap recB ++ (eof ++ tl))) k 3 (by rw [h', ← List.append_assoc [hi r.pos, mid r.pos, lo r.pos], ← e]) rfl, be3 _ hr0.1.2.1]
    obtain ⟨f', h1, h2⟩ := recs_next l f k _ r hf (by simp at hl; omega) (by rw [hn]; exact hr0.2) (by rw [hn]; exact recAt_put l _ k r hr0.1 h')
    rw [h2, ih f' _ h1 (drop_on l _ _ k _ h' rfl) (fun r' h => hr r' (by simp [h]))]
    rfl

theorem parse_made (rs : List Rec) (tl : List UInt8) (hr : ∀ r ∈ rs, Fits r ∧ r.pos ≠ 4542278) (hlen : (patch ++ (rs.flatMap recB ++ (eof ++ tl))).length ≤ 16777216) :
    parse (patch ++ (rs.flatMap recB ++ (eof ++ tl))) = tailOf (patch ++ (rs.flatMap recB ++ (eof ++ tl))) rs ((patch ++ (rs.flatMap recB ++ (eof ++ tl))).length - tl.length) := by
  refine parse_tail _ rs _ (by omega) (by rw [show (5 : Nat) = patch.length from rfl, List.take_left]) ?_
  exact recs_made _ tl rs _ 5 (by omega) (by rw [show (5 : Nat) = patch.length from rfl, List.drop_left]) hr

theorem parse_made0 (rs : List Rec) (hr : ∀ r ∈ rs, Fits r ∧ r.pos ≠ 4542278) (hlen : (patch ++ (rs.flatMap recB ++ eof)).length ≤ 16777216) : parse (patch ++ (rs.flatMap recB ++ eof)) = (0, rs, -1) := by
  have h := parse_made rs [] hr (by simpa using hlen)
  rw [List.append_nil] at h
  rw [h, tailOf, if_pos (by simp)]
theorem parse_made3 (rs : List Rec) (c : Nat) (hc : c < 16777216) (hr : ∀ r ∈ rs, Fits r ∧ r.pos ≠ 4542278) (hlen : (patch ++ (rs.flatMap recB ++ (eof ++ [hi c, mid c, lo c]))).length ≤ 16777216) :
    parse (patch ++ (rs.flatMap recB ++ (eof ++ [hi c, mid c, lo c]))) = (0, rs, (c : Int)) := by
  have h := parse_made rs [hi c, mid c, lo c] hr hlen
  have e : (patch ++ (rs.flatMap recB ++ (eof ++ [hi c, mid c, lo c]))).length - [hi c, mid c, lo c].length = (patch ++ (rs.flatMap recB ++ eof)).length := by simp; omega
  rw [h, e, tailOf, if_neg (by simp), if_neg (by simp; omega), if_neg (by simp; omega)]
  have d : (patch ++ (rs.flatMap recB ++ (eof ++ [hi c, mid c, lo c]))).drop (patch ++ (rs.flatMap recB ++ eof)).length = [hi c, mid c, lo c] ++ [] := by
    rw [show patch ++ (rs.flatMap recB ++ (eof ++ [hi c, mid c, lo c])) = (patch ++ (rs.flatMap recB ++ eof)) ++ [hi c, mid c, lo c] by simp, List.drop_left, List.append_nil]
  rw [num_on _ _ _ _ 3 d rfl, be3 c hc]

end Ips
end Go.Proofs.Ytchakjknndpmpaa

/-
  The numbers of faults, the bounds of tokens, and two lists of bytes with a line's end between.
-/
import Derived.Test.YtmgjfakdjponoabDoorPlain4
namespace Go.Proofs.YtmgjfakdjponoabDoor
namespace Nu

theorem next_code {g : Nat → Int} {n p : Nat} {x : Nat × Int} (hp : p ≤ n) (h : next g n p = .error x) : (x.2 = 11 ∨ x.2 = 12) ∧ x.1 < n := by
  have hs := skip_is isBlank g n p hp
  by_cases h1 : skip isBlank g n p = n
  · rw [h1] at hs
    rw [next_end hs] at h
    cases h
  · have hlt : skip isBlank g n p < n := Nat.lt_of_le_of_ne hs.hi h1
    cases hd : isDigit (g (skip isBlank g n p))
    · by_cases h10 : g (skip isBlank g n p) = 10
      · rw [next_line hs hlt h10] at h
        cases h
      · rw [next_byte hs hlt hd h10] at h
        cases h
        exact ⟨.inl rfl, hlt⟩
    · have hr := skip_is isDigit g n (skip isBlank g n p) hs.hi
      by_cases hb : 9 < skip isDigit g n (skip isBlank g n p) - skip isBlank g n p ∨ (1 < skip isDigit g n (skip isBlank g n p) - skip isBlank g n p ∧ g (skip isBlank g n p) = 48)
      · rw [next_bad hs hlt hd hr hb] at h
        cases h
        exact ⟨.inr rfl, hlt⟩
      · rw [next_num hs hlt hd hr hb] at h
        cases h

theorem scanF_code {g : Nat → Int} {n : Nat} {x : Nat × Int} : ∀ {k p : Nat}, p ≤ n → scanF g n k p = .error x → (x.2 = 11 ∨ x.2 = 12) ∧ x.1 < n
  | 0, p, _, h => by simp [scanF] at h
  | k + 1, p, hp, h => by
    cases hx : next g n p with
    | error y =>
      rw [scanF_fault k hx] at h
      cases h
      exact next_code hp hx
    | ok y =>
      obtain ⟨u, p'⟩ := y
      have hm := next_moves hp hx
      by_cases h3 : u.kind = 3
      · rw [scanF_last k hx h3] at h
        cases h
      · rw [scanF_more k hx h3] at h
        cases hr : scanF g n k p' with
        | error y =>
          rw [hr] at h
          cases h
          exact scanF_code hm.1 hr
        | ok us => rw [hr] at h; cases h

theorem scan_code {g : Nat → Int} {n : Nat} {x : Nat × Int} (h : scan g n = .error x) : (x.2 = 11 ∨ x.2 = 12) ∧ x.1 < n := scanF_code (Nat.zero_le _) h

def Fits (n : Nat) (t : Tok) : Prop := (t.kind = 1 ∨ t.kind = 2 ∨ t.kind = 3) ∧ 0 ≤ t.at' ∧ t.at' ≤ n ∧ 0 ≤ t.fin ∧ t.fin ≤ n ∧ 0 ≤ t.num ∧ t.num < 1000000000

theorem scanF_fits {g : Nat → Int} {n : Nat} : ∀ {ts : List Tok} {k p : Nat}, p ≤ n → scanF g n k p = .ok ts → ∀ t ∈ ts, Fits n t
  | [], _, _, _, _, t, ht => by cases ht
  | u :: us, k, p, hp, h, t, ht => by
    obtain ⟨p', hn, hp', k', hs⟩ := scanF_cons hp h
    rcases List.mem_cons.1 ht with rfl | ht
    · exact next_fits hp hn
    · exact scanF_fits hp' hs t ht

theorem scan_fits {g : Nat → Int} {n : Nat} {ts : List Tok} (h : scan g n = .ok ts) : ∀ t ∈ ts, Fits n t := scanF_fits (Nat.zero_le _) h

theorem joined_lists (za zb : List Int) (na nb : Nat) (ha : (za.take na).length = na) (_hb : (zb.take nb).length = nb) :
    Joined (fun i => (za.take na ++ [10] ++ zb.take nb).getD i 0) (fun i => za.getD i 0) (fun i => zb.getD i 0) (na + 1 + nb) na nb := by
  refine ⟨rfl, fun i hi => ?_, ?_, fun i hi => ?_⟩
  · show (za.take na ++ [10] ++ zb.take nb).getD i 0 = za.getD i 0
    rw [List.getD_eq_getElem?_getD, List.getD_eq_getElem?_getD, List.append_assoc, List.getElem?_append_left (by omega), List.getElem?_take, if_pos hi]
  · show (za.take na ++ [10] ++ zb.take nb).getD na 0 = 10
    rw [List.getD_eq_getElem?_getD, List.append_assoc, List.getElem?_append_right (by omega), ha]
    simp
  · show (za.take na ++ [10] ++ zb.take nb).getD (na + 1 + i) 0 = zb.getD i 0
    rw [List.getD_eq_getElem?_getD, List.getD_eq_getElem?_getD, List.getElem?_append_right (by rw [List.length_append, ha]; simp)]
    have e : na + 1 + i - (za.take na ++ [10]).length = i := by rw [List.length_append, ha]; simp
    rw [e, List.getElem?_take, if_pos hi]

end Nu
end Go.Proofs.YtmgjfakdjponoabDoor

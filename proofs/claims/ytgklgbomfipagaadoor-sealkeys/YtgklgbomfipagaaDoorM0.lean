/- The mathematics of a mac: a secret's pad, a pad under a number, what bytes come to under a secret. No program is named here. -/
import Derived.Test.YtgklgbomfipagaaDoorH5
namespace Go.Proofs.YtgklgbomfipagaaDoor

def keyed (s : List UInt8) : List UInt8 := if 64 < s.length then digest s else s
/-- Bytes brought to sixty-four. -/
def to64 (k : List UInt8) : List UInt8 := k ++ List.replicate (64 - k.length) 0
def pad (s : List UInt8) : List UInt8 := to64 (keyed s)
def und (p : List UInt8) (x : UInt8) : List UInt8 := p.map (· ^^^ x)
def hmac (s b : List UInt8) : List UInt8 := digest (und (pad s) 92 ++ digest (und (pad s) 54 ++ b))

theorem dig_len (bs : List UInt8) : (digest bs).length = 32 := by unfold digest; rw [wbytes_length]
theorem keyed_le (s : List UInt8) : (keyed s).length ≤ 64 := by
  unfold keyed
  split
  · rw [dig_len]; omega
  · omega
theorem to64_length (k : List UInt8) (h : k.length ≤ 64) : (to64 k).length = 64 := by
  unfold to64
  rw [List.length_append, List.length_replicate]; omega
theorem pad_length (s : List UInt8) : (pad s).length = 64 := to64_length _ (keyed_le s)
theorem und_length (p : List UInt8) (x : UInt8) : (und p x).length = p.length := by unfold und; simp
theorem hmac_length (s b : List UInt8) : (hmac s b).length = 32 := dig_len _

theorem to64_get (k : List UInt8) (j : Nat) (hj : j < (to64 k).length) : (to64 k)[j] = if h : j < k.length then k[j] else 0 := by
  simp only [to64, List.getElem_append]
  split
  · rfl
  · simp

theorem pad_long (s : List UInt8) (h : 64 < s.length) : pad (digest s) = pad s := by
  have e1 : keyed s = digest s := by unfold keyed; rw [if_pos h]
  have e2 : keyed (digest s) = digest s := by
    have : ¬ 64 < (digest s).length := by rw [dig_len]; omega
    conv => lhs; unfold keyed
    rw [if_neg this]
  unfold pad
  rw [e1, e2]

theorem pad_zeros (s : List UInt8) (k : Nat) (h : s.length + k ≤ 64) : pad (s ++ List.replicate k 0) = pad s := by
  have e1 : keyed s = s := by unfold keyed; rw [if_neg (by omega)]
  have e2 : keyed (s ++ List.replicate k 0) = s ++ List.replicate k 0 := by unfold keyed; rw [if_neg (by simp; omega)]
  unfold pad
  rw [e1, e2]
  unfold to64
  rw [List.append_assoc, List.replicate_append_replicate, List.length_append, List.length_replicate]
  congr 2
  omega

theorem hmac_pad {s t : List UInt8} (h : pad s = pad t) (b : List UInt8) : hmac s b = hmac t b := by unfold hmac; rw [h]

end Go.Proofs.YtgklgbomfipagaaDoor

/- The tied card of NumtextShort: no fewer digits than the text of a number above 0 has are read as that number. -/
import Derived.Shelf.Strconv.Atoi
import Derived.Test.YtpejebohekcfoaaGreatDoorProg
import Derived.Test.YtpejebohekcfoaaGreatDoorMN
import Derived.Test.YtpejebohekcfoaaGreatDoorHP
import Derived.Test.YtpejebohekcfoaaGreatDoorP2
import Derived.Test.YtpejebohekcfoaaGreatDoorW7
import Derived.Test.YtpejebohekcfoaaGreatDoorBB
import Derived.Lib.Atoi
import Derived.Test.YtpejebohekcfoaaGreatDoorRR
import Derived.Test.YtpejebohekcfoaaGreatDoorCards
import Derived.Test.YtpejebohekcfoaaGreatDoorTie
import Derived.WalkKit
import Derived.ProofKit
import Derived.OpenShut
import Derived.ChangeOld
import Derived.Below
import Derived.Carry
import Derived.LaidMore
import Derived.Lib.LaidTab
import Derived.Lay
import Derived.SevenTiedAt
import Derived.Stop.Joined
/- Contracts of package strconv at this dump (Atoi): each is one application of the library's own theorem. -/
namespace Go.Proofs
open Go.Shelf
set_option linter.unusedVariables false
def Tryz.lays244_ren : Go.Shelf.Ren := ⟨fun | 244 => 99 | 247 => 137 | 287 => 157 | 321 => 169 | 322 => 170 | n => n, fun | 9 => 9 | 3 => 3 | 75 => 63 | 4 => 4 | 5 => 5 | 167 => 150 | 37 => 37 | 0 => 0 | 85 => 151 | 2 => 2 | 53 => 22 | 175 => 166 | 46 => 97 | 21 => 21 | 80 => 76 | n => n, fun | n => n⟩
theorem Tryz.lays244 : Go.Proofs.Lays.n244 Tryz.prog Tryz.lays244_ren := {
  mixed := by kernel_rfl
  f244 := Tryz.func99.trans (congrArg some (by kernel_rfl))
  f247 := Tryz.func137.trans (congrArg some (by kernel_rfl))
  f287 := Tryz.func157.trans (congrArg some (by kernel_rfl))
  f321 := Tryz.func169.trans (congrArg some (by kernel_rfl))
  f322 := Tryz.func170.trans (congrArg some (by kernel_rfl))
  t0 := Tryz.underlying0
  a0 := Tryz.isAgg0
  z0 := Tryz.sizeOf0
  v0 := Tryz.zeroValue0
  t2 := Tryz.underlying2
  a2 := Tryz.isAgg2
  z2 := Tryz.sizeOf2
  v2 := Tryz.zeroValue2
  t3 := Tryz.underlying3
  a3 := Tryz.isAgg3
  z3 := Tryz.sizeOf3
  v3 := Tryz.zeroValue3
  t4 := Tryz.underlying4
  a4 := Tryz.isAgg4
  z4 := Tryz.sizeOf4
  v4 := Tryz.zeroValue4
  t5 := Tryz.underlying5
  a5 := Tryz.isAgg5
  z5 := Tryz.sizeOf5
  v5 := Tryz.zeroValue5
  t9 := Tryz.underlying9
  a9 := Tryz.isAgg9
  z9 := Tryz.sizeOf9
  v9 := Tryz.zeroValue9
  t21 := Tryz.underlying21
  a21 := Tryz.isAgg21
  z21 := Tryz.sizeOf21
  v21 := Tryz.zeroValue21
  t37 := Tryz.underlying37
  a37 := Tryz.isAgg37
  z37 := Tryz.sizeOf37
  v37 := Tryz.zeroValue37
  t46 := Tryz.underlying97
  a46 := Tryz.isAgg97
  z46 := Tryz.sizeOf97
  v46 := Tryz.zeroValue97
  t53 := Tryz.underlying22
  a53 := Tryz.isAgg22
  z53 := Tryz.sizeOf22
  v53 := Tryz.zeroValue22
  t75 := Tryz.underlying63
  a75 := Tryz.isAgg63
  z75 := Tryz.sizeOf63
  v75 := Tryz.zeroValue63
  t85 := Tryz.underlying151
  a85 := Tryz.isAgg151
  z85 := Tryz.sizeOf151
  v85 := Tryz.zeroValue151
  t167 := Tryz.underlying150
  a167 := Tryz.isAgg150
  z167 := Tryz.sizeOf150
  v167 := Tryz.zeroValue150
  t175 := Tryz.underlying166
  a175 := Tryz.isAgg166
  z175 := Tryz.sizeOf166
  v175 := Tryz.zeroValue166 }
open Go.RowKit in
/-- internal/strconv.Atoi, at a decimal numeral of at most 18 bytes: ITS VALUE, AND NO ERROR. The world behind the call: the one new row that '[]byte(s)' lays. (LAID: no walk: one application.) -/
theorem Tryz.internal_strconv_Atoi (s : ByteArray) (n : Int) (hl : s.size ≤ 18) (h : Lib.atoi s.data.toList = some n) (w : World) :
    Calls Tryz.prog 99 #[.string s] w fun e w' => e = .returned (.tuple #[.int .i64 n, .nilIface]) ∧ ∃ t, w' = Lib.bytesWorld w 5 t := Any.internal_strconv_Atoi Tryz.lays244 s n hl h w
def Tryz.lays172_ren : Go.Shelf.Ren := ⟨fun | 172 => 49 | 244 => 99 | 245 => 100 | 247 => 137 | 279 => 138 | 280 => 139 | 281 => 140 | 282 => 141 | 287 => 157 | 316 => 158 | 171 => 22 | 205 => 159 | 321 => 169 | 322 => 170 | 243 => 51 | 246 => 55 | 283 => 101 | 284 => 102 | 285 => 103 | 286 => 104 | 129 => 143 | 317 => 142 | 318 => 144 | 319 => 145 | 320 => 146 | 337 => 160 | 338 => 161 | n => n, fun | 9 => 9 | 3 => 3 | 75 => 63 | 76 => 64 | 4 => 4 | 5 => 5 | 167 => 150 | 37 => 37 | 0 => 0 | 85 => 151 | 2 => 2 | 168 => 153 | 53 => 22 | 175 => 166 | 46 => 97 | 210 => 169 | 127 => 125 | 145 => 186 | 143 => 184 | 21 => 21 | 171 => 119 | 173 => 122 | 212 => 157 | 51 => 139 | 20 => 20 | 213 => 158 | 232 => 187 | 233 => 188 | 80 => 76 | n => n, fun | 15 => 2 | 16 => 3 | 17 => 1 | 18 => 6 | 19 => 7 | n => n⟩
theorem Tryz.lays172 : Go.Proofs.Lays.n172 Tryz.prog Tryz.lays172_ren := {
  mixed := by kernel_rfl
  f129 := Tryz.func143.trans (congrArg some (by kernel_rfl))
  f171 := Tryz.func22.trans (congrArg some (by kernel_rfl))
  f172 := Tryz.func49.trans (congrArg some (by kernel_rfl))
  f205 := Tryz.func159.trans (congrArg some (by kernel_rfl))
  f243 := Tryz.func51.trans (congrArg some (by kernel_rfl))
  f244 := Tryz.func99.trans (congrArg some (by kernel_rfl))
  f245 := Tryz.func100.trans (congrArg some (by kernel_rfl))
  f246 := Tryz.func55.trans (congrArg some (by kernel_rfl))
  f247 := Tryz.func137.trans (congrArg some (by kernel_rfl))
  f279 := Tryz.func138.trans (congrArg some (by kernel_rfl))
  f280 := Tryz.func139.trans (congrArg some (by kernel_rfl))
  f281 := Tryz.func140.trans (congrArg some (by kernel_rfl))
  f282 := Tryz.func141.trans (congrArg some (by kernel_rfl))
  f283 := Tryz.func101.trans (congrArg some (by kernel_rfl))
  f284 := Tryz.func102.trans (congrArg some (by kernel_rfl))
  f285 := Tryz.func103.trans (congrArg some (by kernel_rfl))
  f286 := Tryz.func104.trans (congrArg some (by kernel_rfl))
  f287 := Tryz.func157.trans (congrArg some (by kernel_rfl))
  f316 := Tryz.func158.trans (congrArg some (by kernel_rfl))
  f317 := Tryz.func142.trans (congrArg some (by kernel_rfl))
  f318 := Tryz.func144.trans (congrArg some (by kernel_rfl))
  f319 := Tryz.func145.trans (congrArg some (by kernel_rfl))
  f320 := Tryz.func146.trans (congrArg some (by kernel_rfl))
  f321 := Tryz.func169.trans (congrArg some (by kernel_rfl))
  f322 := Tryz.func170.trans (congrArg some (by kernel_rfl))
  f337 := Tryz.func160.trans (congrArg some (by kernel_rfl))
  f338 := Tryz.func161.trans (congrArg some (by kernel_rfl))
  t0 := Tryz.underlying0
  a0 := Tryz.isAgg0
  z0 := Tryz.sizeOf0
  v0 := Tryz.zeroValue0
  t2 := Tryz.underlying2
  a2 := Tryz.isAgg2
  z2 := Tryz.sizeOf2
  v2 := Tryz.zeroValue2
  t3 := Tryz.underlying3
  a3 := Tryz.isAgg3
  z3 := Tryz.sizeOf3
  v3 := Tryz.zeroValue3
  t4 := Tryz.underlying4
  a4 := Tryz.isAgg4
  z4 := Tryz.sizeOf4
  v4 := Tryz.zeroValue4
  t5 := Tryz.underlying5
  a5 := Tryz.isAgg5
  z5 := Tryz.sizeOf5
  v5 := Tryz.zeroValue5
  t9 := Tryz.underlying9
  a9 := Tryz.isAgg9
  z9 := Tryz.sizeOf9
  v9 := Tryz.zeroValue9
  t20 := Tryz.underlying20
  a20 := Tryz.isAgg20
  z20 := Tryz.sizeOf20
  v20 := Tryz.zeroValue20
  t21 := Tryz.underlying21
  a21 := Tryz.isAgg21
  z21 := Tryz.sizeOf21
  v21 := Tryz.zeroValue21
  t37 := Tryz.underlying37
  a37 := Tryz.isAgg37
  z37 := Tryz.sizeOf37
  v37 := Tryz.zeroValue37
  t46 := Tryz.underlying97
  a46 := Tryz.isAgg97
  z46 := Tryz.sizeOf97
  v46 := Tryz.zeroValue97
  t51 := Tryz.underlying139
  a51 := Tryz.isAgg139
  z51 := Tryz.sizeOf139
  v51 := Tryz.zeroValue139
  t53 := Tryz.underlying22
  a53 := Tryz.isAgg22
  z53 := Tryz.sizeOf22
  v53 := Tryz.zeroValue22
  t75 := Tryz.underlying63
  a75 := Tryz.isAgg63
  z75 := Tryz.sizeOf63
  v75 := Tryz.zeroValue63
  t76 := Tryz.underlying64
  a76 := Tryz.isAgg64
  z76 := Tryz.sizeOf64
  v76 := Tryz.zeroValue64
  t85 := Tryz.underlying151
  a85 := Tryz.isAgg151
  z85 := Tryz.sizeOf151
  v85 := Tryz.zeroValue151
  t127 := Tryz.underlying125
  a127 := Tryz.isAgg125
  z127 := Tryz.sizeOf125
  v127 := Tryz.zeroValue125
  t143 := Tryz.underlying184
  a143 := Tryz.isAgg184
  z143 := Tryz.sizeOf184
  v143 := Tryz.zeroValue184
  t145 := Tryz.underlying186
  a145 := Tryz.isAgg186
  z145 := Tryz.sizeOf186
  v145 := Tryz.zeroValue186
  t167 := Tryz.underlying150
  a167 := Tryz.isAgg150
  z167 := Tryz.sizeOf150
  v167 := Tryz.zeroValue150
  t168 := Tryz.underlying153
  a168 := Tryz.isAgg153
  z168 := Tryz.sizeOf153
  v168 := Tryz.zeroValue153
  t171 := Tryz.underlying119
  a171 := Tryz.isAgg119
  z171 := Tryz.sizeOf119
  v171 := Tryz.zeroValue119
  t173 := Tryz.underlying122
  a173 := Tryz.isAgg122
  z173 := Tryz.sizeOf122
  v173 := Tryz.zeroValue122
  t175 := Tryz.underlying166
  a175 := Tryz.isAgg166
  z175 := Tryz.sizeOf166
  v175 := Tryz.zeroValue166
  t210 := Tryz.underlying169
  a210 := Tryz.isAgg169
  z210 := Tryz.sizeOf169
  v210 := Tryz.zeroValue169
  t212 := Tryz.underlying157
  a212 := Tryz.isAgg157
  z212 := Tryz.sizeOf157
  v212 := Tryz.zeroValue157
  t213 := Tryz.underlying158
  a213 := Tryz.isAgg158
  z213 := Tryz.sizeOf158
  t232 := Tryz.underlying187
  a232 := Tryz.isAgg187
  z232 := Tryz.sizeOf187
  v232 := Tryz.zeroValue187
  t233 := Tryz.underlying188
  a233 := Tryz.isAgg188
  z233 := Tryz.sizeOf188
  v233 := Tryz.zeroValue188
  g15 := by kernel_rfl
  g16 := by kernel_rfl
  g17 := by kernel_rfl
  g18 := by kernel_rfl
  g19 := by kernel_rfl }
open Go.RowKit in
/-- strconv.Atoi: "Atoi is equivalent to ParseInt(s, 10, 0), converted to type int.": AT A DECIMAL NUMERAL OF AT MOST 18 BYTES: its value, and a nil error. The world behind the call: the one new row that the library's '[]byte(s)' lays. (LAID: no walk: one application.) -/
theorem Tryz.strconv_Atoi (s : ByteArray) (n : Int) (hl : s.size ≤ 18) (h : Lib.atoi s.data.toList = some n) (w : World) :
    Calls Tryz.prog 49 #[.string s] w fun e w' => e = .returned (.tuple #[.int .i64 n, .nilIface]) ∧ ∃ t, w' = Lib.bytesWorld w 5 t := Any.strconv_Atoi Tryz.lays172 s n hl h w
end Go.Proofs
/- Plain: what lies between the mids is read as the number between them. -/
namespace Go.Proofs.YtpejebohekcfoaaGreatDoor
set_option linter.unusedVariables false

theorem stq_lt (A M t Z : Nat) (hM : 0 < M) : stq A M t < 2 * Z ↔ A * 2 ^ t < Z * M := by
  unfold stq
  rw [← Nat.div_lt_iff_lt_mul hM]
  split <;> omega

theorem stq_eq (A M t Z : Nat) (hM : 0 < M) : stq A M t = 2 * Z ↔ A * 2 ^ t = Z * M := by
  unfold stq
  have d := Nat.div_add_mod (A * 2 ^ t) M
  generalize A * 2 ^ t = X at *
  constructor
  · intro h
    split at h
    · rename_i h0
      have e : X / M = Z := by omega
      rw [e, h0, Nat.mul_comm] at d
      omega
    · omega
  · intro h
    have h1 : X / M = Z := by rw [h]; exact Nat.mul_div_cancel _ hM
    have h2 : X % M = 0 := by rw [h]; exact Nat.mul_mod_left _ _
    rw [h1, h2]
    simp

theorem pow_mul_lt {a b c : Nat} : a * 2 ^ c < b * 2 ^ c ↔ a < b := Nat.mul_lt_mul_right (Nat.two_pow_pos c)

/-- from a number up to the middle -/
theorem near_up (r A M u : Nat) (hu : u = 1074) (hr : r < 9218868437227405312) (hA : 0 < A) (hM : 0 < M) (h0 : valN r * M ≤ A * 2 ^ u) (h1 : 2 * (A * 2 ^ u) < (valN r + valN (r + 1)) * M ∨ (2 * (A * 2 ^ u) = (valN r + valN (r + 1)) * M ∧ r % 2 = 0)) :
    nearQ A M = r := by
  obtain ⟨c, hc⟩ : ∃ c, c = M.log2 + 60 := ⟨_, rfl⟩
  have vl := valN_lt (Nat.lt_succ_self r)
  rw [nearQ_fine A M (u + (c + 1)) hA hM (by omega)]
  unfold rungQ
  have et : A * 2 ^ (u + (c + 1)) = A * 2 ^ u * 2 ^ (c + 1) := by rw [Nat.pow_add, Nat.mul_assoc]
  have k0 : valN r * 2 ^ (c + 1 + 1) ≤ stq A M (u + (c + 1)) := by
    have := (not_congr (stq_lt A M (u + (c + 1)) (valN r * 2 ^ (c + 1)) hM)).2 (by
      rw [et, Nat.mul_right_comm (valN r)]
      exact Nat.not_lt.2 (Nat.mul_le_mul_right _ h0))
    rw [Nat.pow_succ 2 (c + 1)]
    have e : valN r * (2 ^ (c + 1) * 2) = 2 * (valN r * 2 ^ (c + 1)) := by rw [Nat.mul_comm (2 ^ (c + 1)) 2, Nat.mul_left_comm]
    omega
  have k1 : stq A M (u + (c + 1)) < valN (r + 1) * 2 ^ (c + 1 + 1) := by
    have hl : A * 2 ^ u < valN (r + 1) * M := by
      have e : (valN r + valN (r + 1)) * M = valN r * M + valN (r + 1) * M := Nat.add_mul _ _ _
      have g : valN r * M < valN (r + 1) * M := Nat.mul_lt_mul_of_pos_right vl hM
      omega
    have := (stq_lt A M (u + (c + 1)) (valN (r + 1) * 2 ^ (c + 1)) hM).2 (by
      rw [et, Nat.mul_right_comm (valN (r + 1))]
      exact pow_mul_lt.2 hl)
    have e : valN (r + 1) * (2 ^ (c + 1) * 2) = 2 * (valN (r + 1) * 2 ^ (c + 1)) := by rw [Nat.mul_comm (2 ^ (c + 1)) 2, Nat.mul_left_comm]
    rw [Nat.pow_succ 2 (c + 1)]
    omega
  have g : goesUp r (stq A M (u + (c + 1))) (c + 1) = 0 := by
    unfold goesUp
    have e2 : (valN r + valN (r + 1)) * 2 ^ (c + 1) = 2 * ((valN r + valN (r + 1)) * 2 ^ c) := by rw [Nat.pow_succ, Nat.mul_comm (2 ^ c) 2, Nat.mul_left_comm]
    have ew : A * 2 ^ (u + (c + 1)) = 2 * (A * 2 ^ u) * 2 ^ c := by rw [et, Nat.pow_succ, Nat.mul_comm (2 ^ c) 2, ← Nat.mul_assoc, Nat.mul_comm (A * 2 ^ u) 2]
    rw [e2, if_neg]
    rintro (h | ⟨h, ho⟩)
    · have h3 : ¬ stq A M (u + (c + 1)) < 2 * ((valN r + valN (r + 1)) * 2 ^ c) := by omega
      have h4 : stq A M (u + (c + 1)) ≠ 2 * ((valN r + valN (r + 1)) * 2 ^ c) := by omega
      rw [stq_lt A M _ _ hM, ew, Nat.mul_right_comm (valN r + valN (r + 1)), pow_mul_lt] at h3
      rw [Ne, stq_eq A M _ _ hM, ew, Nat.mul_right_comm (valN r + valN (r + 1))] at h4
      rcases h1 with h1 | ⟨h1, _⟩
      · exact h3 h1
      · exact h4 (by rw [h1])
    · have h4 : stq A M (u + (c + 1)) = 2 * ((valN r + valN (r + 1)) * 2 ^ c) := h.symm
      rw [stq_eq A M _ _ hM, ew, Nat.mul_right_comm (valN r + valN (r + 1))] at h4
      have h5 := Nat.eq_of_mul_eq_mul_right (Nat.two_pow_pos c) h4
      rcases h1 with h1 | ⟨_, h1⟩
      · omega
      · omega
  have := rung_between r (stq A M (u + (c + 1))) (c + 1) hr k0 k1
  rw [g] at this
  have e : -((u + (c + 1) : Nat) : Int) - 1 = -(1075 + ((c + 1 : Nat) : Int)) := by omega
  rw [e]
  exact this

/-- from the middle up to a number -/
theorem near_dn (s A M u : Nat) (hu : u = 1074) (hr : s + 1 < 9218868437227405312) (hA : 0 < A) (hM : 0 < M) (h0 : A * 2 ^ u ≤ valN (s + 1) * M) (h1 : (valN s + valN (s + 1)) * M < 2 * (A * 2 ^ u) ∨ ((valN s + valN (s + 1)) * M = 2 * (A * 2 ^ u) ∧ s % 2 = 1)) :
    nearQ A M = s + 1 := by
  have vl := valN_lt (Nat.lt_succ_self s)
  have vl2 := valN_lt (Nat.lt_succ_self (s + 1))
  rcases Nat.lt_or_ge (A * 2 ^ u) (valN (s + 1) * M) with hl | hl
  · obtain ⟨c, hc⟩ : ∃ c, c = M.log2 + 60 := ⟨_, rfl⟩
    rw [nearQ_fine A M (u + (c + 1)) hA hM (by omega)]
    unfold rungQ
    have et : A * 2 ^ (u + (c + 1)) = A * 2 ^ u * 2 ^ (c + 1) := by rw [Nat.pow_add, Nat.mul_assoc]
    have eM : (valN s + valN (s + 1)) * M = valN s * M + valN (s + 1) * M := Nat.add_mul _ _ _
    have gM : valN s * M < valN (s + 1) * M := Nat.mul_lt_mul_of_pos_right vl hM
    have k0 : valN s * 2 ^ (c + 1 + 1) ≤ stq A M (u + (c + 1)) := by
      have := (not_congr (stq_lt A M (u + (c + 1)) (valN s * 2 ^ (c + 1)) hM)).2 (by
        rw [et, Nat.mul_right_comm (valN s)]
        exact Nat.not_lt.2 (Nat.mul_le_mul_right _ (by omega)))
      rw [Nat.pow_succ 2 (c + 1)]
      have e : valN s * (2 ^ (c + 1) * 2) = 2 * (valN s * 2 ^ (c + 1)) := by rw [Nat.mul_comm (2 ^ (c + 1)) 2, Nat.mul_left_comm]
      omega
    have k1 : stq A M (u + (c + 1)) < valN (s + 1) * 2 ^ (c + 1 + 1) := by
      have := (stq_lt A M (u + (c + 1)) (valN (s + 1) * 2 ^ (c + 1)) hM).2 (by
        rw [et, Nat.mul_right_comm (valN (s + 1))]
        exact pow_mul_lt.2 hl)
      have e : valN (s + 1) * (2 ^ (c + 1) * 2) = 2 * (valN (s + 1) * 2 ^ (c + 1)) := by rw [Nat.mul_comm (2 ^ (c + 1)) 2, Nat.mul_left_comm]
      rw [Nat.pow_succ 2 (c + 1)]
      omega
    have g : goesUp s (stq A M (u + (c + 1))) (c + 1) = 1 := by
      unfold goesUp
      have e2 : (valN s + valN (s + 1)) * 2 ^ (c + 1) = 2 * ((valN s + valN (s + 1)) * 2 ^ c) := by rw [Nat.pow_succ, Nat.mul_comm (2 ^ c) 2, Nat.mul_left_comm]
      have ew : A * 2 ^ (u + (c + 1)) = 2 * (A * 2 ^ u) * 2 ^ c := by rw [et, Nat.pow_succ, Nat.mul_comm (2 ^ c) 2, ← Nat.mul_assoc, Nat.mul_comm (A * 2 ^ u) 2]
      rw [e2, if_pos]
      rcases h1 with h1 | ⟨h1, ho⟩
      · refine Or.inl ?_
        have h3 : ¬ stq A M (u + (c + 1)) < 2 * ((valN s + valN (s + 1)) * 2 ^ c) := by
          rw [stq_lt A M _ _ hM, ew, Nat.mul_right_comm (valN s + valN (s + 1)), pow_mul_lt]
          omega
        have h4 : stq A M (u + (c + 1)) ≠ 2 * ((valN s + valN (s + 1)) * 2 ^ c) := by
          rw [Ne, stq_eq A M _ _ hM, ew, Nat.mul_right_comm (valN s + valN (s + 1))]
          intro h
          have := Nat.eq_of_mul_eq_mul_right (Nat.two_pow_pos c) h
          omega
        omega
      · refine Or.inr ⟨?_, ho⟩
        refine ((stq_eq A M _ _ hM).2 ?_).symm
        rw [ew, Nat.mul_right_comm (valN s + valN (s + 1)), h1]
    have := rung_between s (stq A M (u + (c + 1))) (c + 1) (by omega) k0 k1
    rw [g] at this
    rw [← this]
    congr 1
    omega
  · refine near_up (s + 1) A M u hu hr hA hM hl ?_
    refine Or.inl ?_
    have eM : (valN (s + 1) + valN (s + 1 + 1)) * M = valN (s + 1) * M + valN (s + 1 + 1) * M := Nat.add_mul _ _ _
    have gM : valN (s + 1) * M < valN (s + 1 + 1) * M := Nat.mul_lt_mul_of_pos_right vl2 hM
    omega

end Go.Proofs.YtpejebohekcfoaaGreatDoor
/- Plain: the digits lie within the interval. -/
namespace Go.Proofs.YtpejebohekcfoaaGreatDoor
open Go.RowKit
set_option linter.unusedVariables false

/-- digits as a number -/
def dnum (ds : List Nat) : Nat := ds.foldl (fun n d => 10 * n + d) 0

theorem dnum_from (ds : List Nat) : ∀ n, ds.foldl (fun n d => 10 * n + d) n = n * 10 ^ ds.length + dnum ds := by
  induction ds with
  | nil => intro n; simp [dnum]
  | cons d ds ih =>
    intro n
    unfold dnum
    rw [List.foldl_cons, List.foldl_cons, ih, ih (10 * 0 + d), List.length_cons, Nat.pow_succ, Nat.add_mul, Nat.mul_zero, Nat.zero_add]
    have : 10 * n * 10 ^ ds.length = n * (10 ^ ds.length * 10) := by rw [Nat.mul_comm 10 n, Nat.mul_assoc, Nat.mul_comm 10]
    omega

theorem dnum_cons (d : Nat) (ds : List Nat) : dnum (d :: ds) = d * 10 ^ ds.length + dnum ds := by
  show List.foldl _ _ _ = _
  rw [List.foldl_cons, dnum_from]
  simp

/-- one bound: below, or at it where it is closed -/
def Under (x y : Nat) (cl : Bool) : Prop := x < y ∨ (x = y ∧ cl = true)

theorem under_of {V L : Nat} {cl : Bool} (h : inN V L cl = true) : Under V L cl := by
  unfold inN at h
  simp only [Bool.or_eq_true, Bool.and_eq_true, decide_eq_true_eq] at h
  exact h

theorem under_lin {x y x' y' : Nat} {cl : Bool} (h : Under x y cl) (h1 : x < y → x' < y') (h2 : x = y → x' = y') : Under x' y' cl := by
  rcases h with h | ⟨h, c⟩
  · exact Or.inl (h1 h)
  · exact Or.inr ⟨h2 h, c⟩

theorem digs_in (T : Nat) (cl : Bool) (hT : 0 < T) : ∀ (f V L U : Nat), T < U + f → V + U ≤ T → 0 < U →
    Under (V * 10 ^ (digsF f V L U T cl).length) (dnum (digsF f V L U T cl) * T + L * 10 ^ (digsF f V L U T cl).length) cl ∧
    Under (dnum (digsF f V L U T cl) * T) (V * 10 ^ (digsF f V L U T cl).length + U * 10 ^ (digsF f V L U T cl).length) cl := by
  intro f
  induction f with
  | zero => intro V L U h1 h2 h3; omega
  | succ f ih =>
    intro V L U h1 h2 h3
    have dm := Nat.div_add_mod (V * 10) T
    have ml := Nat.mod_lt (V * 10) hT
    rw [Nat.mul_comm T] at dm
    rw [digsF]
    generalize V * 10 / T = d at *
    generalize hX : V * 10 % T = X at *
    cases hd : inN X (L * 10) cl with
    | true =>
      rw [if_pos (by simp)]
      have ud := under_of hd
      cases hc : (inN T (X + U * 10) cl && upN X T d) with
      | true =>
        have uu := under_of (by simp only [Bool.and_eq_true] at hc; exact hc.1 : inN T (X + U * 10) cl = true)
        rw [if_pos (by simp)]
        rw [List.length_singleton, Nat.pow_one, show dnum [d + 1] = d + 1 from by simp [dnum], Nat.add_mul, Nat.one_mul]
        exact ⟨Or.inl (by omega), under_lin uu (by omega) (by omega)⟩
      | false =>
        rw [if_neg (by simp)]
        rw [List.length_singleton, Nat.pow_one, show dnum [d] = d from by simp [dnum]]
        exact ⟨under_lin ud (by omega) (by omega), Or.inl (by omega)⟩
    | false =>
      cases hu : inN T (X + U * 10) cl with
      | true =>
        have uu := under_of hu
        rw [if_pos (by simp), if_pos (by simp)]
        rw [List.length_singleton, Nat.pow_one, show dnum [d + 1] = d + 1 from by simp [dnum], Nat.add_mul, Nat.one_mul]
        exact ⟨Or.inl (by omega), under_lin uu (by omega) (by omega)⟩
      | false =>
        rw [if_neg (by simp)]
        have nu := not_in hu
        obtain ⟨i1, i2⟩ := ih X (L * 10) (U * 10) (by omega) nu (by omega)
        rw [List.length_cons, dnum_cons]
        generalize dnum (digsF f X (L * 10) (U * 10) T cl) = n at *
        generalize (digsF f X (L * 10) (U * 10) T cl).length = k at *
        have e1 : V * 10 ^ (k + 1) = d * 10 ^ k * T + X * 10 ^ k := by
          rw [ten_next, ← dm, Nat.add_mul, Nat.mul_right_comm]
        have e2 : L * 10 ^ (k + 1) = L * 10 * 10 ^ k := ten_next L k
        have e3 : U * 10 ^ (k + 1) = U * 10 * 10 ^ k := ten_next U k
        have e4 : (d * 10 ^ k + n) * T = d * 10 ^ k * T + n * T := Nat.add_mul _ _ _
        rw [e1, e2, e3, e4]
        exact ⟨under_lin i1 (by omega) (by omega), under_lin i2 (by omega) (by omega)⟩

end Go.Proofs.YtpejebohekcfoaaGreatDoor
/- Plain: the digits are read as the number. -/
namespace Go.Proofs.YtpejebohekcfoaaGreatDoor
open Go.RowKit
set_option linter.unusedVariables false

theorem cross_lt {x y F G F' G' : Nat} (hG : 0 < G) (hG' : 0 < G') (e : F * G' = G * F') (h : x * F < y * G) : x * F' < y * G' := by
  have h1 : x * F * G' < y * G * G' := Nat.mul_lt_mul_of_pos_right h hG'
  have e1 : x * F * G' = x * F' * G := by rw [Nat.mul_assoc, e, Nat.mul_comm G F', ← Nat.mul_assoc]
  have e2 : y * G * G' = y * G' * G := Nat.mul_right_comm _ _ _
  rw [e1, e2] at h1
  exact Nat.lt_of_mul_lt_mul_right h1

theorem cross_gt {x y F G F' G' : Nat} (hG : 0 < G) (hG' : 0 < G') (e : F * G' = G * F') (h : y * G < x * F) : y * G' < x * F' := by
  have h1 : y * G * G' < x * F * G' := Nat.mul_lt_mul_of_pos_right h hG'
  have e1 : x * F * G' = x * F' * G := by rw [Nat.mul_assoc, e, Nat.mul_comm G F', ← Nat.mul_assoc]
  have e2 : y * G * G' = y * G' * G := Nat.mul_right_comm _ _ _
  rw [e1, e2] at h1
  exact Nat.lt_of_mul_lt_mul_right h1

theorem cross_eq {x y F G F' G' : Nat} (hG : 0 < G) (e : F * G' = G * F') (h : x * F = y * G) : x * F' = y * G' := by
  have e1 : x * F * G' = x * F' * G := by rw [Nat.mul_assoc, e, Nat.mul_comm G F', ← Nat.mul_assoc]
  have e2 : y * G * G' = y * G' * G := Nat.mul_right_comm _ _ _
  rw [h, e2] at e1
  exact (Nat.eq_of_mul_eq_mul_right hG e1).symm

theorem arM_man (a : Nat) : arM a = manR a := by
  unfold arM manR
  by_cases h : a < 4503599627370496
  · rw [if_pos (Nat.div_eq_of_lt h), if_pos h]
  · rw [if_neg (by omega), if_neg h]; omega

theorem arX_pla (a : Nat) : (arX a + 1074).toNat = plaR a := by
  unfold arX plaR
  split <;> omega

theorem val_up (a : Nat) : 2 * (valN a + valN (a + 1)) = (4 * arM a + 2) * 2 ^ plaR a := by
  rw [valN_next, valN_parts, ← arM_man, ← Nat.add_mul, ← Nat.mul_assoc]
  congr 1
  omega

theorem val_dn (s : Nat) : 2 * (valN s + valN (s + 1)) + arB (s + 1) * 2 ^ plaR (s + 1) = 4 * arM (s + 1) * 2 ^ plaR (s + 1) := by
  rw [valN_next, valN_parts s, ← Nat.add_mul, arM_man]
  unfold arB
  by_cases c : (s + 1) % 4503599627370496 = 0 ∧ 1 < (s + 1) / 4503599627370496
  · rw [if_pos c]
    have m1 : manR (s + 1) = 4503599627370496 := by unfold manR; rw [if_neg (by omega)]; omega
    have m2 : manR s = 9007199254740991 := by unfold manR; rw [if_neg (by omega)]; omega
    have p1 : plaR (s + 1) = plaR s + 1 := by unfold plaR; omega
    rw [m1, m2, p1, Nat.pow_succ]
    omega
  · rw [if_neg c]
    have pm : plaR (s + 1) = plaR s ∧ manR (s + 1) = manR s + 1 := by
      unfold plaR manR
      by_cases h : s + 1 < 4503599627370496
      · rw [if_pos h, if_pos (by omega)]; omega
      · rw [if_neg h]
        by_cases h2 : s < 4503599627370496
        · rw [if_pos h2]; omega
        · rw [if_neg h2]; omega
    rw [pm.1, pm.2, ← Nat.mul_assoc, ← Nat.add_mul]
    congr 1
    omega

end Go.Proofs.YtpejebohekcfoaaGreatDoor
/- Plain: the digits are read as the number: the main step. -/
namespace Go.Proofs.YtpejebohekcfoaaGreatDoor
open Go.RowKit
set_option linter.unusedVariables false

theorem near_digits (a : Nat) (h0 : 0 < a) (h1 : a < 9218868437227405312) (hN : 0 < dnum (shD a)) :
    nearQ (dnum (shD a) * 10 ^ (shP a - (shD a).length).toNat) (10 ^ ((shD a).length - shP a).toNat) = a := by
  obtain ⟨K, hK0, hK1⟩ : ∃ K : Nat, 1100 ≤ K ∧ K ≤ 1100 := ⟨1100, by omega, by omega⟩
  obtain ⟨q1, q2, q3, q4, q5, q6, q7⟩ := sh_bd a K h0 h1 hK0
  obtain ⟨t1, u1, l1⟩ := sh1_bd a K h0 h1 hK0
  have st := (sh_stop a h0 h1).1
  have T1p : 0 < shT1 a := Nat.mul_pos (Nat.mul_pos q6 (Nat.pow_pos (by decide))) (Nat.pow_pos (by decide))
  obtain ⟨lo, hi⟩ := digs_in (shT1 a) (shC a) T1p (shT1 a + 1) (shV1 a) (shL1 a) (shU1 a) (by omega) (not_in st) u1
  change Under (shV1 a * 10 ^ (shD a).length) (dnum (shD a) * shT1 a + shL1 a * 10 ^ (shD a).length) (shC a) at lo
  change Under (dnum (shD a) * shT1 a) (shV1 a * 10 ^ (shD a).length + shU1 a * 10 ^ (shD a).length) (shC a) at hi
  have xb := arX_bd a h1
  have bb := arB_bd a
  have mb := arM_bd a h0
  obtain ⟨u, hu⟩ : ∃ u : Nat, u = 1074 := ⟨_, rfl⟩
  obtain ⟨n, hn⟩ : ∃ n, dnum (shD a) = n := ⟨_, rfl⟩
  obtain ⟨k, hk⟩ : ∃ k, (shD a).length = k := ⟨_, rfl⟩
  rw [hn] at hN lo hi ⊢
  rw [hk] at lo hi ⊢
  -- both measures
  obtain ⟨F, hF⟩ : ∃ F, F = 2 ^ (-arX a).toNat * 10 ^ ((shG a).toNat + shJ a) := ⟨_, rfl⟩
  obtain ⟨G, hG⟩ : ∃ G, G = 2 ^ (arX a).toNat * 10 ^ ((-shG a).toNat + k) := ⟨_, rfl⟩
  obtain ⟨F', hF'⟩ : ∃ F', F' = 2 ^ u * 10 ^ (shP a - k).toNat := ⟨_, rfl⟩
  obtain ⟨G', hG'⟩ : ∃ G', G' = 2 ^ plaR a * 10 ^ ((k : Int) - shP a).toNat := ⟨_, rfl⟩
  have pG : 0 < G := by rw [hG]; exact Nat.mul_pos (Nat.two_pow_pos _) (Nat.pow_pos (by decide))
  have pG' : 0 < G' := by rw [hG']; exact Nat.mul_pos (Nat.two_pow_pos _) (Nat.pow_pos (by decide))
  have px := arX_pla a
  have e : F * G' = G * F' := by
    rw [hF, hG, hF', hG', Nat.mul_mul_mul_comm, Nat.mul_mul_mul_comm (2 ^ (arX a).toNat), ← Nat.pow_add, ← Nat.pow_add, ← Nat.pow_add, ← Nat.pow_add]
    congr 2
    · omega
    · unfold shP; omega
  have eT : n * shT1 a = 4 * n * F := by
    unfold shT1 shT0 shT
    rw [hF, Nat.pow_add]
    simp only [Nat.mul_assoc, Nat.mul_left_comm]
  have eV : shV1 a * 10 ^ k = 4 * arM a * G := by
    unfold shV1 shV
    rw [hG, Nat.pow_add]
    simp only [Nat.mul_assoc]
  have eL : shL1 a * 10 ^ k = arB a * G := by
    unfold shL1 shL
    rw [hG, Nat.pow_add]
    simp only [Nat.mul_assoc]
  have eU : shU1 a * 10 ^ k = 2 * G := by
    unfold shU1 shU
    rw [hG, Nat.pow_add]
    simp only [Nat.mul_assoc]
  rw [eT, eV, eL] at lo
  rw [eT, eV, eU, ← Nat.add_mul] at hi
  have sl : 4 * arM a * G = (4 * arM a - arB a) * G + arB a * G := by rw [← Nat.add_mul]; congr 1; omega
  have lo' : Under ((4 * arM a - arB a) * G) (4 * n * F) (shC a) := under_lin lo (by omega) (by omega)
  have up' : Under (4 * n * F') ((4 * arM a + 2) * G') (shC a) := by
    rcases hi with h | ⟨h, c⟩
    · exact Or.inl (cross_lt pG pG' e h)
    · exact Or.inr ⟨cross_eq pG e h, c⟩
  have dn' : Under ((4 * arM a - arB a) * G') (4 * n * F') (shC a) := by
    rcases lo' with h | ⟨h, c⟩
    · exact Or.inl (cross_gt pG pG' e h)
    · exact Or.inr ⟨(cross_eq pG e h.symm).symm, c⟩
  have par : shC a = true → a % 2 = 0 := by
    intro h
    unfold shC at h
    rw [decide_eq_true_eq, arM_man, manR_odd] at h
    exact h
  have eA : n * 10 ^ (shP a - k).toNat * 2 ^ u = n * F' := by rw [hF', Nat.mul_assoc, Nat.mul_comm (10 ^ _) (2 ^ u)]
  obtain ⟨W, hW⟩ : ∃ W, 10 ^ ((k : Int) - shP a).toNat = W := ⟨_, rfl⟩
  have pW : 0 < W := by rw [← hW]; exact Nat.pow_pos (by decide)
  have eG : ∀ y, y * G' = y * 2 ^ plaR a * W := by intro y; rw [hG', hW, Nat.mul_assoc]
  rw [hW]
  have nA : 0 < n * 10 ^ (shP a - k).toNat := Nat.mul_pos hN (Nat.pow_pos (by decide))
  have va : 4 * arM a * G' = 4 * (valN a * W) := by rw [eG, valN_parts, ← arM_man, Nat.mul_assoc 4 (arM a), Nat.mul_assoc 4]
  rcases Nat.le_total (valN a * W) (n * F') with c | c
  · refine near_up a _ W u hu h1 nA pW (by rw [eA]; exact c) ?_
    rw [eA]
    have vu : 2 * ((valN a + valN (a + 1)) * W) = (4 * arM a + 2) * G' := by rw [eG, ← val_up, ← Nat.mul_assoc]
    have q : 4 * n * F' = 4 * (n * F') := Nat.mul_assoc _ _ _
    rcases up' with h | ⟨h, cc⟩
    · left; omega
    · right; exact ⟨by omega, par cc⟩
  · obtain ⟨s, rfl⟩ : ∃ s, a = s + 1 := ⟨a - 1, by omega⟩
    refine near_dn s _ W u hu h1 nA pW (by rw [eA]; exact c) ?_
    rw [eA]
    have vd := val_dn s
    have vu : 2 * ((valN s + valN (s + 1)) * W) = (4 * arM (s + 1) - arB (s + 1)) * G' := by
      rw [eG, ← Nat.mul_assoc]
      congr 1
      rw [Nat.sub_mul]
      omega
    have q : 4 * n * F' = 4 * (n * F') := Nat.mul_assoc _ _ _
    rcases dn' with h | ⟨h, cc⟩
    · left; omega
    · right; have := par cc; exact ⟨by omega, by omega⟩

end Go.Proofs.YtpejebohekcfoaaGreatDoor
/- Plain: how many digits, and where the point lies. -/
namespace Go.Proofs.YtpejebohekcfoaaGreatDoor
open Go.RowKit
set_option linter.unusedVariables false

theorem logs : ((List.range 1300).all fun n => decide (10 ^ (n * 78913 / 262144) ≤ 2 ^ n) && decide (2 ^ n ≤ 10 ^ ((n * 78913 + 262143) / 262144))) = true := by decide +kernel

theorem log_le (n : Nat) (h : n < 1300) : 10 ^ (n * 78913 / 262144) ≤ 2 ^ n ∧ 2 ^ n ≤ 10 ^ ((n * 78913 + 262143) / 262144) := by
  have := List.all_eq_true.1 logs n (List.mem_range.2 h)
  simp only [Bool.and_eq_true, decide_eq_true_eq] at this
  exact this

theorem bitl_ge (n : Nat) (h : 0 < n) : 0 < bitl n ∧ 2 ^ (bitl n - 1) ≤ n ∧ n < 2 ^ bitl n := by
  unfold bitl
  rw [if_neg (by omega)]
  exact ⟨by omega, by rw [Nat.add_sub_cancel]; exact Nat.log2_self_le (by omega), Nat.lt_log2_self⟩

/-- the whole is first too small -/
theorem guess_low (a : Nat) (h0 : 0 < a) (h1 : a < 9218868437227405312) : shT0 a ≤ shV1 a := by
  obtain ⟨q1, q2, q3, q4, q5, q6, q7⟩ := sh_bd a 1100 h0 h1 (by omega)
  have hb := sh_bits a h0 h1
  have V0 : 0 < shV a := by
    unfold shV
    exact Nat.mul_pos (by have := arM_bd a h0; omega) (Nat.two_pow_pos _)
  obtain ⟨v1, v2, v3⟩ := bitl_ge (shV a) V0
  obtain ⟨t1, t2, t3⟩ := bitl_ge (shT a) q6
  unfold shT0 shV1
  have hG : shG a = ((bitl (shV a) : Int) - (bitl (shT a) : Int) - 1) * 78913 / 262144 := rfl
  generalize shG a = G at *
  generalize bitl (shV a) = b at *
  generalize bitl (shT a) = c at *
  by_cases g : c + 1 ≤ b
  · obtain ⟨n, hn⟩ : ∃ n, b = c + 1 + n := ⟨b - (c + 1), by omega⟩
    have l := (log_le n (by omega)).1
    have eg : G.toNat = n * 78913 / 262144 := by omega
    have en : (-G).toNat = 0 := by omega
    rw [eg, en, Nat.pow_zero, Nat.mul_one]
    have s1 : shT a * 10 ^ (n * 78913 / 262144) ≤ 2 ^ c * 2 ^ n := Nat.mul_le_mul (Nat.le_of_lt t3) l
    rw [← Nat.pow_add] at s1
    have s2 : 2 ^ (c + n) = 2 ^ (b - 1) := by congr 1; omega
    omega
  · obtain ⟨n, hn⟩ : ∃ n, c + 1 = b + n := ⟨c + 1 - b, by omega⟩
    have l := (log_le n (by omega)).2
    have eg : (-G).toNat = (n * 78913 + 262143) / 262144 := by omega
    have en : G.toNat = 0 := by omega
    rw [eg, en, Nat.pow_zero, Nat.mul_one]
    have s1 : 2 ^ (b - 1) * 2 ^ n ≤ shV a * 10 ^ ((n * 78913 + 262143) / 262144) := Nat.mul_le_mul v2 l
    rw [← Nat.pow_add] at s1
    have s2 : 2 ^ (b - 1 + n) = 2 ^ c := by congr 1; omega
    omega

theorem shU1_V (a : Nat) : shV1 a = 2 * arM a * shU1 a := by
  unfold shV1 shU1 shV shU
  rw [show 4 * arM a = 2 * arM a * 2 from by omega]
  simp only [Nat.mul_assoc]

/-- the whole is no more than ten times too great -/
theorem whole_near (a : Nat) (h0 : 0 < a) (h1 : a < 9218868437227405312) : 0 < shJ a ∧ shT1 a ≤ 10 * (shV1 a + shU1 a) := by
  have g := guess_low a h0 h1
  obtain ⟨t1, u1, l1⟩ := sh1_bd a 1100 h0 h1 (by omega)
  obtain ⟨st, al⟩ := sh_stop a h0 h1
  have n := not_in st
  have j : 0 < shJ a := by
    refine Nat.pos_of_ne_zero fun e => ?_
    unfold shT1 at n
    rw [e, Nat.pow_zero, Nat.mul_one] at n
    omega
  refine ⟨j, ?_⟩
  have h2 := in_le (al (shJ a - 1) (by omega))
  obtain ⟨i, hi⟩ : ∃ i, shJ a = i + 1 := ⟨shJ a - 1, by omega⟩
  unfold shT1
  rw [hi] at h2 ⊢
  rw [Nat.add_sub_cancel] at h2
  rw [Nat.pow_succ, ← Nat.mul_assoc]
  omega

theorem shD_18 (a : Nat) (h0 : 0 < a) (h1 : a < 9218868437227405312) : (shD a).length ≤ 18 := by
  obtain ⟨j, w⟩ := whole_near a h0 h1
  obtain ⟨t1, u1, l1⟩ := sh1_bd a 1100 h0 h1 (by omega)
  have m := arM_bd a h0
  rw [shU1_V] at w
  refine digsF_len (shT1 a) (shC a) 17 _ _ _ _ ?_
  have e : 10 * (2 * arM a * shU1 a + shU1 a) = (20 * arM a + 10) * shU1 a := by
    rw [Nat.mul_add, ← Nat.mul_assoc, ← Nat.mul_assoc, Nat.add_mul]
  rw [e] at w
  have s : (20 * arM a + 10) * shU1 a < 10 ^ (17 + 1) * shU1 a := Nat.mul_lt_mul_of_pos_right (by omega) u1
  rw [Nat.mul_comm (10 ^ (17 + 1))] at s
  omega

theorem dnum_pos (a : Nat) (h0 : 0 < a) (h1 : a < 9218868437227405312) : 0 < dnum (shD a) := by
  obtain ⟨q1, q2, q3, q4, q5, q6, q7⟩ := sh_bd a 1100 h0 h1 (by omega)
  obtain ⟨t1, u1, l1⟩ := sh1_bd a 1100 h0 h1 (by omega)
  have m := arM_bd a h0
  have st := (sh_stop a h0 h1).1
  have T1p : 0 < shT1 a := Nat.mul_pos (Nat.mul_pos q6 (Nat.pow_pos (by decide))) (Nat.pow_pos (by decide))
  obtain ⟨lo, hi⟩ := digs_in (shT1 a) (shC a) T1p (shT1 a + 1) (shV1 a) (shL1 a) (shU1 a) (by omega) (not_in st) u1
  change Under (shV1 a * 10 ^ (shD a).length) (dnum (shD a) * shT1 a + shL1 a * 10 ^ (shD a).length) (shC a) at lo
  refine Nat.pos_of_ne_zero fun e => ?_
  rw [e, Nat.zero_mul, Nat.zero_add] at lo
  have p : 0 < 10 ^ (shD a).length := Nat.pow_pos (by decide)
  have v : shL1 a < shV1 a := by
    rw [shU1_V]
    have s : 2 * shU1 a ≤ 2 * arM a * shU1 a := Nat.mul_le_mul_right _ (by omega)
    omega
  have := Nat.mul_lt_mul_of_pos_right v p
  rcases lo with h | ⟨h, _⟩ <;> omega

end Go.Proofs.YtpejebohekcfoaaGreatDoor
/- Plain: where the point lies; what the digits' texts are read as. -/
namespace Go.Proofs.YtpejebohekcfoaaGreatDoor
open Go.RowKit
set_option linter.unusedVariables false

theorem big_lo : (2 : Nat) ^ 1077 < 10 ^ 331 := by decide +kernel
theorem big_hi : (2 : Nat) ^ 1026 < 10 ^ 310 := by decide +kernel

theorem shP_range (a : Nat) (h0 : 0 < a) (h1 : a < 9218868437227405312) : -330 ≤ shP a ∧ shP a ≤ 310 := by
  obtain ⟨j, w⟩ := whole_near a h0 h1
  obtain ⟨q1, q2, q3, q4, q5, q6, q7⟩ := sh_bd a 1100 h0 h1 (by omega)
  have n := not_in (sh_stop a h0 h1).1
  have m := arM_bd a h0
  have x := arX_bd a h1
  have bl := big_lo
  have bh := big_hi
  have hP : shP a = shG a + (shJ a : Int) := rfl
  have V0 : 0 < shV a := by
    unfold shV
    exact Nat.mul_pos (by omega) (Nat.two_pow_pos _)
  obtain ⟨t, htt⟩ : ∃ t : Nat, t = 331 := ⟨_, rfl⟩
  obtain ⟨z, hz⟩ : ∃ z : Nat, z = 1077 := ⟨_, rfl⟩
  rw [← htt, ← hz] at bl
  obtain ⟨y, hy⟩ : ∃ y : Nat, y = 310 := ⟨_, rfl⟩
  obtain ⟨v, hv⟩ : ∃ v : Nat, v = 1026 := ⟨_, rfl⟩
  rw [← hy, ← hv] at bh
  constructor
  · refine Classical.byContradiction fun c => ?_
    obtain ⟨d, hd⟩ : ∃ d : Nat, (-shG a).toNat = (shG a).toNat + shJ a + (t + d) := ⟨(-shG a).toNat - ((shG a).toNat + shJ a + t), by omega⟩
    have e1 : shV1 a = shV a * 10 ^ (t + d) * 10 ^ ((shG a).toNat + shJ a) := by
      unfold shV1
      rw [hd, Nat.pow_add 10 ((shG a).toNat + shJ a), Nat.mul_assoc, Nat.mul_comm (10 ^ (t + d))]
    have e2 : shT1 a = shT a * 10 ^ ((shG a).toNat + shJ a) := by unfold shT1 shT0; rw [Nat.pow_add, Nat.mul_assoc]
    have h : shV a * 10 ^ (t + d) ≤ shT a := by
      refine Nat.le_of_mul_le_mul_right ?_ (Nat.pow_pos (n := (shG a).toNat + shJ a) (by decide : 0 < 10))
      rw [← e1, ← e2]; omega
    have h3 : 10 ^ t ≤ 10 ^ (t + d) := Nat.pow_le_pow_right (by decide) (by omega)
    have h4 : 10 ^ (t + d) ≤ shV a * 10 ^ (t + d) := Nat.le_mul_of_pos_left _ V0
    have h5 : shT a < 2 ^ z := two_lt (c := 3) (by decide) (by omega)
    generalize (10 : Nat) ^ t = A at *
    generalize (2 : Nat) ^ z = B at *
    omega
  · refine Classical.byContradiction fun c => ?_
    obtain ⟨d, hd⟩ : ∃ d : Nat, (shG a).toNat + shJ a = (-shG a).toNat + (1 + (y + d)) := ⟨(shG a).toNat + shJ a - ((-shG a).toNat + 311), by omega⟩
    have e2 : shT1 a = 10 * (shT a * 10 ^ (y + d)) * 10 ^ (-shG a).toNat := by
      unfold shT1 shT0
      rw [Nat.mul_assoc, ← Nat.pow_add, hd, Nat.pow_add 10 (-shG a).toNat, Nat.pow_add 10 1, Nat.pow_one]
      simp only [Nat.mul_assoc, Nat.mul_left_comm, Nat.mul_comm]
    have e1 : 10 * (shV1 a + shU1 a) = 10 * (shV a + shU a) * 10 ^ (-shG a).toNat := by unfold shV1 shU1; rw [← Nat.add_mul, Nat.mul_assoc]
    rw [e1, e2] at w
    have h := Nat.le_of_mul_le_mul_right w (Nat.pow_pos (by decide))
    have h3 : 10 ^ y ≤ 10 ^ (y + d) := Nat.pow_le_pow_right (by decide) (by omega)
    have h4 : 10 ^ (y + d) ≤ shT a * 10 ^ (y + d) := Nat.le_mul_of_pos_left _ q6
    have h5 : shV a + shU a < 2 ^ v := by
      have e : shV a + shU a = (4 * arM a + 2) * 2 ^ (arX a).toNat := by unfold shV shU; rw [← Nat.add_mul]
      rw [e]
      exact two_lt (c := 55) (by omega) (by omega)
    generalize (10 : Nat) ^ y = A at *
    generalize (2 : Nat) ^ v = B at *
    omega

theorem decN_txt (ds : List Nat) (h : ∀ d ∈ ds, d ≤ 200) : decN (txt ds) = dnum ds := by
  have key : ∀ (ds : List Nat) (n : Nat), (∀ d ∈ ds, d ≤ 200) → (txt ds).foldl (fun n c => 10 * n + (c.toNat - 48)) n = ds.foldl (fun n d => 10 * n + d) n := by
    intro ds
    induction ds with
    | nil => intro n _; rfl
    | cons d ds ih =>
      intro n h
      show List.foldl _ _ (dB d :: txt ds) = _
      rw [List.foldl_cons, List.foldl_cons, dB_nat d (h d (by simp)), ih _ (fun x hx => h x (by simp [hx]))]
      congr 1
      omega
  exact key ds 0 h

theorem digs_le9 (T : Nat) (cl : Bool) (hT : 0 < T) : ∀ (f V L U : Nat), inN T (V + U) cl = false → 0 < U → ∀ d ∈ digsF f V L U T cl, d ≤ 9 := by
  intro f
  induction f with
  | zero => intro V L U h hU d hd; rw [digsF] at hd; simp at hd
  | succ f ih =>
    intro V L U h hU
    have n := not_in h
    have dm := Nat.div_add_mod (V * 10) T
    have ml := Nat.mod_lt (V * 10) hT
    rw [Nat.mul_comm T] at dm
    have d9 : V * 10 / T ≤ 9 := by
      rcases Nat.lt_or_ge (V * 10 / T) 10 with c | c
      · omega
      · have := Nat.mul_le_mul_right T c
        omega
    have nine : inN T (V * 10 % T + U * 10) cl = true → V * 10 / T ≤ 8 := by
      intro hu
      rcases Nat.lt_or_ge (V * 10 / T) 9 with c | c
      · omega
      · exfalso
        have := Nat.mul_le_mul_right T c
        rcases under_of hu with g | ⟨g, gc⟩
        · omega
        · unfold inN at h
          rw [gc] at h
          simp at h
          omega
    rw [digsF]
    generalize V * 10 / T = q at *
    generalize V * 10 % T = X at *
    split
    · intro d hd
      rw [List.mem_singleton] at hd
      subst hd
      split
      · rename_i h1 h2
        have hu : inN T (X + U * 10) cl = true := by
          cases hx : inN T (X + U * 10) cl with
          | true => rfl
          | false => rw [hx] at h1 h2; simp at h1 h2; rw [h1] at h2; cases h2
        have := nine hu
        omega
      · omega
    · rename_i h1
      simp only [Bool.or_eq_true, not_or, Bool.not_eq_true] at h1
      intro d hd
      rcases List.mem_cons.1 hd with rfl | hd
      · exact d9
      · exact ih X (L * 10) (U * 10) h1.2 (by omega) d hd

theorem shD_le9 (a : Nat) (h0 : 0 < a) (h1 : a < 9218868437227405312) : ∀ d ∈ shD a, d ≤ 9 := by
  obtain ⟨q1, q2, q3, q4, q5, q6, q7⟩ := sh_bd a 1100 h0 h1 (by omega)
  obtain ⟨t1, u1, l1⟩ := sh1_bd a 1100 h0 h1 (by omega)
  have T1p : 0 < shT1 a := Nat.mul_pos (Nat.mul_pos q6 (Nat.pow_pos (by decide))) (Nat.pow_pos (by decide))
  exact digs_le9 (shT1 a) (shC a) T1p _ _ _ _ (sh_stop a h0 h1).1 u1

theorem shD_head (a : Nat) (h0 : 0 < a) (h1 : a < 9218868437227405312) : ∃ d r, shD a = d :: r ∧ 0 < d := by
  obtain ⟨j, w⟩ := whole_near a h0 h1
  have dp := dnum_pos a h0 h1
  obtain ⟨q1, q2, q3, q4, q5, q6, q7⟩ := sh_bd a 1100 h0 h1 (by omega)
  obtain ⟨t1, u1, l1⟩ := sh1_bd a 1100 h0 h1 (by omega)
  have T1p : 0 < shT1 a := Nat.mul_pos (Nat.mul_pos q6 (Nat.pow_pos (by decide))) (Nat.pow_pos (by decide))
  obtain ⟨st, al⟩ := sh_stop a h0 h1
  have iv := under_of (al (shJ a - 1) (by omega))
  have e10 : shT1 a = 10 * (shT0 a * 10 ^ (shJ a - 1)) := by
    obtain ⟨i, hi⟩ : ∃ i, shJ a = i + 1 := ⟨shJ a - 1, by omega⟩
    unfold shT1
    rw [hi, Nat.add_sub_cancel, Nat.pow_succ, Nat.mul_left_comm 10, Nat.mul_comm 10 (10 ^ i)]
  have sd : shD a = digsF (shT1 a + 1) (shV1 a) (shL1 a) (shU1 a) (shT1 a) (shC a) := rfl
  rw [digsF] at sd
  have dm := Nat.div_add_mod (shV1 a * 10) (shT1 a)
  have up : shV1 a * 10 / shT1 a = 0 → inN (shT1 a) (shV1 a * 10 % shT1 a + shU1 a * 10) (shC a) = true := by
    intro hq
    rw [hq, Nat.mul_zero, Nat.zero_add] at dm
    rw [dm]
    unfold inN
    rcases iv with g | ⟨g, gc⟩
    · rw [decide_eq_true (by omega)]; rfl
    · rw [gc, decide_eq_true (by omega : shT1 a = _)]; simp
  generalize shV1 a * 10 / shT1 a = q at *
  generalize shV1 a * 10 % shT1 a = X at *
  rcases Nat.eq_zero_or_pos q with hq | hq
  · rw [up hq] at sd
    rw [if_pos (by simp)] at sd
    rw [sd] at dp ⊢
    exact ⟨_, [], rfl, by simpa [dnum] using dp⟩
  · split at sd
    · rw [sd]
      refine ⟨_, [], rfl, ?_⟩
      split <;> omega
    · rw [sd]
      exact ⟨q, _, rfl, hq⟩

end Go.Proofs.YtpejebohekcfoaaGreatDoor
/- Plain: what Print writes of a number that is not whole is read as that number. -/
namespace Go.Proofs.YtpejebohekcfoaaGreatDoor
open Go.RowKit
set_option linter.unusedVariables false

/-- what may stand in a number's text -/
def okD (z : UInt8) : Bool := okC z || z == 43

theorem okC_okD (z : UInt8) (h : okC z = true) : okD z = true := by unfold okD; rw [h]; rfl
theorem dig_okD (z : UInt8) (h : isDig z = true) : okD z = true := okC_okD z (dig_okC z h)
theorem okD_not (z x : UInt8) (h : okD z = true) (hx : okD x = false) : z ≠ x := by
  rintro rfl; rw [h] at hx; cases hx

theorem cutX_noneD (l : List UInt8) (h : ∀ z ∈ l, okD z = true) : (cutX l).2 = false ∧ Lib.hasPrefix l [48, 120] = false := by
  have k : ∀ d, okD d = false → Lib.hasPrefix l [48, d] = false := by
    intro d hd
    unfold Lib.hasPrefix
    cases l with
    | nil => rfl
    | cons a l =>
      cases l with
      | nil => simp [List.isPrefixOf]
      | cons b l =>
        have := okD_not b d (h b (by simp)) hd
        simp only [List.isPrefixOf]
        rw [beq_eq_false_iff_ne.2 (Ne.symm this)]
        simp
  refine ⟨?_, k 120 (by decide)⟩
  unfold cutX
  rw [if_neg (by rw [k 120 (by decide)]; simp)]
  exact k 88 (by decide)

theorem nbD (z : UInt8) (hz : okD z = true) : blankS.contains z = false := by
  have h9 := okD_not z 9 hz (by decide)
  have h10 := okD_not z 10 hz (by decide)
  have h32 := okD_not z 32 hz (by decide)
  unfold blankS
  simp [h9, h10, h32]

/-- a text without blanks at its end -/
theorem trimR_ok (l : List UInt8) (h : ∀ z ∈ l, okD z = true) : Lib.trimRightS l blankS = l := by
  rcases List.eq_nil_or_concat l with rfl | ⟨m, y, rfl⟩
  · rfl
  · rw [List.concat_eq_append] at *
    have := trimR_app m [] blankS y (nbD y (h y (by simp)))
    rw [this]
    rfl

theorem read_ok (x : UInt8) (m : List UInt8) (hx : isDig x = true) (h : ∀ z ∈ x :: m, okD z = true) : readI (x :: m) = (unsI (x :: m) : Nat) := by
  have t : Lib.trimS (x :: m) blankS = x :: m := by
    rw [trimS_cons x _ blankS (nbD x (h x (by simp))), trimR_ok m (fun z hz => h z (by simp [hz]))]
  unfold readI
  rw [t]
  unfold coreI
  have n43 := dig_not x hx 43 (by decide)
  have n45 := dig_not x hx 45 (by decide)
  rw [if_neg (by simp), if_neg (by rw [(cutX_noneD _ h).1]; simp), if_neg (by simp [n43]), if_neg (by simp [n45])]

/-- digits, a point and digits, and what stands behind them -/
theorem uns_any (W F R : List UInt8) (dot : Bool) (e : Int) (hW : ∀ z ∈ W, isDig z = true) (hF : ∀ z ∈ F, isDig z = true) (hn : W ≠ []) (hd : dot = false → F = [])
    (hR : R = [] ∧ e = 0 ∨ (R ≠ [] ∧ (R.head? = some 101 ∨ R.head? = some 69) ∧ expP R = (e, true))) :
    unsI (W ++ ((if dot = true then 46 :: F else []) ++ R)) = valD (sigD (W ++ F)) (sigP W (W ++ F) e) ∧
    scanOk (W ++ ((if dot = true then 46 :: F else []) ++ R)) = true ∧ sW (W ++ ((if dot = true then 46 :: F else []) ++ R)) = W ∧ sF (W ++ ((if dot = true then 46 :: F else []) ++ R)) = F ∧ sDot (W ++ ((if dot = true then 46 :: F else []) ++ R)) = dot ∧ scanX (W ++ ((if dot = true then 46 :: F else []) ++ R)) = e := by
  have dr : ∀ (A B : List UInt8), (∀ z ∈ A, isDig z = true) → (B = [] ∨ ∃ c r, B = c :: r ∧ isDig c = false) → digs (A ++ B) = A ∧ rst (A ++ B) = B := by
    intro A B hA hB
    rcases hB with rfl | ⟨c, r, rfl, hc⟩
    · rw [List.append_nil]
      exact ⟨tw_all A hA, dw_all A hA⟩
    · exact digs_app A c r hA hc
  have rR : R = [] ∨ ∃ c r, R = c :: r ∧ isDig c = false ∧ c ≠ 46 := by
    rcases hR with ⟨h, _⟩ | ⟨h, hh, _⟩
    · exact Or.inl h
    · cases R with
      | nil => exact absurd rfl h
      | cons c r =>
        refine Or.inr ⟨c, r, rfl, ?_⟩
        simp at hh
        rcases hh with rfl | rfl <;> decide
  have rR' : R = [] ∨ ∃ c r, R = c :: r ∧ isDig c = false := by
    rcases rR with h | ⟨c, r, h1, h2, _⟩
    · exact Or.inl h
    · exact Or.inr ⟨c, r, h1, h2⟩
  have parts : ∀ l, l = W ++ ((if dot = true then 46 :: F else []) ++ R) → sW l = W ∧ sF l = F ∧ sR l = R ∧ sDot l = dot := by
    intro l hl
    subst hl
    cases dot with
    | true =>
      obtain ⟨d1, d2⟩ := dr W (46 :: (F ++ R)) hW (Or.inr ⟨46, _, rfl, by decide⟩)
      obtain ⟨d3, d4⟩ := dr F R hF rR'
      rw [if_pos rfl, List.cons_append]
      unfold sW sF sR sDot
      rw [d1, d2]
      simp [d3, d4]
    | false =>
      have f0 := hd rfl
      subst f0
      obtain ⟨d1, d2⟩ := dr W R hW rR'
      rw [if_neg (by decide), List.nil_append]
      unfold sW sF sR sDot
      rw [d1, d2]
      have h46 : R.head? ≠ some 46 := by
        rcases rR with rfl | ⟨c, r, rfl, _, hc⟩
        · simp
        · simp [hc]
      simp [h46]
  obtain ⟨p1, p2, p3, p4⟩ := parts _ rfl
  have so : scanOk (W ++ ((if dot = true then 46 :: F else []) ++ R)) = true := by
    unfold scanOk
    rw [p1, p2, p3, if_neg (by simp [hn])]
    rcases hR with ⟨h, _⟩ | ⟨h, _, hx⟩
    · rw [if_pos h]
    · rw [if_neg h, hx]
  have sx : scanX (W ++ ((if dot = true then 46 :: F else []) ++ R)) = e := by
    unfold scanX
    rw [p3]
    rcases hR with ⟨h, he⟩ | ⟨h, _, hx⟩
    · rw [if_pos h, he]
    · rw [if_neg h, hx]
  refine ⟨?_, so, p1, p2, p4, sx⟩
  unfold unsI
  rw [if_neg, if_pos so, p1, p2, sx]
  cases W with
  | nil => exact absurd rfl hn
  | cons a W =>
    have := hW a (by simp)
    rw [List.cons_append]
    exact not_inf a _ (dig_not a this 73 (by decide))

end Go.Proofs.YtpejebohekcfoaaGreatDoor
/- Plain: digits with their point, as Print lays them, are read as their value. -/
namespace Go.Proofs.YtpejebohekcfoaaGreatDoor
open Go.RowKit
set_option linter.unusedVariables false

theorem expP_plus (e : Int) (h0 : 0 ≤ e) (he : e.natAbs ≤ 1099511627776) : expP (101 :: 43 :: Lib.itoa e) = (e, true) := by
  have i : Lib.itoa e = Lib.decDigits e.toNat := by unfold Lib.itoa; rw [if_neg (by omega)]
  have hd := dd_dig e.toNat
  have k1 : digs (Lib.decDigits e.toNat) = Lib.decDigits e.toNat := tw_all _ hd
  have k2 : rst (Lib.decDigits e.toNat) = [] := dw_all _ hd
  have k3 : clampF 0 (Lib.decDigits e.toNat) = e.toNat := by
    have := clamp_eq (Lib.decDigits e.toNat) 0 (by have := dd_val e.toNat; unfold decN at this; rw [this]; omega)
    rw [this]; exact dd_val e.toNat
  unfold expP
  rw [if_pos (by simp), List.tail_cons, i]
  have u1 : unsign (43 :: Lib.decDigits e.toNat) = Lib.decDigits e.toNat := by unfold unsign; simp
  have s : signOf (43 :: Lib.decDigits e.toNat) = 1 := by unfold signOf; simp
  rw [u1, k1, k2, k3, s, if_neg (by simp [dd_ne])]
  congr 1
  omega

theorem expL_read (n : Int) (h : n.natAbs ≤ 100000) : expP (expL n) = (n, true) ∧ expL n ≠ [] ∧ (expL n).head? = some 101 ∧ ∀ z ∈ expL n, okD z = true := by
  unfold expL
  split
  · refine ⟨expP_itoa 101 (Or.inl rfl) n (by omega), by simp, by simp, ?_⟩
    intro z hz
    rcases List.mem_cons.1 hz with rfl | hz
    · decide
    · exact okC_okD z (itoa_ok n z hz)
  · refine ⟨expP_plus n (by omega) (by omega), by simp, by simp, ?_⟩
    intro z hz
    rcases List.mem_cons.1 hz with rfl | hz
    · decide
    · rcases List.mem_cons.1 hz with rfl | hz
      · decide
      · exact okC_okD z (itoa_ok n z hz)

/-- both readings of a text of digits, a point and digits, and what stands behind them -/
theorem both_read (W F R : List UInt8) (dot : Bool) (e : Int) (hW : ∀ z ∈ W, isDig z = true) (hF : ∀ z ∈ F, isDig z = true) (hn : W ≠ []) (hd : dot = false → F = [])
    (hR : R = [] ∧ e = 0 ∨ (R ≠ [] ∧ (R.head? = some 101 ∨ R.head? = some 69) ∧ expP R = (e, true))) (hRo : ∀ z ∈ R, okD z = true) (hl : litB W F dot = true) :
    readI (W ++ ((if dot = true then 46 :: F else []) ++ R)) = (valD (sigD (W ++ F)) (sigP W (W ++ F) e) : Nat) ∧
    litI (W ++ ((if dot = true then 46 :: F else []) ++ R)) = (((valD (sigD (W ++ F)) (sigP W (W ++ F) e) : Nat) : Int), true) := by
  obtain ⟨u1, u2, u3, u4, u5, u6⟩ := uns_any W F R dot e hW hF hn hd hR
  have ok : ∀ z ∈ W ++ ((if dot = true then 46 :: F else []) ++ R), okD z = true := by
    refine mem3 (fun z hz => dig_okD z (hW z hz)) (mem3 ?_ hRo)
    intro z hz
    split at hz
    · rcases List.mem_cons.1 hz with rfl | hz
      · decide
      · exact dig_okD z (hF z hz)
    · simp at hz
  constructor
  · rw [← u1]
    cases W with
    | nil => exact absurd rfl hn
    | cons x W =>
      rw [List.cons_append] at ok ⊢
      exact read_ok x _ (hW x (by simp)) ok
  · unfold litI
    rw [if_neg (by rw [(cutX_noneD _ ok).2]; simp), u3, u4, u5, u6, if_pos ⟨u2, hl⟩]

theorem valD_zeros (D : List UInt8) (p : Int) (n : Nat) (hD : D ≠ []) : valD (D ++ List.replicate n 48) p = valD D p := by
  unfold valD
  have e : decN (D ++ List.replicate n 48) = decN D * 10 ^ n := by
    induction n with
    | zero => simp
    | succ n ih =>
      rw [List.replicate_succ', ← List.append_assoc, decN_snoc, ih, Nat.pow_succ, Nat.mul_assoc]
      have : (48 : UInt8).toNat - 48 = 0 := by decide
      omega
  have l : ((D ++ List.replicate n 48).length : Int) = D.length + n := by simp
  rw [e, l]
  by_cases c1 : p < -330
  · rw [if_pos (Or.inr c1), if_pos (Or.inr c1)]
  · have n1 : ¬ (D ++ List.replicate n 48 = [] ∨ p < -330) := by
      rintro (h | h)
      · exact hD (List.append_eq_nil_iff.1 h).1
      · exact c1 h
    have n2 : ¬ (D = [] ∨ p < -330) := by
      rintro (h | h)
      · exact hD h
      · exact c1 h
    rw [if_neg n1, if_neg n2]
    by_cases c2 : 310 < p
    · rw [if_pos c2, if_pos c2]
    · rw [if_neg c2, if_neg c2]
      refine nearQ_cross _ _ _ _ (Nat.pow_pos (by decide)) (Nat.pow_pos (by decide)) ?_
      rw [Nat.mul_assoc, Nat.mul_assoc, Nat.mul_assoc, ← Nat.pow_add, ← Nat.pow_add, ← Nat.pow_add]
      congr 2
      omega

theorem nodz_top (x : UInt8) (r : List UInt8) (hx : x ≠ 48) : nodz (x :: r) = x :: r := by
  unfold nodz Lib.trimLeftB
  rw [List.dropWhile_cons, if_neg (by simp [hx])]

theorem nodz_zeros (n : Nat) (l : List UInt8) : nodz (List.replicate n 48 ++ l) = nodz l := by
  unfold nodz Lib.trimLeftB
  rw [dw_app (List.replicate n 48) l (by intro c hc; rw [(List.mem_replicate.1 hc).2]; rfl)]

theorem lay_read (x : UInt8) (r : List UInt8) (P : Int) (hD : ∀ z ∈ x :: r, isDig z = true) (hx : x ≠ 48) (hl : (x :: r).length ≤ 100) (p0 : -50000 ≤ P) (p1 : P ≤ 50000) :
    readI (layI (x :: r) P) = (valD (x :: r) P : Nat) ∧ litI (layI (x :: r) P) = (((valD (x :: r) P : Nat) : Int), true) := by
  have hx1 := hD x (by simp)
  have hr : ∀ z ∈ r, isDig z = true := fun z hz => hD z (by simp [hz])
  have sD : sigD (x :: r) = x :: r := by rw [sigD_small _ (by omega), nodz_top x r hx]
  unfold layI
  by_cases c : 21 < P ∨ P < -5
  · rw [if_pos c]
    obtain ⟨e1, e2, e3, e4⟩ := expL_read (P - 1) (by omega)
    by_cases l1 : (x :: r).length = 1
    · rw [if_pos l1]
      have r0 : r = [] := by cases r with | nil => rfl | cons y r => simp at l1
      subst r0
      have b := both_read [x] [] (expL (P - 1)) false (P - 1) hD (by simp) (by simp) (fun _ => rfl) (Or.inr ⟨e2, Or.inl e3, e1⟩) e4 (by unfold litB; simp)
      have sp : sigP [x] ([x] ++ []) (P - 1) = P := by unfold sigP; rw [List.append_nil, nodz_top x [] hx]; simp; omega
      rw [sp, List.append_nil, sD] at b
      exact b
    · rw [if_neg l1]
      have rn : r ≠ [] := by rintro rfl; simp at l1
      have b := both_read [x] r (expL (P - 1)) true (P - 1) (by intro z hz; rw [List.mem_singleton] at hz; subst hz; exact hx1) hr (by simp) (by simp) (Or.inr ⟨e2, Or.inl e3, e1⟩) e4 (by unfold litB; simp [rn])
      have sp : sigP [x] ([x] ++ r) (P - 1) = P := by
        unfold sigP
        rw [List.singleton_append, nodz_top x r hx]
        simp; omega
      have sd2 : sigD ([x] ++ r) = x :: r := sD
      rw [sp, sd2, if_pos rfl] at b
      rw [List.append_assoc]
      exact b
  · rw [if_neg c]
    by_cases c1 : P ≤ 0
    · rw [if_pos c1]
      have b := both_read [48] (List.replicate (-P).toNat 48 ++ (x :: r)) [] true 0 (by intro z hz; rw [List.mem_singleton] at hz; subst hz; decide)
        (mem3 (fun z hz => by rw [(List.mem_replicate.1 hz).2]; decide) hD) (by simp) (by simp) (Or.inl ⟨rfl, rfl⟩) (by simp) (by unfold litB; simp)
      have nz : nodz ([48] ++ (List.replicate (-P).toNat 48 ++ (x :: r))) = x :: r := by
        rw [show [48] ++ (List.replicate (-P).toNat 48 ++ (x :: r)) = List.replicate ((-P).toNat + 1) 48 ++ (x :: r) from by rw [List.replicate_succ]; rfl, nodz_zeros, nodz_top x r hx]
      have sd : sigD ([48] ++ (List.replicate (-P).toNat 48 ++ (x :: r))) = x :: r := by rw [sigD_small _ (by simp at hl ⊢; omega), nz]
      have sp : sigP [48] ([48] ++ (List.replicate (-P).toNat 48 ++ (x :: r))) 0 = P := by
        unfold sigP
        rw [nz]
        simp; omega
      rw [sp, sd, if_pos rfl, List.append_nil] at b
      exact b
    · rw [if_neg c1]
      by_cases c2 : P < ((x :: r).length : Nat)
      · rw [if_pos c2]
        obtain ⟨k, rfl⟩ : ∃ k : Nat, P = k := ⟨P.toNat, by omega⟩
        rw [show ((k : Int)).toNat = k from by omega]
        have tl : ((x :: r).take k).length = k := by rw [List.length_take]; omega
        have dl : 0 < ((x :: r).drop k).length := by rw [List.length_drop]; omega
        have hd : ((x :: r).take k).head? = some x := by
          obtain ⟨j, rfl⟩ : ∃ j, k = j + 1 := ⟨k - 1, by omega⟩
          rfl
        have b := both_read ((x :: r).take k) ((x :: r).drop k) [] true 0 (fun z hz => hD z (List.mem_of_mem_take hz)) (fun z hz => hD z (List.mem_of_mem_drop hz))
          (by intro e; rw [e] at tl; simp at tl; omega) (by simp) (Or.inl ⟨rfl, rfl⟩) (by simp) (by
            unfold litB
            rw [if_neg (by intro e; rw [e] at tl; simp at tl; omega), if_neg (by rintro ⟨_, e⟩; rw [e] at dl; simp at dl), hd]
            simp [hx])
        have sp : sigP ((x :: r).take k) ((x :: r).take k ++ (x :: r).drop k) 0 = k := by
          unfold sigP
          rw [List.take_append_drop, nodz_top x r hx, tl]
          omega
        rw [sp, List.take_append_drop, sD, if_pos rfl, List.append_nil] at b
        exact b
      · rw [if_neg c2]
        have b := both_read ((x :: r) ++ List.replicate (P - ((x :: r).length : Nat)).toNat 48) [] [] false 0 (mem3 hD (fun z hz => by rw [(List.mem_replicate.1 hz).2]; decide)) (by simp) (by simp) (fun _ => rfl) (Or.inl ⟨rfl, rfl⟩) (by simp) (by
            unfold litB
            rw [if_neg (by simp), if_neg (by simp)]
            simp [hx])
        have nz : nodz ((x :: r) ++ List.replicate (P - ((x :: r).length : Nat)).toNat 48) = (x :: r) ++ List.replicate (P - ((x :: r).length : Nat)).toNat 48 := by rw [List.cons_append]; exact nodz_top x _ hx
        have ln : ((x :: r) ++ List.replicate (P - ((x :: r).length : Nat)).toNat 48).length = P.toNat := by rw [List.length_append, List.length_replicate]; omega
        have sd : sigD ((x :: r) ++ List.replicate (P - ((x :: r).length : Nat)).toNat 48) = (x :: r) ++ List.replicate (P - ((x :: r).length : Nat)).toNat 48 := by rw [sigD_small _ (by rw [ln]; omega), nz]
        have sp : sigP ((x :: r) ++ List.replicate (P - ((x :: r).length : Nat)).toNat 48) ((x :: r) ++ List.replicate (P - ((x :: r).length : Nat)).toNat 48) 0 = P := by
          unfold sigP
          rw [nz, ln]
          omega
        rw [if_neg (by decide), List.append_nil, List.append_nil, sp, sd, valD_zeros (x :: r) P _ (by simp)] at b
        exact b

end Go.Proofs.YtpejebohekcfoaaGreatDoor
/- Plain: what is written of a number above 0 that is not whole is read as that number. -/
namespace Go.Proofs.YtpejebohekcfoaaGreatDoor
open Go.RowKit
set_option linter.unusedVariables false

theorem frac_back (a : Nat) (h0 : 0 < a) (h1 : a < 9218868437227405312) :
    readI (layI (txt (shD a)) (shP a)) = (a : Int) ∧ litI (layI (txt (shD a)) (shP a)) = ((a : Int), true) := by
  obtain ⟨d, r, hd, dp⟩ := shD_head a h0 h1
  have le9 := shD_le9 a h0 h1
  have l18 := shD_18 a h0 h1
  have pr := shP_range a h0 h1
  have nd := near_digits a h0 h1 (dnum_pos a h0 h1)
  have dv := decN_txt (shD a) (fun x hx => by have := le9 x hx; omega)
  have tl : (txt (shD a)).length = (shD a).length := txt_length _
  have ti : ∀ z ∈ txt (shD a), isDig z = true := by
    intro z hz
    unfold txt at hz
    obtain ⟨x, hx, rfl⟩ := List.mem_map.1 hz
    have := le9 x hx
    exact digit_is x (by omega)
  have v : valD (txt (shD a)) (shP a) = a := by
    unfold valD
    have ne : txt (shD a) ≠ [] := by rw [hd]; simp [txt]
    rw [if_neg (by rintro (h | h); exact ne h; omega), if_neg (by omega), dv, tl]
    exact nd
  have e : txt (shD a) = dB d :: txt r := by rw [hd]; rfl
  rw [e] at ti v tl ⊢
  have x48 : dB d ≠ 48 := by
    intro c
    have := congrArg UInt8.toNat c
    have d9 := le9 d (by rw [hd]; simp)
    rw [dB_nat d (by omega)] at this
    simp at this
    omega
  have b := lay_read (dB d) (txt r) (shP a) ti x48 (by omega) (by omega) (by omega)
  rw [v] at b
  exact b

theorem near_whole (n : Nat) (h : 0 < n) : nearQ n 1 = rung n 0 := by
  rw [nearQ_fine n 1 54 h (by decide) (by decide)]
  unfold rungQ stq
  rw [Nat.div_one, Nat.mod_one, if_pos rfl, Nat.add_zero]
  have e : 2 * (n * 2 ^ 54) = n * 2 ^ 55 := by omega
  rw [e, rung_scale]
  congr 1

theorem whole_read (n : Nat) (h : 0 < n) (hl : (Lib.decDigits n).length ≤ 300) :
    readI (Lib.decDigits n) = (rung n 0 : Nat) ∧ litI (Lib.decDigits n) = (((rung n 0 : Nat) : Int), true) ∧ unsI (Lib.decDigits n) = rung n 0 := by
  obtain ⟨c, r, hd, hc⟩ := dd_head n h
  have dg := dd_dig n
  have ne := dd_ne n
  have lb : litB (Lib.decDigits n) [] false = true := by
    unfold litB
    rw [if_neg ne, if_neg (by simp), hd]
    simp [hc]
  have b := both_read (Lib.decDigits n) [] [] false 0 dg (by simp) ne (fun _ => rfl) (Or.inl ⟨rfl, rfl⟩) (by simp) lb
  have u := (uns_any (Lib.decDigits n) [] [] false 0 dg (by simp) ne (fun _ => rfl) (Or.inl ⟨rfl, rfl⟩)).1
  have nz : nodz (Lib.decDigits n) = Lib.decDigits n := by rw [hd]; exact nodz_top c r hc
  have v : valD (sigD (Lib.decDigits n ++ [])) (sigP (Lib.decDigits n) (Lib.decDigits n ++ []) 0) = rung n 0 := by
    rw [List.append_nil, sigD_small _ (by omega), nz]
    have sp : sigP (Lib.decDigits n) (Lib.decDigits n) 0 = ((Lib.decDigits n).length : Int) := by unfold sigP; rw [nz]; omega
    rw [sp]
    unfold valD
    rw [if_neg (by rintro (h' | h'); exact ne h'; omega), if_neg (by omega), dd_val, show (((Lib.decDigits n).length : Int) - ((Lib.decDigits n).length : Nat)).toNat = 0 from by omega, Nat.pow_zero, Nat.mul_one]
    exact near_whole n h
  rw [v] at b u
  rw [if_neg (by decide), List.append_nil, List.append_nil] at b u
  exact ⟨b.1, b.2, u⟩

end Go.Proofs.YtpejebohekcfoaaGreatDoor
/- Plain: what is written of every number is read as that number. -/
namespace Go.Proofs.YtpejebohekcfoaaGreatDoor
open Go.RowKit
set_option linter.unusedVariables false

theorem rung_zero (e : Int) : rung 0 e = 0 := by simp [rung]

theorem whole_back (a n : Int) (h0 : 0 ≤ a) (h1 : a < 18446744073709551616) (h : wholeI a = (n, true)) : fromI n = a ∧ -9007199254740992 < n ∧ n < 9007199254740992 := by
  unfold wholeI at h
  by_cases z : a = 0
  · rw [if_pos z] at h
    have : n = 0 := by simpa using (congrArg Prod.fst h).symm
    subst this z
    exact ⟨by decide +kernel, by omega, by omega⟩
  rw [if_neg z] at h
  by_cases c : kindI a ≠ 1 ∨ 0 < expI a ∨ truncI a ≠ a
  · rw [if_pos c] at h
    exact absurd (congrArg Prod.snd h) (by simp)
  rw [if_neg c] at h
  have hn := congrArg Prod.fst h
  dsimp only at hn
  have k1 : kindI a = 1 := Classical.byContradiction fun x => c (Or.inl x)
  have ex : expI a ≤ 0 := Classical.byContradiction fun x => c (Or.inr (Or.inl (by omega)))
  have tr : truncI a = a := Classical.byContradiction fun x => c (Or.inr (Or.inr x))
  clear c h
  obtain ⟨_, f, fe⟩ := read_fin a h0 h1 k1
  obtain ⟨f1, f2, f3, f4, _⟩ := f
  have zs := size_small (manI a) (expI a) (by omega) (by omega) ex
  obtain ⟨z0, z1⟩ := size_bd (manI a) (expI a) (by omega) (by omega)
  have key : a = sgnI a + ((rung (sizeI (manI a) (expI a)).toNat 0 : Nat) : Int) := by
    by_cases d : 0 ≤ expI a
    · have d0 : expI a = 0 := by omega
      rw [d0] at fe ⊢
      have e : sizeI (manI a) 0 = manI a := by
        unfold sizeI
        rw [if_neg (by omega), show (0 : Int).toNat = 0 from rfl, Int.pow_zero, Int.mul_one]
        omega
      rw [e, sgn_sb a h0 h1]
      exact fe
    · unfold truncI at tr
      rw [if_neg (by omega), if_neg (by simp [k1]; omega)] at tr
      unfold roundI at tr
      exact tr.symm
  generalize sizeI (manI a) (expI a) = S at *
  clear fe tr
  refine ⟨?_, ?_, ?_⟩
  · unfold fromI
    by_cases s : sgnI a = 0
    · rw [if_pos s] at hn
      subst hn
      rw [s] at key
      rw [if_neg (by omega)]
      omega
    · have s' : sgnI a = 9223372036854775808 := by have := sgn_cases a h1; omega
      rw [if_neg s] at hn
      subst hn
      rw [s'] at key
      by_cases p : S = 0
      · exfalso
        subst p
        rw [show (0 : Int).toNat = 0 from rfl, rung_zero] at key
        have : a = 9223372036854775808 := by omega
        rw [this] at k1
        exact absurd k1 (by decide +kernel)
      · rw [if_pos (by omega), show (- -S).toNat = S.toNat from by omega]
        exact key.symm
  · split at hn <;> omega
  · split at hn <;> omega

/-- the text of a number above 0 -/
theorem pos_back (b : Nat) (h0 : 0 < b) (h1 : b < 9218868437227405312) :
    ∃ x m, printQ (b : Int) = x :: m ∧ isDig x = true ∧ (∀ z ∈ x :: m, okD z = true) ∧ unsI (x :: m) = b ∧ readI (x :: m) = (b : Int) ∧ litI (x :: m) = ((b : Int), true) := by
  have kf := kind_fld (b : Int) (by omega) (by omega)
  have rb : rankI (b : Int) = b := by unfold rankI; rw [if_pos (by omega)]
  have k2 : kindI (b : Int) < 2 := kf.1.2 (by rw [rb]; omega)
  cases hw : (wholeI (b : Int)).2 with
  | true =>
    obtain ⟨n, hn⟩ : ∃ n, wholeI (b : Int) = (n, true) := ⟨(wholeI (b : Int)).1, by rw [← hw]⟩
    obtain ⟨f, n0, n1⟩ := whole_back b n (by omega) (by omega) hn
    have np : 0 < n := by
      rcases Int.lt_trichotomy n 0 with c | c | c
      · unfold fromI at f
        rw [if_pos c] at f
        omega
      · subst c
        unfold fromI at f
        rw [if_neg (by omega)] at f
        have : rung (0 : Int).toNat 0 = 0 := by decide +kernel
        omega
      · exact c
    obtain ⟨k, rfl⟩ : ∃ k : Nat, n = k := ⟨n.toNat, by omega⟩
    unfold fromI at f
    rw [if_neg (by omega), show ((k : Int)).toNat = k from by omega] at f
    have hl := dd_len k (by omega)
    obtain ⟨r1, r2, r3⟩ := whole_read k (by omega) (by omega)
    have fb : rung k 0 = b := by omega
    rw [fb] at r1 r2 r3
    have pq : printQ (b : Int) = Lib.decDigits k := by
      unfold printQ
      rw [if_pos hw, hn]
      show Lib.itoa (k : Int) = _
      unfold Lib.itoa
      rw [if_neg (by omega)]
      rfl
    rw [pq]
    have dg := dd_dig k
    obtain ⟨c, r, hd, hc⟩ := dd_head k (by omega)
    rw [hd] at dg r1 r2 r3 ⊢
    exact ⟨c, r, rfl, dg c (by simp), fun z hz => dig_okD z (dg z hz), r3, r1, r2⟩
  | false =>
    have z0 : rankI 0 = 0 := by decide +kernel
    have pq : printQ (b : Int) = layI (txt (shD b)) (shP b) := by
      unfold printQ
      rw [if_neg (by rw [hw]; decide), if_neg (by omega), if_neg (by omega), if_neg]
      · rfl
      · unfold equalI
        rw [rb, z0]
        simp
        intro _ _
        omega
    obtain ⟨r1, r2⟩ := frac_back b h0 h1
    rw [pq]
    obtain ⟨d, r, hd, dp⟩ := shD_head b h0 h1
    have le9 := shD_le9 b h0 h1
    have tD : txt (shD b) = dB d :: txt r := by rw [hd]; rfl
    have dd9 := le9 d (by rw [hd]; simp)
    have hx : isDig (dB d) = true := digit_is d (by omega)
    have ti : ∀ z ∈ txt (shD b), isDig z = true := by
      intro z hz
      unfold txt at hz
      obtain ⟨x, hx, rfl⟩ := List.mem_map.1 hz
      have := le9 x hx
      exact digit_is x (by omega)
    have sb := shP_bd b h0 h1
    -- all that stands in it may stand there, and it opens with a digit
    have shape : ∃ x m, layI (txt (shD b)) (shP b) = x :: m ∧ isDig x = true ∧ ∀ z ∈ x :: m, okD z = true := by
      have ok0 : ∀ z ∈ txt (shD b), okD z = true := fun z hz => dig_okD z (ti z hz)
      have okz : ∀ n : Nat, ∀ z ∈ List.replicate n (48 : UInt8), okD z = true := fun n z hz => by rw [(List.mem_replicate.1 hz).2]; decide
      obtain ⟨_, _, _, eo⟩ := expL_read (shP b - 1) (by omega)
      have okall : ∀ z ∈ layI (txt (shD b)) (shP b), okD z = true := by
        unfold layI
        have tk : ∀ k, ∀ z ∈ (txt (shD b)).take k, okD z = true := fun k z hz => ok0 z (List.mem_of_mem_take hz)
        have dk : ∀ k, ∀ z ∈ (46 : UInt8) :: (txt (shD b)).drop k, okD z = true := fun k z hz => by
          rcases List.mem_cons.1 hz with rfl | hz
          · decide
          · exact ok0 z (List.mem_of_mem_drop hz)
        split
        · refine mem3 ?_ eo
          split
          · exact tk 1
          · exact mem3 (tk 1) (dk 1)
        · split
          · refine mem3 (mem3 ?_ (okz _)) ok0
            intro z hz
            simp at hz
            rcases hz with rfl | rfl <;> decide
          · split
            · exact mem3 (tk _) (dk _)
            · exact mem3 ok0 (okz _)
      have hd1 : ∃ x m, layI (txt (shD b)) (shP b) = x :: m ∧ isDig x = true := by
        unfold layI
        rw [tD]
        split
        · split
          · exact ⟨dB d, _, rfl, hx⟩
          · exact ⟨dB d, _, rfl, hx⟩
        · split
          · exact ⟨48, _, rfl, by decide⟩
          · split
            · rename_i c1 c2 c3
              obtain ⟨j, hj⟩ : ∃ j, (shP b).toNat = j + 1 := ⟨(shP b).toNat - 1, by omega⟩
              rw [hj]
              exact ⟨dB d, _, rfl, hx⟩
            · exact ⟨dB d, _, rfl, hx⟩
      obtain ⟨x, m, e, hx'⟩ := hd1
      rw [e] at okall
      exact ⟨x, m, e, hx', okall⟩
    obtain ⟨x, m, e, hx', ok⟩ := shape
    rw [e] at r1 r2 ⊢
    have ru := read_ok x m hx' ok
    exact ⟨x, m, rfl, hx', ok, by omega, r1, r2⟩

/-- a sign ahead of such a text -/
theorem minus_read (x : UInt8) (m : List UInt8) (hx : isDig x = true) (h : ∀ z ∈ x :: m, okD z = true) : readI (45 :: x :: m) = negI (unsI (x :: m) : Nat) ∧ litI (45 :: x :: m) = (0, false) := by
  constructor
  · unfold readI
    rw [trimS_cons 45 _ blankS (by decide), trimR_ok _ h, core_minus]
  · have ok : ∀ z ∈ 45 :: x :: m, okD z = true := by
      intro z hz
      rcases List.mem_cons.1 hz with rfl | hz
      · decide
      · exact h z hz
    have d45 : isDig 45 = false := by decide
    have w : sW (45 :: x :: m) = [] := by unfold sW digs; rw [List.takeWhile_cons, if_neg (by rw [d45]; simp)]
    have q : rst (45 :: x :: m) = 45 :: x :: m := by unfold rst; rw [List.dropWhile_cons, if_neg (by rw [d45]; simp)]
    have f : sF (45 :: x :: m) = [] := by unfold sF; rw [q, if_neg (by simp)]
    have so : scanOk (45 :: x :: m) = false := by unfold scanOk; rw [w, f, if_pos ⟨rfl, rfl⟩]
    unfold litI
    rw [if_neg (by rw [(cutX_noneD _ ok).2]; simp), if_neg (by rw [so]; simp)]

end Go.Proofs.YtpejebohekcfoaaGreatDoor
/- NumtextBack: the walk. -/
namespace Go.Proofs.YtpejebohekcfoaaGreatDoor
open Go.RowKit
set_option linter.unusedVariables false

set_option maxHeartbeats 2000000 in
theorem back_zero (a : Int) (n : Nat) (C B : Int) (S : ByteArray) (w : World)
    (hz : (FloatKind.f64.format.order n 0 == some Ordering.eq) = true)
    (hg : (FloatKind.f64.format.order n 0 == some Ordering.gt || FloatKind.f64.format.order n 0 == some Ordering.eq) = true)
    (hq : (FloatKind.f64.format.order n 9218868437227405311 == some Ordering.lt || FloatKind.f64.format.order n 9218868437227405311 == some Ordering.eq) = true)
    (c1 : ∀ w1, Below w.heap.size w w1 → Calls Tryz.prog 16 #[.int .u64 a] w1 fun e w' => e = .returned (.float .f64 n) ∧ Below w.heap.size w w')
    (c2 : ∀ w1, Below w.heap.size w w1 → Calls Tryz.prog 17 #[.float .f64 n] w1 fun e w' => e = .returned (.int .u64 C) ∧ Below w.heap.size w w')
    (c3 : ∀ w1, Below w.heap.size w w1 → Calls Tryz.prog 10 #[.int .u64 a] w1 fun e w' => e = .returned (.string S) ∧ Below w.heap.size w w')
    (c4 : ∀ w1, Below w.heap.size w w1 → Calls Tryz.prog 12 #[.string S] w1 fun e w' => e = .returned (.tuple #[.int .u64 0, .bool true]) ∧ Below w.heap.size w w')
    (c5 : ∀ w1, Below w.heap.size w w1 → Calls Tryz.prog 14 #[.string S] w1 fun e w' => e = .returned (.int .u64 0) ∧ Below w.heap.size w w')
    (al : ∀ w1, Below w.heap.size w w1 → Calls Tryz.prog 9 #[] w1 fun e w' => e = .returned (.bool true) ∧ Below w.heap.size w w') :
    Calls Tryz.prog 5 #[.int .u64 a] w fun e w' => e = .returned (.bool true) ∧ Below w.heap.size w w' := by
  go_enter Tryz.func5, Tryz.ntmps5
  go_wp2_with fail
  refine (c1 _ (Below.refl _ _)).mono ?_
  rintro e w1 ⟨rfl, hb1⟩
  go_wp2_with fail
  refine (c2 _ hb1).mono ?_
  rintro e w2 ⟨rfl, hb2⟩
  go_wp2_with fail
  refine (c3 _ hb2).mono ?_
  rintro e w3 ⟨rfl, hb3⟩
  go_wp2_with fail
  refine (c4 _ hb3).mono ?_
  rintro e w4 ⟨rfl, hb4⟩
  go_wp2_with fail
  refine (al _ hb4).mono ?_
  rintro e w5 ⟨rfl, hb5⟩
  go_wp2_with fail
  refine (c5 _ hb5).mono ?_
  rintro e w6 ⟨rfl, hb6⟩
  go_wp2
  go_ret
  exact ⟨rfl, hb6⟩

set_option maxHeartbeats 2000000 in
theorem back_plain (a : Int) (n : Nat) (C B : Int) (S : ByteArray) (w : World)
    (hz : (FloatKind.f64.format.order n 0 == some Ordering.eq) = false)
    (hg : (FloatKind.f64.format.order n 0 == some Ordering.gt) = true)
    (hq : (FloatKind.f64.format.order n 9218868437227405311 == some Ordering.lt || FloatKind.f64.format.order n 9218868437227405311 == some Ordering.eq) = true)
    (c1 : ∀ w1, Below w.heap.size w w1 → Calls Tryz.prog 16 #[.int .u64 a] w1 fun e w' => e = .returned (.float .f64 n) ∧ Below w.heap.size w w')
    (c2 : ∀ w1, Below w.heap.size w w1 → Calls Tryz.prog 17 #[.float .f64 n] w1 fun e w' => e = .returned (.int .u64 C) ∧ Below w.heap.size w w')
    (c3 : ∀ w1, Below w.heap.size w w1 → Calls Tryz.prog 10 #[.int .u64 a] w1 fun e w' => e = .returned (.string S) ∧ Below w.heap.size w w')
    (c4 : ∀ w1, Below w.heap.size w w1 → Calls Tryz.prog 12 #[.string S] w1 fun e w' => e = .returned (.tuple #[.int .u64 C, .bool true]) ∧ Below w.heap.size w w')
    (c5 : ∀ w1, Below w.heap.size w w1 → Calls Tryz.prog 14 #[.string S] w1 fun e w' => e = .returned (.int .u64 C) ∧ Below w.heap.size w w')
    (al : ∀ w1, Below w.heap.size w w1 → Calls Tryz.prog 9 #[] w1 fun e w' => e = .returned (.bool true) ∧ Below w.heap.size w w') :
    Calls Tryz.prog 5 #[.int .u64 a] w fun e w' => e = .returned (.bool true) ∧ Below w.heap.size w w' := by
  go_enter Tryz.func5, Tryz.ntmps5
  go_wp2_with fail
  refine (c1 _ (Below.refl _ _)).mono ?_
  rintro e w1 ⟨rfl, hb1⟩
  go_wp2_with fail
  refine (c2 _ hb1).mono ?_
  rintro e w2 ⟨rfl, hb2⟩
  go_wp2_with fail
  refine (c3 _ hb2).mono ?_
  rintro e w3 ⟨rfl, hb3⟩
  go_wp2_with fail
  refine (c4 _ hb3).mono ?_
  rintro e w4 ⟨rfl, hb4⟩
  go_wp2_with fail
  refine (al _ hb4).mono ?_
  rintro e w5 ⟨rfl, hb5⟩
  go_wp2_with fail
  refine (c5 _ hb5).mono ?_
  rintro e w6 ⟨rfl, hb6⟩
  go_wp2
  go_ret
  exact ⟨rfl, hb6⟩

set_option maxHeartbeats 2000000 in
theorem back_neg (a : Int) (n : Nat) (C B : Int) (S : ByteArray) (w : World)
    (hz : (FloatKind.f64.format.order n 0 == some Ordering.eq) = false)
    (hg : (FloatKind.f64.format.order n 0 == some Ordering.gt) = false)
    (c1 : ∀ w1, Below w.heap.size w w1 → Calls Tryz.prog 16 #[.int .u64 a] w1 fun e w' => e = .returned (.float .f64 n) ∧ Below w.heap.size w w')
    (c2 : ∀ w1, Below w.heap.size w w1 → Calls Tryz.prog 17 #[.float .f64 n] w1 fun e w' => e = .returned (.int .u64 C) ∧ Below w.heap.size w w')
    (c3 : ∀ w1, Below w.heap.size w w1 → Calls Tryz.prog 10 #[.int .u64 a] w1 fun e w' => e = .returned (.string S) ∧ Below w.heap.size w w')
    (c4 : ∀ w1, Below w.heap.size w w1 → Calls Tryz.prog 12 #[.string S] w1 fun e w' => e = .returned (.tuple #[.int .u64 B, .bool false]) ∧ Below w.heap.size w w')
    (c5 : ∀ w1, Below w.heap.size w w1 → Calls Tryz.prog 14 #[.string S] w1 fun e w' => e = .returned (.int .u64 C) ∧ Below w.heap.size w w')
    (al : ∀ w1, Below w.heap.size w w1 → Calls Tryz.prog 9 #[] w1 fun e w' => e = .returned (.bool true) ∧ Below w.heap.size w w') :
    Calls Tryz.prog 5 #[.int .u64 a] w fun e w' => e = .returned (.bool true) ∧ Below w.heap.size w w' := by
  go_enter Tryz.func5, Tryz.ntmps5
  go_wp2_with fail
  refine (c1 _ (Below.refl _ _)).mono ?_
  rintro e w1 ⟨rfl, hb1⟩
  go_wp2_with fail
  refine (c2 _ hb1).mono ?_
  rintro e w2 ⟨rfl, hb2⟩
  go_wp2_with fail
  refine (c3 _ hb2).mono ?_
  rintro e w3 ⟨rfl, hb3⟩
  go_wp2_with fail
  refine (c4 _ hb3).mono ?_
  rintro e w4 ⟨rfl, hb4⟩
  go_wp2_with fail
  refine (al _ hb4).mono ?_
  rintro e w5 ⟨rfl, hb5⟩
  go_wp2_with fail
  refine (c5 _ hb5).mono ?_
  rintro e w6 ⟨rfl, hb6⟩
  go_wp2
  go_ret
  exact ⟨rfl, hb6⟩

set_option maxHeartbeats 2000000 in
theorem back_inf (a : Int) (n : Nat) (C B : Int) (S : ByteArray) (w : World)
    (hz : (FloatKind.f64.format.order n 0 == some Ordering.eq) = false)
    (hg : (FloatKind.f64.format.order n 0 == some Ordering.gt) = true)
    (hq : (FloatKind.f64.format.order n 9218868437227405311 == some Ordering.lt || FloatKind.f64.format.order n 9218868437227405311 == some Ordering.eq) = false)
    (c1 : ∀ w1, Below w.heap.size w w1 → Calls Tryz.prog 16 #[.int .u64 a] w1 fun e w' => e = .returned (.float .f64 n) ∧ Below w.heap.size w w')
    (c2 : ∀ w1, Below w.heap.size w w1 → Calls Tryz.prog 17 #[.float .f64 n] w1 fun e w' => e = .returned (.int .u64 C) ∧ Below w.heap.size w w')
    (c3 : ∀ w1, Below w.heap.size w w1 → Calls Tryz.prog 10 #[.int .u64 a] w1 fun e w' => e = .returned (.string S) ∧ Below w.heap.size w w')
    (c4 : ∀ w1, Below w.heap.size w w1 → Calls Tryz.prog 12 #[.string S] w1 fun e w' => e = .returned (.tuple #[.int .u64 B, .bool false]) ∧ Below w.heap.size w w')
    (c5 : ∀ w1, Below w.heap.size w w1 → Calls Tryz.prog 14 #[.string S] w1 fun e w' => e = .returned (.int .u64 C) ∧ Below w.heap.size w w')
    (al : ∀ w1, Below w.heap.size w w1 → Calls Tryz.prog 9 #[] w1 fun e w' => e = .returned (.bool true) ∧ Below w.heap.size w w') :
    Calls Tryz.prog 5 #[.int .u64 a] w fun e w' => e = .returned (.bool true) ∧ Below w.heap.size w w' := by
  go_enter Tryz.func5, Tryz.ntmps5
  go_wp2_with fail
  refine (c1 _ (Below.refl _ _)).mono ?_
  rintro e w1 ⟨rfl, hb1⟩
  go_wp2_with fail
  refine (c2 _ hb1).mono ?_
  rintro e w2 ⟨rfl, hb2⟩
  go_wp2_with fail
  refine (c3 _ hb2).mono ?_
  rintro e w3 ⟨rfl, hb3⟩
  go_wp2_with fail
  refine (c4 _ hb3).mono ?_
  rintro e w4 ⟨rfl, hb4⟩
  go_wp2_with fail
  refine (al _ hb4).mono ?_
  rintro e w5 ⟨rfl, hb5⟩
  go_wp2_with fail
  refine (c5 _ hb5).mono ?_
  rintro e w6 ⟨rfl, hb6⟩
  go_wp2
  go_ret
  exact ⟨rfl, hb6⟩

end Go.Proofs.YtpejebohekcfoaaGreatDoor
/- NumtextBack: all of it. -/
namespace Go.Proofs.YtpejebohekcfoaaGreatDoor
open Go.RowKit
set_option linter.unusedVariables false

theorem printI_len (a : Int) (h0 : 0 ≤ a) (h1 : a < 18446744073709551616) : (printI a).length ≤ 200000 := by
  unfold printI
  split
  · rename_i c
    obtain ⟨n1, n2, n3⟩ := neg_less a h0 h1 c.2
    have := printQ_len (negI a) n2 n3 n1
    simp; omega
  · rename_i c
    cases hw : (wholeI a).2 with
    | true =>
      obtain ⟨b0, b1⟩ := whole_bd a h0 h1
      have := itoa_len (wholeI a).1 (by omega)
      unfold printQ
      rw [if_pos hw]
      omega
    | false =>
      have hl : lessI a 0 = false := by
        cases hl : lessI a 0 with
        | true => exact absurd ⟨hw, hl⟩ c
        | false => rfl
      have := printQ_len a h0 h1 hl
      omega

theorem cmp_gt' (x y : Int) (h : y < x) : compare x y = Ordering.gt := by
  simp only [compare, compareOfLessAndEq]
  rw [if_neg (by omega), if_neg (by omega)]

theorem cmp_lt' (x y : Int) (h : x < y) : compare x y = Ordering.lt := by
  simp only [compare, compareOfLessAndEq]
  rw [if_pos h]

theorem cmp_eq' (x y : Int) (h : x = y) : compare x y = Ordering.eq := by
  simp only [compare, compareOfLessAndEq]
  rw [if_neg (by omega), if_pos h]

theorem back_walk (a : Int) (h0 : 0 ≤ a) (h1 : a < 18446744073709551616) (w : World) (ht : Pow10 w) :
    Calls Tryz.prog 5 #[.int .u64 a] w fun e w' => e = .returned (.bool true) ∧ Below w.heap.size w w' := by
  have c1 : ∀ w1, Below w.heap.size w w1 → Calls Tryz.prog 16 #[.int .u64 a] w1 fun e w' => e = .returned (.float .f64 a.toNat) ∧ Below w.heap.size w w' := fun w1 hb => (val_any a w1).mono (by rintro e w' ⟨rfl, rfl⟩; exact ⟨rfl, hb⟩)
  have c2 : ∀ w1, Below w.heap.size w w1 → Calls Tryz.prog 17 #[.float .f64 a.toNat] w1 fun e w' => e = .returned (.int .u64 (if kindI a = 3 then 9221120237041090560 else a)) ∧ Below w.heap.size w w' := fun w1 hb => (of_any a w1 h0 h1).mono (by rintro e w' ⟨rfl, rfl⟩; exact ⟨rfl, hb⟩)
  have c3 : ∀ w1, Below w.heap.size w w1 → Calls Tryz.prog 10 #[.int .u64 a] w1 fun e w' => e = .returned (.string (bs (printI a))) ∧ Below w.heap.size w w' := fun w1 hb => (print_any a h0 h1 w1 (pow10_below ht hb)).mono (by rintro e w' ⟨rfl, b⟩; exact ⟨rfl, hb.trans (b.mono hb.size)⟩)
  have pl := printI_len a h0 h1
  have c4 : ∀ w1, Below w.heap.size w w1 → Calls Tryz.prog 12 #[.string (bs (printI a))] w1 fun e w' => e = .returned (.tuple #[.int .u64 (litI (printI a)).1, .bool (litI (printI a)).2]) ∧ Below w.heap.size w w' := after (Q := fun e => e = .returned (.tuple #[.int .u64 (litI (printI a)).1, .bool (litI (printI a)).2])) (fun w1 => literal_read (printI a) w1 (by omega))
  have c5 : ∀ w1, Below w.heap.size w w1 → Calls Tryz.prog 14 #[.string (bs (printI a))] w1 fun e w' => e = .returned (.int .u64 (readI (printI a))) ∧ Below w.heap.size w w' := after (Q := fun e => e = .returned (.int .u64 (readI (printI a)))) (fun w1 => read_any (printI a) w1 (by omega))
  have al := after (w := w) (Q := fun e => e = .returned (.bool true)) (fun w1 => alive_any w1)
  have z0 : rankI 0 = 0 := by decide +kernel
  have k0 : kindI 0 ≠ 3 := by decide +kernel
  have zt : (0 : Int).toNat = 0 := rfl
  have mt : (9218868437227405311 : Int).toNat = 9218868437227405311 := rfl
  by_cases k3 : kindI a = 3
  · rw [if_pos k3] at c2
    have w0 : wholeI a = (0, false) := by
      unfold wholeI
      rw [if_neg (by rintro rfl; exact k0 k3), if_pos (Or.inl (by rw [k3]; decide))]
    have l0 : lessI a 0 = false := by unfold lessI; rw [k3]; rfl
    have p : printI a = [78, 97, 78] := by
      unfold printI
      rw [if_neg (by rw [l0]; simp)]
      unfold printQ
      rw [w0, if_neg (by decide), if_pos k3]
    rw [p] at c3 c4 c5
    rw [show readI [78, 97, 78] = 9221120237041090560 from by decide +kernel] at c5
    rw [show litI [78, 97, 78] = (0, false) from by decide +kernel] at c4
    have o := order_nan a 0 h0 h1 (by omega) (by omega) (Or.inl k3)
    rw [zt] at o
    refine back_neg a a.toNat _ 0 _ w ?_ ?_ c1 c2 c3 c4 c5 al
    · show (Ieee.double.order a.toNat 0 == some Ordering.eq) = false
      rw [o]; rfl
    · show (Ieee.double.order a.toNat 0 == some Ordering.gt) = false
      rw [o]; rfl
  · rw [if_neg k3] at c2
    have o := order_eq a 0 h0 h1 (by omega) (by omega) k3 k0
    rw [zt, z0] at o
    have kf := kind_fld a h0 h1
    rcases Int.lt_trichotomy (rankI a) 0 with c | c | c
    · -- below 0
      have av : 9223372036854775808 < a := by unfold rankI at c; split at c <;> omega
      have ra : rankI a = 9223372036854775808 - a := by unfold rankI; rw [if_neg (by omega)]
      have hz : (FloatKind.f64.format.order a.toNat 0 == some Ordering.eq) = false := by
        show (Ieee.double.order a.toNat 0 == some Ordering.eq) = false
        rw [o, cmp_lt' _ _ c]; rfl
      have hg : (FloatKind.f64.format.order a.toNat 0 == some Ordering.gt) = false := by
        show (Ieee.double.order a.toNat 0 == some Ordering.gt) = false
        rw [o, cmp_lt' _ _ c]; rfl
      by_cases ai : a = 18442240474082181120
      · subst ai
        rw [show printI 18442240474082181120 = [45, 73, 110, 102, 105, 110, 105, 116, 121] from by decide +kernel] at c3 c4 c5
        rw [show readI [45, 73, 110, 102, 105, 110, 105, 116, 121] = 18442240474082181120 from by decide +kernel] at c5
        rw [show litI [45, 73, 110, 102, 105, 110, 105, 116, 121] = (0, false) from by decide +kernel] at c4
        exact back_neg _ _ _ 0 _ w hz hg c1 c2 c3 c4 c5 al
      · have k2 : kindI a < 2 := by
          have kc := kind_cases a
          have nk : ¬ kindI a = 2 := by
            intro e
            rcases kf.2.1.1 e with r | r <;> omega
          omega
        have rr := kf.1.1 k2
        obtain ⟨b, hb⟩ : ∃ b : Nat, a = 9223372036854775808 + b := ⟨(a - 9223372036854775808).toNat, by omega⟩
        have nb : negI (b : Int) = a := by rw [neg_uns b (by omega)]; omega
        have key : ∃ x m, printI a = 45 :: x :: m ∧ isDig x = true ∧ (∀ z ∈ x :: m, okD z = true) ∧ unsI (x :: m) = b := by
          cases hw : (wholeI a).2 with
          | true =>
            obtain ⟨n, hn⟩ : ∃ n, wholeI a = (n, true) := ⟨(wholeI a).1, by rw [← hw]⟩
            obtain ⟨f, n0, n1⟩ := whole_back a n h0 h1 hn
            have ng : n < 0 := by
              refine Classical.byContradiction fun g => ?_
              unfold fromI at f
              rw [if_neg g] at f
              have := rung_le n.toNat 0
              omega
            unfold fromI at f
            rw [if_pos ng] at f
            have hl := dd_len (-n).toNat (by omega)
            obtain ⟨_, _, r3⟩ := whole_read (-n).toNat (by omega) (by omega)
            have fb : rung (-n).toNat 0 = b := by omega
            rw [fb] at r3
            have p : printI a = 45 :: Lib.decDigits (-n).toNat := by
              unfold printI
              rw [if_neg (by rw [hw]; simp)]
              unfold printQ
              rw [if_pos hw, hn]
              show Lib.itoa n = _
              unfold Lib.itoa
              rw [if_pos ng, show n.natAbs = (-n).toNat from by omega]
            have dg := dd_dig (-n).toNat
            obtain ⟨x, r, hd, hc⟩ := dd_head (-n).toNat (by omega)
            rw [hd] at dg r3 p
            exact ⟨x, r, p, dg x (by simp), fun z hz => dig_okD z (dg z hz), r3⟩
          | false =>
            have hl : lessI a 0 = true := by
              unfold lessI
              rw [beq_eq_false_iff_ne.2 k3, beq_eq_false_iff_ne.2 k0, z0, decide_eq_true c]
              rfl
            have na : negI a = b := by
              unfold negI
              rw [if_neg k3]
              omega
            obtain ⟨x, m, e, hx, ok, u, _, _⟩ := pos_back b (by omega) (by omega)
            refine ⟨x, m, ?_, hx, ok, u⟩
            unfold printI
            rw [if_pos ⟨hw, hl⟩, na, e]
        obtain ⟨x, m, e, hx, ok, u⟩ := key
        obtain ⟨m1, m2⟩ := minus_read x m hx ok
        rw [u, nb] at m1
        rw [e] at c3 c4 c5
        rw [m1] at c5
        rw [m2] at c4
        exact back_neg a a.toNat _ 0 _ w hz hg c1 c2 c3 c4 c5 al
    · -- a zero
      rcases zero_of_rank a c with rfl | rfl
      · rw [show printI 0 = [48] from by decide +kernel] at c3 c4 c5
        rw [show readI [48] = 0 from by decide +kernel] at c5
        rw [show litI [48] = (0, true) from by decide +kernel] at c4
        exact back_zero 0 _ _ 0 _ w (by decide +kernel) (by decide +kernel) (by decide +kernel) c1 c2 c3 c4 c5 al
      · rw [show printI 9223372036854775808 = [48] from by decide +kernel] at c3 c4 c5
        rw [show readI [48] = 0 from by decide +kernel] at c5
        rw [show litI [48] = (0, true) from by decide +kernel] at c4
        exact back_zero 9223372036854775808 _ _ 0 _ w (by decide +kernel) (by decide +kernel) (by decide +kernel) c1 c2 c3 c4 c5 al
    · -- above 0
      have av : 0 < a ∧ a < 9223372036854775808 := by unfold rankI at c; split at c <;> omega
      have ra : rankI a = a := by unfold rankI; rw [if_pos (by omega)]
      have hz : (FloatKind.f64.format.order a.toNat 0 == some Ordering.eq) = false := by
        show (Ieee.double.order a.toNat 0 == some Ordering.eq) = false
        rw [o, cmp_gt' _ _ c]; rfl
      have hg : (FloatKind.f64.format.order a.toNat 0 == some Ordering.gt) = true := by
        show (Ieee.double.order a.toNat 0 == some Ordering.gt) = true
        rw [o, cmp_gt' _ _ c]; rfl
      by_cases ai : a = 9218868437227405312
      · subst ai
        rw [show printI 9218868437227405312 = [73, 110, 102, 105, 110, 105, 116, 121] from by decide +kernel] at c3 c4 c5
        rw [show readI [73, 110, 102, 105, 110, 105, 116, 121] = 9218868437227405312 from by decide +kernel] at c5
        rw [show litI [73, 110, 102, 105, 110, 105, 116, 121] = (0, false) from by decide +kernel] at c4
        exact back_inf _ _ _ 0 _ w hz hg (by decide +kernel) c1 c2 c3 c4 c5 al
      · have k2 : kindI a < 2 := by
          have kc := kind_cases a
          have nk : ¬ kindI a = 2 := by
            intro e
            rcases kf.2.1.1 e with r | r <;> omega
          omega
        have rr := kf.1.1 k2
        obtain ⟨b, rfl⟩ : ∃ b : Nat, a = b := ⟨a.toNat, by omega⟩
        have l0 : lessI (b : Int) 0 = false := by
          unfold lessI
          rw [z0, decide_eq_false (by omega)]
          simp
        obtain ⟨x, m, e, hx, ok, u, r1, r2⟩ := pos_back b (by omega) (by omega)
        have p : printI (b : Int) = x :: m := by
          unfold printI
          rw [if_neg (by rw [l0]; simp), e]
        rw [p] at c3 c4 c5
        rw [r1] at c5
        rw [r2] at c4
        have km : kindI 9218868437227405311 ≠ 3 := by decide +kernel
        have rm : rankI 9218868437227405311 = 9218868437227405311 := by decide +kernel
        have o2 := order_eq (b : Int) 9218868437227405311 h0 h1 (by omega) (by omega) k3 km
        rw [mt, rm, ra] at o2
        refine back_plain b _ _ 0 _ w hz hg ?_ c1 c2 c3 c4 c5 al
        show (Ieee.double.order ((b : Int)).toNat 9218868437227405311 == some Ordering.lt || Ieee.double.order ((b : Int)).toNat 9218868437227405311 == some Ordering.eq) = true
        rw [o2]
        rcases Int.lt_or_eq_of_le (show (b : Int) ≤ 9218868437227405311 by omega) with g | g
        · rw [cmp_lt' _ _ g]; rfl
        · rw [cmp_eq' _ _ g]; rfl

end Go.Proofs.YtpejebohekcfoaaGreatDoor
/- Plain, for Short: the digits less the last lie outside the interval, and so do they raised by one. -/
namespace Go.Proofs.YtpejebohekcfoaaGreatDoor
open Go.RowKit
set_option linter.unusedVariables false

theorem not_under {V L : Nat} {cl : Bool} (h : inN V L cl = false) : ¬ Under V L cl := by
  intro u
  unfold inN at h
  simp only [Bool.or_eq_false_iff, Bool.and_eq_false_iff, decide_eq_false_iff_not] at h
  rcases u with u | ⟨u, c⟩
  · exact h.1 u
  · rcases h.2 with h2 | h2
    · exact h2 u
    · rw [c] at h2; exact Bool.noConfusion h2

theorem digs_pre (T : Nat) (cl : Bool) (hT : 0 < T) : ∀ (f V L U : Nat), inN V L cl = false → inN T (V + U) cl = false →
    ¬ Under (V * 10 ^ ((digsF f V L U T cl).length - 1)) (dnum (digsF f V L U T cl).dropLast * T + L * 10 ^ ((digsF f V L U T cl).length - 1)) cl ∧
    ¬ Under ((dnum (digsF f V L U T cl).dropLast + 1) * T) (V * 10 ^ ((digsF f V L U T cl).length - 1) + U * 10 ^ ((digsF f V L U T cl).length - 1)) cl := by
  intro f
  have base : ∀ (V L U : Nat) (ds : List Nat), inN V L cl = false → inN T (V + U) cl = false → ds.length ≤ 1 →
      ¬ Under (V * 10 ^ (ds.length - 1)) (dnum ds.dropLast * T + L * 10 ^ (ds.length - 1)) cl ∧
      ¬ Under ((dnum ds.dropLast + 1) * T) (V * 10 ^ (ds.length - 1) + U * 10 ^ (ds.length - 1)) cl := by
    intro V L U ds h1 h2 hl
    have e : ds.dropLast = [] := by
      apply List.eq_nil_of_length_eq_zero
      rw [List.length_dropLast]; omega
    rw [e, show ds.length - 1 = 0 from by omega, Nat.pow_zero, Nat.mul_one, Nat.mul_one, Nat.mul_one, show dnum [] = 0 from rfl, Nat.zero_mul, Nat.zero_add, Nat.zero_add, Nat.one_mul]
    exact ⟨not_under h1, not_under h2⟩
  induction f with
  | zero =>
    intro V L U h1 h2
    exact base V L U _ h1 h2 (by rw [digsF]; simp)
  | succ f ih =>
    intro V L U h1 h2
    have dm := Nat.div_add_mod (V * 10) T
    have ml := Nat.mod_lt (V * 10) hT
    rw [Nat.mul_comm T] at dm
    rw [digsF]
    generalize V * 10 / T = d at *
    generalize hX : V * 10 % T = X at *
    cases hd : inN X (L * 10) cl with
    | true =>
      rw [if_pos (by simp)]
      exact base V L U _ h1 h2 (by split <;> simp)
    | false =>
      cases hu : inN T (X + U * 10) cl with
      | true =>
        rw [if_pos (by simp)]
        exact base V L U _ h1 h2 (by split <;> simp)
      | false =>
        rw [if_neg (by simp)]
        obtain ⟨i1, i2⟩ := ih X (L * 10) (U * 10) hd hu
        generalize digsF f X (L * 10) (U * 10) T cl = r at *
        cases r with
        | nil => exact base V L U _ h1 h2 (by simp)
        | cons x r =>
          rw [List.dropLast_cons_of_ne_nil (by simp), dnum_cons, List.length_dropLast]
          rw [show (d :: x :: r).length - 1 = ((x :: r).length - 1) + 1 from by simp]
          generalize dnum (x :: r).dropLast = n at *
          generalize (x :: r).length - 1 = k at *
          have e1 : V * 10 ^ (k + 1) = d * 10 ^ k * T + X * 10 ^ k := by
            rw [ten_next, ← dm, Nat.add_mul, Nat.mul_right_comm]
          have e2 : L * 10 ^ (k + 1) = L * 10 * 10 ^ k := ten_next L k
          have e3 : U * 10 ^ (k + 1) = U * 10 * 10 ^ k := ten_next U k
          have e4 : (d * 10 ^ k + n) * T = d * 10 ^ k * T + n * T := Nat.add_mul _ _ _
          have e5 : (d * 10 ^ k + n + 1) * T = d * 10 ^ k * T + (n + 1) * T := by rw [Nat.add_assoc, Nat.add_mul]
          rw [e1, e2, e3, e4, e5]
          exact ⟨fun u => i1 (under_lin u (by omega) (by omega)), fun u => i2 (under_lin u (by omega) (by omega))⟩

end Go.Proofs.YtpejebohekcfoaaGreatDoor
/- Plain, for Short: what lies outside of the mids is read as another number. -/
namespace Go.Proofs.YtpejebohekcfoaaGreatDoor

set_option linter.unusedVariables false

theorem stq_mono {A B M t : Nat} (hM : 0 < M) (h : A ≤ B) : stq A M t ≤ stq B M t := by
  have hp : A * 2 ^ t ≤ B * 2 ^ t := Nat.mul_le_mul_right _ h
  have d := Nat.div_le_div_right (c := M) hp
  have da := Nat.div_add_mod (A * 2 ^ t) M
  have db := Nat.div_add_mod (B * 2 ^ t) M
  unfold stq
  generalize A * 2 ^ t = X at *
  generalize B * 2 ^ t = Y at *
  rcases Nat.lt_or_ge (X / M) (Y / M) with c | c
  · split <;> split <;> omega
  · have e : X / M = Y / M := by omega
    rw [e] at da ⊢
    split <;> split <;> omega

theorem near_mono_same {A B M : Nat} (hM : 0 < M) (h : A ≤ B) : nearQ A M ≤ nearQ B M := by
  unfold nearQ rungQ
  exact rung_mono _ (stq_mono hM h)

theorem near_mono {A B M N : Nat} (hM : 0 < M) (hN : 0 < N) (h : A * N ≤ B * M) : nearQ A M ≤ nearQ B N := by
  rw [← nearQ_scale A M N hM hN, ← nearQ_scale B N M hN hM, Nat.mul_comm N M]
  exact near_mono_same (Nat.mul_pos hM hN) h

/-- from the middle up to the number above it, also where that is infinite -/
theorem near_dn2 (s A M u : Nat) (hu : u = 1074) (hr : s < 9218868437227405312) (hA : 0 < A) (hM : 0 < M) (hl : A * 2 ^ u < valN (s + 1) * M) (h1 : (valN s + valN (s + 1)) * M < 2 * (A * 2 ^ u) ∨ ((valN s + valN (s + 1)) * M = 2 * (A * 2 ^ u) ∧ s % 2 = 1)) :
    nearQ A M = s + 1 := by
  have vl := valN_lt (Nat.lt_succ_self s)
  obtain ⟨c, hc⟩ : ∃ c, c = M.log2 + 60 := ⟨_, rfl⟩
  rw [nearQ_fine A M (u + (c + 1)) hA hM (by omega)]
  unfold rungQ
  have et : A * 2 ^ (u + (c + 1)) = A * 2 ^ u * 2 ^ (c + 1) := by rw [Nat.pow_add, Nat.mul_assoc]
  have eM : (valN s + valN (s + 1)) * M = valN s * M + valN (s + 1) * M := Nat.add_mul _ _ _
  have gM : valN s * M < valN (s + 1) * M := Nat.mul_lt_mul_of_pos_right vl hM
  have k0 : valN s * 2 ^ (c + 1 + 1) ≤ stq A M (u + (c + 1)) := by
    have := (not_congr (stq_lt A M (u + (c + 1)) (valN s * 2 ^ (c + 1)) hM)).2 (by
      rw [et, Nat.mul_right_comm (valN s)]
      exact Nat.not_lt.2 (Nat.mul_le_mul_right _ (by omega)))
    rw [Nat.pow_succ 2 (c + 1)]
    have e : valN s * (2 ^ (c + 1) * 2) = 2 * (valN s * 2 ^ (c + 1)) := by rw [Nat.mul_comm (2 ^ (c + 1)) 2, Nat.mul_left_comm]
    omega
  have k1 : stq A M (u + (c + 1)) < valN (s + 1) * 2 ^ (c + 1 + 1) := by
    have := (stq_lt A M (u + (c + 1)) (valN (s + 1) * 2 ^ (c + 1)) hM).2 (by
      rw [et, Nat.mul_right_comm (valN (s + 1))]
      exact pow_mul_lt.2 hl)
    have e : valN (s + 1) * (2 ^ (c + 1) * 2) = 2 * (valN (s + 1) * 2 ^ (c + 1)) := by rw [Nat.mul_comm (2 ^ (c + 1)) 2, Nat.mul_left_comm]
    rw [Nat.pow_succ 2 (c + 1)]
    omega
  have g : goesUp s (stq A M (u + (c + 1))) (c + 1) = 1 := by
    unfold goesUp
    have e2 : (valN s + valN (s + 1)) * 2 ^ (c + 1) = 2 * ((valN s + valN (s + 1)) * 2 ^ c) := by rw [Nat.pow_succ, Nat.mul_comm (2 ^ c) 2, Nat.mul_left_comm]
    have ew : A * 2 ^ (u + (c + 1)) = 2 * (A * 2 ^ u) * 2 ^ c := by rw [et, Nat.pow_succ, Nat.mul_comm (2 ^ c) 2, ← Nat.mul_assoc, Nat.mul_comm (A * 2 ^ u) 2]
    rw [e2, if_pos]
    rcases h1 with h1 | ⟨h1, ho⟩
    · refine Or.inl ?_
      have h3 : ¬ stq A M (u + (c + 1)) < 2 * ((valN s + valN (s + 1)) * 2 ^ c) := by
        rw [stq_lt A M _ _ hM, ew, Nat.mul_right_comm (valN s + valN (s + 1)), pow_mul_lt]
        omega
      have h4 : stq A M (u + (c + 1)) ≠ 2 * ((valN s + valN (s + 1)) * 2 ^ c) := by
        rw [Ne, stq_eq A M _ _ hM, ew, Nat.mul_right_comm (valN s + valN (s + 1))]
        intro h
        have := Nat.eq_of_mul_eq_mul_right (Nat.two_pow_pos c) h
        omega
      omega
    · refine Or.inr ⟨?_, ho⟩
      refine ((stq_eq A M _ _ hM).2 ?_).symm
      rw [ew, Nat.mul_right_comm (valN s + valN (s + 1)), h1]
  have := rung_between s (stq A M (u + (c + 1))) (c + 1) (by omega) k0 k1
  rw [g] at this
  rw [← this]
  congr 1
  omega

/-- above the upper middle: another number -/
theorem near_over (a A M u : Nat) (hu : u = 1074) (hr : a < 9218868437227405312) (hA : 0 < A) (hM : 0 < M)
    (h1 : (valN a + valN (a + 1)) * M < 2 * (A * 2 ^ u) ∨ ((valN a + valN (a + 1)) * M = 2 * (A * 2 ^ u) ∧ a % 2 = 1)) : nearQ A M ≠ a := by
  have vl : valN a < valN (a + 1) := valN_lt (Nat.lt_succ_self a)
  rcases Nat.lt_or_ge (A * 2 ^ u) (valN (a + 1) * M) with hl | hl
  · rw [near_dn2 a A M u hu hr hA hM hl h1]; omega
  · have p := Nat.two_pow_pos u
    have w := near_dn2 a (valN a + 3 * valN (a + 1)) (4 * 2 ^ u) u hu hr (by omega) (by omega)
      (by
        rw [show valN (a + 1) * (4 * 2 ^ u) = 4 * valN (a + 1) * 2 ^ u from by rw [Nat.mul_comm 4 (2 ^ u), ← Nat.mul_assoc, Nat.mul_comm _ 4, Nat.mul_assoc]]
        exact Nat.mul_lt_mul_of_pos_right (by omega) p)
      (Or.inl (by
        rw [show (valN a + valN (a + 1)) * (4 * 2 ^ u) = 4 * (valN a + valN (a + 1)) * 2 ^ u from by rw [← Nat.mul_assoc, Nat.mul_comm _ 4], ← Nat.mul_assoc]
        exact Nat.mul_lt_mul_of_pos_right (by omega) p))
    have m := near_mono (A := valN a + 3 * valN (a + 1)) (B := A) (M := 4 * 2 ^ u) (N := M) (by omega) hM (by
      have g : (valN a + 3 * valN (a + 1)) * M ≤ 4 * valN (a + 1) * M := Nat.mul_le_mul_right _ (by omega)
      have e1 : 4 * valN (a + 1) * M = 4 * (valN (a + 1) * M) := Nat.mul_assoc _ _ _
      have e2 : A * (4 * 2 ^ u) = 4 * (A * 2 ^ u) := Nat.mul_left_comm _ _ _
      omega)
    omega

/-- below the lower middle: another number -/
theorem near_under (s A M u : Nat) (hu : u = 1074) (hr : s + 1 < 9218868437227405312) (hM : 0 < M)
    (h1 : 2 * (A * 2 ^ u) < (valN s + valN (s + 1)) * M ∨ (2 * (A * 2 ^ u) = (valN s + valN (s + 1)) * M ∧ s % 2 = 0)) : nearQ A M ≠ s + 1 := by
  rcases Nat.eq_zero_or_pos A with z | hA
  · subst z; rw [nearQ_zero]; omega
  rcases Nat.lt_or_ge (A * 2 ^ u) (valN s * M) with hl | hl
  · have p := Nat.two_pow_pos u
    have vp : 0 < valN s := by
      refine Nat.pos_of_ne_zero fun e => ?_
      rw [e, Nat.zero_mul] at hl; omega
    have vl : valN s < valN (s + 1) := valN_lt (Nat.lt_succ_self s)
    have w := near_up s (valN s) (2 ^ u) u hu (by omega) vp p (Nat.le_refl _) (Or.inl (by
      rw [← Nat.mul_assoc]
      exact Nat.mul_lt_mul_of_pos_right (by omega) p))
    have m := near_mono (A := A) (B := valN s) (M := M) (N := 2 ^ u) hM p (by omega)
    omega
  · rw [near_up s A M u hu (by omega) hA hM hl h1]; omega

end Go.Proofs.YtpejebohekcfoaaGreatDoor
/- Plain, for Short: the digits less the last, and they raised by one, are read as another number. -/
namespace Go.Proofs.YtpejebohekcfoaaGreatDoor
open Go.RowKit
set_option linter.unusedVariables false

theorem near_out (a n k : Nat) (h0 : 0 < a) (h1 : a < 9218868437227405312) (hN : 0 < n)
    (h : ¬ Under (shV1 a * 10 ^ k) (n * shT1 a + shL1 a * 10 ^ k) (shC a) ∨ ¬ Under (n * shT1 a) (shV1 a * 10 ^ k + shU1 a * 10 ^ k) (shC a)) :
    nearQ (n * 10 ^ (shP a - k).toNat) (10 ^ ((k : Int) - shP a).toNat) ≠ a := by
  have xb := arX_bd a h1
  have bb := arB_bd a
  have mb := arM_bd a h0
  obtain ⟨u, hu⟩ : ∃ u : Nat, u = 1074 := ⟨_, rfl⟩
  obtain ⟨F, hF⟩ : ∃ F, F = 2 ^ (-arX a).toNat * 10 ^ ((shG a).toNat + shJ a) := ⟨_, rfl⟩
  obtain ⟨G, hG⟩ : ∃ G, G = 2 ^ (arX a).toNat * 10 ^ ((-shG a).toNat + k) := ⟨_, rfl⟩
  obtain ⟨F', hF'⟩ : ∃ F', F' = 2 ^ u * 10 ^ (shP a - k).toNat := ⟨_, rfl⟩
  obtain ⟨G', hG'⟩ : ∃ G', G' = 2 ^ plaR a * 10 ^ ((k : Int) - shP a).toNat := ⟨_, rfl⟩
  have pG : 0 < G := by rw [hG]; exact Nat.mul_pos (Nat.two_pow_pos _) (Nat.pow_pos (by decide))
  have pG' : 0 < G' := by rw [hG']; exact Nat.mul_pos (Nat.two_pow_pos _) (Nat.pow_pos (by decide))
  have px := arX_pla a
  have e0 : F * G' = G * F' := by
    rw [hF, hG, hF', hG', Nat.mul_mul_mul_comm, Nat.mul_mul_mul_comm (2 ^ (arX a).toNat), ← Nat.pow_add, ← Nat.pow_add, ← Nat.pow_add, ← Nat.pow_add]
    congr 2
    · omega
    · unfold shP; omega
  have e : F' * G = G' * F := by rw [Nat.mul_comm F' G, Nat.mul_comm G' F]; exact e0.symm
  have eT : n * shT1 a = 4 * n * F := by
    unfold shT1 shT0 shT
    rw [hF, Nat.pow_add]
    simp only [Nat.mul_assoc, Nat.mul_left_comm]
  have eV : shV1 a * 10 ^ k = 4 * arM a * G := by
    unfold shV1 shV
    rw [hG, Nat.pow_add]
    simp only [Nat.mul_assoc]
  have eL : shL1 a * 10 ^ k = arB a * G := by
    unfold shL1 shL
    rw [hG, Nat.pow_add]
    simp only [Nat.mul_assoc]
  have eU : shU1 a * 10 ^ k = 2 * G := by
    unfold shU1 shU
    rw [hG, Nat.pow_add]
    simp only [Nat.mul_assoc]
  rw [eT, eV, eL, eU, ← Nat.add_mul] at h
  have sl : 4 * arM a * G = (4 * arM a - arB a) * G + arB a * G := by rw [← Nat.add_mul]; congr 1; omega
  have h' : ¬ Under ((4 * arM a - arB a) * G') (4 * n * F') (shC a) ∨ ¬ Under (4 * n * F') ((4 * arM a + 2) * G') (shC a) := by
    rcases h with h | h
    · refine Or.inl fun q => h ?_
      have : Under ((4 * arM a - arB a) * G) (4 * n * F) (shC a) := by
        rcases q with q | ⟨q, c⟩
        · exact Or.inl (cross_gt pG' pG e q)
        · exact Or.inr ⟨(cross_eq pG' e q.symm).symm, c⟩
      exact under_lin this (by omega) (by omega)
    · refine Or.inr fun q => h ?_
      rcases q with q | ⟨q, c⟩
      · exact Or.inl (cross_lt pG' pG e q)
      · exact Or.inr ⟨cross_eq pG' e q, c⟩
  have par : a % 2 = 0 → shC a = true := by
    intro h
    unfold shC
    rw [decide_eq_true_eq, arM_man, manR_odd]
    exact h
  have eA : n * 10 ^ (shP a - k).toNat * 2 ^ u = n * F' := by rw [hF', Nat.mul_assoc, Nat.mul_comm (10 ^ _) (2 ^ u)]
  obtain ⟨W, hW⟩ : ∃ W, 10 ^ ((k : Int) - shP a).toNat = W := ⟨_, rfl⟩
  have pW : 0 < W := by rw [← hW]; exact Nat.pow_pos (by decide)
  have eG : ∀ y, y * G' = y * 2 ^ plaR a * W := by intro y; rw [hG', hW, Nat.mul_assoc]
  rw [hW]
  have nA : 0 < n * 10 ^ (shP a - k).toNat := Nat.mul_pos hN (Nat.pow_pos (by decide))
  have q : 4 * n * F' = 4 * (n * F') := Nat.mul_assoc _ _ _
  rcases h' with h | h
  · obtain ⟨s, rfl⟩ : ∃ s, a = s + 1 := ⟨a - 1, by omega⟩
    refine near_under s _ W u hu h1 pW ?_
    rw [eA]
    have vd := val_dn s
    have vu : 2 * ((valN s + valN (s + 1)) * W) = (4 * arM (s + 1) - arB (s + 1)) * G' := by
      rw [eG, ← Nat.mul_assoc]
      congr 1
      rw [Nat.sub_mul]
      omega
    unfold Under at h
    rcases Nat.lt_or_ge (2 * (n * F')) ((valN s + valN (s + 1)) * W) with c | c
    · exact Or.inl c
    · have h2 : ¬ (4 * arM (s + 1) - arB (s + 1)) * G' < 4 * n * F' := fun x => h (Or.inl x)
      refine Or.inr ⟨by omega, ?_⟩
      refine Decidable.byContradiction fun o => h (Or.inr ⟨by omega, par (by omega)⟩)
  · refine near_over a _ W u hu h1 nA pW ?_
    rw [eA]
    have vu : 2 * ((valN a + valN (a + 1)) * W) = (4 * arM a + 2) * G' := by rw [eG, ← val_up, ← Nat.mul_assoc]
    unfold Under at h
    rcases Nat.lt_or_ge ((valN a + valN (a + 1)) * W) (2 * (n * F')) with c | c
    · exact Or.inl c
    · have h2 : ¬ 4 * n * F' < (4 * arM a + 2) * G' := fun x => h (Or.inl x)
      refine Or.inr ⟨by omega, ?_⟩
      refine Decidable.byContradiction fun o => h (Or.inr ⟨by omega, par (by omega)⟩)

/-- the digits less the last, and they raised by one: neither is read as the number -/
theorem near_short (a : Nat) (h0 : 0 < a) (h1 : a < 9218868437227405312) (hl : 2 ≤ (shD a).length) (hN : 0 < dnum (shD a).dropLast) :
    nearQ (dnum (shD a).dropLast * 10 ^ (shP a - ((shD a).length - 1 : Nat)).toNat) (10 ^ ((((shD a).length - 1 : Nat) : Int) - shP a).toNat) ≠ a ∧
    nearQ ((dnum (shD a).dropLast + 1) * 10 ^ (shP a - ((shD a).length - 1 : Nat)).toNat) (10 ^ ((((shD a).length - 1 : Nat) : Int) - shP a).toNat) ≠ a := by
  obtain ⟨q1, q2, q3, q4, q5, q6, q7⟩ := sh_bd a 1100 h0 h1 (by omega)
  obtain ⟨t1, u1, l1⟩ := sh1_bd a 1100 h0 h1 (by omega)
  have st := (sh_stop a h0 h1).1
  have T1p : 0 < shT1 a := Nat.mul_pos (Nat.mul_pos q6 (Nat.pow_pos (by decide))) (Nat.pow_pos (by decide))
  have lv : inN (shV1 a) (shL1 a) (shC a) = false := by
    have m := arM_bd a h0
    have b := arB_bd a
    have lt : shL1 a < shV1 a := by
      unfold shL1 shV1 shL shV
      have p : 0 < 2 ^ (arX a).toNat * 10 ^ (-shG a).toNat := Nat.mul_pos (Nat.two_pow_pos _) (Nat.pow_pos (by decide))
      rw [Nat.mul_assoc, Nat.mul_assoc]
      exact Nat.mul_lt_mul_of_pos_right (by omega) p
    unfold inN
    simp only [Bool.or_eq_false_iff, Bool.and_eq_false_iff, decide_eq_false_iff_not]
    exact ⟨by omega, Or.inl (by omega)⟩
  obtain ⟨lo, hi⟩ := digs_pre (shT1 a) (shC a) T1p (shT1 a + 1) (shV1 a) (shL1 a) (shU1 a) lv st
  exact ⟨near_out a _ _ h0 h1 hN (Or.inl lo), near_out a _ _ h0 h1 (by omega) (Or.inr hi)⟩

end Go.Proofs.YtpejebohekcfoaaGreatDoor
/- Plain, for Short: another whole number is not read as a whole number below 2^53. -/
namespace Go.Proofs.YtpejebohekcfoaaGreatDoor
set_option linter.unusedVariables false

theorem pla_whole (b n u : Nat) (hu : u = 1074) (hv : valN b = n * 2 ^ u) (hn : n < 9007199254740992) : plaR b ≤ u := by
  refine Nat.le_of_not_lt fun c => ?_
  have hb : ¬ b < 4503599627370496 := by
    intro h
    unfold plaR at c
    omega
  have m : 4503599627370496 ≤ manR b := by unfold manR; rw [if_neg hb]; omega
  have p : 2 ^ (u + 1) ≤ 2 ^ plaR b := Nat.pow_le_pow_right (by decide) c
  rw [valN_parts] at hv
  have g : 4503599627370496 * 2 ^ (u + 1) ≤ manR b * 2 ^ plaR b := Nat.mul_le_mul m p
  have e : 4503599627370496 * 2 ^ (u + 1) = 9007199254740992 * 2 ^ u := by rw [Nat.pow_succ, Nat.mul_comm (2 ^ u) 2, ← Nat.mul_assoc]
  have l : n * 2 ^ u < 9007199254740992 * 2 ^ u := Nat.mul_lt_mul_of_pos_right hn (Nat.two_pow_pos u)
  omega

/-- no other whole number is read as it -/
theorem whole_other (b n x : Nat) (h0 : 0 < b) (h1 : b < 9218868437227405312) (hv : valN b = n * 2 ^ 1074) (hn : n < 9007199254740992) (hx : x ≠ n) : nearQ x 1 ≠ b := by
  obtain ⟨u, hu⟩ : ∃ u : Nat, u = 1074 := ⟨_, rfl⟩
  rw [← hu] at hv
  have pb := pla_whole b n u hu hv hn
  have pp : 2 ^ plaR b ≤ 2 ^ u := Nat.pow_le_pow_right (by decide) pb
  have p := Nat.two_pow_pos u
  rcases Nat.lt_or_ge x n with c | c
  · obtain ⟨s, rfl⟩ : ∃ s, b = s + 1 := ⟨b - 1, by omega⟩
    refine near_under s x 1 u hu h1 (by decide) (Or.inl ?_)
    have ps : plaR s ≤ plaR (s + 1) := by unfold plaR; omega
    have pq : 2 ^ plaR s ≤ 2 ^ u := Nat.pow_le_pow_right (by decide) (by omega)
    have nx := valN_next s
    rw [Nat.add_mul, Nat.one_mul, ← valN_parts] at nx
    have g : (x + 1) * 2 ^ u ≤ n * 2 ^ u := Nat.mul_le_mul_right _ (by omega)
    rw [Nat.add_mul, Nat.one_mul] at g
    rw [Nat.mul_one]
    omega
  · have nx := valN_next b
    rw [Nat.add_mul, Nat.one_mul, ← valN_parts] at nx
    have g : (n + 1) * 2 ^ u ≤ x * 2 ^ u := Nat.mul_le_mul_right _ (by omega)
    rw [Nat.add_mul, Nat.one_mul] at g
    refine near_over b x 1 u hu h1 (by omega) (by decide) (Or.inl ?_)
    rw [Nat.mul_one]
    omega

end Go.Proofs.YtpejebohekcfoaaGreatDoor
/- Plain, for Short: digits, an e, an exponent: what is read. -/
namespace Go.Proofs.YtpejebohekcfoaaGreatDoor
open Go.RowKit
set_option linter.unusedVariables false

theorem laid_read (x : UInt8) (r : List UInt8) (e : Int) (hD : ∀ z ∈ x :: r, isDig z = true) (hx : x ≠ 48) (hl : (x :: r).length ≤ 100) (he : e.natAbs ≤ 100000)
    (ho : ∀ z ∈ Lib.itoa e, okD z = true) :
    readI ((x :: r) ++ 101 :: Lib.itoa e) = (valD (x :: r) (e + ((x :: r).length : Nat)) : Nat) := by
  have sD : sigD (x :: r) = x :: r := by rw [sigD_small _ (by omega), nodz_top x r hx]
  have b := (both_read (x :: r) [] (101 :: Lib.itoa e) false e hD (by simp) (by simp) (fun _ => rfl) (Or.inr ⟨by simp, Or.inl (by simp), expP_itoa 101 (Or.inl rfl) e (by omega)⟩)
    (by
      intro z hz
      rcases List.mem_cons.1 hz with rfl | hz
      · decide
      · exact ho z hz)
    (by
      unfold litB
      rw [if_neg (by simp), if_neg (by simp)]
      simp [hx])).1
  have sp : sigP (x :: r) (x :: r ++ []) e = e + ((x :: r).length : Nat) := by
    unfold sigP
    rw [List.append_nil, nodz_top x r hx]
    omega
  rw [sp, List.append_nil, sD, if_neg (by decide), List.nil_append] at b
  exact b

end Go.Proofs.YtpejebohekcfoaaGreatDoor
/- Plain, for Short: texts of digits and an exponent that are not read as the number; and the text that is. -/
namespace Go.Proofs.YtpejebohekcfoaaGreatDoor
open Go.RowKit
set_option linter.unusedVariables false

theorem laid_other (a : Nat) (h0 : 0 < a) (h1 : a < 9218868437227405312) (x : UInt8) (r : List UInt8) (e : Int) (hD : ∀ z ∈ x :: r, isDig z = true) (hx : x ≠ 48) (hl : (x :: r).length ≤ 100) (he : e.natAbs ≤ 100000)
    (hn : nearQ (decN (x :: r) * 10 ^ e.toNat) (10 ^ (-e).toNat) ≠ a) : readI ((x :: r) ++ 101 :: Lib.itoa e) ≠ (a : Int) := by
  rw [laid_read x r e hD hx hl he (fun z hz => okC_okD z (itoa_ok e z hz))]
  intro c
  have c' : valD (x :: r) (e + ((x :: r).length : Nat)) = a := by omega
  unfold valD at c'
  split at c'
  · omega
  · split at c'
    · omega
    · rw [show (e + ((x :: r).length : Nat) - ((x :: r).length : Nat)).toNat = e.toNat from by omega, show ((((x :: r).length : Nat) : Int) - (e + ((x :: r).length : Nat))).toNat = (-e).toNat from by omega] at c'
      exact hn c'

theorem laid_same (a : Nat) (x : UInt8) (r : List UInt8) (e : Int) (hD : ∀ z ∈ x :: r, isDig z = true) (hx : x ≠ 48) (hl : (x :: r).length ≤ 100) (he : e.natAbs ≤ 100000)
    (p0 : -330 ≤ e + ((x :: r).length : Nat)) (p1 : e + ((x :: r).length : Nat) ≤ 310)
    (hn : nearQ (decN (x :: r) * 10 ^ e.toNat) (10 ^ (-e).toNat) = a) : readI ((x :: r) ++ 101 :: Lib.itoa e) = (a : Int) := by
  rw [laid_read x r e hD hx hl he (fun z hz => okC_okD z (itoa_ok e z hz))]
  unfold valD
  rw [if_neg (by rintro (h | h); exact absurd h (by simp); omega), if_neg (by omega)]
  rw [show (e + ((x :: r).length : Nat) - ((x :: r).length : Nat)).toNat = e.toNat from by omega, show ((((x :: r).length : Nat) : Int) - (e + ((x :: r).length : Nat))).toNat = (-e).toNat from by omega, hn]

end Go.Proofs.YtpejebohekcfoaaGreatDoor
/- NumtextShort: digits and point of a text, plain. -/
namespace Go.Proofs.YtpejebohekcfoaaGreatDoor
open Go.RowKit
set_option linter.unusedVariables false

/-- a text without its points -/
def noDot (m : List UInt8) : List UInt8 := m.filter (fun c => c != 46)

/-- digits without the noughts at their end -/
def noEnd (l : List UInt8) : List UInt8 := (nodz l.reverse).reverse

/-- where the point stands, behind k digits; p: as was told before -/
def pntF : Nat → Int → List UInt8 → Int
  | _, p, [] => p
  | k, p, c :: r => if c = 46 then pntF k k r else pntF (k + 1) p r

/-- how many digits stand ahead of the point -/
def pnt (m : List UInt8) : Int := if pntF 0 (-1) m < 0 then ((noDot m).length : Int) else pntF 0 (-1) m

/-- the digits of a text, and its point -/
def Sp (T ds : List UInt8) (p : Int) : Prop :=
  ∃ m R e, T = m ++ R ∧ (∀ c ∈ m, c ≠ 101) ∧ ((R = [] ∧ e = 0) ∨ ∃ x, R = 101 :: x ∧ Lib.atoi x = some e ∧ x.length ≤ 18 ∧ e.natAbs ≤ 100000) ∧
    noEnd (nodz (noDot m)) = ds ∧ p = pnt m - (noDot m).length + (nodz (noDot m)).length + e

theorem dig_ne (z : UInt8) (h : isDig z = true) : z ≠ 46 ∧ z ≠ 101 ∧ z ≠ 43 ∧ z ≠ 45 := by
  refine ⟨?_, ?_, ?_, ?_⟩ <;> (rintro rfl; revert h; decide)

theorem noDot_dig (W : List UInt8) (h : ∀ z ∈ W, isDig z = true) : noDot W = W := by
  unfold noDot
  rw [List.filter_eq_self]
  intro z hz
  simpa using (dig_ne z (h z hz)).1

theorem noDot_dot (W F : List UInt8) (h : ∀ z ∈ W, isDig z = true) (g : ∀ z ∈ F, isDig z = true) : noDot (W ++ 46 :: F) = W ++ F := by
  have a := noDot_dig W h
  have b := noDot_dig F g
  unfold noDot at a b ⊢
  rw [List.filter_append, a, List.filter_cons_of_neg (by decide), b]

theorem pntF_app (W l : List UInt8) (h : ∀ z ∈ W, isDig z = true) : ∀ k p, pntF k p (W ++ l) = pntF (k + W.length) p l := by
  induction W with
  | nil => intro k p; simp
  | cons c r ih =>
    intro k p
    have := (dig_ne c (h c (by simp))).1
    rw [List.cons_append, pntF, if_neg this, ih (fun z hz => h z (by simp [hz]))]
    congr 1
    simp; omega

theorem pnt_dig (W : List UInt8) (h : ∀ z ∈ W, isDig z = true) : pnt W = W.length := by
  have e := pntF_app W [] h 0 (-1)
  rw [List.append_nil] at e
  unfold pnt
  rw [e, pntF, if_pos (by omega), noDot_dig W h]

theorem pnt_dot (W F : List UInt8) (h : ∀ z ∈ W, isDig z = true) (g : ∀ z ∈ F, isDig z = true) : pnt (W ++ 46 :: F) = W.length := by
  have e := pntF_app F [] g W.length W.length
  rw [List.append_nil, pntF] at e
  unfold pnt
  rw [pntF_app W _ h, pntF, if_pos rfl, Nat.zero_add, e, if_neg (by omega)]

theorem noEnd_top (l : List UInt8) (c : UInt8) (h : c ≠ 48) : noEnd (l ++ [c]) = l ++ [c] := by
  unfold noEnd
  rw [List.reverse_append, List.reverse_singleton, List.singleton_append, nodz_top c _ h]
  simp

theorem noEnd_zeros (l : List UInt8) (n : Nat) : noEnd (l ++ List.replicate n 48) = noEnd l := by
  unfold noEnd
  rw [List.reverse_append, List.reverse_replicate, nodz_zeros]

theorem decFrom_dig (l : List UInt8) : ∀ acc, (∀ z ∈ l, isDig z = true) → Lib.decFrom acc l = some (l.foldl (fun n c => 10 * n + (c.toNat - 48)) acc) := by
  induction l with
  | nil => intro acc _; rfl
  | cons c r ih =>
    intro acc h
    have hc := h c (by simp)
    unfold isDig at hc
    have hv : Lib.digitVal c = some (c.toNat - 48) := by
      unfold Lib.digitVal
      rw [if_pos (by simpa using hc)]
    rw [Lib.decFrom, hv]
    show Lib.decFrom (acc * 10 + (c.toNat - 48)) r = _
    rw [ih _ (fun z hz => h z (by simp [hz])), List.foldl_cons, Nat.mul_comm acc 10]

theorem decNat_dd (u : Nat) : Lib.decNat (Lib.decDigits u) = some u := by
  have v := dd_val u
  unfold decN at v
  unfold Lib.decNat
  rw [if_neg (by have := dd_ne u; simpa using this), decFrom_dig _ 0 (dd_dig u), v]

theorem atoi_itoa (n : Int) : Lib.atoi (Lib.itoa n) = some n := by
  unfold Lib.itoa
  split
  · rename_i h
    unfold Lib.atoi
    dsimp only
    rw [if_pos (by decide), decNat_dd]
    show some (-((n.natAbs : Nat) : Int)) = _
    congr 1
    omega
  · rename_i h
    have d := dd_dig n.toNat
    have e := decNat_dd n.toNat
    have ne := dd_ne n.toNat
    generalize hl : Lib.decDigits n.toNat = l at d e ne ⊢
    cases l with
    | nil => exact absurd rfl ne
    | cons c r =>
      obtain ⟨_, _, h43, h45⟩ := dig_ne c (d c (by simp))
      unfold Lib.atoi
      dsimp only
      rw [if_neg (by simpa using h45), if_neg (by simpa using h43), e]
      show some ((n.toNat : Nat) : Int) = _
      congr 1
      omega

theorem atoi_plus (n : Int) (h : 0 ≤ n) : Lib.atoi (43 :: Lib.itoa n) = some n := by
  unfold Lib.itoa
  rw [if_neg (by omega)]
  unfold Lib.atoi
  dsimp only
  rw [if_neg (by decide), if_pos (by decide), decNat_dd]
  show some ((n.toNat : Nat) : Int) = _
  congr 1
  omega

theorem dd_short (u : Nat) (h : u < 1000000) : (Lib.decDigits u).length ≤ 6 := by
  rcases Nat.eq_zero_or_pos u with z | hp
  · subst z; rw [Lib.decDigits, dif_pos (by decide)]; simp
  · rcases Nat.lt_or_ge 6 (Lib.decDigits u).length with c | c
    · exfalso
      obtain ⟨x, r, hd, hx⟩ := dd_head u hp
      have g := decN_ge (Lib.decDigits u) x r hd (dd_dig u x (by rw [hd]; simp)) hx
      rw [dd_val] at g
      have : 10 ^ 6 ≤ 10 ^ ((Lib.decDigits u).length - 1) := Nat.pow_le_pow_right (by decide) (by omega)
      omega
    · exact c

theorem itoa_len' (n : Int) (h : n.natAbs ≤ 100000) : (Lib.itoa n).length ≤ 7 := by
  unfold Lib.itoa
  split
  · have := dd_short n.natAbs (by omega)
    simp; omega
  · have := dd_short n.toNat (by omega)
    omega

theorem exp_sp (n : Int) (h : n.natAbs ≤ 100000) : ∃ x, expL n = 101 :: x ∧ Lib.atoi x = some n ∧ x.length ≤ 18 ∧ n.natAbs ≤ 100000 := by
  have hl := itoa_len' n h
  unfold expL
  split
  · exact ⟨_, rfl, atoi_itoa n, by omega, h⟩
  · exact ⟨_, rfl, atoi_plus n (by omega), by simp; omega, h⟩

theorem lay_sp (ds l : List UInt8) (x c : UInt8) (r : List UInt8) (p : Int) (hx : ds = x :: r) (hx0 : x ≠ 48) (hc : ds = l ++ [c]) (hc0 : c ≠ 48)
    (hd : ∀ z ∈ ds, isDig z = true) (hp : p.natAbs ≤ 5000) : Sp (layI ds p) ds p := by
  have nz : nodz ds = ds := by rw [hx]; exact nodz_top x r hx0
  have ne : noEnd ds = ds := by rw [hc]; exact noEnd_top l c hc0
  have lp : 0 < ds.length := by rw [hx]; simp
  have tk : ∀ k, ∀ z ∈ ds.take k, isDig z = true := fun k z hz => hd z (List.mem_of_mem_take hz)
  have dk : ∀ k, ∀ z ∈ ds.drop k, isDig z = true := fun k z hz => hd z (List.mem_of_mem_drop hz)
  have n1 : ∀ W : List UInt8, (∀ z ∈ W, isDig z = true) → ∀ z ∈ W, z ≠ 101 := fun W h z hz => (dig_ne z (h z hz)).2.1
  have n2 : ∀ W F : List UInt8, (∀ z ∈ W, isDig z = true) → (∀ z ∈ F, isDig z = true) → ∀ z ∈ W ++ 46 :: F, z ≠ 101 := by
    intro W F h g z hz
    rcases List.mem_append.1 hz with hz | hz
    · exact n1 W h z hz
    · rcases List.mem_cons.1 hz with rfl | hz
      · decide
      · exact n1 F g z hz
  have zr : ∀ n : Nat, ∀ z ∈ List.replicate n (48 : UInt8), isDig z = true := fun n z hz => by rw [(List.mem_replicate.1 hz).2]; decide
  unfold layI
  split
  · obtain ⟨e, he, ha, hl, hb⟩ := exp_sp (p - 1) (by omega)
    split
    · rename_i h1
      rw [List.take_of_length_le (by omega)]
      refine ⟨ds, expL (p - 1), p - 1, rfl, n1 ds hd, Or.inr ⟨e, he, ha, hl, hb⟩, ?_, ?_⟩
      · rw [noDot_dig ds hd, nz, ne]
      · rw [noDot_dig ds hd, nz, pnt_dig ds hd, h1]; omega
    · refine ⟨ds.take 1 ++ 46 :: ds.drop 1, expL (p - 1), p - 1, rfl, n2 _ _ (tk 1) (dk 1), Or.inr ⟨e, he, ha, hl, hb⟩, ?_, ?_⟩
      · rw [noDot_dot _ _ (tk 1) (dk 1), List.take_append_drop, nz, ne]
      · rw [noDot_dot _ _ (tk 1) (dk 1), List.take_append_drop, nz, pnt_dot _ _ (tk 1) (dk 1), List.length_take, Nat.min_eq_left (by omega)]; omega
  · split
    · rename_i h1 h2
      have e : [48, 46] ++ List.replicate (-p).toNat 48 ++ ds = [48] ++ 46 :: (List.replicate (-p).toNat 48 ++ ds) := by simp
      have g : ∀ z ∈ List.replicate (-p).toNat (48 : UInt8) ++ ds, isDig z = true := fun z hz => (List.mem_append.1 hz).elim (zr _ z) (hd z)
      have w : ∀ z ∈ [(48 : UInt8)], isDig z = true := by intro z hz; simp at hz; rw [hz]; decide
      have nd := noDot_dot [48] _ w g
      have e2 : [48] ++ (List.replicate (-p).toNat 48 ++ ds) = List.replicate ((-p).toNat + 1) 48 ++ ds := by rw [List.replicate_succ]; simp
      rw [e2] at nd
      refine ⟨_, [], 0, by rw [List.append_nil], ?_, Or.inl ⟨rfl, rfl⟩, ?_, ?_⟩
      · rw [e]; exact n2 _ _ w g
      · rw [e, nd, nodz_zeros, nz, ne]
      · rw [e, nd, nodz_zeros, nz, pnt_dot _ _ w g, List.length_append, List.length_replicate]; simp; omega
    · split
      · rename_i h1 h2 h3
        refine ⟨_, [], 0, by rw [List.append_nil], n2 _ _ (tk _) (dk _), Or.inl ⟨rfl, rfl⟩, ?_, ?_⟩
        · rw [noDot_dot _ _ (tk _) (dk _), List.take_append_drop, nz, ne]
        · rw [noDot_dot _ _ (tk _) (dk _), List.take_append_drop, nz, pnt_dot _ _ (tk _) (dk _), List.length_take, Nat.min_eq_left (by omega)]; omega
      · rename_i h1 h2 h3
        have g : ∀ z ∈ ds ++ List.replicate (p - ds.length).toNat (48 : UInt8), isDig z = true := fun z hz => (List.mem_append.1 hz).elim (hd z) (zr _ z)
        have nzz : nodz (ds ++ List.replicate (p - ds.length).toNat 48) = ds ++ List.replicate (p - ds.length).toNat 48 := by rw [hx, List.cons_append]; exact nodz_top x _ hx0
        refine ⟨_, [], 0, by rw [List.append_nil], n1 _ g, Or.inl ⟨rfl, rfl⟩, ?_, ?_⟩
        · rw [noDot_dig _ g, nzz, noEnd_zeros, ne]
        · rw [noDot_dig _ g, nzz, pnt_dig _ g, List.length_append, List.length_replicate]; omega

/-- digits that are a number's own, and the fewest -/
structure Good (a : Nat) (ds : List UInt8) (p : Int) : Prop where
  dig : ∀ z ∈ ds, isDig z = true
  top : ∃ x r, ds = x :: r ∧ x ≠ 48
  len : ds.length ≤ 18
  lo : -330 ≤ p
  hi : p ≤ 310
  same : nearQ (decN ds * 10 ^ (p - ds.length).toNat) (10 ^ ((ds.length : Int) - p).toNat) = a
  low : 2 ≤ ds.length → nearQ (decN ds.dropLast * 10 ^ (p - (ds.length - 1 : Nat)).toNat) (10 ^ (((ds.length - 1 : Nat) : Int) - p).toNat) ≠ a
  up : 2 ≤ ds.length → nearQ ((decN ds.dropLast + 1) * 10 ^ (p - (ds.length - 1 : Nat)).toNat) (10 ^ (((ds.length - 1 : Nat) : Int) - p).toNat) ≠ a

theorem txt_dig (a : Nat) (h0 : 0 < a) (h1 : a < 9218868437227405312) : ∀ z ∈ txt (shD a), isDig z = true := by
  intro z hz
  unfold txt at hz
  obtain ⟨x, hx, rfl⟩ := List.mem_map.1 hz
  have := shD_le9 a h0 h1 x hx
  exact digit_is x (by omega)

theorem drop_pos (a : Nat) (h0 : 0 < a) (h1 : a < 9218868437227405312) (hl : 2 ≤ (shD a).length) : 0 < dnum (shD a).dropLast := by
  obtain ⟨d, r, hd, dp⟩ := shD_head a h0 h1
  have le9 := shD_le9 a h0 h1
  have le : ∀ x ∈ (shD a).dropLast, x ≤ 200 := fun x hx => by have := le9 x (List.dropLast_subset _ hx); omega
  rw [← decN_txt _ le]
  rw [hd] at hl ⊢
  cases r with
  | nil => simp at hl
  | cons d2 r =>
    have d9 := le9 d (by rw [hd]; simp)
    rw [List.dropLast_cons_cons]
    have n0 : dB d ≠ 48 := by
      have : d = 1 ∨ d = 2 ∨ d = 3 ∨ d = 4 ∨ d = 5 ∨ d = 6 ∨ d = 7 ∨ d = 8 ∨ d = 9 := by omega
      rcases this with rfl | rfl | rfl | rfl | rfl | rfl | rfl | rfl | rfl <;> decide
    have := decN_ge (txt (d :: (d2 :: r).dropLast)) (dB d) (txt (d2 :: r).dropLast) rfl (digit_is d (by omega)) n0
    have q : 0 < 10 ^ ((txt (d :: (d2 :: r).dropLast)).length - 1) := Nat.pow_pos (by decide)
    omega

theorem good_frac (a : Nat) (h0 : 0 < a) (h1 : a < 9218868437227405312) : Good a (txt (shD a)) (shP a) := by
  have le9 := shD_le9 a h0 h1
  have le : ∀ x ∈ shD a, x ≤ 200 := fun x hx => by have := le9 x hx; omega
  have le' : ∀ x ∈ (shD a).dropLast, x ≤ 200 := fun x hx => by have := le9 x (List.dropLast_subset _ hx); omega
  have dr : (txt (shD a)).dropLast = txt (shD a).dropLast := by unfold txt; rw [List.map_dropLast]
  have rg := shP_range a h0 h1
  refine ⟨txt_dig a h0 h1, ?_, by rw [txt_length]; exact shD_18 a h0 h1, rg.1, rg.2, ?_, ?_, ?_⟩
  · obtain ⟨d, r, hd, dp⟩ := shD_head a h0 h1
    have d9 := le9 d (by rw [hd]; simp)
    refine ⟨dB d, txt r, by rw [hd]; rfl, ?_⟩
    have : d = 1 ∨ d = 2 ∨ d = 3 ∨ d = 4 ∨ d = 5 ∨ d = 6 ∨ d = 7 ∨ d = 8 ∨ d = 9 := by omega
    rcases this with rfl | rfl | rfl | rfl | rfl | rfl | rfl | rfl | rfl <;> decide
  · rw [decN_txt _ le, txt_length]
    exact near_digits a h0 h1 (dnum_pos a h0 h1)
  · intro hl
    rw [txt_length] at hl
    rw [dr, decN_txt _ le', txt_length]
    exact (near_short a h0 h1 hl (drop_pos a h0 h1 hl)).1
  · intro hl
    rw [txt_length] at hl
    rw [dr, decN_txt _ le', txt_length]
    exact (near_short a h0 h1 hl (drop_pos a h0 h1 hl)).2

/-- a nought at the end would be one digit too many -/
theorem good_last (a : Nat) (ds : List UInt8) (p : Int) (h : Good a ds p) (ha : 0 < a) : ∃ l c, ds = l ++ [c] ∧ c ≠ 48 := by
  obtain ⟨x, r, hx, hx0⟩ := h.top
  have ne : ds ≠ [] := by rw [hx]; simp
  refine ⟨ds.dropLast, ds.getLast ne, (List.dropLast_concat_getLast ne).symm, ?_⟩
  intro hc
  have e : ds = ds.dropLast ++ [48] := by rw [← hc]; exact (List.dropLast_concat_getLast ne).symm
  rcases Nat.lt_or_ge ds.length 2 with hl | hl
  · rw [hx] at hl e
    cases r with
    | nil => simp at e; exact hx0 e
    | cons _ _ => simp at hl; omega
  · have s := h.same
    have l := h.low hl
    have v : decN ds = decN ds.dropLast * 10 := by
      rw [e, decN_snoc]
      simp
    apply l
    rw [← s, v]
    rcases Int.lt_or_le p ds.length with c | c
    · rw [show (p - (ds.length - 1 : Nat)).toNat = 0 from by omega, show (p - (ds.length : Nat)).toNat = 0 from by omega, show ((ds.length : Int) - p).toNat = (((ds.length - 1 : Nat) : Int) - p).toNat + 1 from by omega,
        Nat.pow_zero, Nat.mul_one, Nat.mul_one, Nat.pow_succ]
      exact (nearQ_scale _ _ 10 (Nat.pow_pos (by decide)) (by decide)).symm
    · rw [show (((ds.length - 1 : Nat) : Int) - p).toNat = 0 from by omega, show ((ds.length : Int) - p).toNat = 0 from by omega, show (p - (ds.length - 1 : Nat)).toNat = (p - (ds.length : Nat)).toNat + 1 from by omega,
        Nat.pow_succ, Nat.mul_assoc (decN ds.dropLast) 10, Nat.mul_comm 10]

theorem dd_tens (m : Nat) (h : 0 < m) : Lib.decDigits (m * 10) = Lib.decDigits m ++ [48] := by
  rw [Lib.decDigits, dif_neg (by omega), show m * 10 / 10 = m from by omega, show m * 10 % 10 = 0 from by omega]
  rfl

theorem dd_pow (m j : Nat) (h : 0 < m) : Lib.decDigits (m * 10 ^ j) = Lib.decDigits m ++ List.replicate j 48 := by
  induction j with
  | zero => simp
  | succ j ih =>
    rw [Nat.pow_succ, ← Nat.mul_assoc, dd_tens _ (Nat.mul_pos h (Nat.pow_pos (by decide))), ih, List.append_assoc, ← List.replicate_succ']

theorem strip (n : Nat) (h : 0 < n) : ∃ m j, n = m * 10 ^ j ∧ m % 10 ≠ 0 := by
  induction n using Nat.strongRecOn with
  | _ n ih =>
    by_cases c : n % 10 = 0
    · obtain ⟨m, j, e, g⟩ := ih (n / 10) (by omega) (by omega)
      refine ⟨m, j + 1, ?_, g⟩
      rw [Nat.pow_succ, ← Nat.mul_assoc, ← e]
      omega
    · exact ⟨n, 0, by simp, c⟩

theorem good_whole (k m j : Nat) (hk : 0 < k) (hk1 : k < 9007199254740992) (e : k = m * 10 ^ j) (hm : m % 10 ≠ 0) (hr : rung k 0 < 9218868437227405312) (hr0 : 0 < rung k 0) :
    Good (rung k 0) (Lib.decDigits m) ((Lib.decDigits m).length + j) := by
  have mp : 0 < m := by omega
  have P : 0 < 10 ^ j := Nat.pow_pos (by decide)
  have mk : m ≤ k := by rw [e]; exact Nat.le_mul_of_pos_right _ P
  have dl := dd_len k (by omega)
  have hl : (Lib.decDigits k).length = (Lib.decDigits m).length + j := by rw [e, dd_pow m j mp]; simp
  have hv : valN (rung k 0) = k * 2 ^ 1074 := by
    have := val_rung k 0 hk1 (by decide) (by decide)
    rw [show ((0 : Int) + 1074).toNat = 1074 from rfl] at this
    exact this
  have l2 : (Lib.decDigits m).length ≤ 18 := by
    rcases Nat.lt_or_ge 18 (Lib.decDigits m).length with c | c
    · exfalso
      obtain ⟨x, r, hd, hx⟩ := dd_head m mp
      have g := decN_ge (Lib.decDigits m) x r hd (dd_dig m x (by rw [hd]; simp)) hx
      rw [dd_val] at g
      have : 10 ^ 18 ≤ 10 ^ ((Lib.decDigits m).length - 1) := Nat.pow_le_pow_right (by decide) (by omega)
      omega
    · exact c
  have T : ∀ v : Nat, (2 ≤ (Lib.decDigits m).length) → v * 10 ^ (j + 1) ≠ k →
      nearQ (v * 10 ^ (((Lib.decDigits m).length : Int) + j - ((Lib.decDigits m).length - 1 : Nat)).toNat) (10 ^ ((((Lib.decDigits m).length - 1 : Nat) : Int) - (((Lib.decDigits m).length : Int) + j)).toNat) ≠ rung k 0 := by
    intro v h2 hne
    rw [show (((Lib.decDigits m).length : Int) + j - ((Lib.decDigits m).length - 1 : Nat)).toNat = j + 1 from by omega,
      show ((((Lib.decDigits m).length - 1 : Nat) : Int) - (((Lib.decDigits m).length : Int) + j)).toNat = 0 from by omega, Nat.pow_zero]
    exact whole_other _ k _ hr0 hr hv hk1 hne
  have dv : 2 ≤ (Lib.decDigits m).length → decN (Lib.decDigits m).dropLast = m / 10 := by
    intro h2
    rw [Lib.decDigits] at h2 ⊢
    split at h2
    · simp at h2
    · rename_i h3
      rw [dif_neg h3, List.dropLast_concat, dd_val]
  have nev : ∀ v : Nat, v * 10 ^ (j + 1) ≠ k := by
    intro v hv'
    rw [e, Nat.pow_succ, Nat.mul_comm (10 ^ j) 10, ← Nat.mul_assoc] at hv'
    have := Nat.eq_of_mul_eq_mul_right P hv'
    omega
  refine ⟨dd_dig m, dd_head m mp, l2, by omega, by omega, ?_, ?_, ?_⟩
  · rw [show (((Lib.decDigits m).length : Int) + j - ((Lib.decDigits m).length : Nat)).toNat = j from by omega, show (((Lib.decDigits m).length : Int) - (((Lib.decDigits m).length : Int) + j)).toNat = 0 from by omega, dd_val, ← e, Nat.pow_zero]
    exact near_whole k hk
  · intro h2
    exact T _ h2 (nev _)
  · intro h2
    exact T _ h2 (nev _)

theorem whole_sp (m j : Nat) (hm : m % 10 ≠ 0) : Sp (Lib.decDigits (m * 10 ^ j)) (Lib.decDigits m) ((Lib.decDigits m).length + j) := by
  have mp : 0 < m := by omega
  obtain ⟨x, r, hd, hx⟩ := dd_head m mp
  have zr : ∀ n : Nat, ∀ z ∈ List.replicate n (48 : UInt8), isDig z = true := fun n z hz => by rw [(List.mem_replicate.1 hz).2]; decide
  have g : ∀ z ∈ Lib.decDigits m ++ List.replicate j (48 : UInt8), isDig z = true := fun z hz => (List.mem_append.1 hz).elim (dd_dig m z) (zr _ z)
  have nzz : nodz (Lib.decDigits m ++ List.replicate j 48) = Lib.decDigits m ++ List.replicate j 48 := by rw [hd, List.cons_append]; exact nodz_top x _ hx
  have ne : noEnd (Lib.decDigits m) = Lib.decDigits m := by
    rw [Lib.decDigits]
    split
    · rename_i h
      have : m = 1 ∨ m = 2 ∨ m = 3 ∨ m = 4 ∨ m = 5 ∨ m = 6 ∨ m = 7 ∨ m = 8 ∨ m = 9 := by omega
      exact noEnd_top [] _ (by rcases this with rfl | rfl | rfl | rfl | rfl | rfl | rfl | rfl | rfl <;> decide)
    · refine noEnd_top _ _ ?_
      have : m % 10 = 1 ∨ m % 10 = 2 ∨ m % 10 = 3 ∨ m % 10 = 4 ∨ m % 10 = 5 ∨ m % 10 = 6 ∨ m % 10 = 7 ∨ m % 10 = 8 ∨ m % 10 = 9 := by omega
      rcases this with h | h | h | h | h | h | h | h | h <;> (rw [h]; decide)
  rw [dd_pow m j mp]
  refine ⟨_, [], 0, by rw [List.append_nil], fun z hz => (dig_ne z (g z hz)).2.1, Or.inl ⟨rfl, rfl⟩, ?_, ?_⟩
  · rw [noDot_dig _ g, nzz, noEnd_zeros, ne]
  · rw [noDot_dig _ g, nzz, pnt_dig _ g, List.length_append, List.length_replicate]; omega

/-- THE TEXT OF A NUMBER ABOVE 0: its digits and its point are the number's own -/
theorem print_sp (b : Nat) (h0 : 0 < b) (h1 : b < 9218868437227405312) : ∃ ds p, Sp (printQ (b : Int)) ds p ∧ Good b ds p := by
  have kf := kind_fld (b : Int) (by omega) (by omega)
  have rb : rankI (b : Int) = b := by unfold rankI; rw [if_pos (by omega)]
  have k2 : kindI (b : Int) < 2 := kf.1.2 (by rw [rb]; omega)
  cases hw : (wholeI (b : Int)).2 with
  | true =>
    obtain ⟨n, hn⟩ : ∃ n, wholeI (b : Int) = (n, true) := ⟨(wholeI (b : Int)).1, by rw [← hw]⟩
    obtain ⟨f, n0, n1⟩ := whole_back b n (by omega) (by omega) hn
    have np : 0 < n := by
      rcases Int.lt_trichotomy n 0 with c | c | c
      · unfold fromI at f
        rw [if_pos c] at f
        omega
      · subst c
        unfold fromI at f
        rw [if_neg (by omega)] at f
        have : rung (0 : Int).toNat 0 = 0 := by decide +kernel
        omega
      · exact c
    obtain ⟨k, rfl⟩ : ∃ k : Nat, n = k := ⟨n.toNat, by omega⟩
    unfold fromI at f
    rw [if_neg (by omega), show ((k : Int)).toNat = k from by omega] at f
    have fb : rung k 0 = b := by omega
    have pq : printQ (b : Int) = Lib.decDigits k := by
      unfold printQ
      rw [if_pos hw, hn]
      show Lib.itoa (k : Int) = _
      unfold Lib.itoa
      rw [if_neg (by omega)]
      rfl
    obtain ⟨m, j, e, hm⟩ := strip k (by omega)
    refine ⟨Lib.decDigits m, ((Lib.decDigits m).length + j : Int), ?_, ?_⟩
    · rw [pq, e]; exact whole_sp m j hm
    · have := good_whole k m j (by omega) (by omega) e hm (by omega) (by omega)
      rw [fb] at this
      exact this
  | false =>
    have z0 : rankI 0 = 0 := by decide +kernel
    have pq : printQ (b : Int) = layI (txt (shD b)) (shP b) := by
      unfold printQ
      rw [if_neg (by rw [hw]; decide), if_neg (by omega), if_neg (by omega), if_neg]
      · rfl
      · unfold equalI
        rw [rb, z0]
        simp
        intro _ _
        omega
    have g := good_frac b h0 h1
    obtain ⟨x, r, hx, hx0⟩ := g.top
    obtain ⟨l, c, hc, hc0⟩ := good_last b _ _ g h0
    have lo := g.lo
    have hi := g.hi
    refine ⟨_, _, ?_, g⟩
    rw [pq]
    exact lay_sp _ l x c r _ hx hx0 hc hc0 g.dig (by omega)

end Go.Proofs.YtpejebohekcfoaaGreatDoor
/- NumtextShort: what is read of fewer digits, and of the next ones, plain. -/
namespace Go.Proofs.YtpejebohekcfoaaGreatDoor
open Go.RowKit
set_option linter.unusedVariables false

/-- the text of digits, so many of them ahead of the point -/
def laidL (ds : List UInt8) (p : Int) : List UInt8 := ds ++ 101 :: Lib.itoa (p - ds.length)

/-- M: digits as a number, and one -/
structure Next (ds M : List UInt8) : Prop where
  dig : ∀ z ∈ M, isDig z = true
  val : decN M = decN ds + 1
  lo : ds.length ≤ M.length
  hi : M.length ≤ ds.length + 1
  one : M.length = ds.length + 1 → ∃ r, M = 49 :: r

theorem next_top (ds M : List UInt8) (x : UInt8) (r : List UInt8) (hx : ds = x :: r) (hx0 : x ≠ 48) (hd : ∀ z ∈ ds, isDig z = true) (h : Next ds M) : ∃ y t, M = y :: t ∧ y ≠ 48 := by
  rcases Nat.lt_or_ge ds.length M.length with c | c
  · obtain ⟨t, ht⟩ := h.one (by have := h.hi; omega)
    exact ⟨49, t, ht, by decide⟩
  · have el : M.length = ds.length := by have := h.lo; omega
    cases M with
    | nil => rw [hx] at el; simp at el
    | cons y t =>
      refine ⟨y, t, rfl, ?_⟩
      rintro rfl
      have g := decN_ge ds x r hx (hd x (by rw [hx]; simp)) hx0
      have l := decN_lt t (fun z hz => h.dig z (by simp [hz]))
      have v := h.val
      rw [decN_cons] at v
      have e : t.length = ds.length - 1 := by rw [← el]; simp
      rw [e] at l
      simp at v
      omega

theorem short_same (a : Nat) (ds : List UInt8) (p : Int) (h : Good a ds p) : readI (laidL ds p) = (a : Int) := by
  obtain ⟨x, r, hx, hx0⟩ := h.top
  have l := h.len
  have lo := h.lo
  have hi := h.hi
  have d := h.dig
  have s := h.same
  unfold laidL
  rw [hx] at l d s ⊢
  refine laid_same a x r (p - ((x :: r).length : Nat)) d hx0 (by omega) (by omega) (by omega) (by omega) ?_
  rw [show (-(p - ((x :: r).length : Int))).toNat = (((x :: r).length : Int) - p).toNat from by omega]
  exact s

theorem short_low (a : Nat) (h0 : 0 < a) (h1 : a < 9218868437227405312) (ds : List UInt8) (p : Int) (h : Good a ds p) (h2 : 2 ≤ ds.length) : readI (laidL ds.dropLast p) ≠ (a : Int) := by
  obtain ⟨x, r, hx, hx0⟩ := h.top
  have l := h.len
  have lo := h.lo
  have hi := h.hi
  have s := h.low h2
  have d : ∀ z ∈ ds.dropLast, isDig z = true := fun z hz => h.dig z (List.dropLast_subset _ hz)
  have el : ds.dropLast.length = ds.length - 1 := List.length_dropLast
  obtain ⟨t, ht⟩ : ∃ t, ds.dropLast = x :: t := by
    rw [hx] at h2 ⊢
    cases r with
    | nil => simp at h2
    | cons y r => exact ⟨_, List.dropLast_cons_cons⟩
  unfold laidL
  rw [← el] at s
  have l2 : ds.dropLast.length ≤ 18 := by omega
  generalize ds.dropLast = D at *
  subst ht
  refine laid_other a h0 h1 x t (p - ((x :: t).length : Nat)) d hx0 (by omega) (by omega) ?_
  rw [show (-(p - ((x :: t).length : Int))).toNat = (((x :: t).length : Int) - p).toNat from by omega]
  exact s

theorem short_up (a : Nat) (h0 : 0 < a) (h1 : a < 9218868437227405312) (ds M : List UInt8) (p : Int) (h : Good a ds p) (h2 : 2 ≤ ds.length) (hM : Next ds.dropLast M) :
    readI (laidL M (p + M.length - ds.dropLast.length)) ≠ (a : Int) := by
  obtain ⟨x, r, hx, hx0⟩ := h.top
  have l := h.len
  have lo := h.lo
  have hi := h.hi
  have s := h.up h2
  have d : ∀ z ∈ ds.dropLast, isDig z = true := fun z hz => h.dig z (List.dropLast_subset _ hz)
  have el : ds.dropLast.length = ds.length - 1 := List.length_dropLast
  obtain ⟨t, ht⟩ : ∃ t, ds.dropLast = x :: t := by
    rw [hx] at h2 ⊢
    cases r with
    | nil => simp at h2
    | cons y r => exact ⟨_, List.dropLast_cons_cons⟩
  obtain ⟨y, q, hy, hy0⟩ := next_top _ M x t ht hx0 d hM
  unfold laidL
  rw [← el, ← hM.val] at s
  have mh := hM.hi
  have md := hM.dig
  generalize ds.dropLast.length = n at *
  subst hy
  refine laid_other a h0 h1 y q _ md hy0 (by omega) (by omega) ?_
  rw [show (p + ((y :: q).length : Int) - (n : Int) - ((y :: q).length : Nat)) = p - (n : Int) from by omega, show (-(p - (n : Int))).toNat = ((n : Int) - p).toNat from by omega]
  exact s

end Go.Proofs.YtpejebohekcfoaaGreatDoor
/- NumtextShort: the walks of laid and raised. -/
namespace Go.Proofs.YtpejebohekcfoaaGreatDoor
open Go.RowKit
set_option linter.unusedVariables false

theorem laid_walk (X I : ByteArray) (p : Int) (L l : Nat) (w : World) (hX : X.size = L) (hL : L ≤ 1000) (hI : I.size = l) (hl : l ≤ 1000) (hp0 : -100000 ≤ p) (hp1 : p ≤ 100000)
    (ci : ∀ w1, Below w.heap.size w w1 → Calls Tryz.prog 22 #[.int .i64 (p - (L : Int))] w1 fun e w' => e = .returned (.string I) ∧ Below w.heap.size w w') :
    Calls Tryz.prog 19 #[.string X, .int .i64 p] w fun e w' => e = .returned (.string (X ++ ByteArray.mk #[101] ++ I)) ∧ Below w.heap.size w w' := by
  go_enter Tryz.func19, Tryz.ntmps19
  go_wp2_with fail
  refine (ci _ (Below.refl _ _)).mono ?_
  rintro e w1 ⟨rfl, hb1⟩
  go_wp2
  go_ret
  exact ⟨rfl, hb1⟩

structure RaisePl (D : List UInt8) (j c : Nat) (O : List UInt8) : Prop where
  le : c ≤ 1
  len : O.length = D.length - j
  dig : ∀ z ∈ O, isDig z = true
  val : decN O + c * 10 ^ (D.length - j) = decN (D.drop j) + 1

def RaiseAt (w wr : World) (D : List UInt8) (ov cv iv : Value) : Prop :=
  ∃ (j c : Nat) (O : List UInt8), j ≤ D.length ∧ iv = .int .i64 ((j : Int) - 1) ∧ cv = .int .i64 (c : Int) ∧ ov = .string (bs O) ∧ RaisePl D j c O ∧ Below w.heap.size w wr

theorem raise_step (D : List UInt8) (i c : Nat) (O : List UInt8) (z : UInt8) (hz : D[i]? = some z) (hd : isDig z = true) (h : RaisePl D (i + 1) c O) :
    RaisePl D i ((z.toNat - 48 + c) / 10) (UInt8.ofNat (48 + (z.toNat - 48 + c) % 10) :: O) := by
  obtain ⟨h1, h2, h3, h4⟩ := h
  have hi := (List.getElem?_eq_some_iff.1 hz).1
  have hz' : 48 ≤ z.toNat ∧ z.toNat ≤ 57 := by unfold isDig at hd; simpa using hd
  obtain ⟨d, hdd⟩ : ∃ d, d = z.toNat - 48 + c := ⟨_, rfl⟩
  rw [← hdd]
  have dl : d ≤ 10 := by omega
  have dv : (UInt8.ofNat (48 + d % 10)).toNat = 48 + d % 10 := by
    rw [UInt8.toNat_ofNat']
    omega
  have dr : D.drop i = z :: D.drop (i + 1) := by
    rw [List.drop_eq_getElem_cons hi]
    congr 1
    have := List.getElem?_eq_getElem hi
    rw [hz] at this
    exact (Option.some.inj this).symm
  refine ⟨by omega, by simp; omega, ?_, ?_⟩
  · intro y hy
    rcases List.mem_cons.1 hy with rfl | hy
    · unfold isDig; rw [dv]; simp; omega
    · exact h3 y hy
  · have e : D.length - i = (D.length - (i + 1)) + 1 := by omega
    rw [dr, decN_cons, decN_cons, dv, h2, List.length_drop, e, Nat.pow_succ]
    generalize 10 ^ (D.length - (i + 1)) = P at *
    have q := Nat.div_add_mod d 10
    have k1 : (48 + d % 10 - 48) * P + d / 10 * (P * 10) = d * P := by
      rw [show 48 + d % 10 - 48 = d % 10 from by omega, Nat.mul_comm P 10, ← Nat.mul_assoc, ← Nat.add_mul]
      congr 1
      omega
    have k2 : d * P = (z.toNat - 48) * P + c * P := by rw [hdd, Nat.add_mul]
    omega

theorem itoa_one (n : Nat) (h : n < 10) : Lib.itoa (n : Int) = [UInt8.ofNat (48 + n)] := by
  unfold Lib.itoa
  rw [if_neg (by omega), show ((n : Int)).toNat = n from by omega, Lib.decDigits, dif_pos h]

set_option maxHeartbeats 2000000 in
theorem raised_walk (D : List UInt8) (w : World) (hd : ∀ z ∈ D, isDig z = true) (hl : D.length ≤ 1000)
    (ci : ∀ n : Nat, n < 10 → ∀ w1, Below w.heap.size w w1 → Calls Tryz.prog 22 #[.int .i64 (n : Int)] w1 fun e w' => e = .returned (.string (bs (Lib.itoa n))) ∧ Below w.heap.size w w') :
    Calls Tryz.prog 20 #[.string (bs D)] w fun e w' => (∃ M, e = .returned (.string (bs M)) ∧ ∃ c O, RaisePl D 0 c O ∧ M = if 0 < c then 49 :: O else O) ∧ Below w.heap.size w w' := by
  obtain ⟨s, hs⟩ : ∃ s, s = bs D := ⟨_, rfl⟩
  have hsz : s.size = D.length := by rw [hs, bs_size]
  have hsd : s.toList = D := by rw [hs, bs_toList]
  have hat : ∀ k (h : k < s.size), D[k]? = some s[k] := by
    intro k h
    have := at_k s k h
    rw [← ByteArray.toList_eq, hsd] at this
    exact this
  rw [← hs]
  have HS : Hid (s.size = D.length) := hsz
  have hss : s.size ≤ 1000 := by omega
  clear hs hsd hsz
  go_enter Tryz.func20, Tryz.ntmps20
  go_wp2_with fail
  go_loopw [3, 4, 5] (fun ov cv iv wr => RaiseAt w wr D ov cv iv) (fun ov cv iv _ => (intOf iv + 1).toNat)
  case atStart =>
    refine ⟨D.length, 1, [], Nat.le_refl _, by rw [← HS.out], rfl, rfl, ⟨by omega, by simp, by simp, by simp [decN]⟩, Below.refl _ _⟩
  case round =>
    obtain ⟨j, c, O, hj, rfl, rfl, rfl, hp, hb⟩ := hrel
    rcases Nat.eq_zero_or_pos j with z | hpos
    · subst z
      have c1 := hp.le
      have ol : (bs O).size = D.length := by rw [bs_size]; have := hp.len; omega
      have HP : Hid (RaisePl D 0 c O) := hp
      have ol2 : (bs O).size ≤ 1000 := by omega
      clear hp ol hj
      rcases Nat.eq_zero_or_pos c with z | cp
      · subst z
        go_wp2_with fail
        go_ret
        exact ⟨⟨O, rfl, 0, O, HP.out, by simp⟩, hb⟩
      · have c2 : c = 1 := by omega
        subst c2
        go_wp2_with fail
        go_ret
        refine ⟨⟨49 :: O, ?_, 1, O, HP.out, by simp⟩, hb⟩
        congr 2
    · obtain ⟨i, rfl⟩ : ∃ i, j = i + 1 := ⟨j - 1, by omega⟩
      have hi : i < s.size := by rw [HS.out]; omega
      have ak := hat i hi
      have dz := hd _ (List.mem_of_getElem? ak)
      have nx := raise_step D i c O _ ak dz hp
      have c1 := hp.le
      have ol : (bs O).size ≤ 1000 := by rw [bs_size]; have := hp.len; omega
      have dz' : 48 ≤ (s[i]).toNat ∧ (s[i]).toNat ≤ 57 := by unfold isDig at dz; simpa using dz
      generalize hzz : (s[i]).toNat = z at *
      obtain ⟨z0, z1⟩ := dz'
      have HN : Hid (RaisePl D i ((z - 48 + c) / 10) (UInt8.ofNat (48 + (z - 48 + c) % 10) :: O)) := nx
      have ei : ((i + 1 : Nat) : Int) - 1 = i := by omega
      rw [ei]
      clear nx dz ak hp hat hd hj hpos
      have cc := ci ((z - 48 + c) % 10) (by omega)
      have cm : (((z - 48 + c) % 10 : Nat) : Int) = ((z : Int) - 48 + (c : Int)) % 10 := by omega
      rw [cm] at cc
      have I1 : bs (Lib.itoa (((z : Int) - 48 + (c : Int)) % 10)) = bs [UInt8.ofNat (48 + (z - 48 + c) % 10)] := by
        rw [← cm, itoa_one _ (by omega)]
      rw [I1] at cc
      have I2 : (bs [UInt8.ofNat (48 + (z - 48 + c) % 10)]).size = 1 := rfl
      have HA : Hid (bs [UInt8.ofNat (48 + (z - 48 + c) % 10)] ++ bs O = bs (UInt8.ofNat (48 + (z - 48 + c) % 10) :: O)) := by
        apply ByteArray.ext
        unfold bs
        simp [ByteArray.data_append]
      have HC : Hid ((((z - 48 + c) / 10 : Nat) : Int) = ((z : Int) - 48 + (c : Int)) / 10) := by show _ = _; omega
      have HD : Hid (i ≤ D.length) := by show _ ≤ _; have := HS.out; omega
      clear I1 cm
      generalize bs [UInt8.ofNat (48 + (z - 48 + c) % 10)] = I at *
      go_wp2_with fail
      refine (cc _ hb).mono ?_
      rintro e w2 ⟨rfl, hb2⟩
      go_wp2_with fail
      refine ⟨⟨i, _, _, HD.out, rfl, by rw [HC.out], by rw [HA.out], HN.out, hb2⟩, ?_⟩
      simp [intOf]
end Go.Proofs.YtpejebohekcfoaaGreatDoor
/- NumtextShort: the walk of split. -/
namespace Go.Proofs.YtpejebohekcfoaaGreatDoor
open Go.RowKit
set_option linter.unusedVariables false

def Sp1 (w wr : World) (m R : List UInt8) (e : Int) (sv ev iv : Value) : Prop :=
  ((∃ k : Nat, k ≤ m.length ∧ iv = .int .i64 k ∧ sv = .string (bs (m ++ R)) ∧ ev = .int .i64 0) ∨ (R ≠ [] ∧ iv = .int .i64 ((m.length : Int) + 1) ∧ sv = .string (bs m) ∧ ev = .int .i64 e)) ∧ Below w.heap.size w wr

structure Dots (m : List UInt8) (k : Nat) (D : List UInt8) (p : Int) : Prop where
  dig : D ++ noDot (m.drop k) = noDot m
  pt : pntF D.length p (m.drop k) = pntF 0 (-1) m
  lo : -1 ≤ p
  hi : p ≤ k
  len : D.length ≤ k

def Sp2 (w wr : World) (m : List UInt8) (dv pv iv : Value) : Prop :=
  ∃ (k : Nat) (D : List UInt8) (p : Int), k ≤ m.length ∧ iv = .int .i64 k ∧ dv = .string (bs D) ∧ pv = .int .i64 p ∧ Dots m k D p ∧ Below w.heap.size w wr

structure Lead (N : List UInt8) (q : Int) (D : List UInt8) (p : Int) : Prop where
  nz : nodz D = nodz N
  pt : p = q - N.length + D.length
  len : D.length ≤ N.length

def Sp3 (w wr : World) (N : List UInt8) (q : Int) (dv pv : Value) : Prop :=
  ∃ (D : List UInt8) (p : Int), dv = .string (bs D) ∧ pv = .int .i64 p ∧ Lead N q D p ∧ Below w.heap.size w wr

structure Trail (N D : List UInt8) : Prop where
  nz : noEnd D = noEnd N
  len : D.length ≤ N.length

def Sp4 (w wr : World) (N : List UInt8) (dv : Value) : Prop :=
  ∃ (D : List UInt8), dv = .string (bs D) ∧ Trail N D ∧ Below w.heap.size w wr

theorem dots_dot (m : List UInt8) (k : Nat) (D : List UInt8) (p : Int) (h : Dots m k D p) (hk : m[k]? = some 46) : Dots m (k + 1) D D.length := by
  have hi := (List.getElem?_eq_some_iff.1 hk)
  obtain ⟨hi, he⟩ := hi
  have dr : m.drop k = 46 :: m.drop (k + 1) := by rw [List.drop_eq_getElem_cons hi, he]
  have d := h.dig
  have q := h.pt
  have l := h.len
  rw [dr] at d q
  refine ⟨?_, ?_, by omega, by omega, by omega⟩
  · unfold noDot at d ⊢
    rw [List.filter_cons_of_neg (by decide)] at d
    exact d
  · rw [pntF, if_pos rfl] at q
    exact q

theorem dots_dig (m : List UInt8) (k : Nat) (D : List UInt8) (p : Int) (z : UInt8) (h : Dots m k D p) (hk : m[k]? = some z) (hz : z ≠ 46) : Dots m (k + 1) (D ++ [z]) p := by
  have hi := (List.getElem?_eq_some_iff.1 hk)
  obtain ⟨hi, he⟩ := hi
  have dr : m.drop k = z :: m.drop (k + 1) := by rw [List.drop_eq_getElem_cons hi, he]
  have d := h.dig
  have q := h.pt
  have l := h.len
  have l1 := h.lo
  have l2 := h.hi
  rw [dr] at d q
  refine ⟨?_, ?_, by omega, by omega, by simp; omega⟩
  · unfold noDot at d ⊢
    rw [List.filter_cons_of_pos (by simpa using hz)] at d
    rw [← d]; simp
  · rw [pntF, if_neg hz] at q
    rw [← q]; simp

theorem dots_end (m : List UInt8) (D : List UInt8) (p : Int) (h : Dots m m.length D p) : D = noDot m ∧ p = pntF 0 (-1) m := by
  have d := h.dig
  have q := h.pt
  rw [List.drop_length] at d q
  unfold noDot at d ⊢
  rw [pntF] at q
  exact ⟨by simpa using d, q⟩

theorem lead_next (N : List UInt8) (q : Int) (D : List UInt8) (p : Int) (h : Lead N q (48 :: D) p) : Lead N q D (p - 1) := by
  have a := h.nz
  have b := h.pt
  have c := h.len
  simp at b c
  refine ⟨?_, by omega, by omega⟩
  rw [← a]
  have := nodz_zeros 1 D
  rw [← this]; rfl

theorem lead_end (N : List UInt8) (q : Int) (D : List UInt8) (p : Int) (h : Lead N q D p) (hd : ∀ x r, D = x :: r → x ≠ 48) : D = nodz N ∧ p = q - N.length + (nodz N).length := by
  have e : D = nodz N := by
    rw [← h.nz]
    cases D with
    | nil => rfl
    | cons x r => exact (nodz_top x r (hd x r rfl)).symm
  exact ⟨e, by rw [← e]; exact h.pt⟩

theorem trail_next (N D : List UInt8) (h : Trail N (D ++ [48])) : Trail N D := by
  have a := h.nz
  have c := h.len
  simp at c
  refine ⟨?_, by omega⟩
  rw [← a]
  exact (noEnd_zeros D 1).symm

theorem trail_end (N D : List UInt8) (h : Trail N D) (hd : ∀ x r, D = r ++ [x] → x ≠ 48) : D = noEnd N := by
  rw [← h.nz]
  rcases List.eq_nil_or_concat D with e | ⟨r, x, e⟩
  · rw [e]; rfl
  · rw [List.concat_eq_append] at e
    subst e
    exact (noEnd_top r x (hd x r rfl)).symm

theorem bs_at (l : List UInt8) (k : Nat) (h : k < (bs l).size) : l[k]? = some ((bs l)[k]) := by
  have := at_k (bs l) k h
  rw [← ByteArray.toList_eq, bs_toList] at this
  exact this

theorem ret_sp {A B : ByteArray} {p q : Int} (h : A = B) (g : p = q) : Ending.returned (.tuple #[.string A, .int .i64 p]) = .returned (.tuple #[.string B, .int .i64 q]) := by rw [h, g]

theorem below_bytes (w : World) (e : TypeId) (t : ByteArray) (B : Nat) (h : B ≤ w.heap.size) : Below B w (Lib.bytesWorld w e t) :=
  ⟨rfl, rfl, rfl, by rw [Lib.bytesWorld_size]; omega, fun k hk => Lib.bytesWorld_at_old w e t k (by omega)⟩

theorem bs_ext (l : List UInt8) (a b : Nat) : (bs l).extract a b = bs ((l.drop a).take (b - a)) := ext_bs l a b

set_option maxHeartbeats 4000000 in
theorem split_plain_neg (m : List UInt8) (w : World) (hm : ∀ c ∈ m, c ≠ 101) (hl : m.length ≤ 200000) (hp : pntF 0 (-1) m < 0) :
    Calls Tryz.prog 18 #[.string (bs m)] w fun e' w' => e' = .returned (.tuple #[.string (bs (noEnd (nodz (noDot m)))), .int .i64 (pnt m - (noDot m).length + (nodz (noDot m)).length)]) ∧ Below w.heap.size w w' := by
  obtain ⟨s, hs⟩ : ∃ s, s = bs m := ⟨_, rfl⟩
  have HS : Hid (s.size = m.length) := by show _ = _; rw [hs, bs_size]
  have HE : Hid (∀ a b, s.extract a b = bs ((m.drop a).take (b - a))) := by show ∀ a b, _; intro a b; rw [hs, ext_bs]
  have hat : ∀ k (h : k < s.size), m[k]? = some s[k] := by subst hs; exact fun k h => bs_at m k h
  have HP : Hid (pntF 0 (-1) m < 0) := hp
  have hss : s.size ≤ 200000 := by rw [HS.out]; exact hl
  have HE0 : Hid (bs m = s) := hs.symm
  rw [← hs]
  clear hs hp
  go_enter Tryz.func18, Tryz.ntmps18
  go_wp2_with fail
  go_loopw [0, 4, 5] (fun sv ev iv wr => Sp1 w wr m [] 0 sv ev iv) (fun _ _ iv _ => m.length + 2 - (intOf iv).toNat)
  case atStart => exact ⟨Or.inl ⟨0, by omega, rfl, by rw [List.append_nil, HE0.out], rfl⟩, Below.refl _ _⟩
  case round =>
    obtain ⟨⟨k, hk, rfl, rfl, rfl⟩ | ⟨hne, _⟩, HB⟩ := hrel
    · rw [List.append_nil, HE0.out]
      rcases Nat.lt_or_ge k m.length with hlt | hge
      · have hks : k < s.size := by rw [HS.out]; exact hlt
        have ak := hat k hks
        have n101 : ¬ (s[k]).toNat = 101 := by
          intro e
          exact hm _ (List.mem_of_getElem? ak) (UInt8.toNat_inj.1 e)
        clear hat ak hm
        go_wp2_with fail
        refine ⟨⟨Or.inl ⟨k + 1, hlt, by congr 1, by rw [List.append_nil, HE0.out], rfl⟩, by first | exact HB | exact HB.drew | exact HB.drew.drew⟩, ?_⟩
        first | (simp [intOf]; done) | (simp [intOf]; omega)
      · have hkm : k = m.length := by omega
        subst hkm
        have hks : ((m.length : Nat) : Int) = s.size := by rw [HS.out]
        rw [hks]
        clear hks hge hk hm
        go_wp2_with fail
        go_loopw [6, 7, 8] (fun dv pv iv wr => Sp2 w wr m dv pv iv) (fun _ _ iv _ => m.length + 1 - (intOf iv).toNat)
        case atStart => exact ⟨0, [], -1, by omega, rfl, rfl, rfl, ⟨by simp, by simp, by omega, by omega, by simp⟩, HB⟩
        case round =>
          obtain ⟨k, D, p, hk, rfl, rfl, rfl, hD, hb2⟩ := hrel
          have dl := hD.len
          have plo := hD.lo
          have phi := hD.hi
          rcases Nat.lt_or_ge k m.length with hlt | hge
          · have hks : k < s.size := by rw [HS.out]; exact hlt
            have ak := hat k hks
            have dsz : (bs D).size ≤ 200000 := by rw [bs_size]; omega
            by_cases h46 : (s[k]).toNat = 46
            · have e46 : s[k] = 46 := UInt8.toNat_inj.1 h46
              rw [e46] at ak
              have HN : Hid (Sp2 w wr m (.string (bs D)) (.int .i64 ((bs D).size : Nat)) (.int .i64 ((k : Int) + 1))) :=
                ⟨k + 1, D, D.length, hlt, by congr 1, rfl, by rw [bs_size], dots_dot m k D p hD ak, hb2⟩
              clear hD ak hat hk dl plo phi e46
              go_wp2_with fail
              obtain ⟨k', D', p', q1, q2, q3, q4, q5, q6⟩ := HN.out
              refine ⟨⟨k', D', p', q1, q2, q3, q4, q5, by first | exact q6 | exact q6.drew | exact q6.drew.drew⟩, ?_⟩
              first | (simp [intOf]; done) | (simp [intOf]; omega)
            · have n46 : s[k] ≠ 46 := by intro e; rw [e] at h46; exact h46 rfl
              have HN : Hid (Sp2 w wr m (.string (bs D ++ s.extract k (k + 1))) (.int .i64 p) (.int .i64 ((k : Int) + 1))) := by
                refine ⟨k + 1, D ++ [s[k]], p, hlt, by congr 1, ?_, rfl, dots_dig m k D p _ hD ak n46, hb2⟩
                have hx : s.extract k (k + 1) = bs [s[k]] := by
                  have := HE.out k (k + 1)
                  rw [this, show k + 1 - k = 1 from by omega]
                  have hkm : k < m.length := hlt
                  rw [List.drop_eq_getElem_cons hkm]
                  have e2 := List.getElem?_eq_getElem hkm
                  rw [ak] at e2
                  rw [← Option.some.inj e2]
                  rfl
                rw [hx]
                congr 1
              have xs : (s.extract k (k + 1)).size = 1 := by rw [ByteArray.size_extract]; omega
              clear hD ak hat hk dl n46
              go_wp2_with fail
              obtain ⟨k', D', p', q1, q2, q3, q4, q5, q6⟩ := HN.out
              refine ⟨⟨k', D', p', q1, q2, q3, q4, q5, by first | exact q6 | exact q6.drew | exact q6.drew.drew⟩, ?_⟩
              first | (simp [intOf]; done) | (simp [intOf]; omega)
          · have hkm : k = m.length := by omega
            subst hkm
            obtain ⟨hDe, hpe⟩ := dots_end m D p hD
            have hks : ((m.length : Nat) : Int) = s.size := by rw [HS.out]
            have nl : (noDot m).length ≤ 200000 := by rw [← hDe]; omega
            have nsz : (bs (noDot m)).size = (noDot m).length := bs_size _
            have HQ : Hid (pnt m = ((noDot m).length : Int)) := by
              show pnt m = _
              unfold pnt
              rw [if_pos HP.out]
            have pv : pntF 0 (-1) m < 0 := HP.out
            have HL : Hid (Lead (noDot m) (pnt m) (noDot m) (pnt m)) := ⟨rfl, by omega, Nat.le_refl _⟩
            rw [hDe, hpe]
            rw [hpe] at plo phi
            clear hDe hpe hD hat hk dl hge
            generalize hpf : pntF 0 (-1) m = pf at *
            clear hpf
            rw [hks] at phi ⊢
            clear hks
            go_wp2_with fail
            go_loopw [6, 7] (fun dv pv wr => Sp3 w wr (noDot m) (pnt m) dv pv) (fun dv _ _ => match dv with | .string X => X.size | _ => 0)
            case atStart => exact ⟨noDot m, pnt m, rfl, by rw [HQ.out], HL.out, by first | exact hb2 | exact hb2.drew | exact hb2.drew.drew⟩
            case round =>
              obtain ⟨D, p, rfl, rfl, hD, hb3⟩ := hrel
              have dl := hD.len
              have pb : -400000 ≤ p ∧ p ≤ 400000 := by
                have h1 := hD.pt
                have h2 := HQ.out
                omega
              obtain ⟨pb0, pb1⟩ := pb
              cases D with
              | nil =>
                obtain ⟨hDe, hpe⟩ := lead_end _ _ _ _ hD (by intro x r h; cases h)
                have HZ : Hid (noEnd (nodz (noDot m)) = noEnd ([] : List UInt8)) := by show _ = _; rw [← hDe]
                have HV : Hid (p = pnt m - (noDot m).length + (nodz (noDot m)).length) := hpe
                have HT : Hid (Trail ([] : List UInt8) ([] : List UInt8)) := ⟨rfl, Nat.le_refl _⟩
                have HLN : Hid (([] : List UInt8).length ≤ 200000) := by show _ ≤ _; omega
                clear hD hDe hpe dl HL
                have xs0 : (bs []).size = 0 := rfl
                generalize hXX : bs [] = X at *
                have HXX : Hid (bs [] = X) := hXX
                clear hXX
                go_wp2_with fail
                go_loopw [6] (fun dv wr => Sp4 w wr ([] : List UInt8) dv) (fun dv _ => match dv with | .string X => X.size | _ => 0)
                case atStart => exact ⟨([] : List UInt8), by rw [← HXX.out], HT.out, by first | exact hb3 | exact hb3.drew | exact hb3.drew.drew⟩
                case round =>
                  obtain ⟨E, rfl, hE, hb4⟩ := hrel
                  have el := hE.len
                  have l2 := HLN.out
                  rcases List.eq_nil_or_concat E with e0 | ⟨t, y, e0⟩
                  · subst e0
                    have hEe := trail_end _ _ hE (by intro y t h; simp at h)
                    have HW : Hid (bs [] = bs (noEnd (nodz (noDot m)))) := by show _ = _; rw [HZ.out, ← hEe]
                    have esz : (bs []).size = 0 := rfl
                    clear hE hEe
                    generalize bs [] = Y at *
                    go_wp2_with fail
                    go_ret2
                    refine ⟨?_, by first | exact hb4 | exact hb4.drew | exact hb4.drew.drew⟩
                    exact ret_sp HW.out (by rw [HV.out])
                  · rw [List.concat_eq_append] at e0
                    subst e0
                    have tl : t.length ≤ 200000 := by simp at el <;> omega
                    have ysz : (bs (t ++ [y])).size = t.length + 1 := by rw [bs_size]; simp
                    have yat : ((bs (t ++ [y]))[t.length]'(by rw [ysz]; omega)) = y := by
                      have := bs_at (t ++ [y]) t.length (by rw [ysz]; omega)
                      rw [List.getElem?_append_right (Nat.le_refl _)] at this
                      simpa using this.symm
                    by_cases h48 : y = 48
                    · subst h48
                      have HN : Hid (Sp4 w wr ([] : List UInt8) (.string ((bs (t ++ [48])).extract 0 t.length))) := by
                        refine ⟨t, ?_, trail_next _ _ hE, hb4⟩
                        rw [ext_bs]
                        congr 1
                        simp
                      have y48 : ((bs (t ++ [48]))[t.length]'(by rw [ysz]; omega)).toNat = 48 := by rw [yat]; rfl
                      clear hE el yat
                      generalize bs (t ++ [48]) = Y at *
                      go_wp2_with fail
                      obtain ⟨D', q3, q5, q6⟩ := HN.out
                      refine ⟨⟨D', q3, q5, by first | exact q6 | exact q6.drew | exact q6.drew.drew⟩, ?_⟩
                      show (Y.extract 0 t.length).size < Y.size
                      rw [ByteArray.size_extract]; omega
                    · have hEe := trail_end _ _ hE (by intro z t' h; have := List.append_inj' h rfl; simp at this; rw [← this.2]; exact h48)
                      have HW : Hid (bs (t ++ [y]) = bs (noEnd (nodz (noDot m)))) := by show _ = _; rw [HZ.out, ← hEe]
                      have n48 : ¬ ((bs (t ++ [y]))[t.length]'(by rw [ysz]; omega)).toNat = 48 := by rw [yat]; intro h; exact h48 (UInt8.toNat_inj.1 h)
                      clear hE hEe yat
                      generalize bs (t ++ [y]) = Y at *
                      go_wp2_with fail
                      go_ret2
                      refine ⟨?_, by first | exact hb4 | exact hb4.drew | exact hb4.drew.drew⟩
                      exact ret_sp HW.out (by rw [HV.out])
              | cons x r =>
                have xs : (bs (x :: r)).size = r.length + 1 := by rw [bs_size]; rfl
                have x0 : ((bs (x :: r))[0]'(by rw [xs]; omega)) = x := rfl
                by_cases h48 : x = 48
                · subst h48
                  have HN : Hid (Sp3 w wr (noDot m) (pnt m) (.string ((bs (48 :: r)).extract 1 (r.length + 1))) (.int .i64 (p - 1))) := by
                    refine ⟨r, p - 1, ?_, rfl, lead_next _ _ _ _ hD, hb3⟩
                    rw [ext_bs]
                    congr 1
                    simp
                  have rsz : r.length ≤ 200000 := by simp at dl; omega
                  have x48 : ((bs (48 :: r))[0]'(by rw [xs]; omega)).toNat = 48 := rfl
                  clear hD dl HL x0
                  generalize bs (48 :: r) = X at *
                  go_wp2_with fail
                  obtain ⟨D', p', q3, q4, q5, q6⟩ := HN.out
                  refine ⟨⟨D', p', q3, q4, q5, by first | exact q6 | exact q6.drew | exact q6.drew.drew⟩, ?_⟩
                  show (X.extract 1 (r.length + 1)).size < X.size
                  rw [ByteArray.size_extract]; omega
                · obtain ⟨hDe, hpe⟩ := lead_end _ _ _ _ hD (by intro y t h; cases h; exact h48)
                  have n48 : ¬ ((bs (x :: r))[0]'(by rw [xs]; omega)).toNat = 48 := by rw [x0]; intro h; exact h48 (UInt8.toNat_inj.1 h)
                  have rsz : r.length ≤ 200000 := by simp at dl; omega
                  have HZ : Hid (noEnd (nodz (noDot m)) = noEnd (x :: r)) := by show _ = _; rw [← hDe]
                  have HV : Hid (p = pnt m - (noDot m).length + (nodz (noDot m)).length) := hpe
                  have HT : Hid (Trail (x :: r) (x :: r)) := ⟨rfl, Nat.le_refl _⟩
                  have HLN : Hid ((x :: r).length ≤ 200000) := by show _ ≤ _; omega
                  clear hD hDe hpe dl HL
                  clear x0
                  generalize hXX : bs (x :: r) = X at *
                  have HXX : Hid (bs (x :: r) = X) := hXX
                  clear hXX
                  go_wp2_with fail
                  go_loopw [6] (fun dv wr => Sp4 w wr (x :: r) dv) (fun dv _ => match dv with | .string X => X.size | _ => 0)
                  case atStart => exact ⟨(x :: r), by rw [← HXX.out], HT.out, by first | exact hb3 | exact hb3.drew | exact hb3.drew.drew⟩
                  case round =>
                    obtain ⟨E, rfl, hE, hb4⟩ := hrel
                    have el := hE.len
                    have l2 := HLN.out
                    rcases List.eq_nil_or_concat E with e0 | ⟨t, y, e0⟩
                    · subst e0
                      have hEe := trail_end _ _ hE (by intro y t h; simp at h)
                      have HW : Hid (bs [] = bs (noEnd (nodz (noDot m)))) := by show _ = _; rw [HZ.out, ← hEe]
                      have esz : (bs []).size = 0 := rfl
                      clear hE hEe
                      generalize bs [] = Y at *
                      go_wp2_with fail
                      go_ret2
                      refine ⟨?_, by first | exact hb4 | exact hb4.drew | exact hb4.drew.drew⟩
                      exact ret_sp HW.out (by rw [HV.out])
                    · rw [List.concat_eq_append] at e0
                      subst e0
                      have tl : t.length ≤ 200000 := by simp at el <;> omega
                      have ysz : (bs (t ++ [y])).size = t.length + 1 := by rw [bs_size]; simp
                      have yat : ((bs (t ++ [y]))[t.length]'(by rw [ysz]; omega)) = y := by
                        have := bs_at (t ++ [y]) t.length (by rw [ysz]; omega)
                        rw [List.getElem?_append_right (Nat.le_refl _)] at this
                        simpa using this.symm
                      by_cases h48 : y = 48
                      · subst h48
                        have HN : Hid (Sp4 w wr (x :: r) (.string ((bs (t ++ [48])).extract 0 t.length))) := by
                          refine ⟨t, ?_, trail_next _ _ hE, hb4⟩
                          rw [ext_bs]
                          congr 1
                          simp
                        have y48 : ((bs (t ++ [48]))[t.length]'(by rw [ysz]; omega)).toNat = 48 := by rw [yat]; rfl
                        clear hE el yat
                        generalize bs (t ++ [48]) = Y at *
                        go_wp2_with fail
                        obtain ⟨D', q3, q5, q6⟩ := HN.out
                        refine ⟨⟨D', q3, q5, by first | exact q6 | exact q6.drew | exact q6.drew.drew⟩, ?_⟩
                        show (Y.extract 0 t.length).size < Y.size
                        rw [ByteArray.size_extract]; omega
                      · have hEe := trail_end _ _ hE (by intro z t' h; have := List.append_inj' h rfl; simp at this; rw [← this.2]; exact h48)
                        have HW : Hid (bs (t ++ [y]) = bs (noEnd (nodz (noDot m)))) := by show _ = _; rw [HZ.out, ← hEe]
                        have n48 : ¬ ((bs (t ++ [y]))[t.length]'(by rw [ysz]; omega)).toNat = 48 := by rw [yat]; intro h; exact h48 (UInt8.toNat_inj.1 h)
                        clear hE hEe yat
                        generalize bs (t ++ [y]) = Y at *
                        go_wp2_with fail
                        go_ret2
                        refine ⟨?_, by first | exact hb4 | exact hb4.drew | exact hb4.drew.drew⟩
                        exact ret_sp HW.out (by rw [HV.out])
    · exact absurd rfl hne

set_option maxHeartbeats 4000000 in
theorem split_plain_pos (m : List UInt8) (w : World) (hm : ∀ c ∈ m, c ≠ 101) (hl : m.length ≤ 200000) (hp : 0 ≤ pntF 0 (-1) m) :
    Calls Tryz.prog 18 #[.string (bs m)] w fun e' w' => e' = .returned (.tuple #[.string (bs (noEnd (nodz (noDot m)))), .int .i64 (pnt m - (noDot m).length + (nodz (noDot m)).length)]) ∧ Below w.heap.size w w' := by
  obtain ⟨s, hs⟩ : ∃ s, s = bs m := ⟨_, rfl⟩
  have HS : Hid (s.size = m.length) := by show _ = _; rw [hs, bs_size]
  have HE : Hid (∀ a b, s.extract a b = bs ((m.drop a).take (b - a))) := by show ∀ a b, _; intro a b; rw [hs, ext_bs]
  have hat : ∀ k (h : k < s.size), m[k]? = some s[k] := by subst hs; exact fun k h => bs_at m k h
  have HP : Hid (0 ≤ pntF 0 (-1) m) := hp
  have hss : s.size ≤ 200000 := by rw [HS.out]; exact hl
  have HE0 : Hid (bs m = s) := hs.symm
  rw [← hs]
  clear hs hp
  go_enter Tryz.func18, Tryz.ntmps18
  go_wp2_with fail
  go_loopw [0, 4, 5] (fun sv ev iv wr => Sp1 w wr m [] 0 sv ev iv) (fun _ _ iv _ => m.length + 2 - (intOf iv).toNat)
  case atStart => exact ⟨Or.inl ⟨0, by omega, rfl, by rw [List.append_nil, HE0.out], rfl⟩, Below.refl _ _⟩
  case round =>
    obtain ⟨⟨k, hk, rfl, rfl, rfl⟩ | ⟨hne, _⟩, HB⟩ := hrel
    · rw [List.append_nil, HE0.out]
      rcases Nat.lt_or_ge k m.length with hlt | hge
      · have hks : k < s.size := by rw [HS.out]; exact hlt
        have ak := hat k hks
        have n101 : ¬ (s[k]).toNat = 101 := by
          intro e
          exact hm _ (List.mem_of_getElem? ak) (UInt8.toNat_inj.1 e)
        clear hat ak hm
        go_wp2_with fail
        refine ⟨⟨Or.inl ⟨k + 1, hlt, by congr 1, by rw [List.append_nil, HE0.out], rfl⟩, by first | exact HB | exact HB.drew | exact HB.drew.drew⟩, ?_⟩
        first | (simp [intOf]; done) | (simp [intOf]; omega)
      · have hkm : k = m.length := by omega
        subst hkm
        have hks : ((m.length : Nat) : Int) = s.size := by rw [HS.out]
        rw [hks]
        clear hks hge hk hm
        go_wp2_with fail
        go_loopw [6, 7, 8] (fun dv pv iv wr => Sp2 w wr m dv pv iv) (fun _ _ iv _ => m.length + 1 - (intOf iv).toNat)
        case atStart => exact ⟨0, [], -1, by omega, rfl, rfl, rfl, ⟨by simp, by simp, by omega, by omega, by simp⟩, HB⟩
        case round =>
          obtain ⟨k, D, p, hk, rfl, rfl, rfl, hD, hb2⟩ := hrel
          have dl := hD.len
          have plo := hD.lo
          have phi := hD.hi
          rcases Nat.lt_or_ge k m.length with hlt | hge
          · have hks : k < s.size := by rw [HS.out]; exact hlt
            have ak := hat k hks
            have dsz : (bs D).size ≤ 200000 := by rw [bs_size]; omega
            by_cases h46 : (s[k]).toNat = 46
            · have e46 : s[k] = 46 := UInt8.toNat_inj.1 h46
              rw [e46] at ak
              have HN : Hid (Sp2 w wr m (.string (bs D)) (.int .i64 ((bs D).size : Nat)) (.int .i64 ((k : Int) + 1))) :=
                ⟨k + 1, D, D.length, hlt, by congr 1, rfl, by rw [bs_size], dots_dot m k D p hD ak, hb2⟩
              clear hD ak hat hk dl plo phi e46
              go_wp2_with fail
              obtain ⟨k', D', p', q1, q2, q3, q4, q5, q6⟩ := HN.out
              refine ⟨⟨k', D', p', q1, q2, q3, q4, q5, by first | exact q6 | exact q6.drew | exact q6.drew.drew⟩, ?_⟩
              first | (simp [intOf]; done) | (simp [intOf]; omega)
            · have n46 : s[k] ≠ 46 := by intro e; rw [e] at h46; exact h46 rfl
              have HN : Hid (Sp2 w wr m (.string (bs D ++ s.extract k (k + 1))) (.int .i64 p) (.int .i64 ((k : Int) + 1))) := by
                refine ⟨k + 1, D ++ [s[k]], p, hlt, by congr 1, ?_, rfl, dots_dig m k D p _ hD ak n46, hb2⟩
                have hx : s.extract k (k + 1) = bs [s[k]] := by
                  have := HE.out k (k + 1)
                  rw [this, show k + 1 - k = 1 from by omega]
                  have hkm : k < m.length := hlt
                  rw [List.drop_eq_getElem_cons hkm]
                  have e2 := List.getElem?_eq_getElem hkm
                  rw [ak] at e2
                  rw [← Option.some.inj e2]
                  rfl
                rw [hx]
                congr 1
              have xs : (s.extract k (k + 1)).size = 1 := by rw [ByteArray.size_extract]; omega
              clear hD ak hat hk dl n46
              go_wp2_with fail
              obtain ⟨k', D', p', q1, q2, q3, q4, q5, q6⟩ := HN.out
              refine ⟨⟨k', D', p', q1, q2, q3, q4, q5, by first | exact q6 | exact q6.drew | exact q6.drew.drew⟩, ?_⟩
              first | (simp [intOf]; done) | (simp [intOf]; omega)
          · have hkm : k = m.length := by omega
            subst hkm
            obtain ⟨hDe, hpe⟩ := dots_end m D p hD
            have hks : ((m.length : Nat) : Int) = s.size := by rw [HS.out]
            have nl : (noDot m).length ≤ 200000 := by rw [← hDe]; omega
            have nsz : (bs (noDot m)).size = (noDot m).length := bs_size _
            have HQ : Hid (pnt m = pntF 0 (-1) m) := by
              show pnt m = _
              unfold pnt
              rw [if_neg (by have := HP.out; omega)]
            have pv : ¬ pntF 0 (-1) m < 0 := by have := HP.out; omega
            have HL : Hid (Lead (noDot m) (pnt m) (noDot m) (pnt m)) := ⟨rfl, by omega, Nat.le_refl _⟩
            rw [hDe, hpe]
            rw [hpe] at plo phi
            clear hDe hpe hD hat hk dl hge
            generalize hpf : pntF 0 (-1) m = pf at *
            clear hpf
            rw [hks] at phi ⊢
            clear hks
            go_wp2_with fail
            go_loopw [6, 7] (fun dv pv wr => Sp3 w wr (noDot m) (pnt m) dv pv) (fun dv _ _ => match dv with | .string X => X.size | _ => 0)
            case atStart => exact ⟨noDot m, pnt m, rfl, by rw [HQ.out], HL.out, by first | exact hb2 | exact hb2.drew | exact hb2.drew.drew⟩
            case round =>
              obtain ⟨D, p, rfl, rfl, hD, hb3⟩ := hrel
              have dl := hD.len
              have pb : -400000 ≤ p ∧ p ≤ 400000 := by
                have h1 := hD.pt
                have h2 := HQ.out
                omega
              obtain ⟨pb0, pb1⟩ := pb
              cases D with
              | nil =>
                obtain ⟨hDe, hpe⟩ := lead_end _ _ _ _ hD (by intro x r h; cases h)
                have HZ : Hid (noEnd (nodz (noDot m)) = noEnd ([] : List UInt8)) := by show _ = _; rw [← hDe]
                have HV : Hid (p = pnt m - (noDot m).length + (nodz (noDot m)).length) := hpe
                have HT : Hid (Trail ([] : List UInt8) ([] : List UInt8)) := ⟨rfl, Nat.le_refl _⟩
                have HLN : Hid (([] : List UInt8).length ≤ 200000) := by show _ ≤ _; omega
                clear hD hDe hpe dl HL
                have xs0 : (bs []).size = 0 := rfl
                generalize hXX : bs [] = X at *
                have HXX : Hid (bs [] = X) := hXX
                clear hXX
                go_wp2_with fail
                go_loopw [6] (fun dv wr => Sp4 w wr ([] : List UInt8) dv) (fun dv _ => match dv with | .string X => X.size | _ => 0)
                case atStart => exact ⟨([] : List UInt8), by rw [← HXX.out], HT.out, by first | exact hb3 | exact hb3.drew | exact hb3.drew.drew⟩
                case round =>
                  obtain ⟨E, rfl, hE, hb4⟩ := hrel
                  have el := hE.len
                  have l2 := HLN.out
                  rcases List.eq_nil_or_concat E with e0 | ⟨t, y, e0⟩
                  · subst e0
                    have hEe := trail_end _ _ hE (by intro y t h; simp at h)
                    have HW : Hid (bs [] = bs (noEnd (nodz (noDot m)))) := by show _ = _; rw [HZ.out, ← hEe]
                    have esz : (bs []).size = 0 := rfl
                    clear hE hEe
                    generalize bs [] = Y at *
                    go_wp2_with fail
                    go_ret2
                    refine ⟨?_, by first | exact hb4 | exact hb4.drew | exact hb4.drew.drew⟩
                    exact ret_sp HW.out (by rw [HV.out])
                  · rw [List.concat_eq_append] at e0
                    subst e0
                    have tl : t.length ≤ 200000 := by simp at el <;> omega
                    have ysz : (bs (t ++ [y])).size = t.length + 1 := by rw [bs_size]; simp
                    have yat : ((bs (t ++ [y]))[t.length]'(by rw [ysz]; omega)) = y := by
                      have := bs_at (t ++ [y]) t.length (by rw [ysz]; omega)
                      rw [List.getElem?_append_right (Nat.le_refl _)] at this
                      simpa using this.symm
                    by_cases h48 : y = 48
                    · subst h48
                      have HN : Hid (Sp4 w wr ([] : List UInt8) (.string ((bs (t ++ [48])).extract 0 t.length))) := by
                        refine ⟨t, ?_, trail_next _ _ hE, hb4⟩
                        rw [ext_bs]
                        congr 1
                        simp
                      have y48 : ((bs (t ++ [48]))[t.length]'(by rw [ysz]; omega)).toNat = 48 := by rw [yat]; rfl
                      clear hE el yat
                      generalize bs (t ++ [48]) = Y at *
                      go_wp2_with fail
                      obtain ⟨D', q3, q5, q6⟩ := HN.out
                      refine ⟨⟨D', q3, q5, by first | exact q6 | exact q6.drew | exact q6.drew.drew⟩, ?_⟩
                      show (Y.extract 0 t.length).size < Y.size
                      rw [ByteArray.size_extract]; omega
                    · have hEe := trail_end _ _ hE (by intro z t' h; have := List.append_inj' h rfl; simp at this; rw [← this.2]; exact h48)
                      have HW : Hid (bs (t ++ [y]) = bs (noEnd (nodz (noDot m)))) := by show _ = _; rw [HZ.out, ← hEe]
                      have n48 : ¬ ((bs (t ++ [y]))[t.length]'(by rw [ysz]; omega)).toNat = 48 := by rw [yat]; intro h; exact h48 (UInt8.toNat_inj.1 h)
                      clear hE hEe yat
                      generalize bs (t ++ [y]) = Y at *
                      go_wp2_with fail
                      go_ret2
                      refine ⟨?_, by first | exact hb4 | exact hb4.drew | exact hb4.drew.drew⟩
                      exact ret_sp HW.out (by rw [HV.out])
              | cons x r =>
                have xs : (bs (x :: r)).size = r.length + 1 := by rw [bs_size]; rfl
                have x0 : ((bs (x :: r))[0]'(by rw [xs]; omega)) = x := rfl
                by_cases h48 : x = 48
                · subst h48
                  have HN : Hid (Sp3 w wr (noDot m) (pnt m) (.string ((bs (48 :: r)).extract 1 (r.length + 1))) (.int .i64 (p - 1))) := by
                    refine ⟨r, p - 1, ?_, rfl, lead_next _ _ _ _ hD, hb3⟩
                    rw [ext_bs]
                    congr 1
                    simp
                  have rsz : r.length ≤ 200000 := by simp at dl; omega
                  have x48 : ((bs (48 :: r))[0]'(by rw [xs]; omega)).toNat = 48 := rfl
                  clear hD dl HL x0
                  generalize bs (48 :: r) = X at *
                  go_wp2_with fail
                  obtain ⟨D', p', q3, q4, q5, q6⟩ := HN.out
                  refine ⟨⟨D', p', q3, q4, q5, by first | exact q6 | exact q6.drew | exact q6.drew.drew⟩, ?_⟩
                  show (X.extract 1 (r.length + 1)).size < X.size
                  rw [ByteArray.size_extract]; omega
                · obtain ⟨hDe, hpe⟩ := lead_end _ _ _ _ hD (by intro y t h; cases h; exact h48)
                  have n48 : ¬ ((bs (x :: r))[0]'(by rw [xs]; omega)).toNat = 48 := by rw [x0]; intro h; exact h48 (UInt8.toNat_inj.1 h)
                  have rsz : r.length ≤ 200000 := by simp at dl; omega
                  have HZ : Hid (noEnd (nodz (noDot m)) = noEnd (x :: r)) := by show _ = _; rw [← hDe]
                  have HV : Hid (p = pnt m - (noDot m).length + (nodz (noDot m)).length) := hpe
                  have HT : Hid (Trail (x :: r) (x :: r)) := ⟨rfl, Nat.le_refl _⟩
                  have HLN : Hid ((x :: r).length ≤ 200000) := by show _ ≤ _; omega
                  clear hD hDe hpe dl HL
                  clear x0
                  generalize hXX : bs (x :: r) = X at *
                  have HXX : Hid (bs (x :: r) = X) := hXX
                  clear hXX
                  go_wp2_with fail
                  go_loopw [6] (fun dv wr => Sp4 w wr (x :: r) dv) (fun dv _ => match dv with | .string X => X.size | _ => 0)
                  case atStart => exact ⟨(x :: r), by rw [← HXX.out], HT.out, by first | exact hb3 | exact hb3.drew | exact hb3.drew.drew⟩
                  case round =>
                    obtain ⟨E, rfl, hE, hb4⟩ := hrel
                    have el := hE.len
                    have l2 := HLN.out
                    rcases List.eq_nil_or_concat E with e0 | ⟨t, y, e0⟩
                    · subst e0
                      have hEe := trail_end _ _ hE (by intro y t h; simp at h)
                      have HW : Hid (bs [] = bs (noEnd (nodz (noDot m)))) := by show _ = _; rw [HZ.out, ← hEe]
                      have esz : (bs []).size = 0 := rfl
                      clear hE hEe
                      generalize bs [] = Y at *
                      go_wp2_with fail
                      go_ret2
                      refine ⟨?_, by first | exact hb4 | exact hb4.drew | exact hb4.drew.drew⟩
                      exact ret_sp HW.out (by rw [HV.out])
                    · rw [List.concat_eq_append] at e0
                      subst e0
                      have tl : t.length ≤ 200000 := by simp at el <;> omega
                      have ysz : (bs (t ++ [y])).size = t.length + 1 := by rw [bs_size]; simp
                      have yat : ((bs (t ++ [y]))[t.length]'(by rw [ysz]; omega)) = y := by
                        have := bs_at (t ++ [y]) t.length (by rw [ysz]; omega)
                        rw [List.getElem?_append_right (Nat.le_refl _)] at this
                        simpa using this.symm
                      by_cases h48 : y = 48
                      · subst h48
                        have HN : Hid (Sp4 w wr (x :: r) (.string ((bs (t ++ [48])).extract 0 t.length))) := by
                          refine ⟨t, ?_, trail_next _ _ hE, hb4⟩
                          rw [ext_bs]
                          congr 1
                          simp
                        have y48 : ((bs (t ++ [48]))[t.length]'(by rw [ysz]; omega)).toNat = 48 := by rw [yat]; rfl
                        clear hE el yat
                        generalize bs (t ++ [48]) = Y at *
                        go_wp2_with fail
                        obtain ⟨D', q3, q5, q6⟩ := HN.out
                        refine ⟨⟨D', q3, q5, by first | exact q6 | exact q6.drew | exact q6.drew.drew⟩, ?_⟩
                        show (Y.extract 0 t.length).size < Y.size
                        rw [ByteArray.size_extract]; omega
                      · have hEe := trail_end _ _ hE (by intro z t' h; have := List.append_inj' h rfl; simp at this; rw [← this.2]; exact h48)
                        have HW : Hid (bs (t ++ [y]) = bs (noEnd (nodz (noDot m)))) := by show _ = _; rw [HZ.out, ← hEe]
                        have n48 : ¬ ((bs (t ++ [y]))[t.length]'(by rw [ysz]; omega)).toNat = 48 := by rw [yat]; intro h; exact h48 (UInt8.toNat_inj.1 h)
                        clear hE hEe yat
                        generalize bs (t ++ [y]) = Y at *
                        go_wp2_with fail
                        go_ret2
                        refine ⟨?_, by first | exact hb4 | exact hb4.drew | exact hb4.drew.drew⟩
                        exact ret_sp HW.out (by rw [HV.out])
    · exact absurd rfl hne

set_option maxHeartbeats 4000000 in
theorem split_exp_neg (m x : List UInt8) (e : Int) (w : World) (hm : ∀ c ∈ m, c ≠ 101) (hl : m.length ≤ 200000) (hx : Lib.atoi x = some e) (hxl : x.length ≤ 18) (he : e.natAbs ≤ 100000) (hp : pntF 0 (-1) m < 0) :
    Calls Tryz.prog 18 #[.string (bs (m ++ 101 :: x))] w fun e' w' => e' = .returned (.tuple #[.string (bs (noEnd (nodz (noDot m)))), .int .i64 (pnt m - (noDot m).length + (nodz (noDot m)).length + e)]) ∧ Below w.heap.size w w' := by
  obtain ⟨S0, hS0⟩ : ∃ S0, S0 = bs (m ++ 101 :: x) := ⟨_, rfl⟩
  have zS : S0.size = m.length + x.length + 1 := by rw [hS0, bs_size]; simp; omega
  have HZ0 : Hid (S0.size = m.length + x.length + 1) := zS
  have at0 : ∀ k (h : k < S0.size), (m ++ 101 :: x)[k]? = some S0[k] := by subst hS0; exact fun k h => bs_at _ k h
  have ex1 : S0.extract (m.length + 1) S0.size = bs x := by
    rw [hS0, ext_bs, bs_size]
    congr 1
    rw [List.take_of_length_le (by simp; omega), show m ++ 101 :: x = (m ++ [101]) ++ x from by simp, List.drop_append_of_le_length (by simp), List.drop_of_length_le (by simp)]
    simp
  have ex0 : S0.extract 0 m.length = bs m := by
    rw [hS0, ext_bs]
    congr 1
    simp
  have catoi : ∀ w, Calls Tryz.prog 49 #[.string (bs x)] w fun e' w' => e' = .returned (.tuple #[.int .i64 e, .nilIface]) ∧ ∃ t, w' = Lib.bytesWorld w 5 t := fun w => Tryz.strconv_Atoi (bs x) e (by rw [bs_size]; exact hxl) (by rw [show (bs x).data.toList = x from by simp [bs]]; exact hx) w
  obtain ⟨s, hs⟩ : ∃ s, s = bs m := ⟨_, rfl⟩
  have HS : Hid (s.size = m.length) := by show _ = _; rw [hs, bs_size]
  have HE : Hid (∀ a b, s.extract a b = bs ((m.drop a).take (b - a))) := by show ∀ a b, _; intro a b; rw [hs, ext_bs]
  have hat : ∀ k (h : k < s.size), m[k]? = some s[k] := by subst hs; exact fun k h => bs_at m k h
  have HP : Hid (pntF 0 (-1) m < 0) := hp
  have hss : s.size ≤ 200000 := by rw [HS.out]; exact hl
  have HE0 : Hid (bs m = s) := hs.symm
  have HEX1 : Hid (S0.extract (m.length + 1) S0.size = bs x) := ex1
  have HEX0 : Hid (S0.extract 0 m.length = bs m) := ex0
  have hS : S0.size ≤ 200019 := by omega
  have HSS : Hid (bs (m ++ 101 :: x) = S0) := hS0.symm
  rw [← hS0]
  have e0 : -100000 ≤ e := by omega
  have e1 : e ≤ 100000 := by omega
  clear hs hp hS0 zS ex1 ex0 hx hxl he
  go_enter Tryz.func18, Tryz.ntmps18
  go_wp2_with fail
  go_loopw [0, 4, 5] (fun sv ev iv wr => Sp1 w wr m (101 :: x) e sv ev iv) (fun _ _ iv _ => m.length + 2 - (intOf iv).toNat)
  case atStart => exact ⟨Or.inl ⟨0, by omega, rfl, by rw [HSS.out], rfl⟩, Below.refl _ _⟩
  case round =>
    obtain ⟨⟨k, hk, rfl, rfl, rfl⟩ | ⟨hne, rfl, rfl, rfl⟩, HB⟩ := hrel
    · rw [HSS.out]
      have hks : k < S0.size := by rw [HZ0.out]; omega
      have ak := at0 k hks
      rcases Nat.lt_or_ge k m.length with hlt | hge
      · have n101 : ¬ (S0[k]).toNat = 101 := by
          intro e
          rw [List.getElem?_append_left hlt] at ak
          exact hm _ (List.mem_of_getElem? ak) (UInt8.toNat_inj.1 e)
        clear at0 ak hm hat catoi
        go_wp2_with fail
        refine ⟨⟨Or.inl ⟨k + 1, hlt, by congr 1, by rw [HSS.out], rfl⟩, by first | exact HB | exact HB.drew | exact HB.drew.drew⟩, ?_⟩
        first | (simp [intOf]; done) | (simp [intOf]; omega)
      · have hkm : k = m.length := by omega
        subst hkm
        have a101 : (S0[m.length]).toNat = 101 := by
          rw [List.getElem?_append_right (Nat.le_refl _)] at ak
          simp at ak
          rw [← ak]; rfl
        have ex1 := HEX1.out
        have ex0 := HEX0.out
        have zx : (m.length : Int) + 1 ≤ S0.size := by omega
        clear at0 ak hm hat hk hge
        go_wp2_with fail
        refine (catoi _).mono ?_
        rintro e' w1 ⟨rfl, t, rfl⟩
        have hb1 : Below w.heap.size w (Lib.bytesWorld wr 5 t) := HB.trans (below_bytes wr 5 t w.heap.size HB.size)
        generalize Lib.bytesWorld wr 5 t = w1 at *
        go_wp2_with fail
        refine ⟨⟨Or.inr ⟨by simp, rfl, rfl, rfl⟩, by first | exact hb1 | exact hb1.drew | exact hb1.drew.drew⟩, ?_⟩
        first | (simp [intOf]; done) | (simp [intOf]; omega)
    · rw [HE0.out]
      have hks : ((m.length : Nat) : Int) = s.size := by rw [HS.out]
      rw [hks]
      clear hks hm at0 catoi
      go_wp2_with fail
      go_loopw [6, 7, 8] (fun dv pv iv wr => Sp2 w wr m dv pv iv) (fun _ _ iv _ => m.length + 1 - (intOf iv).toNat)
      case atStart => exact ⟨0, [], -1, by omega, rfl, rfl, rfl, ⟨by simp, by simp, by omega, by omega, by simp⟩, HB⟩
      case round =>
        obtain ⟨k, D, p, hk, rfl, rfl, rfl, hD, hb2⟩ := hrel
        have dl := hD.len
        have plo := hD.lo
        have phi := hD.hi
        rcases Nat.lt_or_ge k m.length with hlt | hge
        · have hks : k < s.size := by rw [HS.out]; exact hlt
          have ak := hat k hks
          have dsz : (bs D).size ≤ 200000 := by rw [bs_size]; omega
          by_cases h46 : (s[k]).toNat = 46
          · have e46 : s[k] = 46 := UInt8.toNat_inj.1 h46
            rw [e46] at ak
            have HN : Hid (Sp2 w wr m (.string (bs D)) (.int .i64 ((bs D).size : Nat)) (.int .i64 ((k : Int) + 1))) :=
              ⟨k + 1, D, D.length, hlt, by congr 1, rfl, by rw [bs_size], dots_dot m k D p hD ak, hb2⟩
            clear hD ak hat hk dl plo phi e46
            go_wp2_with fail
            obtain ⟨k', D', p', q1, q2, q3, q4, q5, q6⟩ := HN.out
            refine ⟨⟨k', D', p', q1, q2, q3, q4, q5, by first | exact q6 | exact q6.drew | exact q6.drew.drew⟩, ?_⟩
            first | (simp [intOf]; done) | (simp [intOf]; omega)
          · have n46 : s[k] ≠ 46 := by intro e; rw [e] at h46; exact h46 rfl
            have HN : Hid (Sp2 w wr m (.string (bs D ++ s.extract k (k + 1))) (.int .i64 p) (.int .i64 ((k : Int) + 1))) := by
              refine ⟨k + 1, D ++ [s[k]], p, hlt, by congr 1, ?_, rfl, dots_dig m k D p _ hD ak n46, hb2⟩
              have hx : s.extract k (k + 1) = bs [s[k]] := by
                have := HE.out k (k + 1)
                rw [this, show k + 1 - k = 1 from by omega]
                have hkm : k < m.length := hlt
                rw [List.drop_eq_getElem_cons hkm]
                have e2 := List.getElem?_eq_getElem hkm
                rw [ak] at e2
                rw [← Option.some.inj e2]
                rfl
              rw [hx]
              congr 1
            have xs : (s.extract k (k + 1)).size = 1 := by rw [ByteArray.size_extract]; omega
            clear hD ak hat hk dl n46
            go_wp2_with fail
            obtain ⟨k', D', p', q1, q2, q3, q4, q5, q6⟩ := HN.out
            refine ⟨⟨k', D', p', q1, q2, q3, q4, q5, by first | exact q6 | exact q6.drew | exact q6.drew.drew⟩, ?_⟩
            first | (simp [intOf]; done) | (simp [intOf]; omega)
        · have hkm : k = m.length := by omega
          subst hkm
          obtain ⟨hDe, hpe⟩ := dots_end m D p hD
          have hks : ((m.length : Nat) : Int) = s.size := by rw [HS.out]
          have nl : (noDot m).length ≤ 200000 := by rw [← hDe]; omega
          have nsz : (bs (noDot m)).size = (noDot m).length := bs_size _
          have HQ : Hid (pnt m = ((noDot m).length : Int)) := by
            show pnt m = _
            unfold pnt
            rw [if_pos HP.out]
          have pv : pntF 0 (-1) m < 0 := HP.out
          have HL : Hid (Lead (noDot m) (pnt m) (noDot m) (pnt m)) := ⟨rfl, by omega, Nat.le_refl _⟩
          rw [hDe, hpe]
          rw [hpe] at plo phi
          clear hDe hpe hD hat hk dl hge
          generalize hpf : pntF 0 (-1) m = pf at *
          clear hpf
          rw [hks] at phi ⊢
          clear hks
          go_wp2_with fail
          go_loopw [6, 7] (fun dv pv wr => Sp3 w wr (noDot m) (pnt m) dv pv) (fun dv _ _ => match dv with | .string X => X.size | _ => 0)
          case atStart => exact ⟨noDot m, pnt m, rfl, by rw [HQ.out], HL.out, by first | exact hb2 | exact hb2.drew | exact hb2.drew.drew⟩
          case round =>
            obtain ⟨D, p, rfl, rfl, hD, hb3⟩ := hrel
            have dl := hD.len
            have pb : -400000 ≤ p ∧ p ≤ 400000 := by
              have h1 := hD.pt
              have h2 := HQ.out
              omega
            obtain ⟨pb0, pb1⟩ := pb
            cases D with
            | nil =>
              obtain ⟨hDe, hpe⟩ := lead_end _ _ _ _ hD (by intro x r h; cases h)
              have HZ : Hid (noEnd (nodz (noDot m)) = noEnd ([] : List UInt8)) := by show _ = _; rw [← hDe]
              have HV : Hid (p = pnt m - (noDot m).length + (nodz (noDot m)).length) := hpe
              have HT : Hid (Trail ([] : List UInt8) ([] : List UInt8)) := ⟨rfl, Nat.le_refl _⟩
              have HLN : Hid (([] : List UInt8).length ≤ 200000) := by show _ ≤ _; omega
              clear hD hDe hpe dl HL
              have xs0 : (bs []).size = 0 := rfl
              generalize hXX : bs [] = X at *
              have HXX : Hid (bs [] = X) := hXX
              clear hXX
              go_wp2_with fail
              go_loopw [6] (fun dv wr => Sp4 w wr ([] : List UInt8) dv) (fun dv _ => match dv with | .string X => X.size | _ => 0)
              case atStart => exact ⟨([] : List UInt8), by rw [← HXX.out], HT.out, by first | exact hb3 | exact hb3.drew | exact hb3.drew.drew⟩
              case round =>
                obtain ⟨E, rfl, hE, hb4⟩ := hrel
                have el := hE.len
                have l2 := HLN.out
                rcases List.eq_nil_or_concat E with e0 | ⟨t, y, e0⟩
                · subst e0
                  have hEe := trail_end _ _ hE (by intro y t h; simp at h)
                  have HW : Hid (bs [] = bs (noEnd (nodz (noDot m)))) := by show _ = _; rw [HZ.out, ← hEe]
                  have esz : (bs []).size = 0 := rfl
                  clear hE hEe
                  generalize bs [] = Y at *
                  go_wp2_with fail
                  go_ret2
                  refine ⟨?_, by first | exact hb4 | exact hb4.drew | exact hb4.drew.drew⟩
                  exact ret_sp HW.out (by rw [HV.out])
                · rw [List.concat_eq_append] at e0
                  subst e0
                  have tl : t.length ≤ 200000 := by simp at el <;> omega
                  have ysz : (bs (t ++ [y])).size = t.length + 1 := by rw [bs_size]; simp
                  have yat : ((bs (t ++ [y]))[t.length]'(by rw [ysz]; omega)) = y := by
                    have := bs_at (t ++ [y]) t.length (by rw [ysz]; omega)
                    rw [List.getElem?_append_right (Nat.le_refl _)] at this
                    simpa using this.symm
                  by_cases h48 : y = 48
                  · subst h48
                    have HN : Hid (Sp4 w wr ([] : List UInt8) (.string ((bs (t ++ [48])).extract 0 t.length))) := by
                      refine ⟨t, ?_, trail_next _ _ hE, hb4⟩
                      rw [ext_bs]
                      congr 1
                      simp
                    have y48 : ((bs (t ++ [48]))[t.length]'(by rw [ysz]; omega)).toNat = 48 := by rw [yat]; rfl
                    clear hE el yat
                    generalize bs (t ++ [48]) = Y at *
                    go_wp2_with fail
                    obtain ⟨D', q3, q5, q6⟩ := HN.out
                    refine ⟨⟨D', q3, q5, by first | exact q6 | exact q6.drew | exact q6.drew.drew⟩, ?_⟩
                    show (Y.extract 0 t.length).size < Y.size
                    rw [ByteArray.size_extract]; omega
                  · have hEe := trail_end _ _ hE (by intro z t' h; have := List.append_inj' h rfl; simp at this; rw [← this.2]; exact h48)
                    have HW : Hid (bs (t ++ [y]) = bs (noEnd (nodz (noDot m)))) := by show _ = _; rw [HZ.out, ← hEe]
                    have n48 : ¬ ((bs (t ++ [y]))[t.length]'(by rw [ysz]; omega)).toNat = 48 := by rw [yat]; intro h; exact h48 (UInt8.toNat_inj.1 h)
                    clear hE hEe yat
                    generalize bs (t ++ [y]) = Y at *
                    go_wp2_with fail
                    go_ret2
                    refine ⟨?_, by first | exact hb4 | exact hb4.drew | exact hb4.drew.drew⟩
                    exact ret_sp HW.out (by rw [HV.out])
            | cons x r =>
              have xs : (bs (x :: r)).size = r.length + 1 := by rw [bs_size]; rfl
              have x0 : ((bs (x :: r))[0]'(by rw [xs]; omega)) = x := rfl
              by_cases h48 : x = 48
              · subst h48
                have HN : Hid (Sp3 w wr (noDot m) (pnt m) (.string ((bs (48 :: r)).extract 1 (r.length + 1))) (.int .i64 (p - 1))) := by
                  refine ⟨r, p - 1, ?_, rfl, lead_next _ _ _ _ hD, hb3⟩
                  rw [ext_bs]
                  congr 1
                  simp
                have rsz : r.length ≤ 200000 := by simp at dl; omega
                have x48 : ((bs (48 :: r))[0]'(by rw [xs]; omega)).toNat = 48 := rfl
                clear hD dl HL x0
                generalize bs (48 :: r) = X at *
                go_wp2_with fail
                obtain ⟨D', p', q3, q4, q5, q6⟩ := HN.out
                refine ⟨⟨D', p', q3, q4, q5, by first | exact q6 | exact q6.drew | exact q6.drew.drew⟩, ?_⟩
                show (X.extract 1 (r.length + 1)).size < X.size
                rw [ByteArray.size_extract]; omega
              · obtain ⟨hDe, hpe⟩ := lead_end _ _ _ _ hD (by intro y t h; cases h; exact h48)
                have n48 : ¬ ((bs (x :: r))[0]'(by rw [xs]; omega)).toNat = 48 := by rw [x0]; intro h; exact h48 (UInt8.toNat_inj.1 h)
                have rsz : r.length ≤ 200000 := by simp at dl; omega
                have HZ : Hid (noEnd (nodz (noDot m)) = noEnd (x :: r)) := by show _ = _; rw [← hDe]
                have HV : Hid (p = pnt m - (noDot m).length + (nodz (noDot m)).length) := hpe
                have HT : Hid (Trail (x :: r) (x :: r)) := ⟨rfl, Nat.le_refl _⟩
                have HLN : Hid ((x :: r).length ≤ 200000) := by show _ ≤ _; omega
                clear hD hDe hpe dl HL
                clear x0
                generalize hXX : bs (x :: r) = X at *
                have HXX : Hid (bs (x :: r) = X) := hXX
                clear hXX
                go_wp2_with fail
                go_loopw [6] (fun dv wr => Sp4 w wr (x :: r) dv) (fun dv _ => match dv with | .string X => X.size | _ => 0)
                case atStart => exact ⟨(x :: r), by rw [← HXX.out], HT.out, by first | exact hb3 | exact hb3.drew | exact hb3.drew.drew⟩
                case round =>
                  obtain ⟨E, rfl, hE, hb4⟩ := hrel
                  have el := hE.len
                  have l2 := HLN.out
                  rcases List.eq_nil_or_concat E with e0 | ⟨t, y, e0⟩
                  · subst e0
                    have hEe := trail_end _ _ hE (by intro y t h; simp at h)
                    have HW : Hid (bs [] = bs (noEnd (nodz (noDot m)))) := by show _ = _; rw [HZ.out, ← hEe]
                    have esz : (bs []).size = 0 := rfl
                    clear hE hEe
                    generalize bs [] = Y at *
                    go_wp2_with fail
                    go_ret2
                    refine ⟨?_, by first | exact hb4 | exact hb4.drew | exact hb4.drew.drew⟩
                    exact ret_sp HW.out (by rw [HV.out])
                  · rw [List.concat_eq_append] at e0
                    subst e0
                    have tl : t.length ≤ 200000 := by simp at el <;> omega
                    have ysz : (bs (t ++ [y])).size = t.length + 1 := by rw [bs_size]; simp
                    have yat : ((bs (t ++ [y]))[t.length]'(by rw [ysz]; omega)) = y := by
                      have := bs_at (t ++ [y]) t.length (by rw [ysz]; omega)
                      rw [List.getElem?_append_right (Nat.le_refl _)] at this
                      simpa using this.symm
                    by_cases h48 : y = 48
                    · subst h48
                      have HN : Hid (Sp4 w wr (x :: r) (.string ((bs (t ++ [48])).extract 0 t.length))) := by
                        refine ⟨t, ?_, trail_next _ _ hE, hb4⟩
                        rw [ext_bs]
                        congr 1
                        simp
                      have y48 : ((bs (t ++ [48]))[t.length]'(by rw [ysz]; omega)).toNat = 48 := by rw [yat]; rfl
                      clear hE el yat
                      generalize bs (t ++ [48]) = Y at *
                      go_wp2_with fail
                      obtain ⟨D', q3, q5, q6⟩ := HN.out
                      refine ⟨⟨D', q3, q5, by first | exact q6 | exact q6.drew | exact q6.drew.drew⟩, ?_⟩
                      show (Y.extract 0 t.length).size < Y.size
                      rw [ByteArray.size_extract]; omega
                    · have hEe := trail_end _ _ hE (by intro z t' h; have := List.append_inj' h rfl; simp at this; rw [← this.2]; exact h48)
                      have HW : Hid (bs (t ++ [y]) = bs (noEnd (nodz (noDot m)))) := by show _ = _; rw [HZ.out, ← hEe]
                      have n48 : ¬ ((bs (t ++ [y]))[t.length]'(by rw [ysz]; omega)).toNat = 48 := by rw [yat]; intro h; exact h48 (UInt8.toNat_inj.1 h)
                      clear hE hEe yat
                      generalize bs (t ++ [y]) = Y at *
                      go_wp2_with fail
                      go_ret2
                      refine ⟨?_, by first | exact hb4 | exact hb4.drew | exact hb4.drew.drew⟩
                      exact ret_sp HW.out (by rw [HV.out])

set_option maxHeartbeats 4000000 in
theorem split_exp_pos (m x : List UInt8) (e : Int) (w : World) (hm : ∀ c ∈ m, c ≠ 101) (hl : m.length ≤ 200000) (hx : Lib.atoi x = some e) (hxl : x.length ≤ 18) (he : e.natAbs ≤ 100000) (hp : 0 ≤ pntF 0 (-1) m) :
    Calls Tryz.prog 18 #[.string (bs (m ++ 101 :: x))] w fun e' w' => e' = .returned (.tuple #[.string (bs (noEnd (nodz (noDot m)))), .int .i64 (pnt m - (noDot m).length + (nodz (noDot m)).length + e)]) ∧ Below w.heap.size w w' := by
  obtain ⟨S0, hS0⟩ : ∃ S0, S0 = bs (m ++ 101 :: x) := ⟨_, rfl⟩
  have zS : S0.size = m.length + x.length + 1 := by rw [hS0, bs_size]; simp; omega
  have HZ0 : Hid (S0.size = m.length + x.length + 1) := zS
  have at0 : ∀ k (h : k < S0.size), (m ++ 101 :: x)[k]? = some S0[k] := by subst hS0; exact fun k h => bs_at _ k h
  have ex1 : S0.extract (m.length + 1) S0.size = bs x := by
    rw [hS0, ext_bs, bs_size]
    congr 1
    rw [List.take_of_length_le (by simp; omega), show m ++ 101 :: x = (m ++ [101]) ++ x from by simp, List.drop_append_of_le_length (by simp), List.drop_of_length_le (by simp)]
    simp
  have ex0 : S0.extract 0 m.length = bs m := by
    rw [hS0, ext_bs]
    congr 1
    simp
  have catoi : ∀ w, Calls Tryz.prog 49 #[.string (bs x)] w fun e' w' => e' = .returned (.tuple #[.int .i64 e, .nilIface]) ∧ ∃ t, w' = Lib.bytesWorld w 5 t := fun w => Tryz.strconv_Atoi (bs x) e (by rw [bs_size]; exact hxl) (by rw [show (bs x).data.toList = x from by simp [bs]]; exact hx) w
  obtain ⟨s, hs⟩ : ∃ s, s = bs m := ⟨_, rfl⟩
  have HS : Hid (s.size = m.length) := by show _ = _; rw [hs, bs_size]
  have HE : Hid (∀ a b, s.extract a b = bs ((m.drop a).take (b - a))) := by show ∀ a b, _; intro a b; rw [hs, ext_bs]
  have hat : ∀ k (h : k < s.size), m[k]? = some s[k] := by subst hs; exact fun k h => bs_at m k h
  have HP : Hid (0 ≤ pntF 0 (-1) m) := hp
  have hss : s.size ≤ 200000 := by rw [HS.out]; exact hl
  have HE0 : Hid (bs m = s) := hs.symm
  have HEX1 : Hid (S0.extract (m.length + 1) S0.size = bs x) := ex1
  have HEX0 : Hid (S0.extract 0 m.length = bs m) := ex0
  have hS : S0.size ≤ 200019 := by omega
  have HSS : Hid (bs (m ++ 101 :: x) = S0) := hS0.symm
  rw [← hS0]
  have e0 : -100000 ≤ e := by omega
  have e1 : e ≤ 100000 := by omega
  clear hs hp hS0 zS ex1 ex0 hx hxl he
  go_enter Tryz.func18, Tryz.ntmps18
  go_wp2_with fail
  go_loopw [0, 4, 5] (fun sv ev iv wr => Sp1 w wr m (101 :: x) e sv ev iv) (fun _ _ iv _ => m.length + 2 - (intOf iv).toNat)
  case atStart => exact ⟨Or.inl ⟨0, by omega, rfl, by rw [HSS.out], rfl⟩, Below.refl _ _⟩
  case round =>
    obtain ⟨⟨k, hk, rfl, rfl, rfl⟩ | ⟨hne, rfl, rfl, rfl⟩, HB⟩ := hrel
    · rw [HSS.out]
      have hks : k < S0.size := by rw [HZ0.out]; omega
      have ak := at0 k hks
      rcases Nat.lt_or_ge k m.length with hlt | hge
      · have n101 : ¬ (S0[k]).toNat = 101 := by
          intro e
          rw [List.getElem?_append_left hlt] at ak
          exact hm _ (List.mem_of_getElem? ak) (UInt8.toNat_inj.1 e)
        clear at0 ak hm hat catoi
        go_wp2_with fail
        refine ⟨⟨Or.inl ⟨k + 1, hlt, by congr 1, by rw [HSS.out], rfl⟩, by first | exact HB | exact HB.drew | exact HB.drew.drew⟩, ?_⟩
        first | (simp [intOf]; done) | (simp [intOf]; omega)
      · have hkm : k = m.length := by omega
        subst hkm
        have a101 : (S0[m.length]).toNat = 101 := by
          rw [List.getElem?_append_right (Nat.le_refl _)] at ak
          simp at ak
          rw [← ak]; rfl
        have ex1 := HEX1.out
        have ex0 := HEX0.out
        have zx : (m.length : Int) + 1 ≤ S0.size := by omega
        clear at0 ak hm hat hk hge
        go_wp2_with fail
        refine (catoi _).mono ?_
        rintro e' w1 ⟨rfl, t, rfl⟩
        have hb1 : Below w.heap.size w (Lib.bytesWorld wr 5 t) := HB.trans (below_bytes wr 5 t w.heap.size HB.size)
        generalize Lib.bytesWorld wr 5 t = w1 at *
        go_wp2_with fail
        refine ⟨⟨Or.inr ⟨by simp, rfl, rfl, rfl⟩, by first | exact hb1 | exact hb1.drew | exact hb1.drew.drew⟩, ?_⟩
        first | (simp [intOf]; done) | (simp [intOf]; omega)
    · rw [HE0.out]
      have hks : ((m.length : Nat) : Int) = s.size := by rw [HS.out]
      rw [hks]
      clear hks hm at0 catoi
      go_wp2_with fail
      go_loopw [6, 7, 8] (fun dv pv iv wr => Sp2 w wr m dv pv iv) (fun _ _ iv _ => m.length + 1 - (intOf iv).toNat)
      case atStart => exact ⟨0, [], -1, by omega, rfl, rfl, rfl, ⟨by simp, by simp, by omega, by omega, by simp⟩, HB⟩
      case round =>
        obtain ⟨k, D, p, hk, rfl, rfl, rfl, hD, hb2⟩ := hrel
        have dl := hD.len
        have plo := hD.lo
        have phi := hD.hi
        rcases Nat.lt_or_ge k m.length with hlt | hge
        · have hks : k < s.size := by rw [HS.out]; exact hlt
          have ak := hat k hks
          have dsz : (bs D).size ≤ 200000 := by rw [bs_size]; omega
          by_cases h46 : (s[k]).toNat = 46
          · have e46 : s[k] = 46 := UInt8.toNat_inj.1 h46
            rw [e46] at ak
            have HN : Hid (Sp2 w wr m (.string (bs D)) (.int .i64 ((bs D).size : Nat)) (.int .i64 ((k : Int) + 1))) :=
              ⟨k + 1, D, D.length, hlt, by congr 1, rfl, by rw [bs_size], dots_dot m k D p hD ak, hb2⟩
            clear hD ak hat hk dl plo phi e46
            go_wp2_with fail
            obtain ⟨k', D', p', q1, q2, q3, q4, q5, q6⟩ := HN.out
            refine ⟨⟨k', D', p', q1, q2, q3, q4, q5, by first | exact q6 | exact q6.drew | exact q6.drew.drew⟩, ?_⟩
            first | (simp [intOf]; done) | (simp [intOf]; omega)
          · have n46 : s[k] ≠ 46 := by intro e; rw [e] at h46; exact h46 rfl
            have HN : Hid (Sp2 w wr m (.string (bs D ++ s.extract k (k + 1))) (.int .i64 p) (.int .i64 ((k : Int) + 1))) := by
              refine ⟨k + 1, D ++ [s[k]], p, hlt, by congr 1, ?_, rfl, dots_dig m k D p _ hD ak n46, hb2⟩
              have hx : s.extract k (k + 1) = bs [s[k]] := by
                have := HE.out k (k + 1)
                rw [this, show k + 1 - k = 1 from by omega]
                have hkm : k < m.length := hlt
                rw [List.drop_eq_getElem_cons hkm]
                have e2 := List.getElem?_eq_getElem hkm
                rw [ak] at e2
                rw [← Option.some.inj e2]
                rfl
              rw [hx]
              congr 1
            have xs : (s.extract k (k + 1)).size = 1 := by rw [ByteArray.size_extract]; omega
            clear hD ak hat hk dl n46
            go_wp2_with fail
            obtain ⟨k', D', p', q1, q2, q3, q4, q5, q6⟩ := HN.out
            refine ⟨⟨k', D', p', q1, q2, q3, q4, q5, by first | exact q6 | exact q6.drew | exact q6.drew.drew⟩, ?_⟩
            first | (simp [intOf]; done) | (simp [intOf]; omega)
        · have hkm : k = m.length := by omega
          subst hkm
          obtain ⟨hDe, hpe⟩ := dots_end m D p hD
          have hks : ((m.length : Nat) : Int) = s.size := by rw [HS.out]
          have nl : (noDot m).length ≤ 200000 := by rw [← hDe]; omega
          have nsz : (bs (noDot m)).size = (noDot m).length := bs_size _
          have HQ : Hid (pnt m = pntF 0 (-1) m) := by
            show pnt m = _
            unfold pnt
            rw [if_neg (by have := HP.out; omega)]
          have pv : ¬ pntF 0 (-1) m < 0 := by have := HP.out; omega
          have HL : Hid (Lead (noDot m) (pnt m) (noDot m) (pnt m)) := ⟨rfl, by omega, Nat.le_refl _⟩
          rw [hDe, hpe]
          rw [hpe] at plo phi
          clear hDe hpe hD hat hk dl hge
          generalize hpf : pntF 0 (-1) m = pf at *
          clear hpf
          rw [hks] at phi ⊢
          clear hks
          go_wp2_with fail
          go_loopw [6, 7] (fun dv pv wr => Sp3 w wr (noDot m) (pnt m) dv pv) (fun dv _ _ => match dv with | .string X => X.size | _ => 0)
          case atStart => exact ⟨noDot m, pnt m, rfl, by rw [HQ.out], HL.out, by first | exact hb2 | exact hb2.drew | exact hb2.drew.drew⟩
          case round =>
            obtain ⟨D, p, rfl, rfl, hD, hb3⟩ := hrel
            have dl := hD.len
            have pb : -400000 ≤ p ∧ p ≤ 400000 := by
              have h1 := hD.pt
              have h2 := HQ.out
              omega
            obtain ⟨pb0, pb1⟩ := pb
            cases D with
            | nil =>
              obtain ⟨hDe, hpe⟩ := lead_end _ _ _ _ hD (by intro x r h; cases h)
              have HZ : Hid (noEnd (nodz (noDot m)) = noEnd ([] : List UInt8)) := by show _ = _; rw [← hDe]
              have HV : Hid (p = pnt m - (noDot m).length + (nodz (noDot m)).length) := hpe
              have HT : Hid (Trail ([] : List UInt8) ([] : List UInt8)) := ⟨rfl, Nat.le_refl _⟩
              have HLN : Hid (([] : List UInt8).length ≤ 200000) := by show _ ≤ _; omega
              clear hD hDe hpe dl HL
              have xs0 : (bs []).size = 0 := rfl
              generalize hXX : bs [] = X at *
              have HXX : Hid (bs [] = X) := hXX
              clear hXX
              go_wp2_with fail
              go_loopw [6] (fun dv wr => Sp4 w wr ([] : List UInt8) dv) (fun dv _ => match dv with | .string X => X.size | _ => 0)
              case atStart => exact ⟨([] : List UInt8), by rw [← HXX.out], HT.out, by first | exact hb3 | exact hb3.drew | exact hb3.drew.drew⟩
              case round =>
                obtain ⟨E, rfl, hE, hb4⟩ := hrel
                have el := hE.len
                have l2 := HLN.out
                rcases List.eq_nil_or_concat E with e0 | ⟨t, y, e0⟩
                · subst e0
                  have hEe := trail_end _ _ hE (by intro y t h; simp at h)
                  have HW : Hid (bs [] = bs (noEnd (nodz (noDot m)))) := by show _ = _; rw [HZ.out, ← hEe]
                  have esz : (bs []).size = 0 := rfl
                  clear hE hEe
                  generalize bs [] = Y at *
                  go_wp2_with fail
                  go_ret2
                  refine ⟨?_, by first | exact hb4 | exact hb4.drew | exact hb4.drew.drew⟩
                  exact ret_sp HW.out (by rw [HV.out])
                · rw [List.concat_eq_append] at e0
                  subst e0
                  have tl : t.length ≤ 200000 := by simp at el <;> omega
                  have ysz : (bs (t ++ [y])).size = t.length + 1 := by rw [bs_size]; simp
                  have yat : ((bs (t ++ [y]))[t.length]'(by rw [ysz]; omega)) = y := by
                    have := bs_at (t ++ [y]) t.length (by rw [ysz]; omega)
                    rw [List.getElem?_append_right (Nat.le_refl _)] at this
                    simpa using this.symm
                  by_cases h48 : y = 48
                  · subst h48
                    have HN : Hid (Sp4 w wr ([] : List UInt8) (.string ((bs (t ++ [48])).extract 0 t.length))) := by
                      refine ⟨t, ?_, trail_next _ _ hE, hb4⟩
                      rw [ext_bs]
                      congr 1
                      simp
                    have y48 : ((bs (t ++ [48]))[t.length]'(by rw [ysz]; omega)).toNat = 48 := by rw [yat]; rfl
                    clear hE el yat
                    generalize bs (t ++ [48]) = Y at *
                    go_wp2_with fail
                    obtain ⟨D', q3, q5, q6⟩ := HN.out
                    refine ⟨⟨D', q3, q5, by first | exact q6 | exact q6.drew | exact q6.drew.drew⟩, ?_⟩
                    show (Y.extract 0 t.length).size < Y.size
                    rw [ByteArray.size_extract]; omega
                  · have hEe := trail_end _ _ hE (by intro z t' h; have := List.append_inj' h rfl; simp at this; rw [← this.2]; exact h48)
                    have HW : Hid (bs (t ++ [y]) = bs (noEnd (nodz (noDot m)))) := by show _ = _; rw [HZ.out, ← hEe]
                    have n48 : ¬ ((bs (t ++ [y]))[t.length]'(by rw [ysz]; omega)).toNat = 48 := by rw [yat]; intro h; exact h48 (UInt8.toNat_inj.1 h)
                    clear hE hEe yat
                    generalize bs (t ++ [y]) = Y at *
                    go_wp2_with fail
                    go_ret2
                    refine ⟨?_, by first | exact hb4 | exact hb4.drew | exact hb4.drew.drew⟩
                    exact ret_sp HW.out (by rw [HV.out])
            | cons x r =>
              have xs : (bs (x :: r)).size = r.length + 1 := by rw [bs_size]; rfl
              have x0 : ((bs (x :: r))[0]'(by rw [xs]; omega)) = x := rfl
              by_cases h48 : x = 48
              · subst h48
                have HN : Hid (Sp3 w wr (noDot m) (pnt m) (.string ((bs (48 :: r)).extract 1 (r.length + 1))) (.int .i64 (p - 1))) := by
                  refine ⟨r, p - 1, ?_, rfl, lead_next _ _ _ _ hD, hb3⟩
                  rw [ext_bs]
                  congr 1
                  simp
                have rsz : r.length ≤ 200000 := by simp at dl; omega
                have x48 : ((bs (48 :: r))[0]'(by rw [xs]; omega)).toNat = 48 := rfl
                clear hD dl HL x0
                generalize bs (48 :: r) = X at *
                go_wp2_with fail
                obtain ⟨D', p', q3, q4, q5, q6⟩ := HN.out
                refine ⟨⟨D', p', q3, q4, q5, by first | exact q6 | exact q6.drew | exact q6.drew.drew⟩, ?_⟩
                show (X.extract 1 (r.length + 1)).size < X.size
                rw [ByteArray.size_extract]; omega
              · obtain ⟨hDe, hpe⟩ := lead_end _ _ _ _ hD (by intro y t h; cases h; exact h48)
                have n48 : ¬ ((bs (x :: r))[0]'(by rw [xs]; omega)).toNat = 48 := by rw [x0]; intro h; exact h48 (UInt8.toNat_inj.1 h)
                have rsz : r.length ≤ 200000 := by simp at dl; omega
                have HZ : Hid (noEnd (nodz (noDot m)) = noEnd (x :: r)) := by show _ = _; rw [← hDe]
                have HV : Hid (p = pnt m - (noDot m).length + (nodz (noDot m)).length) := hpe
                have HT : Hid (Trail (x :: r) (x :: r)) := ⟨rfl, Nat.le_refl _⟩
                have HLN : Hid ((x :: r).length ≤ 200000) := by show _ ≤ _; omega
                clear hD hDe hpe dl HL
                clear x0
                generalize hXX : bs (x :: r) = X at *
                have HXX : Hid (bs (x :: r) = X) := hXX
                clear hXX
                go_wp2_with fail
                go_loopw [6] (fun dv wr => Sp4 w wr (x :: r) dv) (fun dv _ => match dv with | .string X => X.size | _ => 0)
                case atStart => exact ⟨(x :: r), by rw [← HXX.out], HT.out, by first | exact hb3 | exact hb3.drew | exact hb3.drew.drew⟩
                case round =>
                  obtain ⟨E, rfl, hE, hb4⟩ := hrel
                  have el := hE.len
                  have l2 := HLN.out
                  rcases List.eq_nil_or_concat E with e0 | ⟨t, y, e0⟩
                  · subst e0
                    have hEe := trail_end _ _ hE (by intro y t h; simp at h)
                    have HW : Hid (bs [] = bs (noEnd (nodz (noDot m)))) := by show _ = _; rw [HZ.out, ← hEe]
                    have esz : (bs []).size = 0 := rfl
                    clear hE hEe
                    generalize bs [] = Y at *
                    go_wp2_with fail
                    go_ret2
                    refine ⟨?_, by first | exact hb4 | exact hb4.drew | exact hb4.drew.drew⟩
                    exact ret_sp HW.out (by rw [HV.out])
                  · rw [List.concat_eq_append] at e0
                    subst e0
                    have tl : t.length ≤ 200000 := by simp at el <;> omega
                    have ysz : (bs (t ++ [y])).size = t.length + 1 := by rw [bs_size]; simp
                    have yat : ((bs (t ++ [y]))[t.length]'(by rw [ysz]; omega)) = y := by
                      have := bs_at (t ++ [y]) t.length (by rw [ysz]; omega)
                      rw [List.getElem?_append_right (Nat.le_refl _)] at this
                      simpa using this.symm
                    by_cases h48 : y = 48
                    · subst h48
                      have HN : Hid (Sp4 w wr (x :: r) (.string ((bs (t ++ [48])).extract 0 t.length))) := by
                        refine ⟨t, ?_, trail_next _ _ hE, hb4⟩
                        rw [ext_bs]
                        congr 1
                        simp
                      have y48 : ((bs (t ++ [48]))[t.length]'(by rw [ysz]; omega)).toNat = 48 := by rw [yat]; rfl
                      clear hE el yat
                      generalize bs (t ++ [48]) = Y at *
                      go_wp2_with fail
                      obtain ⟨D', q3, q5, q6⟩ := HN.out
                      refine ⟨⟨D', q3, q5, by first | exact q6 | exact q6.drew | exact q6.drew.drew⟩, ?_⟩
                      show (Y.extract 0 t.length).size < Y.size
                      rw [ByteArray.size_extract]; omega
                    · have hEe := trail_end _ _ hE (by intro z t' h; have := List.append_inj' h rfl; simp at this; rw [← this.2]; exact h48)
                      have HW : Hid (bs (t ++ [y]) = bs (noEnd (nodz (noDot m)))) := by show _ = _; rw [HZ.out, ← hEe]
                      have n48 : ¬ ((bs (t ++ [y]))[t.length]'(by rw [ysz]; omega)).toNat = 48 := by rw [yat]; intro h; exact h48 (UInt8.toNat_inj.1 h)
                      clear hE hEe yat
                      generalize bs (t ++ [y]) = Y at *
                      go_wp2_with fail
                      go_ret2
                      refine ⟨?_, by first | exact hb4 | exact hb4.drew | exact hb4.drew.drew⟩
                      exact ret_sp HW.out (by rw [HV.out])

/-- SPLIT OF EVERY TEXT OF DIGITS, A POINT, AN EXPONENT -/
theorem splitT_any (T ds : List UInt8) (p : Int) (w : World) (h : Sp T ds p) (hl : T.length ≤ 200000) :
    Calls Tryz.prog 18 #[.string (bs T)] w fun e' w' => e' = .returned (.tuple #[.string (bs ds), .int .i64 p]) ∧ Below w.heap.size w w' := by
  obtain ⟨m, R, e, rfl, hm, hR, rfl, rfl⟩ := h
  have ml : m.length ≤ 200000 := by simp at hl; omega
  rcases hR with ⟨rfl, rfl⟩ | ⟨x, rfl, ha, hxl, he⟩
  · rw [List.append_nil, Int.add_zero]
    rcases Int.lt_or_le (pntF 0 (-1) m) 0 with c | c
    · exact split_plain_neg m w hm ml c
    · exact split_plain_pos m w hm ml c
  · rcases Int.lt_or_le (pntF 0 (-1) m) 0 with c | c
    · exact split_exp_neg m x e w hm ml ha hxl he c
    · exact split_exp_pos m x e w hm ml ha hxl he c

end Go.Proofs.YtpejebohekcfoaaGreatDoor
/- NumtextShort: the walk. -/
namespace Go.Proofs.YtpejebohekcfoaaGreatDoor
open Go.RowKit
set_option linter.unusedVariables false

theorem ret_true {b : Bool} (h : b = true) : Ending.returned (.bool b) = .returned (.bool true) := by rw [h]

set_option maxHeartbeats 2000000 in
theorem short_nan (a : Int) (n : Nat) (w : World)
    (hn : FloatKind.f64.format.order n n = none)
    (c1 : ∀ w1, Below w.heap.size w w1 → Calls Tryz.prog 16 #[.int .u64 a] w1 fun e w' => e = .returned (.float .f64 n) ∧ Below w.heap.size w w')
    (al : ∀ w1, Below w.heap.size w w1 → Calls Tryz.prog 9 #[] w1 fun e w' => e = .returned (.bool true) ∧ Below w.heap.size w w') :
    Calls Tryz.prog 6 #[.int .u64 a] w fun e w' => e = .returned (.bool true) ∧ Below w.heap.size w w' := by
  go_enter Tryz.func6, Tryz.ntmps6
  go_wp2_with fail
  refine (c1 _ (Below.refl _ _)).mono ?_
  rintro e w1 ⟨rfl, hb1⟩
  go_wp2_with fail
  refine (al _ hb1).mono ?_
  rintro e w2 ⟨rfl, hb2⟩
  go_wp2
  go_ret
  exact ⟨rfl, hb2⟩

set_option maxHeartbeats 2000000 in
theorem short_low0 (a : Int) (n : Nat) (w : World)
    (hn : FloatKind.f64.format.order n n = some Ordering.eq)
    (hz : FloatKind.f64.format.order n 0 = some Ordering.lt ∨ FloatKind.f64.format.order n 0 = some Ordering.eq)
    (c1 : ∀ w1, Below w.heap.size w w1 → Calls Tryz.prog 16 #[.int .u64 a] w1 fun e w' => e = .returned (.float .f64 n) ∧ Below w.heap.size w w')
    (al : ∀ w1, Below w.heap.size w w1 → Calls Tryz.prog 9 #[] w1 fun e w' => e = .returned (.bool true) ∧ Below w.heap.size w w') :
    Calls Tryz.prog 6 #[.int .u64 a] w fun e w' => e = .returned (.bool true) ∧ Below w.heap.size w w' := by
  rcases hz with hz | hz
  all_goals (
    go_enter Tryz.func6, Tryz.ntmps6
    go_wp2_with fail
    refine (c1 _ (Below.refl _ _)).mono ?_
    rintro e w1 ⟨rfl, hb1⟩
    go_wp2_with fail
    refine (al _ hb1).mono ?_
    rintro e w2 ⟨rfl, hb2⟩
    go_wp2
    go_ret
    exact ⟨rfl, hb2⟩)

set_option maxHeartbeats 2000000 in
theorem short_inf (a : Int) (n : Nat) (w : World)
    (hn : FloatKind.f64.format.order n n = some Ordering.eq)
    (hz : FloatKind.f64.format.order n 0 = some Ordering.gt)
    (hq : FloatKind.f64.format.order n 9218868437227405311 = some Ordering.gt)
    (c1 : ∀ w1, Below w.heap.size w w1 → Calls Tryz.prog 16 #[.int .u64 a] w1 fun e w' => e = .returned (.float .f64 n) ∧ Below w.heap.size w w')
    (al : ∀ w1, Below w.heap.size w w1 → Calls Tryz.prog 9 #[] w1 fun e w' => e = .returned (.bool true) ∧ Below w.heap.size w w') :
    Calls Tryz.prog 6 #[.int .u64 a] w fun e w' => e = .returned (.bool true) ∧ Below w.heap.size w w' := by
  go_enter Tryz.func6, Tryz.ntmps6
  go_wp2_with fail
  refine (c1 _ (Below.refl _ _)).mono ?_
  rintro e w1 ⟨rfl, hb1⟩
  go_wp2_with fail
  refine (al _ hb1).mono ?_
  rintro e w2 ⟨rfl, hb2⟩
  go_wp2
  go_ret
  exact ⟨rfl, hb2⟩

set_option maxHeartbeats 2000000 in
theorem short_many (a p : Int) (n k : Nat) (S D SH L1 L2 : ByteArray) (r2 : Int) (Q : ByteArray → Prop) (w : World)
    (hn : FloatKind.f64.format.order n n = some Ordering.eq)
    (hz : FloatKind.f64.format.order n 0 = some Ordering.gt)
    (hq : FloatKind.f64.format.order n 9218868437227405311 = some Ordering.lt ∨ FloatKind.f64.format.order n 9218868437227405311 = some Ordering.eq)
    (hD : D.size = k + 1) (hDe : D.toList.isEmpty = false) (hSe : SH.toList.isEmpty = false) (hk : 1 ≤ k) (hk1 : k ≤ 100) (hSH : D.extract 0 k = SH) (hS : SH.size = k) (hp0 : -1000 ≤ p) (hp1 : p ≤ 1000) (hr2 : r2 ≠ a)
    (c1 : ∀ w1, Below w.heap.size w w1 → Calls Tryz.prog 16 #[.int .u64 a] w1 fun e w' => e = .returned (.float .f64 n) ∧ Below w.heap.size w w')
    (c2 : ∀ w1, Below w.heap.size w w1 → Calls Tryz.prog 17 #[.float .f64 n] w1 fun e w' => e = .returned (.int .u64 a) ∧ Below w.heap.size w w')
    (c3 : ∀ w1, Below w.heap.size w w1 → Calls Tryz.prog 10 #[.int .u64 a] w1 fun e w' => e = .returned (.string S) ∧ Below w.heap.size w w')
    (c4 : ∀ w1, Below w.heap.size w w1 → Calls Tryz.prog 18 #[.string S] w1 fun e w' => e = .returned (.tuple #[.string D, .int .i64 p]) ∧ Below w.heap.size w w')
    (c5 : ∀ w1, Below w.heap.size w w1 → Calls Tryz.prog 19 #[.string D, .int .i64 p] w1 fun e w' => e = .returned (.string L1) ∧ Below w.heap.size w w')
    (c6 : ∀ w1, Below w.heap.size w w1 → Calls Tryz.prog 14 #[.string L1] w1 fun e w' => e = .returned (.int .u64 a) ∧ Below w.heap.size w w')
    (c7 : ∀ w1, Below w.heap.size w w1 → Calls Tryz.prog 20 #[.string SH] w1 fun e w' => (∃ M, e = .returned (.string M) ∧ Q M) ∧ Below w.heap.size w w')
    (c8 : ∀ w1, Below w.heap.size w w1 → Calls Tryz.prog 19 #[.string SH, .int .i64 p] w1 fun e w' => e = .returned (.string L2) ∧ Below w.heap.size w w')
    (c9 : ∀ w1, Below w.heap.size w w1 → Calls Tryz.prog 14 #[.string L2] w1 fun e w' => e = .returned (.int .u64 r2) ∧ Below w.heap.size w w')
    (cM : ∀ M, Q M → ∃ (mz : Nat) (L3 : ByteArray) (r3 : Int), M.size = mz ∧ mz ≤ 1000 ∧ r3 ≠ a ∧
      (∀ w1, Below w.heap.size w w1 → Calls Tryz.prog 19 #[.string M, .int .i64 (p + (mz : Int) - (k : Int))] w1 fun e w' => e = .returned (.string L3) ∧ Below w.heap.size w w') ∧
      (∀ w1, Below w.heap.size w w1 → Calls Tryz.prog 14 #[.string L3] w1 fun e w' => e = .returned (.int .u64 r3) ∧ Below w.heap.size w w'))
    (al : ∀ w1, Below w.heap.size w w1 → Calls Tryz.prog 9 #[] w1 fun e w' => e = .returned (.bool true) ∧ Below w.heap.size w w') :
    Calls Tryz.prog 6 #[.int .u64 a] w fun e w' => e = .returned (.bool true) ∧ Below w.heap.size w w' := by
  have hqq : ∃ o, FloatKind.f64.format.order n 9218868437227405311 = some o ∧ (o == Ordering.gt) = false := by
    rcases hq with h | h
    · exact ⟨_, h, rfl⟩
    · exact ⟨_, h, rfl⟩
  obtain ⟨o, ho, hg⟩ := hqq
  clear hq
  have hg' : o ≠ Ordering.gt := by intro h; rw [h] at hg; exact Bool.noConfusion hg
  go_enter Tryz.func6, Tryz.ntmps6
  go_wp2_with fail
  refine (c1 _ (Below.refl _ _)).mono ?_
  rintro e w1 ⟨rfl, hb1⟩
  go_wp2_with fail
  refine (c2 _ hb1).mono ?_
  rintro e w2 ⟨rfl, hb2⟩
  go_wp2_with fail
  refine (c3 _ hb2).mono ?_
  rintro e w3 ⟨rfl, hb3⟩
  go_wp2_with fail
  refine (c4 _ hb3).mono ?_
  rintro e w4 ⟨rfl, hb4⟩
  go_wp2_with fail
  refine (c5 _ hb4).mono ?_
  rintro e w5 ⟨rfl, hb5⟩
  go_wp2_with fail
  refine (c6 _ hb5).mono ?_
  rintro e w6 ⟨rfl, hb6⟩
  go_wp2_with fail
  refine (c7 _ hb6).mono ?_
  rintro e w7 ⟨⟨M, rfl, hQ⟩, hb7⟩
  obtain ⟨mz, L3, r3, hM, hm1, hr3, c10, c11⟩ := cM M hQ
  clear cM hQ
  go_wp2_with fail
  refine (al _ hb7).mono ?_
  rintro e w8 ⟨rfl, hb8⟩
  go_wp2_with fail
  refine (c8 _ hb8).mono ?_
  rintro e w9 ⟨rfl, hb9⟩
  go_wp2_with fail
  refine (c9 _ hb9).mono ?_
  rintro e w10 ⟨rfl, hb10⟩
  go_wp2_with fail
  refine (c10 _ hb10).mono ?_
  rintro e w11 ⟨rfl, hb11⟩
  go_wp2_with fail
  refine (c11 _ hb11).mono ?_
  rintro e w12 ⟨rfl, hb12⟩
  go_wp2_with fail
  go_ret
  exact ⟨ret_true (by simp [hr2, hr3]), hb12⟩

set_option maxHeartbeats 2000000 in
theorem short_one (a p : Int) (n k : Nat) (S D L1 : ByteArray) (Q : ByteArray → Prop) (w : World)
    (hn : FloatKind.f64.format.order n n = some Ordering.eq)
    (hz : FloatKind.f64.format.order n 0 = some Ordering.gt)
    (hq : FloatKind.f64.format.order n 9218868437227405311 = some Ordering.lt ∨ FloatKind.f64.format.order n 9218868437227405311 = some Ordering.eq)
    (hD : D.size = k + 1) (hDe : D.toList.isEmpty = false) (hk : k = 0) (hk1 : k ≤ 100) (hp0 : -1000 ≤ p) (hp1 : p ≤ 1000)
    (c1 : ∀ w1, Below w.heap.size w w1 → Calls Tryz.prog 16 #[.int .u64 a] w1 fun e w' => e = .returned (.float .f64 n) ∧ Below w.heap.size w w')
    (c2 : ∀ w1, Below w.heap.size w w1 → Calls Tryz.prog 17 #[.float .f64 n] w1 fun e w' => e = .returned (.int .u64 a) ∧ Below w.heap.size w w')
    (c3 : ∀ w1, Below w.heap.size w w1 → Calls Tryz.prog 10 #[.int .u64 a] w1 fun e w' => e = .returned (.string S) ∧ Below w.heap.size w w')
    (c4 : ∀ w1, Below w.heap.size w w1 → Calls Tryz.prog 18 #[.string S] w1 fun e w' => e = .returned (.tuple #[.string D, .int .i64 p]) ∧ Below w.heap.size w w')
    (c5 : ∀ w1, Below w.heap.size w w1 → Calls Tryz.prog 19 #[.string D, .int .i64 p] w1 fun e w' => e = .returned (.string L1) ∧ Below w.heap.size w w')
    (c6 : ∀ w1, Below w.heap.size w w1 → Calls Tryz.prog 14 #[.string L1] w1 fun e w' => e = .returned (.int .u64 a) ∧ Below w.heap.size w w')
    (c7 : ∀ w1, Below w.heap.size w w1 → Calls Tryz.prog 20 #[.string ByteArray.empty] w1 fun e w' => (∃ M, e = .returned (.string M) ∧ Q M) ∧ Below w.heap.size w w')
    (cM : ∀ M : ByteArray, Q M → M.size ≤ 1000)
    (al : ∀ w1, Below w.heap.size w w1 → Calls Tryz.prog 9 #[] w1 fun e w' => e = .returned (.bool true) ∧ Below w.heap.size w w') :
    Calls Tryz.prog 6 #[.int .u64 a] w fun e w' => e = .returned (.bool true) ∧ Below w.heap.size w w' := by
  have hqq : ∃ o, FloatKind.f64.format.order n 9218868437227405311 = some o ∧ (o == Ordering.gt) = false := by
    rcases hq with h | h
    · exact ⟨_, h, rfl⟩
    · exact ⟨_, h, rfl⟩
  obtain ⟨o, ho, hg⟩ := hqq
  clear hq
  have hg' : o ≠ Ordering.gt := by intro h; rw [h] at hg; exact Bool.noConfusion hg
  subst hk
  go_enter Tryz.func6, Tryz.ntmps6
  go_wp2_with fail
  refine (c1 _ (Below.refl _ _)).mono ?_
  rintro e w1 ⟨rfl, hb1⟩
  go_wp2_with fail
  refine (c2 _ hb1).mono ?_
  rintro e w2 ⟨rfl, hb2⟩
  go_wp2_with fail
  refine (c3 _ hb2).mono ?_
  rintro e w3 ⟨rfl, hb3⟩
  go_wp2_with fail
  refine (c4 _ hb3).mono ?_
  rintro e w4 ⟨rfl, hb4⟩
  go_wp2_with fail
  refine (c5 _ hb4).mono ?_
  rintro e w5 ⟨rfl, hb5⟩
  go_wp2_with fail
  refine (c6 _ hb5).mono ?_
  rintro e w6 ⟨rfl, hb6⟩
  go_wp2_with fail
  refine (c7 _ hb6).mono ?_
  rintro e w7 ⟨⟨M, rfl, hQ⟩, hb7⟩
  have hM := cM M hQ
  clear cM hQ
  go_wp2_with fail
  refine (al _ hb7).mono ?_
  rintro e w8 ⟨rfl, hb8⟩
  go_wp2_with fail
  go_ret
  exact ⟨rfl, hb8⟩

end Go.Proofs.YtpejebohekcfoaaGreatDoor
/- NumtextShort: all of it. -/
namespace Go.Proofs.YtpejebohekcfoaaGreatDoor
open Go.RowKit
set_option linter.unusedVariables false

theorem laidL_bs (ds : List UInt8) (p : Int) : bs ds ++ ByteArray.mk #[101] ++ bs (Lib.itoa (p - ds.length)) = bs (laidL ds p) := by
  apply ByteArray.ext
  unfold bs laidL
  simp [ByteArray.data_append]

theorem laid_any (ds : List UInt8) (p : Int) (w : World) (ht : Pow10 w) (hl : ds.length ≤ 100) (hp0 : -10000 ≤ p) (hp1 : p ≤ 10000) :
    Calls Tryz.prog 19 #[.string (bs ds), .int .i64 p] w fun e w' => e = .returned (.string (bs (laidL ds p))) ∧ Below w.heap.size w w' := by
  rw [← laidL_bs]
  have l := itoa_len (p - ds.length) (by omega)
  exact laid_walk (bs ds) (bs (Lib.itoa (p - ds.length))) p ds.length (Lib.itoa (p - ds.length)).length w (bs_size _) (by omega) (bs_size _) (by omega) (by omega) (by omega)
    (itoa_after ht (p - ds.length) (by omega) (by omega))

theorem laidL_len (ds : List UInt8) (p : Int) (hl : ds.length ≤ 100) (hp0 : -10000 ≤ p) (hp1 : p ≤ 10000) : (laidL ds p).length ≤ 1000 := by
  have l := itoa_len (p - ds.length) (by omega)
  unfold laidL
  simp; omega

theorem raise_next (D O : List UInt8) (c : Nat) (h : RaisePl D 0 c O) : Next D (if 0 < c then 49 :: O else O) := by
  obtain ⟨h1, h2, h3, h4⟩ := h
  rw [List.drop_zero, Nat.sub_zero] at h4
  rw [Nat.sub_zero] at h2
  rcases Nat.eq_zero_or_pos c with z | cp
  · subst z
    rw [if_neg (by omega)]
    rw [Nat.zero_mul, Nat.add_zero] at h4
    exact ⟨h3, h4, by omega, by omega, by omega⟩
  · have c1 : c = 1 := by omega
    subst c1
    rw [if_pos (by omega)]
    refine ⟨?_, ?_, by simp; omega, by simp; omega, fun _ => ⟨O, rfl⟩⟩
    · intro z hz
      rcases List.mem_cons.1 hz with rfl | hz
      · decide
      · exact h3 z hz
    · rw [decN_cons, h2]
      rw [Nat.one_mul] at h4
      rw [show (49 : UInt8).toNat - 48 = 1 from rfl, Nat.one_mul]
      omega

theorem raised_any (D : List UInt8) (w : World) (ht : Pow10 w) (hd : ∀ z ∈ D, isDig z = true) (hl : D.length ≤ 100) :
    Calls Tryz.prog 20 #[.string (bs D)] w fun e w' => (∃ M, e = .returned (.string M) ∧ ∃ m, M = bs m ∧ Next D m) ∧ Below w.heap.size w w' := by
  refine (raised_walk D w hd (by omega) (fun n hn w1 hb => itoa_after ht n (by omega) (by omega) w1 hb)).mono ?_
  rintro e w' ⟨⟨M, rfl, c, O, hR, rfl⟩, hb⟩
  exact ⟨⟨_, rfl, _, rfl, raise_next D O c hR⟩, hb⟩

theorem in_w {w : World} {f : Nat} {args : Array Value} {Q : Ending → Prop} (ht : Pow10 w) (h : ∀ w1, Pow10 w1 → Calls Tryz.prog f args w1 fun e w' => Q e ∧ Below w1.heap.size w1 w') :
    ∀ w1, Below w.heap.size w w1 → Calls Tryz.prog f args w1 fun e w' => Q e ∧ Below w.heap.size w w' := by
  intro w1 hb
  refine (h w1 (pow10_below ht hb)).mono ?_
  rintro e w' ⟨hq, b⟩
  exact ⟨hq, hb.trans (b.mono hb.size)⟩

theorem bs_full (l : List UInt8) (h : l ≠ []) : (bs l).toList.isEmpty = false := by
  rw [bs_toList]
  cases l with
  | nil => exact absurd rfl h
  | cons _ _ => rfl

/-- a number above 0 -/
theorem short_pos (b : Nat) (h0 : 0 < b) (h1 : b < 9218868437227405312) (n : Nat) (w : World) (ht : Pow10 w)
    (hn : FloatKind.f64.format.order n n = some Ordering.eq) (hz : FloatKind.f64.format.order n 0 = some Ordering.gt)
    (hq : FloatKind.f64.format.order n 9218868437227405311 = some Ordering.lt ∨ FloatKind.f64.format.order n 9218868437227405311 = some Ordering.eq)
    (c1 : ∀ w1, Below w.heap.size w w1 → Calls Tryz.prog 16 #[.int .u64 (b : Int)] w1 fun e w' => e = .returned (.float .f64 n) ∧ Below w.heap.size w w')
    (c2 : ∀ w1, Below w.heap.size w w1 → Calls Tryz.prog 17 #[.float .f64 n] w1 fun e w' => e = .returned (.int .u64 (b : Int)) ∧ Below w.heap.size w w')
    (c3 : ∀ w1, Below w.heap.size w w1 → Calls Tryz.prog 10 #[.int .u64 (b : Int)] w1 fun e w' => e = .returned (.string (bs (printQ (b : Int)))) ∧ Below w.heap.size w w')
    (pl : (printQ (b : Int)).length ≤ 200000)
    (al : ∀ w1, Below w.heap.size w w1 → Calls Tryz.prog 9 #[] w1 fun e w' => e = .returned (.bool true) ∧ Below w.heap.size w w') :
    Calls Tryz.prog 6 #[.int .u64 (b : Int)] w fun e w' => e = .returned (.bool true) ∧ Below w.heap.size w w' := by
  obtain ⟨ds, p, hs, hg⟩ := print_sp b h0 h1
  have dl := hg.len
  have lo := hg.lo
  have hi := hg.hi
  obtain ⟨x, r, hx, hx0⟩ := hg.top
  have hne : ds ≠ [] := by rw [hx]; simp
  have rl : r.length ≤ 17 := by rw [hx] at dl; simp at dl; exact dl
  have c4 : ∀ w1, Below w.heap.size w w1 → Calls Tryz.prog 18 #[.string (bs (printQ (b : Int)))] w1 fun e w' => e = .returned (.tuple #[.string (bs ds), .int .i64 p]) ∧ Below w.heap.size w w' :=
    after (Q := fun e => e = .returned (.tuple #[.string (bs ds), .int .i64 p])) (fun w1 => splitT_any _ ds p w1 hs pl)
  have c5 : ∀ w1, Below w.heap.size w w1 → Calls Tryz.prog 19 #[.string (bs ds), .int .i64 p] w1 fun e w' => e = .returned (.string (bs (laidL ds p))) ∧ Below w.heap.size w w' :=
    in_w (Q := fun e => e = .returned (.string (bs (laidL ds p)))) ht (fun w1 h => laid_any ds p w1 h (by omega) (by omega) (by omega))
  have rd : ∀ (D : List UInt8) (q : Int), D.length ≤ 100 → -10000 ≤ q → q ≤ 10000 → ∀ w1, Below w.heap.size w w1 → Calls Tryz.prog 14 #[.string (bs (laidL D q))] w1 fun e w' => e = .returned (.int .u64 (readI (laidL D q))) ∧ Below w.heap.size w w' := by
    intro D q h1 h2 h3
    have ll := laidL_len D q h1 h2 h3
    exact after (Q := fun e => e = .returned (.int .u64 (readI (laidL D q)))) (fun w1 => read_any (laidL D q) w1 (by omega))
  have c6 := rd ds p (by omega) (by omega) (by omega)
  rw [short_same b ds p hg] at c6
  rcases Nat.lt_or_ge 1 ds.length with h2 | h2
  · -- more digits than one
    have hd2 : ∀ z ∈ ds.dropLast, isDig z = true := fun z hz => hg.dig z (List.dropLast_subset _ hz)
    have el : ds.dropLast.length = ds.length - 1 := List.length_dropLast
    have ne2 : ds.dropLast ≠ [] := by intro h; rw [h] at el; simp at el; omega
    have c7 : ∀ w1, Below w.heap.size w w1 → Calls Tryz.prog 20 #[.string (bs ds.dropLast)] w1 fun e w' => (∃ M, e = .returned (.string M) ∧ ∃ m, M = bs m ∧ Next ds.dropLast m) ∧ Below w.heap.size w w' :=
      in_w (Q := fun e => ∃ M, e = .returned (.string M) ∧ ∃ m, M = bs m ∧ Next ds.dropLast m) ht (fun w1 h => raised_any ds.dropLast w1 h hd2 (by omega))
    have c8 : ∀ w1, Below w.heap.size w w1 → Calls Tryz.prog 19 #[.string (bs ds.dropLast), .int .i64 p] w1 fun e w' => e = .returned (.string (bs (laidL ds.dropLast p))) ∧ Below w.heap.size w w' :=
      in_w (Q := fun e => e = .returned (.string (bs (laidL ds.dropLast p)))) ht (fun w1 h => laid_any ds.dropLast p w1 h (by omega) (by omega) (by omega))
    have c9 := rd ds.dropLast p (by omega) (by omega) (by omega)
    refine short_many (b : Int) p n (ds.length - 1) (bs (printQ (b : Int))) (bs ds) (bs ds.dropLast) (bs (laidL ds p)) (bs (laidL ds.dropLast p)) (readI (laidL ds.dropLast p)) (fun M => ∃ m, M = bs m ∧ Next ds.dropLast m) w hn hz hq
      (by rw [bs_size]; omega) (bs_full ds hne) (bs_full _ ne2) (by omega) (by omega) ?_ (by rw [bs_size, el]) (by omega) (by omega) (short_low b h0 h1 ds p hg h2) c1 c2 c3 c4 c5 c6 c7 c8 c9 ?_ al
    · rw [ext_bs, List.drop_zero, Nat.sub_zero, ← List.dropLast_eq_take]
    · rintro M ⟨m, rfl, hM⟩
      have mh := hM.hi
      have e : ((m.length : Nat) : Int) - ((ds.length - 1 : Nat) : Int) = (m.length : Int) - (ds.dropLast.length : Int) := by rw [el]
      have e2 : p + ((m.length : Nat) : Int) - ((ds.length - 1 : Nat) : Int) = p + (m.length : Int) - (ds.dropLast.length : Int) := by rw [el]
      refine ⟨m.length, bs (laidL m (p + (m.length : Int) - (ds.dropLast.length : Int))), readI (laidL m (p + (m.length : Int) - (ds.dropLast.length : Int))), bs_size _, by omega, short_up b h0 h1 ds m p hg h2 hM, ?_, rd _ _ (by omega) (by omega) (by omega)⟩
      rw [e2]
      exact in_w (Q := fun e => e = .returned (.string (bs (laidL m (p + (m.length : Int) - (ds.dropLast.length : Int)))))) ht (fun w1 h => laid_any m _ w1 h (by omega) (by omega) (by omega))
  · -- one digit
    have l1 : ds.length = 1 := by
      have : 0 < ds.length := List.length_pos_iff.2 hne
      omega
    have be : bs [] = ByteArray.empty := rfl
    have c7 : ∀ w1, Below w.heap.size w w1 → Calls Tryz.prog 20 #[.string ByteArray.empty] w1 fun e w' => (∃ M, e = .returned (.string M) ∧ ∃ m, M = bs m ∧ Next [] m) ∧ Below w.heap.size w w' := by
      rw [← be]
      exact in_w (Q := fun e => ∃ M, e = .returned (.string M) ∧ ∃ m, M = bs m ∧ Next [] m) ht (fun w1 h => raised_any [] w1 h (by simp) (by simp))
    refine short_one (b : Int) p n 0 (bs (printQ (b : Int))) (bs ds) (bs (laidL ds p)) (fun M => ∃ m, M = bs m ∧ Next [] m) w hn hz hq
      (by rw [bs_size]; omega) (bs_full ds hne) rfl (by omega) (by omega) (by omega) c1 c2 c3 c4 c5 c6 c7 ?_ al
    rintro M ⟨m, rfl, hM⟩
    have := hM.hi
    rw [bs_size]
    simp at this
    omega

end Go.Proofs.YtpejebohekcfoaaGreatDoor
/- NumtextShort: of every word. -/
namespace Go.Proofs.YtpejebohekcfoaaGreatDoor
open Go.RowKit
set_option linter.unusedVariables false

theorem short_walk (a : Int) (h0 : 0 ≤ a) (h1 : a < 18446744073709551616) (w : World) (ht : Pow10 w) :
    Calls Tryz.prog 6 #[.int .u64 a] w fun e w' => e = .returned (.bool true) ∧ Below w.heap.size w w' := by
  have c1 : ∀ w1, Below w.heap.size w w1 → Calls Tryz.prog 16 #[.int .u64 a] w1 fun e w' => e = .returned (.float .f64 a.toNat) ∧ Below w.heap.size w w' := fun w1 hb => (val_any a w1).mono (by rintro e w' ⟨rfl, rfl⟩; exact ⟨rfl, hb⟩)
  have c2 : ∀ w1, Below w.heap.size w w1 → Calls Tryz.prog 17 #[.float .f64 a.toNat] w1 fun e w' => e = .returned (.int .u64 (if kindI a = 3 then 9221120237041090560 else a)) ∧ Below w.heap.size w w' := fun w1 hb => (of_any a w1 h0 h1).mono (by rintro e w' ⟨rfl, rfl⟩; exact ⟨rfl, hb⟩)
  have c3 : ∀ w1, Below w.heap.size w w1 → Calls Tryz.prog 10 #[.int .u64 a] w1 fun e w' => e = .returned (.string (bs (printI a))) ∧ Below w.heap.size w w' := fun w1 hb => (print_any a h0 h1 w1 (pow10_below ht hb)).mono (by rintro e w' ⟨rfl, b⟩; exact ⟨rfl, hb.trans (b.mono hb.size)⟩)
  have pl := printI_len a h0 h1
  have al := after (w := w) (Q := fun e => e = .returned (.bool true)) (fun w1 => alive_any w1)
  have z0 : rankI 0 = 0 := by decide +kernel
  have k0 : kindI 0 ≠ 3 := by decide +kernel
  have zt : (0 : Int).toNat = 0 := rfl
  have mt : (9218868437227405311 : Int).toNat = 9218868437227405311 := rfl
  by_cases k3 : kindI a = 3
  · have o := order_nan a a h0 h1 h0 h1 (Or.inl k3)
    exact short_nan a a.toNat w o c1 al
  · rw [if_neg k3] at c2
    have on : FloatKind.f64.format.order a.toNat a.toNat = some Ordering.eq := by
      have o := order_eq a a h0 h1 h0 h1 k3 k3
      rw [cmp_eq' _ _ rfl] at o
      exact o
    have o := order_eq a 0 h0 h1 (by omega) (by omega) k3 k0
    rw [zt, z0] at o
    have kf := kind_fld a h0 h1
    rcases Int.lt_trichotomy (rankI a) 0 with c | c | c
    · rw [cmp_lt' _ _ c] at o
      exact short_low0 a a.toNat w on (Or.inl o) c1 al
    · rw [cmp_eq' _ _ c] at o
      exact short_low0 a a.toNat w on (Or.inr o) c1 al
    · rw [cmp_gt' _ _ c] at o
      have av : 0 < a ∧ a < 9223372036854775808 := by unfold rankI at c; split at c <;> omega
      have ra : rankI a = a := by unfold rankI; rw [if_pos (by omega)]
      by_cases ai : a = 9218868437227405312
      · subst ai
        exact short_inf _ _ w on o (by decide +kernel) c1 al
      · have k2 : kindI a < 2 := by
          have kc := kind_cases a
          have nk : ¬ kindI a = 2 := by
            intro e
            rcases kf.2.1.1 e with r | r <;> omega
          omega
        have rr := kf.1.1 k2
        obtain ⟨b, rfl⟩ : ∃ b : Nat, a = b := ⟨a.toNat, by omega⟩
        have l0 : lessI (b : Int) 0 = false := by
          unfold lessI
          rw [z0, decide_eq_false (by omega)]
          simp
        have p : printI (b : Int) = printQ (b : Int) := by
          unfold printI
          rw [if_neg (by rw [l0]; simp)]
        rw [p] at c3 pl
        have km : kindI 9218868437227405311 ≠ 3 := by decide +kernel
        have rm : rankI 9218868437227405311 = 9218868437227405311 := by decide +kernel
        have o2 := order_eq (b : Int) 9218868437227405311 h0 h1 (by omega) (by omega) k3 km
        rw [mt, rm, ra] at o2
        refine short_pos b (by omega) (by omega) _ w ht on o ?_ c1 c2 c3 pl al
        rcases Int.lt_or_eq_of_le (show (b : Int) ≤ 9218868437227405311 by omega) with g | g
        · rw [cmp_lt' _ _ g] at o2; exact Or.inl o2
        · rw [cmp_eq' _ _ g] at o2; exact Or.inr o2

end Go.Proofs.YtpejebohekcfoaaGreatDoor
namespace Go.Proofs.YtpejebohekcfoaaGreatDoor.numtextShort
open Go.ChangeShapes Go.WideShapes Go.ChangeAt Go.RowKit
set_option linter.unusedVariables false

theorem own : ownKnob Tryz.prog.godebug = none := by kernel_rfl

/-- the table of powers of ten, out of the row's condition -/
theorem pow10_of {W : World} (h : laidMetH Tryz.prog Rows.numtextShortRow.laid W) : Pow10 W := by
  rw [MakeChecks.laidMetH_plain _ _ _ (by kernel_rfl)] at h
  obtain ⟨ps, ⟨g0, t0, cs0, f0, p0, q0, hg0, ht0, hv0, hd0, ⟨g1, t1, cs1, f1, p1, q1, hg1, ht1, hv1, hd1, ⟨g2, t2, cs2, f2, p2, q2, hg2, ht2, hv2, hd2, _, _⟩, _⟩, _⟩, _⟩ := h
  obtain rfl := Option.some.inj ((show Tryz.prog.globalNamed "internal/strconv.uint64pow10" = some 1 by kernel_rfl).symm.trans hg2)
  obtain rfl := Option.some.inj ((show (Tryz.prog.globals[1]?).map (·.type) = some 157 by kernel_rfl).symm.trans ht2)
  show Lib.TabIs Tryz.prog W "internal/strconv.uint64pow10" .u64 Lib.pow10Tab
  unfold Lib.TabIs
  rw [hv2, ← Lib.cells_of_tab (zs := Lib.pow10Tab) Tryz.underlying157 Tryz.underlying22 (by kernel_rfl) (by kernel_rfl) hd2]

theorem walk (a0 : Int) (w0 : (Lit.int .u64 a0).wf = true) (w : World) (ht : Pow10 w) :
    Calls Tryz.prog 6 #[.int .u64 a0] w fun e w' => e = .returned (.bool true) ∧ Below w.heap.size w w' := by
  have b0 := bounds_u64 w0
  exact short_walk a0 b0.1 (by omega) w ht

set_option maxRecDepth 100000 in
theorem lifted (os : Os) (started : os.Started) (H : Type) (enc : TypeId × Value → H) :
    ReturnsInHanded {} Tryz.checked os 6 .any (fun w args => (Rows.numtextShortSpec.pre enc Tryz.prog Tryz.f6 Rows.numtextShortRow.domain false w args ∧ laidMetH Tryz.prog Rows.numtextShortRow.laid w) ∧ sizedMet enc Tryz.prog Tryz.f6 (OpenSpec.ofChange Rows.numtextShortSpec) false w args)
      (Rows.numtextShortSpec.post enc Tryz.prog Tryz.f6 false true false false) := by
  refine returnsInHanded_of_change_and (C := Tryz.checked) (X := fun w _ => laidMetH Tryz.prog Rows.numtextShortRow.laid w) (fun _ _ _ hh h => h.of_heap hh) own started (by kernel_rfl) Tryz.func6
    (ChangeSpec.witness_shaped (enc := enc) (C := Tryz.checked) (os := os) (X := fun w _ => laidMetH Tryz.prog Rows.numtextShortRow.laid w) false (World.laidAll Tryz.prog os Rows.numtextShortRow.laid) #[.int .u64 0] 8 (World.laidAll_os _ _ _)
      (World.shaped_of_ZipB (by kernel_rfl) (by kernel_rfl)) (by kernel_rfl) (by kernel_rfl) (by kernel_rfl)
      (by rw [MakeChecks.laidMetH_plain _ _ _ (by kernel_rfl)]; exact laidMet_laidAll _ (by kernel_rfl) (by kernel_rfl))) ?_
  intro W base args ds gs before hval0 hW hc _ hL _
  have hval : ∀ (j : Nat) t v, Tryz.f6.params[j]? = some t → args[j]? = some v → Value.okWide Tryz.prog W .any base t v := hval0
  have hW' := hW
  obtain ⟨p, q, hA0, hV, rfl, hfz, hnd⟩ := hW
  have hA : DataW.TrodAll enc Tryz.prog W 0 (fun _ => true) true Tryz.f6.params.toList args.toList ds p := hA0
  rw [Tryz.params6] at hA hval
  obtain ⟨v0, vs0, d0, ds0, p0, q0, hargs, rfl, rfl, h0, r0⟩ := trodAll_cons hA
  obtain ⟨rfl, rfl, rfl⟩ := trodAll_nil r0
  obtain rfl : args = #[v0] := by cases args; simp_all
  obtain ⟨rfl, rfl⟩ := trodVars_none hV
  obtain ⟨a0, rfl, rfl, rfl, w0⟩ := open_int Tryz.underlying22 (hval 0 22 v0 rfl rfl) h0
  clear hA0 hval0
  simp only [List.append_nil] at hW'
  refine (walk a0 w0 W (pow10_of hL)).mono fun e W' ⟨he, bel⟩ => ?_
  subst he
  exact ⟨_, rfl, _, _, _, [], [], [], hW', trodAll_mk1 (shut_bool Tryz.underlying4 _), (trodAll_cons_mk (shut_int Tryz.underlying22 w0) trodAll_mk0), rfl, bel.frame _, fun h => by cases h⟩

theorem holds : Rows.NumtextShortSaid :=
  OpenClaim.holds_of_wide 6 Tryz.f6 rfl rfl rfl rfl rfl rfl rfl ⟨rfl, rfl, rfl, rfl, rfl⟩ rfl rfl rfl rfl rfl (by kernel_rfl) Tryz.func6 (by kernel_rfl)
    (of_decide_eq_true (by kernel_rfl)) (by unfold Func.isWrapper; first | (rw [if_pos (by decide +kernel)]; kernel_rfl) | (rw [if_neg (by decide +kernel)]; exact ⟨rfl, rfl⟩))
    (fun os started H enc _ => lifted os started H enc)

end Go.Proofs.YtpejebohekcfoaaGreatDoor.numtextShort
namespace Go.Proofs.YtpejebohekcfoaaGreatDoor

/-- THE TIED CARD: no fewer digits than a number's text has are read as that number. -/
theorem numtextShort_holds : Rows.NumtextShortCardSaid :=
  Claim7.holds_tied_plain_at .later [] [.data, .data, .data, .data, .sentinel, .sentinel, .pinned] true (true, "e4cf7513d61566c0801be9b83f472623bea16ca537fac71333b6bf3760e030dd") true numtextShort.holds (fun _ h => by cases h) (by kernel_rfl) (fun _ h => by cases h) numtextShort_row_tie rfl ⟨rfl, rfl⟩ (by kernel_rfl) rfl
    (fun f fn hf hfn => by
      obtain rfl : f = 6 := Option.some.inj ((show Tryz.prog.funcNamed "brazier/brazierlaw02.NumtextShort" = some 6 by kernel_rfl).symm.trans hf) |>.symm
      obtain rfl : fn = Tryz.f6 := (Option.some.inj (Tryz.func6.symm.trans hfn)).symm
      exact ⟨by kernel_rfl, fun j t ht => by
        rw [Tryz.params6] at ht
        have hm : t ∈ [22] := by simpa using Array.mem_of_getElem? ht
        have hall : ([22].all fun u => !Tryz.prog.wantsStandIn u) = true := by kernel_rfl
        exact (show Tryz.prog.wantsStandIn t = false by simpa using List.all_eq_true.1 hall t hm)⟩)
    (by kernel_rfl)
#print axioms numtextShort_holds
end Go.Proofs.YtpejebohekcfoaaGreatDoor

import PyProof.Rows.All
import Wide.All
import OpenK.AllK
import Wide.FinOn
import HandS.ForMost
import HandS.RaiseMore
import HandS.Defaults
import HandS.Wide
import HandS.Codes
import HandS.More
import HandS.Style
import HandS.CallLocal
import KE.KBits
import KE.BitLaws
import PySem.Challenge.RW_replaytravel_k03_whole_signs_hold_togeth
set_option Elab.async false
set_option maxRecDepth 100000
set_option maxHeartbeats 4000000
namespace Kw
open PySem L2
/-! The text by places. -/
def top (i : Nat) : Stmt := PySem.Challenge.pw_replaytravel_k03_whole_signs_hold_togeth.main.body.getD i (.Pass ⟨0, 0, 0, 0⟩)
abbrev s_brought : Stmt := top 1
abbrev N_brought : List Str := ["n"]
theorem sc_brought : FnScope N_brought ["n"] (defScope s_brought) := ⟨rfl, rfl, rfl, by decide +kernel, rfl, by decide +kernel, by decide +kernel⟩
abbrev s_plus : Stmt := top 2
abbrev N_plus : List Str := ["one", "other"]
theorem sc_plus : FnScope N_plus ["one", "other"] (defScope s_plus) := ⟨rfl, rfl, rfl, by decide +kernel, rfl, by decide +kernel, by decide +kernel⟩
abbrev s_minus : Stmt := top 3
abbrev N_minus : List Str := ["one", "other"]
theorem sc_minus : FnScope N_minus ["one", "other"] (defScope s_minus) := ⟨rfl, rfl, rfl, by decide +kernel, rfl, by decide +kernel, by decide +kernel⟩
abbrev s_times : Stmt := top 4
abbrev N_times : List Str := ["one", "other"]
theorem sc_times : FnScope N_times ["one", "other"] (defScope s_times) := ⟨rfl, rfl, rfl, by decide +kernel, rfl, by decide +kernel, by decide +kernel⟩
abbrev s_quotient : Stmt := top 5
abbrev N_quotient : List Str := ["one", "other"]
theorem sc_quotient : FnScope N_quotient ["one", "other"] (defScope s_quotient) := ⟨rfl, rfl, rfl, by decide +kernel, rfl, by decide +kernel, by decide +kernel⟩
abbrev s_rest : Stmt := top 6
abbrev N_rest : List Str := ["one", "other"]
theorem sc_rest : FnScope N_rest ["one", "other"] (defScope s_rest) := ⟨rfl, rfl, rfl, by decide +kernel, rfl, by decide +kernel, by decide +kernel⟩
abbrev s_isless : Stmt := top 7
abbrev N_isless : List Str := ["one", "other"]
theorem sc_isless : FnScope N_isless ["one", "other"] (defScope s_isless) := ⟨rfl, rfl, rfl, by decide +kernel, rfl, by decide +kernel, by decide +kernel⟩
abbrev s_issame : Stmt := top 8
abbrev N_issame : List Str := ["one", "other"]
theorem sc_issame : FnScope N_issame ["one", "other"] (defScope s_issame) := ⟨rfl, rfl, rfl, by decide +kernel, rfl, by decide +kernel, by decide +kernel⟩
abbrev s_bitsofboth : Stmt := top 9
abbrev N_bitsofboth : List Str := ["one", "other"]
theorem sc_bitsofboth : FnScope N_bitsofboth ["one", "other"] (defScope s_bitsofboth) := ⟨rfl, rfl, rfl, by decide +kernel, rfl, by decide +kernel, by decide +kernel⟩
abbrev s_bitsofone : Stmt := top 10
abbrev N_bitsofone : List Str := ["one", "other"]
theorem sc_bitsofone : FnScope N_bitsofone ["one", "other"] (defScope s_bitsofone) := ⟨rfl, rfl, rfl, by decide +kernel, rfl, by decide +kernel, by decide +kernel⟩
abbrev s_toldby : Stmt := top 12
abbrev N_toldby : List Str := ["sign", "one", "other", "action"]
theorem sc_toldby : FnScope N_toldby ["sign", "one", "other"] (defScope s_toldby) := ⟨rfl, rfl, rfl, by decide +kernel, rfl, by decide +kernel, by decide +kernel⟩
abbrev s_lfeed : Stmt := top 14
abbrev N_lfeed : List Str := ["_law_script"]
theorem sc_lfeed : FnScope N_lfeed ["_law_script"] (defScope s_lfeed) := ⟨rfl, rfl, rfl, by decide +kernel, rfl, by decide +kernel, by decide +kernel⟩
abbrev s_ldraw : Stmt := top 15
abbrev N_ldraw : List Str := ["_law_feed_here", "_law_many", "_law_got", "_law_at", "_law_cell", "_law_number"]
theorem sc_ldraw : FnScope N_ldraw ["_law_feed_here", "_law_many"] (defScope s_ldraw) := ⟨rfl, rfl, rfl, by decide +kernel, rfl, by decide +kernel, by decide +kernel⟩
abbrev s_lworth : Stmt := top 16
abbrev N_lworth : List Str := ["_law_feed_here", "_law_way"]
theorem sc_lworth : FnScope N_lworth ["_law_feed_here"] (defScope s_lworth) := ⟨rfl, rfl, rfl, by decide +kernel, rfl, by decide +kernel, by decide +kernel⟩
abbrev s_lsums : Stmt := top 17
abbrev N_lsums : List Str := ["_law_a", "_law_b", "_law_c", "_law_sign", "_law_one"]
theorem sc_lsums : FnScope N_lsums ["_law_a", "_law_b", "_law_c"] (defScope s_lsums) := ⟨rfl, rfl, rfl, by decide +kernel, rfl, by decide +kernel, by decide +kernel⟩
abbrev s_lquots : Stmt := top 18
abbrev N_lquots : List Str := ["_law_a", "_law_b", "_law_quotient", "_law_rest"]
theorem sc_lquots : FnScope N_lquots ["_law_a", "_law_b"] (defScope s_lquots) := ⟨rfl, rfl, rfl, by decide +kernel, rfl, by decide +kernel, by decide +kernel⟩
abbrev s_lbits : Stmt := top 19
abbrev N_lbits : List Str := ["_law_a", "_law_b", "_law_both", "_law_unlike"]
theorem sc_lbits : FnScope N_lbits ["_law_a", "_law_b"] (defScope s_lbits) := ⟨rfl, rfl, rfl, by decide +kernel, rfl, by decide +kernel, by decide +kernel⟩
abbrev s_law : Stmt := top 20
abbrev N_law : List Str := ["_law_script", "_law_feed_here", "_law_k", "_law_a", "_law_b", "_law_c"]
theorem sc_law : FnScope N_law ["_law_script"] (defScope s_law) := ⟨rfl, rfl, rfl, by decide +kernel, rfl, by decide +kernel, by decide +kernel⟩
structure Txt (K : PySem.W.Frag) (w : World) (mg : Str → Option Value) (f : Nat → Addr) (fd : Nat → FuncData) (ob : Nat → Addr) : Prop where
  F_brought : Fun K "brought" "brought" s_brought (f 0) (fd 0)
  m_brought : mg "brought" = some (.ref (f 0))
  b_brought : Binds K (fd 0) ["n"] []
  F_plus : Fun K "plus" "plus" s_plus (f 1) (fd 1)
  m_plus : mg "plus" = some (.ref (f 1))
  b_plus : Binds K (fd 1) ["one", "other"] []
  F_minus : Fun K "minus" "minus" s_minus (f 2) (fd 2)
  m_minus : mg "minus" = some (.ref (f 2))
  b_minus : Binds K (fd 2) ["one", "other"] []
  F_times : Fun K "times" "times" s_times (f 3) (fd 3)
  m_times : mg "times" = some (.ref (f 3))
  b_times : Binds K (fd 3) ["one", "other"] []
  F_quotient : Fun K "quotient" "quotient" s_quotient (f 4) (fd 4)
  m_quotient : mg "quotient" = some (.ref (f 4))
  b_quotient : Binds K (fd 4) ["one", "other"] []
  F_rest : Fun K "rest" "rest" s_rest (f 5) (fd 5)
  m_rest : mg "rest" = some (.ref (f 5))
  b_rest : Binds K (fd 5) ["one", "other"] []
  F_isless : Fun K "is_less" "is_less" s_isless (f 6) (fd 6)
  m_isless : mg "is_less" = some (.ref (f 6))
  b_isless : Binds K (fd 6) ["one", "other"] []
  F_issame : Fun K "is_same" "is_same" s_issame (f 7) (fd 7)
  m_issame : mg "is_same" = some (.ref (f 7))
  b_issame : Binds K (fd 7) ["one", "other"] []
  F_bitsofboth : Fun K "bits_of_both" "bits_of_both" s_bitsofboth (f 8) (fd 8)
  m_bitsofboth : mg "bits_of_both" = some (.ref (f 8))
  b_bitsofboth : Binds K (fd 8) ["one", "other"] []
  F_bitsofone : Fun K "bits_of_one" "bits_of_one" s_bitsofone (f 9) (fd 9)
  m_bitsofone : mg "bits_of_one" = some (.ref (f 9))
  b_bitsofone : Binds K (fd 9) ["one", "other"] []
  F_toldby : Fun K "told_by" "told_by" s_toldby (f 10) (fd 10)
  m_toldby : mg "told_by" = some (.ref (f 10))
  b_toldby : Binds K (fd 10) ["sign", "one", "other"] []
  F_lfeed : Fun K "_law_feed" "_law_feed" s_lfeed (f 11) (fd 11)
  m_lfeed : mg "_law_feed" = some (.ref (f 11))
  b_lfeed : Binds K (fd 11) ["_law_script"] []
  F_ldraw : Fun K "_law_draw" "_law_draw" s_ldraw (f 12) (fd 12)
  m_ldraw : mg "_law_draw" = some (.ref (f 12))
  b_ldraw : Binds K (fd 12) ["_law_feed_here", "_law_many"] []
  F_lworth : Fun K "_law_worth" "_law_worth" s_lworth (f 13) (fd 13)
  m_lworth : mg "_law_worth" = some (.ref (f 13))
  b_lworth : Binds K (fd 13) ["_law_feed_here"] []
  F_lsums : Fun K "_law_sums_right" "_law_sums_right" s_lsums (f 14) (fd 14)
  m_lsums : mg "_law_sums_right" = some (.ref (f 14))
  b_lsums : Binds K (fd 14) ["_law_a", "_law_b", "_law_c"] []
  F_lquots : Fun K "_law_quotients_right" "_law_quotients_right" s_lquots (f 15) (fd 15)
  m_lquots : mg "_law_quotients_right" = some (.ref (f 15))
  b_lquots : Binds K (fd 15) ["_law_a", "_law_b"] []
  F_lbits : Fun K "_law_bits_right" "_law_bits_right" s_lbits (f 16) (fd 16)
  m_lbits : mg "_law_bits_right" = some (.ref (f 16))
  b_lbits : Binds K (fd 16) ["_law_a", "_law_b"] []
  F_law : Fun K "law" "law" s_law (f 17) (fd 17)
  m_law : mg "law" = some (.ref (f 17))
  b_law : Binds K (fd 17) ["_law_script"] []
  m_SIGNS : mg "SIGNS" = some (.ref (ob 0))
  t_SIGNS_0 : KDct K w (ob 0) "+" (.ref (f 1))
  t_SIGNS_1 : KDct K w (ob 0) "-" (.ref (f 2))
  t_SIGNS_2 : KDct K w (ob 0) "*" (.ref (f 3))
  t_SIGNS_3 : KDct K w (ob 0) "/" (.ref (f 4))
  t_SIGNS_4 : KDct K w (ob 0) "#" (.ref (f 5))
  t_SIGNS_5 : KDct K w (ob 0) "<" (.ref (f 6))
  t_SIGNS_6 : KDct K w (ob 0) "=" (.ref (f 7))
  t_SIGNS_7 : KDct K w (ob 0) "&" (.ref (f 8))
  t_SIGNS_8 : KDct K w (ob 0) "^" (.ref (f 9))
  z_abs : mg "abs" = none
  z_len : mg "len" = none
  z_list : mg "list" = none
  z_range : mg "range" = none
/-! Frames: all that was tracked but p stands as it stood. -/
def Kp (p : Addr) (H H' : Hp) : Prop := ∀ b o, b ≠ p → H b = some o → H' b = some o
theorem Kp.refl (p : Addr) (H : Hp) : Kp p H H := fun _ _ _ h => h
theorem Kp.trans {p : Addr} {H H1 H2 : Hp} (a : Kp p H H1) (b : Kp p H1 H2) : Kp p H H2 := fun x o n h => b x o n (a x o n h)
theorem Kp.upd {p : Addr} {H : Hp} (o : HO) : Kp p H (upd H p o) := fun b u n h => by
  rw [upd_ne n]
  exact h
theorem Kp.new {p q : Addr} {H : Hp} {o : HO} (h : H q = none) : Kp p H (L2.upd H q o) := fun b u _ e => by
  rw [upd_ne (ne_of_none e h)]
  exact e
theorem Kp.mut {p q : Addr} {H H' : Hp} {o : HO} (k : Kp p H H') (h : H q = none) : Kp p H (L2.upd H' q o) := fun b u n e => by
  rw [upd_ne (ne_of_none e h)]
  exact k b u n e
theorem Same.kp {p : Addr} {H H' : Hp} (s : Same H H') : Kp p H H' := fun b o _ h => s b o h
theorem Same.new {q : Addr} {H : Hp} {o : HO} (h : H q = none) : Same H (L2.upd H q o) := fun b u e => by
  rw [upd_ne (ne_of_none e h)]
  exact e
theorem Same.mut {q : Addr} {H H' : Hp} {o : HO} (k : Same H H') (h : H q = none) : Same H (L2.upd H' q o) := fun b u e => by
  rw [upd_ne (ne_of_none e h)]
  exact k b u e
/-- free behind a frame is free ahead of it, but for p -/
theorem Kp.free {p q : Addr} {H H' : Hp} (k : Kp p H H') (hq : q ≠ p) (h : H' q = none) : H q = none := by
  cases e : H q with
  | none => rfl
  | some o =>
    rw [k q o hq e] at h
    cases h
/-! What holds of the feed: a list of the cells, how many were begun, what is left. -/
def Pen (H : Hp) (p c : Addr) (ns : List Int) (n : Int) : Prop :=
  ∃ r : Int, H p = some (.lst [.ref c, .int n, .int r]) ∧ H c = some (.lst (ns.map V.int)) ∧ 0 ≤ n ∧ 0 ≤ r
theorem Pen.ne {H : Hp} {p c : Addr} {ns : List Int} {n : Int} (h : Pen H p c ns n) : c ≠ p := by
  obtain ⟨r, h1, h2, _⟩ := h
  refine ne_of h2 h1 fun e => ?_
  cases ns with
  | nil => cases e
  | cons a l => cases e
theorem Pen.nn {H : Hp} {p c : Addr} {ns : List Int} {n : Int} (h : Pen H p c ns n) : 0 ≤ n := by
  obtain ⟨r, _, _, h, _⟩ := h
  exact h
theorem Pen.new {H : Hp} {p c q : Addr} {ns : List Int} {n : Int} {o : HO} (h : Pen H p c ns n) (hq : H q = none) : Pen (upd H q o) p c ns n := by
  obtain ⟨r, h1, h2, h3, h4⟩ := h
  exact ⟨r, (upd_ne (ne_of_none h1 hq)).trans h1, (upd_ne (ne_of_none h2 hq)).trans h2, h3, h4⟩
theorem Pen.same {H H' : Hp} {p c : Addr} {ns : List Int} {n : Int} (h : Pen H p c ns n) (s : Same H H') : Pen H' p c ns n := by
  obtain ⟨r, h1, h2, h3, h4⟩ := h
  exact ⟨r, s _ _ h1, s _ _ h2, h3, h4⟩
theorem Pen.ni {H : Hp} {p c q : Addr} {ns : List Int} {n : Int} (h : Pen H p c ns n) (hq : H q = none) : q ≠ p := by
  obtain ⟨r, h1, _⟩ := h
  exact (ne_of_none h1 hq).symm
theorem cut63 {xs : List V} (h : xs.length ≤ 63) : cutV xs none (some 63) = xs := by
  unfold cutV
  rw [HT.sIx_none, show HT.sIx xs.length xs.length (some 63) = min 63 xs.length from HT.sIx_nat xs.length xs.length 63]
  rw [show min 63 xs.length = xs.length by omega]
  simp
theorem atI_in {ns : List Int} {i : Int} (h0 : 0 ≤ i) (h1 : i < ((ns.map V.int).length : Int)) : ∃ v : Int, atI (ns.map V.int) i = some (.int v) := by
  obtain ⟨j, rfl⟩ := Int.eq_ofNat_of_zero_le h0
  have hj : j < ns.length := by
    rw [List.length_map] at h1
    omega
  refine ⟨ns[j], atI_nat ?_⟩
  rw [List.getElem?_map, List.getElem?_eq_getElem hj]
  rfl
theorem few {i : Int} (h : i.natAbs < 2 ^ 20) : i.natAbs.log2 < 1920 := Nat.lt_of_lt_of_le (PySem.Flt.log2_lt_of (by decide) h) (by decide)
/-! Lists of ints as data. -/
theorem dpInts {K : PySem.W.Frag} {H : Hp} : ∀ ns : List Int, DpAll K H (ns.map V.int) (ns.map PyData.int)
  | [] => .nil
  | n :: r => .cons (.int n) (dpInts r)
theorem dpL {K : PySem.W.Frag} {H : Hp} {a : Addr} {ns : List Int} (h : SqL K H a (ns.map V.int)) : Dp K H (.ref a) (.list (ns.map PyData.int)) := .lst h (dpInts ns)
theorem shInts (ns : List Int) : SeqAt.shaped (.list (ns.map PyData.int)) = true := by
  simp [SeqAt.shaped, PyData.canLay0, PyData.depth, PySem.W.ke_canLayAll0, PySem.W.ke_depthAll]
theorem eqvInts (ns ms : List Int) : PyData.eqv (.list (ns.map PyData.int)) (.list (ms.map PyData.int)) = decide (ns = ms) := by
  rw [PyData.eqv, PySem.W.ked_eqvAll]
/-! Worths and the nine signs. -/
def W (a : Int) : Prop := -32768 ≤ a ∧ a ≤ 32767
def br (n : Int) : Int := (n + 32768) % 65536 - 32768
theorem br_W (n : Int) : W (br n) := by
  unfold W br
  omega
theorem br_id {a : Int} (h : W a) : br a = a := by
  unfold W at h
  unfold br
  omega
def sg (i : Nat) (a b : Int) : Int := match i with
  | 0 => a + b
  | 1 => a - b
  | 2 => a * b
  | 3 => if b = 0 then 0 else a.fdiv b
  | 4 => if b = 0 then 0 else a - b * a.fdiv b
  | 5 => if a < b then 1 else 0
  | 6 => if a = b then 1 else 0
  | 7 => Builtin.bitAnd a b
  | _ => Builtin.bitXor a b
def nm (i : Nat) : Str := match i with
  | 0 => "+"
  | 1 => "-"
  | 2 => "*"
  | 3 => "/"
  | 4 => "#"
  | 5 => "<"
  | 6 => "="
  | 7 => "&"
  | _ => "^"
theorem few_W {a : Int} (h : W a) : a.natAbs.log2 < 1920 := few (by unfold W at h; show _ < 1048576; omega)
/-! What the signs hold together. -/
theorem iteB0 {c : Bool} {A B : Prop} (h : c = false) (hB : B) : if c = true then A else B := by
  rw [h]
  exact iteF hB
theorem br_eq {x y : Int} (h : x % 65536 = y % 65536) : br x = br y := by
  unfold br
  omega
theorem br_mod (x : Int) : br x % 65536 = x % 65536 := by
  unfold br
  omega
theorem br_mul_l (x y : Int) : br (br x * y) = br (x * y) := by
  apply br_eq
  rw [Int.mul_emod, br_mod, ← Int.mul_emod]
theorem br_mul_r (x y : Int) : br (x * br y) = br (x * y) := by
  rw [Int.mul_comm, br_mul_l, Int.mul_comm]
theorem br_add_l (x y : Int) : br (br x + y) = br (x + y) := by
  unfold br
  omega
theorem br_add_r (x y : Int) : br (x + br y) = br (x + y) := by
  unfold br
  omega
theorem sum_comm : ∀ i, (i = 0 ∨ i = 2) → ∀ a b : Int, br (sg i a b) = br (sg i b a)
  | _, .inl rfl, a, b => by
    show br (a + b) = br (b + a)
    rw [Int.add_comm]
  | _, .inr rfl, a, b => by
    show br (a * b) = br (b * a)
    rw [Int.mul_comm]
theorem sum_assoc : ∀ i, (i = 0 ∨ i = 2) → ∀ a b c : Int, br (sg i (br (sg i a b)) c) = br (sg i a (br (sg i b c)))
  | _, .inl rfl, a, b, c => by
    show br (br (a + b) + c) = br (a + br (b + c))
    rw [br_add_l, br_add_r, Int.add_assoc]
  | _, .inr rfl, a, b, c => by
    show br (br (a * b) * c) = br (a * br (b * c))
    rw [br_mul_l, br_mul_r, Int.mul_assoc]
theorem sum_dist (a b c : Int) : br (a * br (b + c)) = br (br (a * b) + br (a * c)) := by
  rw [br_mul_r, br_add_l, br_add_r, Int.mul_add]
theorem rest_is {a b : Int} : a - b * a.fdiv b = a.fmod b := by
  have := Int.fmod_add_mul_fdiv a b
  omega
theorem fmod_in {a b : Int} : (0 < b → 0 ≤ a.fmod b ∧ a.fmod b < b) ∧ (b < 0 → b < a.fmod b ∧ a.fmod b ≤ 0) := by
  refine ⟨fun hb => ⟨Int.fmod_nonneg_of_pos a hb, Int.fmod_lt_of_pos a hb⟩, fun hb => ?_⟩
  have h1 := Int.fmod_nonneg_of_pos (-a) (show 0 < -b by omega)
  have h2 := Int.fmod_lt_of_pos (-a) (show 0 < -b by omega)
  have h3 := Int.neg_fmod_neg a b
  omega
theorem quot_back {a b : Int} (ha : W a) : br (br (a.fdiv b) * b + a.fmod b) = a := by
  have e : br (br (a.fdiv b) * b + a.fmod b) = br (a.fdiv b * b + a.fmod b) := by
    rw [← br_add_l, br_mul_l, br_add_l]
  have e2 : a.fdiv b * b + a.fmod b = a := by
    have := Int.fmod_add_mul_fdiv a b
    rw [Int.mul_comm]
    omega
  rw [e, e2, br_id ha]
/-! Bits, by halves. -/
theorem and_half (x y : Int) : Builtin.bitAnd x y / 2 = Builtin.bitAnd (x / 2) (y / 2) := by
  have h := PySem.W.kbt_halves x y
  split at h <;> omega
theorem xor_half (x y : Int) : Builtin.bitXor x y / 2 = Builtin.bitXor (x / 2) (y / 2) := by
  have h := PySem.W.kbt_halves x y
  rw [PyProof.Rows.bitXor_and, PyProof.Rows.bitXor_and]
  split at h <;> omega
theorem W_half (x : Int) : W x ↔ (x / 2 / 2 / 2 / 2 / 2 / 2 / 2 / 2 / 2 / 2 / 2 / 2 / 2 / 2 / 2 = 0 ∨ x / 2 / 2 / 2 / 2 / 2 / 2 / 2 / 2 / 2 / 2 / 2 / 2 / 2 / 2 / 2 = -1) := by
  unfold W
  omega
theorem and_W {x y : Int} (hx : W x) (hy : W y) : W (Builtin.bitAnd x y) := by
  rw [W_half] at hx hy ⊢
  iterate 15 rw [and_half]
  rcases hx with e | e <;> rcases hy with g | g <;> rw [e, g] <;> decide
theorem xor_W {x y : Int} (hx : W x) (hy : W y) : W (Builtin.bitXor x y) := by
  rw [W_half] at hx hy ⊢
  iterate 15 rw [xor_half]
  rcases hx with e | e <;> rcases hy with g | g <;> rw [e, g] <;> decide
theorem bits_ind {P : Int → Int → Prop} (b0 : P 0 0) (b1 : P 0 (-1)) (b2 : P (-1) 0) (b3 : P (-1) (-1)) (st : ∀ x y, P (x / 2) (y / 2) → P x y) : ∀ (n : Nat) (x y : Int), x.natAbs + y.natAbs ≤ n → P x y := by
  intro n
  induction n with
  | zero =>
    intro x y h
    have h1 : x = 0 := by omega
    have h2 : y = 0 := by omega
    rw [h1, h2]
    exact b0
  | succ n ih =>
    intro x y h
    by_cases hx : x = 0 ∨ x = -1
    · by_cases hy : y = 0 ∨ y = -1
      · rcases hx with e | e <;> rcases hy with g | g <;> rw [e, g] <;> assumption
      · exact st x y (ih _ _ (by omega))
    · exact st x y (ih _ _ (by omega))
theorem xor_bit (x y : Int) : Builtin.bitXor x y % 2 = (x + y) % 2 := by
  rw [PyProof.Rows.bitXor_and]
  omega
theorem and_bit (x y : Int) : Builtin.bitAnd x y % 2 = if x % 2 = 1 ∧ y % 2 = 1 then 1 else 0 := by
  have h := PySem.W.kbt_halves x y
  split <;> split at h <;> omega
theorem xor_back (x y : Int) : Builtin.bitXor (Builtin.bitXor x y) y = x := by
  refine bits_ind (P := fun x y => Builtin.bitXor (Builtin.bitXor x y) y = x) (by decide) (by decide) (by decide) (by decide) (fun x y h => ?_) _ x y (Nat.le_refl _)
  have e1 := xor_half (Builtin.bitXor x y) y
  rw [xor_half x y, h] at e1
  have e2 := xor_bit (Builtin.bitXor x y) y
  have e3 := xor_bit x y
  omega
theorem and_xor (x y : Int) : Builtin.bitAnd (Builtin.bitAnd x y) (Builtin.bitXor x y) = 0 := by
  refine bits_ind (P := fun x y => Builtin.bitAnd (Builtin.bitAnd x y) (Builtin.bitXor x y) = 0) (by decide) (by decide) (by decide) (by decide) (fun x y h => ?_) _ x y (Nat.le_refl _)
  have e1 := and_half (Builtin.bitAnd x y) (Builtin.bitXor x y)
  rw [and_half x y, xor_half x y, h] at e1
  have e2 := and_bit (Builtin.bitAnd x y) (Builtin.bitXor x y)
  have e3 := xor_bit x y
  have e4 := and_bit x y
  split at e4 <;> split at e2 <;> omega
theorem and_ones (x : Int) : Builtin.bitAnd x (-1) = x := by
  refine bits_ind (P := fun x _ => Builtin.bitAnd x (-1) = x) (by decide) (by decide) (by decide) (by decide) (fun x y h => ?_) _ x 0 (Nat.le_refl _)
  have e1 := and_half x (-1)
  rw [show (-1 : Int) / 2 = -1 by decide, h] at e1
  have e4 := and_bit x (-1)
  split at e4 <;> omega
/-! The promises. -/
def sp_brought : Sp := fun vs H Q _ => ∃ n : Int, vs = [.int n] ∧ Q (.int (br n)) H
def spS (i : Nat) : Sp := fun vs H Q _ => ∃ a b : Int, vs = [.int a, .int b] ∧ W a ∧ W b ∧ Q (.int (sg i a b)) H
def sp_toldby : Sp := fun vs H Q _ => ∃ (i : Nat) (a b : Int), i < 9 ∧ vs = [.str (nm i), .int a, .int b] ∧ W a ∧ W b ∧ Q (.int (br (sg i a b))) H
def sp_lfeed (K : PySem.W.Frag) : Sp := fun vs H Q _ => ∃ (a : Addr) (ns : List Int), vs = [.ref a] ∧ SqL K H a (ns.map V.int) ∧ ns.length ≤ 63 ∧
  ∀ H' p c, Pen H' p c ns 0 → Q (.ref p) H'
def sp_ldraw : Sp := fun vs H Q _ => ∃ (p c : Addr) (ns : List Int) (n m : Int), vs = [.ref p, .int m] ∧ Pen H p c ns n ∧ 0 < m ∧ m < 1073741824 ∧ n < 1000000 ∧
  ∀ (H' : Hp) (d n' : Int), Kp p H H' → Pen H' p c ns n' → 0 ≤ d → d < m → n ≤ n' → n' ≤ n + 1 → Q (.int d) H'
def sp_lworth : Sp := fun vs H Q _ => ∃ (p c : Addr) (ns : List Int) (n : Int), vs = [.ref p] ∧ Pen H p c ns n ∧ n < 900000 ∧
  ∀ (H' : Hp) (k n' : Int), Kp p H H' → Pen H' p c ns n' → n ≤ n' → n' ≤ n + 2 → W k → Q (.int k) H'
def sp_l3 : Sp := fun vs H Q _ => ∃ a b c : Int, vs = [.int a, .int b, .int c] ∧ W a ∧ W b ∧ W c ∧ ∀ H', Same H H' → Q (.bl true) H'
def sp_l2 : Sp := fun vs H Q _ => ∃ a b : Int, vs = [.int a, .int b] ∧ W a ∧ W b ∧ ∀ H', Same H H' → Q (.bl true) H'
def sp_law (K : PySem.W.Frag) : Sp := fun vs H Q _ => ∃ (a : Addr) (ns : List Int), vs = [.ref a] ∧ SqL K H a (ns.map V.int) ∧ ns.length ≤ 63 ∧ ∀ H', Q (.bl true) H'
theorem iteEq {x y : V} {A B : Prop} (h : x = y) (hA : A) : if decide (x = y) = true then A else B := by
  rw [decide_eq_true h]
  exact iteT hA
section
variable {P : Program} {w : World} {K : PySem.W.Frag} {mg : Str → Option Value} {base : Heap} {f : Nat → Addr} {fd : Nat → FuncData} {ob : Nat → Addr}
theorem ok_brought (T : Txt K w mg f fd ob) : FnOk P w K mg base CX0 1 (f 0) (fd 0) ["n"] sp_brought := by
  refine T.F_brought.ok sc_brought (fun vs H Q E h => ?_) (fun cdv A outer s H vs Q E hr h => ?_)
  · obtain ⟨n, rfl, _⟩ := h
    rfl
  · obtain ⟨n, rfl, q⟩ := h
    refine ⟨_, (pss_one (ps_ret (pe_op op_sub (pe_op op_mod (pe_op op_add (pv 0) pe_int) pe_int) pe_int))), ?_⟩
    exact ⟨_, rfl, _, _, rfl, rfl, _, _, rfl, rfl, (by show (0 : Int) < 65536; decide), _, _, rfl, rfl, q⟩
theorem len2 {i : Nat} {vs : List V} {H : Hp} {Q : VK} {E : XK} (h : spS i vs H Q E) : vs.length = 2 := by
  obtain ⟨a, b, rfl, _⟩ := h
  rfl
theorem ok_plus (T : Txt K w mg f fd ob) : FnOk P w K mg base CX0 1 (f 1) (fd 1) ["one", "other"] (spS 0) := by
  refine T.F_plus.ok sc_plus (fun vs H Q E h => len2 h) (fun cdv A outer s H vs Q E hr h => ?_)
  obtain ⟨a, b, rfl, ha, hb, q⟩ := h
  exact ⟨_, (pss_one (ps_ret (pe_op op_add (pv 0) (pv 1)))), _, rfl, _, rfl, _, _, rfl, rfl, q⟩
theorem ok_minus (T : Txt K w mg f fd ob) : FnOk P w K mg base CX0 1 (f 2) (fd 2) ["one", "other"] (spS 1) := by
  refine T.F_minus.ok sc_minus (fun vs H Q E h => len2 h) (fun cdv A outer s H vs Q E hr h => ?_)
  obtain ⟨a, b, rfl, ha, hb, q⟩ := h
  exact ⟨_, (pss_one (ps_ret (pe_op op_sub (pv 0) (pv 1)))), _, rfl, _, rfl, _, _, rfl, rfl, q⟩
theorem ok_times (T : Txt K w mg f fd ob) : FnOk P w K mg base CX0 1 (f 3) (fd 3) ["one", "other"] (spS 2) := by
  refine T.F_times.ok sc_times (fun vs H Q E h => len2 h) (fun cdv A outer s H vs Q E hr h => ?_)
  obtain ⟨a, b, rfl, ha, hb, q⟩ := h
  unfold W at ha hb
  exact ⟨_, (pss_one (ps_ret (pe_op op_mul (pv 0) (pv 1)))), _, rfl, _, rfl, _, _, rfl, rfl, .inl ⟨by omega, by omega⟩, q⟩
theorem ok_quotient (T : Txt K w mg f fd ob) : FnOk P w K mg base CX0 1 (f 4) (fd 4) ["one", "other"] (spS 3) := by
  refine T.F_quotient.ok sc_quotient (fun vs H Q E h => len2 h) (fun cdv A outer s H vs Q E hr h => ?_)
  obtain ⟨a, b, rfl, ha, hb, q⟩ := h
  unfold W at ha hb
  refine ⟨_, (pss_one (ps_ret (pe_ifExp (pt_cmpR op_eq (pv 1) pe_int (nomark _)) pe_int (pe_op op_fdivN (pv 0) (pv 1))))), ?_⟩
  refine ⟨_, rfl, rfl, _, rfl, ite2 (fun h => ?_) (fun h => ?_)⟩
  · have e : b = 0 := V.int.inj (of_decide_eq_true h)
    have e2 : sg 3 a b = 0 := if_pos e
    rw [e2] at q
    exact q
  · have e : ¬ b = 0 := fun z => h (decide_eq_true (by rw [z]))
    have e2 : sg 3 a b = a.fdiv b := if_neg e
    rw [e2] at q
    exact ⟨_, rfl, _, rfl, _, _, rfl, rfl, ⟨e, by omega⟩, q⟩
theorem ok_rest (T : Txt K w mg f fd ob) : FnOk P w K mg base CX0 1 (f 5) (fd 5) ["one", "other"] (spS 4) := by
  refine T.F_rest.ok sc_rest (fun vs H Q E h => len2 h) (fun cdv A outer s H vs Q E hr h => ?_)
  obtain ⟨a, b, rfl, ha, hb, q⟩ := h
  unfold W at ha hb
  refine ⟨_, (pss_one (ps_ret (pe_ifExp (pt_cmpR op_eq (pv 1) pe_int (nomark _)) pe_int (pe_op op_sub (pv 0) (pe_op op_mul (pv 1) (pe_op op_fdivN (pv 0) (pv 1))))))), ?_⟩
  refine ⟨_, rfl, rfl, _, rfl, ite2 (fun h => ?_) (fun h => ?_)⟩
  · have e : b = 0 := V.int.inj (of_decide_eq_true h)
    have e2 : sg 4 a b = 0 := if_pos e
    rw [e2] at q
    exact q
  · have e : ¬ b = 0 := fun z => h (decide_eq_true (by rw [z]))
    have e2 : sg 4 a b = a - b * a.fdiv b := if_neg e
    rw [e2] at q
    exact ⟨_, rfl, _, rfl, _, rfl, _, rfl, _, _, rfl, rfl, ⟨e, by omega⟩, _, _, rfl, rfl, .inl ⟨by omega, by omega⟩, _, _, rfl, rfl, q⟩
theorem ok_isless (T : Txt K w mg f fd ob) : FnOk P w K mg base CX0 1 (f 6) (fd 6) ["one", "other"] (spS 5) := by
  refine T.F_isless.ok sc_isless (fun vs H Q E h => len2 h) (fun cdv A outer s H vs Q E hr h => ?_)
  obtain ⟨a, b, rfl, ha, hb, q⟩ := h
  refine ⟨_, (pss_one (ps_ret (pe_ifExp (pt_cmpR op_lt (pv 0) (pv 1) (nomark _)) pe_int pe_int))), ?_⟩
  refine ⟨_, rfl, _, rfl, _, _, rfl, rfl, _, rfl, ite2 (fun h => ?_) (fun h => ?_)⟩
  · have e2 : sg 5 a b = 1 := if_pos (of_decide_eq_true h)
    rw [e2] at q
    exact q
  · have e2 : sg 5 a b = 0 := if_neg (fun z => h (decide_eq_true z))
    rw [e2] at q
    exact q
theorem ok_issame (T : Txt K w mg f fd ob) : FnOk P w K mg base CX0 1 (f 7) (fd 7) ["one", "other"] (spS 6) := by
  refine T.F_issame.ok sc_issame (fun vs H Q E h => len2 h) (fun cdv A outer s H vs Q E hr h => ?_)
  obtain ⟨a, b, rfl, ha, hb, q⟩ := h
  refine ⟨_, (pss_one (ps_ret (pe_ifExp (pt_cmpR op_eq (pv 0) (pv 1) (nomark _)) pe_int pe_int))), ?_⟩
  refine ⟨_, rfl, _, rfl, rfl, _, rfl, ite2 (fun h => ?_) (fun h => ?_)⟩
  · have e2 : sg 6 a b = 1 := if_pos (V.int.inj (of_decide_eq_true h))
    rw [e2] at q
    exact q
  · have e2 : sg 6 a b = 0 := if_neg (fun z => h (decide_eq_true (by rw [z])))
    rw [e2] at q
    exact q
theorem ok_bitsofboth (T : Txt K w mg f fd ob) : FnOk P w K mg base CX0 1 (f 8) (fd 8) ["one", "other"] (spS 7) := by
  refine T.F_bitsofboth.ok sc_bitsofboth (fun vs H Q E h => len2 h) (fun cdv A outer s H vs Q E hr h => ?_)
  obtain ⟨a, b, rfl, ha, hb, q⟩ := h
  exact ⟨_, (pss_one (ps_ret (pe_op op_and (pv 0) (pv 1)))), _, rfl, _, rfl, _, _, rfl, rfl, q⟩
theorem ok_bitsofone (T : Txt K w mg f fd ob) : FnOk P w K mg base CX0 1 (f 9) (fd 9) ["one", "other"] (spS 8) := by
  refine T.F_bitsofone.ok sc_bitsofone (fun vs H Q E h => len2 h) (fun cdv A outer s H vs Q E hr h => ?_)
  obtain ⟨a, b, rfl, ha, hb, q⟩ := h
  exact ⟨_, (pss_one (ps_ret (pe_op op_xor (pv 0) (pv 1)))), _, rfl, _, rfl, _, _, rfl, rfl, q⟩
theorem ok_toldby (T : Txt K w mg f fd ob) : FnOk P w K mg base CX0 2 (f 10) (fd 10) ["sign", "one", "other"] sp_toldby := by
  have G_brought := ok_brought (P := P) (base := base) T
  refine T.F_toldby.ok sc_toldby (fun vs H Q E h => ?_) (fun cdv A outer s H vs Q E hr h => ?_)
  · obtain ⟨i, a, b, _, rfl, _⟩ := h
    rfl
  · obtain ⟨i, a, b, hi, rfl, ha, hb, q⟩ := h
    have hr_brought := hr
    have key : ∀ (ff : Addr) (fdd : FuncData), FnOk P w K mg base CX0 1 ff fdd ["one", "other"] (spS i) → PySem.W.keepIn K (.ref ff) = true → Binds K fdd ["one", "other"] [] → KDct K w (ob 0) (nm i) (.ref ff) →
        ∃ t, PSs (cxOf CX0 P w K mg base N_toldby "told_by" (defScope s_toldby) (f 10) cdv A outer s H E).nox (defBody s_toldby) t ∧ t { nx := fun _ H' => Q .non H', rt := Q } (start N_toldby [.str (nm i), .int a, .int b]) H := by
      intro ff fdd Gf kpf bf hd
      refine ⟨_, (pss_cons (ps_set (i := 3) sc_toldby.nd rfl (Or.inl rfl) (pe_ix ix_kdict (pe_glob (v := .ref (ob 0)) (by rfl) T.m_SIGNS rfl) (pv 0) (fun _ _ => rfl)))
      (pss_one (ps_ret (pe_call G_brought hr_brought (by rfl) T.m_brought T.F_brought.kp T.b_brought .nil pass0 (pa_cons (pe_callL (i := 3) Gf hr (by rfl) (Or.inl rfl) kpf bf .nil pass0 (pa_cons (pv 1) (pa_cons (pv 2) pa_nil))) pa_nil))))), ?_⟩
      exact ⟨_, rfl, _, _, _, rfl, rfl, hd, rfl, _, rfl, _, rfl, a, b, rfl, ha, hb, _, rfl, q⟩
    match i, hi with
    | 0, _ => exact key _ _ (ok_plus T) T.F_plus.kp T.b_plus T.t_SIGNS_0
    | 1, _ => exact key _ _ (ok_minus T) T.F_minus.kp T.b_minus T.t_SIGNS_1
    | 2, _ => exact key _ _ (ok_times T) T.F_times.kp T.b_times T.t_SIGNS_2
    | 3, _ => exact key _ _ (ok_quotient T) T.F_quotient.kp T.b_quotient T.t_SIGNS_3
    | 4, _ => exact key _ _ (ok_rest T) T.F_rest.kp T.b_rest T.t_SIGNS_4
    | 5, _ => exact key _ _ (ok_isless T) T.F_isless.kp T.b_isless T.t_SIGNS_5
    | 6, _ => exact key _ _ (ok_issame T) T.F_issame.kp T.b_issame T.t_SIGNS_6
    | 7, _ => exact key _ _ (ok_bitsofboth T) T.F_bitsofboth.kp T.b_bitsofboth T.t_SIGNS_7
    | 8, _ => exact key _ _ (ok_bitsofone T) T.F_bitsofone.kp T.b_bitsofone T.t_SIGNS_8
theorem ok_lfeed (T : Txt K w mg f fd ob) : FnOk P w K mg base CX0 1 (f 11) (fd 11) ["_law_script"] (sp_lfeed K) := by
  refine T.F_lfeed.ok sc_lfeed (fun vs H Q E h => ?_) (fun cdv A outer s H vs Q E hr h => ?_)
  · obtain ⟨a, ns, rfl, _⟩ := h
    rfl
  · obtain ⟨a, ns, rfl, hS, hlen, q⟩ := h
    refine ⟨_, (pss_one (ps_ret (pe_lst (pa_cons (pe_callTy call_list_of (by rfl) T.z_list (by decide +kernel) (pa_cons (pe_slice sl_list (pv 0) po_none (po_some pe_int)) pa_nil)) (pa_cons pe_int (pa_cons pe_int pa_nil)))))), ?_⟩
    refine ⟨_, rfl, _, rfl, a, _, rfl, hS, fun c1 n1 => ⟨_, _, rfl, .inl (SqL.of upd_same), fun c n2 => ⟨(show 3 ≤ sizeLine by decide), fun p n3 => ?_⟩⟩⟩
    refine q _ p c ⟨0, upd_same, ?_, by decide, by decide⟩
    rw [upd_ne (ne_of_none upd_same n3), upd_same, cut63 (by rw [List.length_map]; exact hlen)]
theorem ok_ldraw (T : Txt K w mg f fd ob) : FnOk P w K mg base CX0 1 (f 12) (fd 12) ["_law_feed_here", "_law_many"] sp_ldraw := by
  refine T.F_ldraw.ok sc_ldraw (fun vs H Q E h => ?_) (fun cdv A outer s H vs Q E hr h => ?_)
  · obtain ⟨p, c, ns, n, m, rfl, _⟩ := h
    rfl
  · obtain ⟨p, c, ns, n, m, rfl, hP, hm0, hm1, hn1, q⟩ := h
    have hne : c ≠ p := hP.ne
    obtain ⟨r, hp, hc, hn0, hr0⟩ := hP
    refine ⟨_, (pss_cons (ps_if (pt_cmpR op_gt (pe_ix ix_list (pv 0) pe_int (fun _ _ => rfl)) pe_int (nomark _)) (pss_cons (ps_set (i := 2) sc_ldraw.nd rfl (Or.inl rfl) (pe_op op_mod (pe_ix ix_list (pv 0) pe_int (fun _ _ => rfl)) (pv 1)))
      (pss_cons (ps_asg (pe_op op_fdiv (pe_ix ix_list (pv 0) pe_int (fun _ _ => rfl)) (pv 1)) (pg_sub (pv 0) pe_int set_list))
      (pss_one (ps_ret (pv 2))))) pss_nil)
      (pss_cons (ps_set (i := 3) sc_ldraw.nd rfl (Or.inl rfl) (pe_ix ix_list (pv 0) pe_int (fun _ _ => rfl)))
      (pss_cons (ps_asg (pe_op op_add (pv 3) pe_int) (pg_sub (pv 0) pe_int set_list))
      (pss_cons (ps_set (i := 4) sc_ldraw.nd rfl (Or.inl rfl) (pv 3))
      (C8.pss_cut (ps_if (pt_cmpR op_gt (pe_callB call_len_seq (by rfl) T.z_len PySem.boot_len (pa_cons (pe_ix ix_list (pv 0) pe_int (fun _ _ => rfl)) pa_nil)) pe_int (nomark _)) (pss_one (ps_set (i := 4) sc_ldraw.nd rfl (Or.inl rfl) (pe_ix ix_list (pe_ix ix_list (pv 0) pe_int (fun _ _ => rfl)) (pe_op op_mod (pv 3) (pe_callB call_len_seq (by rfl) T.z_len PySem.boot_len (pa_cons (pe_ix ix_list (pv 0) pe_int (fun _ _ => rfl)) pa_nil))) (fun _ _ => rfl)))) pss_nil)
      (C8.pss_cut (ps_if (PW.pt (pw_and (pt_cmpR op_ge (pv 4) (pe_op op_pow pe_int pe_int) (nomark _)) (pw_and1 (pt_cmpR op_lt (pv 3) (pe_callB call_len_seq (by rfl) T.z_len PySem.boot_len (pa_cons (pe_ix ix_list (pv 0) pe_int (fun _ _ => rfl)) pa_nil)) (nomark _))))) (pss_cons (ps_asg (pe_op op_fdiv (pv 4) (pv 1)) (pg_sub (pv 0) pe_int set_list))
      (pss_one (ps_ret (pe_op op_mod (pv 4) (pv 1))))) pss_nil)
      (pss_cons (ps_set (i := 5) sc_ldraw.nd rfl (Or.inl rfl) (pe_op op_mod (pe_op op_mul (pe_op op_add (pe_op op_add (pe_op op_mod (pv 4) pe_int) (pe_op op_mul (pe_op op_mul pe_int (pv 3)) (pv 3))) pe_int) pe_int) pe_int))
      (pss_cons (ps_set (i := 5) sc_ldraw.nd rfl (Or.inl rfl) (pe_op op_mod (pe_op op_add (pe_op op_mul (pv 5) (pv 5)) (pe_op op_mul pe_int (pv 3))) pe_int))
      (pss_one (ps_ret (pe_op op_mod (pe_op op_fdiv (pe_op op_mod (pe_op op_mul (pv 5) (pe_op op_add (pe_op op_mod (pv 5) pe_int) pe_int)) pe_int) pe_int) (pv 1)))))))))))), ?_⟩
    -- if feed[2] > 0
    refine ⟨_, rfl, _, _, _, _, rfl, rfl, SqL.of hp, rfl, _, _, rfl, rfl, _, rfl, ite2 (fun h1 => ?_) (fun h1 => ?_)⟩
    · refine ⟨_, rfl, _, _, _, _, rfl, rfl, SqL.of hp, rfl, _, rfl, _, _, rfl, rfl, hm0, ?_⟩
      refine ⟨_, rfl, _, _, _, _, rfl, rfl, SqL.of hp, rfl, _, rfl, _, _, rfl, rfl, ⟨hm0, hm1⟩, _, rfl, _, _, _, _, rfl, rfl, hp, rfl, ?_⟩
      exact ⟨_, rfl, q _ _ _ (Kp.upd _) ⟨_, upd_same, (upd_ne hne).trans hc, hn0, Int.ediv_nonneg hr0 (by omega)⟩ (Int.emod_nonneg _ (by omega)) (Int.emod_lt_of_pos _ hm0) (by omega) (by omega)⟩
    · -- at = feed[1]; feed[1] = at + 1; cell = at
      refine ⟨_, rfl, _, _, _, _, rfl, rfl, SqL.of hp, rfl, ?_⟩
      refine ⟨_, rfl, _, _, rfl, rfl, _, rfl, _, _, _, _, rfl, rfl, hp, rfl, ?_⟩
      have hp1 : (upd H p (.lst [.ref c, .int (n + 1), .int r])) p = some (.lst [.ref c, .int (n + 1), .int r]) := upd_same
      have hc1 : (upd H p (.lst [.ref c, .int (n + 1), .int r])) c = some (.lst (ns.map V.int)) := (upd_ne hne).trans hc
      refine ⟨_, rfl, ?_⟩
      -- if len(feed[0]) > 0
      refine ⟨fun σ' H' => ∃ v : Int, σ' = [some (.ref p), some (.int m), none, some (.int n), some (.int v), none] ∧ H' = upd H p (.lst [.ref c, .int (n + 1), .int r]), ?_, ?_⟩
      · refine ⟨_, rfl, _, _, _, _, rfl, rfl, SqL.of hp1, rfl, _, _, rfl, .inl (SqL.of hc1), _, _, rfl, rfl, _, rfl, ite2 (fun h2 => ?_) (fun h2 => ⟨_, rfl, rfl⟩)⟩
        have hl : 0 < ((ns.map V.int).length : Int) := of_decide_eq_true h2
        obtain ⟨v, hv⟩ := atI_in (ns := ns) (Int.emod_nonneg n (by omega)) (Int.emod_lt_of_pos n hl)
        exact ⟨_, rfl, _, _, _, _, rfl, rfl, SqL.of hp1, rfl, _, rfl, _, rfl, _, _, _, _, rfl, rfl, SqL.of hp1, rfl, _, _, rfl, .inl (SqL.of hc1), _, _, rfl, rfl, hl, _, _, _, _, rfl, rfl, SqL.of hc1, hv, v, rfl, rfl⟩
      · rintro _ _ ⟨v, rfl, rfl⟩
        -- if cell >= 10 ** 18 and at < len(feed[0])
        refine ⟨fun σ' H' => σ' = [some (.ref p), some (.int m), none, some (.int n), some (.int v), none] ∧ H' = upd H p (.lst [.ref c, .int (n + 1), .int r]), ?_, ?_⟩
        · refine ⟨_, rfl, _, _, rfl, rfl, ⟨by decide, by decide, by decide⟩, _, _, rfl, rfl, _, rfl, ite2 (fun h3 => ?_) (fun h3 => iteF ⟨rfl, rfl⟩)⟩
          refine ⟨_, rfl, _, rfl, _, _, _, _, rfl, rfl, SqL.of hp1, rfl, _, _, rfl, .inl (SqL.of hc1), _, _, rfl, rfl, _, rfl, ite2 (fun h4 => ?_) (fun h4 => ⟨rfl, rfl⟩)⟩
          have hv : (10 : Int) ^ (18 : Int).toNat ≤ v := of_decide_eq_true h3
          have hv0 : 0 ≤ v := Int.le_trans (by decide) hv
          refine ⟨_, rfl, _, rfl, _, _, rfl, rfl, ⟨hm0, hm1⟩, _, rfl, _, _, _, _, rfl, rfl, hp1, rfl, ?_⟩
          refine ⟨_, rfl, _, rfl, _, _, rfl, rfl, hm0, ?_⟩
          rw [upd_upd]
          exact q _ _ (n + 1) (Kp.upd _) ⟨_, upd_same, (upd_ne hne).trans hc, by omega, Int.ediv_nonneg hv0 (by omega)⟩ (Int.emod_nonneg _ (by omega)) (Int.emod_lt_of_pos _ hm0) (by omega) (by omega)
        · rintro _ _ ⟨rfl, rfl⟩
          refine ⟨_, rfl, _, _, rfl, rfl, (by show (0 : Int) < 2147483647; decide), _, rfl, _, _, rfl, rfl, .inl ⟨by decide, by decide⟩, _, rfl, _, _, rfl, rfl, .inr ⟨by omega, by omega⟩, _, _, rfl, rfl, _, _, rfl, rfl, _, _, rfl, rfl, .inr ⟨by decide, by decide⟩, _, _, rfl, rfl, (by show (0 : Int) < 2147483647; decide), ?_⟩
          generalize hx : ((v % 2147483647 + 7919 * n * n + 104729) * 48271 % 2147483647 : Int) = x
          have hx0 : 0 ≤ x := by
            rw [← hx]
            exact Int.emod_nonneg _ (by decide)
          have hx1 : x < 2147483647 := by
            rw [← hx]
            exact Int.emod_lt_of_pos _ (by decide)
          refine ⟨_, rfl, _, rfl, _, _, rfl, rfl, .inl ⟨by omega, by omega⟩, _, rfl, _, _, rfl, rfl, .inl ⟨by decide, by decide⟩, _, _, rfl, rfl, _, _, rfl, rfl, (by show (0 : Int) < 2147483629; decide), ?_⟩
          generalize hy : ((x * x + 69621 * n) % 2147483629 : Int) = y
          have hy0 : 0 ≤ y := by
            rw [← hy]
            exact Int.emod_nonneg _ (by decide)
          have hy1 : y < 2147483629 := by
            rw [← hy]
            exact Int.emod_lt_of_pos _ (by decide)
          refine ⟨_, rfl, _, rfl, _, _, rfl, rfl, (by show (0 : Int) < 65521; decide), _, _, rfl, rfl, _, _, rfl, rfl, .inl ⟨by omega, by omega⟩, _, _, rfl, rfl, (by show (0 : Int) < 2147483587; decide), _, _, rfl, rfl, ⟨by decide, by decide⟩, _, rfl, _, _, rfl, rfl, hm0, ?_⟩
          exact q _ _ (n + 1) (Kp.upd _) ⟨_, upd_same, hc1, by omega, hr0⟩ (Int.emod_nonneg _ (by omega)) (Int.emod_lt_of_pos _ hm0) (by omega) (by omega)
theorem worth_at {i : Int} (h0 : 0 ≤ i) (h1 : i < 12) : ∃ v : Int, atI [V.int (-32768), V.int (-32767), V.int (-1), V.int 0, V.int 1, V.int 32766, V.int 32767, V.int 255, V.int 256, V.int (-256), V.int 181, V.int 182] i = some (.int v) ∧ W v := by
  have h : i = 0 ∨ i = 1 ∨ i = 2 ∨ i = 3 ∨ i = 4 ∨ i = 5 ∨ i = 6 ∨ i = 7 ∨ i = 8 ∨ i = 9 ∨ i = 10 ∨ i = 11 := by omega
  unfold W
  rcases h with rfl | rfl | rfl | rfl | rfl | rfl | rfl | rfl | rfl | rfl | rfl | rfl
  all_goals exact ⟨_, rfl, by decide, by decide⟩
theorem ok_lworth (T : Txt K w mg f fd ob) : FnOk P w K mg base CX0 2 (f 13) (fd 13) ["_law_feed_here"] sp_lworth := by
  have G_ldraw := ok_ldraw (P := P) (base := base) T
  refine T.F_lworth.ok sc_lworth (fun vs H Q E h => ?_) (fun cdv A outer s H vs Q E hr h => ?_)
  · obtain ⟨p, c, ns, n, rfl, _⟩ := h
    rfl
  · obtain ⟨p, c, ns, n, rfl, hP, hn, q⟩ := h
    have hr_ldraw := hr
    refine ⟨_, (pss_cons (ps_set (i := 1) sc_lworth.nd rfl (Or.inl rfl) (pe_call G_ldraw hr_ldraw (by rfl) T.m_ldraw T.F_ldraw.kp T.b_ldraw .nil pass0 (pa_cons (pv 0) (pa_cons pe_int pa_nil))))
      (pss_cons (ps_if (pt_cmpR op_lt (pv 1) pe_int (nomark _)) (pss_one (ps_ret (pe_op op_sub (pe_call G_ldraw hr_ldraw (by rfl) T.m_ldraw T.F_ldraw.kp T.b_ldraw .nil pass0 (pa_cons (pv 0) (pa_cons pe_int pa_nil))) pe_int))) pss_nil)
      (pss_cons (ps_if (pt_cmpR op_lt (pv 1) pe_int (nomark _)) (pss_one (ps_ret (pe_op op_sub (pe_call G_ldraw hr_ldraw (by rfl) T.m_ldraw T.F_ldraw.kp T.b_ldraw .nil pass0 (pa_cons (pv 0) (pa_cons pe_int pa_nil))) pe_int))) pss_nil)
      (pss_one (ps_ret (pe_ix ix_list (pe_lst (pa_cons (pe_un un_neg pe_int) (pa_cons (pe_un un_neg pe_int) (pa_cons (pe_un un_neg pe_int) (pa_cons pe_int (pa_cons pe_int (pa_cons pe_int (pa_cons pe_int (pa_cons pe_int (pa_cons pe_int (pa_cons (pe_un un_neg pe_int) (pa_cons pe_int (pa_cons pe_int pa_nil))))))))))))) (pe_call G_ldraw hr_ldraw (by rfl) T.m_ldraw T.F_ldraw.kp T.b_ldraw .nil pass0 (pa_cons (pv 0) (pa_cons pe_int pa_nil))) (fun _ _ => rfl))))))), ?_⟩
    refine ⟨_, rfl, p, c, ns, n, 5, rfl, hP, by decide, by decide, by omega, fun H1 d1 n1 k1 P1 d1a d1b n1a n1b => ?_⟩
    refine ⟨_, rfl, _, _, rfl, rfl, _, rfl, ite2 (fun h1 => ?_) (fun h1 => ?_)⟩
    · refine ⟨_, rfl, p, c, ns, n1, 13, rfl, P1, by decide, by decide, by omega, fun H2 d2 n2 k2 P2 d2a d2b n2a n2b => ?_⟩
      exact ⟨_, _, rfl, rfl, q _ _ _ (k1.trans k2) P2 (by omega) (by omega) ⟨by omega, by omega⟩⟩
    · refine ⟨_, rfl, _, _, rfl, rfl, _, rfl, ite2 (fun h2 => ?_) (fun h2 => ?_)⟩
      · refine ⟨_, rfl, p, c, ns, n1, 65536, rfl, P1, by decide, by decide, by omega, fun H2 d2 n2 k2 P2 d2a d2b n2a n2b => ?_⟩
        exact ⟨_, _, rfl, rfl, q _ _ _ (k1.trans k2) P2 (by omega) (by omega) ⟨by omega, by omega⟩⟩
      · refine ⟨_, rfl, _, rfl, _, rfl, _, rfl, (show 12 ≤ sizeLine by decide), fun l hl => ?_⟩
        refine ⟨_, rfl, p, c, ns, n1, 12, rfl, P1.new hl, by decide, by decide, by omega, fun H2 d2 n2 k2 P2 d2a d2b n2a n2b => ?_⟩
        obtain ⟨v, hv, hW⟩ := worth_at d2a d2b
        have e2 : H2 l = some (.lst [V.int (-32768), V.int (-32767), V.int (-1), V.int 0, V.int 1, V.int 32766, V.int 32767, V.int 255, V.int 256, V.int (-256), V.int 181, V.int 182]) := k2 _ _ (P1.ni hl) upd_same
        exact ⟨_, _, _, _, rfl, rfl, SqL.of e2, hv, q _ _ _ (k1.trans ((Kp.new hl).trans k2)) P2 (by omega) (by omega) hW⟩
theorem ok_lsums (T : Txt K w mg f fd ob) : FnOk P w K mg base CX0 3 (f 14) (fd 14) ["_law_a", "_law_b", "_law_c"] sp_l3 := by
  have G_toldby := ok_toldby (P := P) (base := base) T
  refine T.F_lsums.ok sc_lsums (fun vs H Q E h => ?_) (fun cdv A outer s H vs Q E hr h => ?_)
  · obtain ⟨a, b, c, rfl, _⟩ := h
    rfl
  · obtain ⟨a, b, c, rfl, ha, hb, hc, q⟩ := h
    have hr_toldby := hr
    refine ⟨_, (pss_cons (ps_for PassesOwn.never rfl (pi_tup (pe_tup (pa_cons pe_str (pa_cons pe_str pa_nil)))) (pg_name (i := 3) sc_lsums.nd rfl (Or.inl rfl)) (pss_cons (ps_if (pt_cmpR op_ne (pe_call G_toldby hr_toldby (by rfl) T.m_toldby T.F_toldby.kp T.b_toldby .nil pass0 (pa_cons (pv 3) (pa_cons (pv 0) (pa_cons (pv 1) pa_nil)))) (pe_call G_toldby hr_toldby (by rfl) T.m_toldby T.F_toldby.kp T.b_toldby .nil pass0 (pa_cons (pv 3) (pa_cons (pv 1) (pa_cons (pv 0) pa_nil)))) (nomark _)) (pss_one (ps_ret pe_bl)) pss_nil)
      (pss_one (ps_if (pt_cmpR op_ne (pe_call G_toldby hr_toldby (by rfl) T.m_toldby T.F_toldby.kp T.b_toldby .nil pass0 (pa_cons (pv 3) (pa_cons (pe_call G_toldby hr_toldby (by rfl) T.m_toldby T.F_toldby.kp T.b_toldby .nil pass0 (pa_cons (pv 3) (pa_cons (pv 0) (pa_cons (pv 1) pa_nil)))) (pa_cons (pv 2) pa_nil)))) (pe_call G_toldby hr_toldby (by rfl) T.m_toldby T.F_toldby.kp T.b_toldby .nil pass0 (pa_cons (pv 3) (pa_cons (pv 0) (pa_cons (pe_call G_toldby hr_toldby (by rfl) T.m_toldby T.F_toldby.kp T.b_toldby .nil pass0 (pa_cons (pv 3) (pa_cons (pv 1) (pa_cons (pv 2) pa_nil)))) pa_nil)))) (nomark _)) (pss_one (ps_ret pe_bl)) pss_nil))))
      (pss_cons (ps_if (PW.pt (pw_or (pt_cmpR op_ne (pe_call G_toldby hr_toldby (by rfl) T.m_toldby T.F_toldby.kp T.b_toldby .nil pass0 (pa_cons pe_str (pa_cons (pe_call G_toldby hr_toldby (by rfl) T.m_toldby T.F_toldby.kp T.b_toldby .nil pass0 (pa_cons pe_str (pa_cons (pv 0) (pa_cons (pv 1) pa_nil)))) (pa_cons (pv 1) pa_nil)))) (pv 0) (nomark _)) (pw_or1 (pt_cmpR op_ne (pe_call G_toldby hr_toldby (by rfl) T.m_toldby T.F_toldby.kp T.b_toldby .nil pass0 (pa_cons pe_str (pa_cons (pe_call G_toldby hr_toldby (by rfl) T.m_toldby T.F_toldby.kp T.b_toldby .nil pass0 (pa_cons pe_str (pa_cons (pv 0) (pa_cons (pv 1) pa_nil)))) (pa_cons (pv 1) pa_nil)))) (pv 0) (nomark _))))) (pss_one (ps_ret pe_bl)) pss_nil)
      (pss_cons (ps_set (i := 4) sc_lsums.nd rfl (Or.inl rfl) (pe_call G_toldby hr_toldby (by rfl) T.m_toldby T.F_toldby.kp T.b_toldby .nil pass0 (pa_cons pe_str (pa_cons (pv 0) (pa_cons (pe_call G_toldby hr_toldby (by rfl) T.m_toldby T.F_toldby.kp T.b_toldby .nil pass0 (pa_cons pe_str (pa_cons (pv 1) (pa_cons (pv 2) pa_nil)))) pa_nil)))))
      (pss_one (ps_ret (pe_cmpR op_eq (pv 4) (pe_call G_toldby hr_toldby (by rfl) T.m_toldby T.F_toldby.kp T.b_toldby .nil pass0 (pa_cons pe_str (pa_cons (pe_call G_toldby hr_toldby (by rfl) T.m_toldby T.F_toldby.kp T.b_toldby .nil pass0 (pa_cons pe_str (pa_cons (pv 0) (pa_cons (pv 1) pa_nil)))) (pa_cons (pe_call G_toldby hr_toldby (by rfl) T.m_toldby T.F_toldby.kp T.b_toldby .nil pass0 (pa_cons pe_str (pa_cons (pv 0) (pa_cons (pv 2) pa_nil)))) pa_nil)))) (nomark _))))))), ?_⟩
    refine ⟨(show 2 ≤ sizeLine by decide), fun t ht => ⟨t, rfl, ⟨_, SqT.of upd_same⟩, for_tup (xs := [V.str "+", V.str "*"]) (fun j σ' H' => ∃ y : Option V, σ' = [some (.int a), some (.int b), some (.int c), y, none] ∧ H' = upd H t (.tup [V.str "+", V.str "*"]))
      ⟨none, rfl, rfl⟩ (fun j σ' H' _ ⟨_, _, h⟩ => by rw [h]; exact SqT.of upd_same) ?_ ?_⟩⟩
    · rintro j x _ _ hj ⟨y, rfl, rfl⟩
      obtain ⟨i, hi, hi9, rfl⟩ : ∃ i : Nat, (i = 0 ∨ i = 2) ∧ i < 9 ∧ x = .str (nm i) := by
        match j, hj with
        | 0, hj => exact ⟨0, .inl rfl, by decide, (Option.some.inj hj).symm⟩
        | 1, hj => exact ⟨2, .inr rfl, by decide, (Option.some.inj hj).symm⟩
      refine ⟨_, rfl, _, rfl, _, rfl, i, a, b, hi9, rfl, ha, hb, _, rfl, _, rfl, _, rfl, i, b, a, hi9, rfl, hb, ha, rfl, _, rfl, iteNS (by rw [sum_comm i hi]) ?_⟩
      refine ⟨_, rfl, _, rfl, _, rfl, _, rfl, i, a, b, hi9, rfl, ha, hb, _, rfl, i, _, c, hi9, rfl, br_W _, hc, _, rfl, _, rfl, _, rfl, _, rfl, _, rfl, i, b, c, hi9, rfl, hb, hc, i, a, _, hi9, rfl, ha, br_W _, rfl, _, rfl, iteNS (by rw [sum_assoc i hi]) ?_⟩
      exact ⟨_, rfl, rfl⟩
    · rintro _ _ ⟨y, rfl, rfl⟩
      refine ⟨_, rfl, _, rfl, 0, a, b, by decide, rfl, ha, hb, _, rfl, 1, _, b, by decide, rfl, br_W _, hb, _, rfl, rfl, _, rfl, iteNS ?_ ?_⟩
      · show V.int (br (br (a + b) - b)) = _
        rw [V.int.injEq]
        unfold br W at *
        omega
      refine ⟨_, rfl, _, rfl, 1, a, b, by decide, rfl, ha, hb, _, rfl, 0, _, b, by decide, rfl, br_W _, hb, _, rfl, rfl, _, rfl, iteNS ?_ ?_⟩
      · show V.int (br (br (a - b) + b)) = _
        rw [V.int.injEq]
        unfold br W at *
        omega
      refine ⟨_, rfl, _, rfl, _, rfl, 0, b, c, by decide, rfl, hb, hc, 2, a, _, by decide, rfl, ha, br_W _, ?_⟩
      refine ⟨_, rfl, _, rfl, _, rfl, 2, a, b, by decide, rfl, ha, hb, _, rfl, _, rfl, 2, a, c, by decide, rfl, ha, hc, 0, _, _, by decide, rfl, br_W _, br_W _, rfl, ?_⟩
      have e : (decide (V.int (br (sg 2 a (br (sg 0 b c)))) = V.int (br (sg 0 (br (sg 2 a b)) (br (sg 2 a c)))))) = true := decide_eq_true (by
        rw [V.int.injEq]
        exact sum_dist a b c)
      rw [e]
      exact q _ (Same.new ht)
theorem ok_lquots (T : Txt K w mg f fd ob) : FnOk P w K mg base CX0 3 (f 15) (fd 15) ["_law_a", "_law_b"] sp_l2 := by
  have G_toldby := ok_toldby (P := P) (base := base) T
  have G_brought := ok_brought (P := P) (base := base) T
  refine T.F_lquots.ok sc_lquots (fun vs H Q E h => ?_) (fun cdv A outer s H vs Q E hr h => ?_)
  · obtain ⟨a, b, rfl, _⟩ := h
    rfl
  · obtain ⟨a, b, rfl, ha, hb, q⟩ := h
    have hr_toldby := hr
    have hr_brought : Room 1 _ := hr.mono (by decide)
    refine ⟨_, (pss_cons (ps_par (i := 2) (j := 3) (by rfl) sc_lquots.nd rfl rfl (by decide) rfl rfl (pa_cons (pe_call G_toldby hr_toldby (by rfl) T.m_toldby T.F_toldby.kp T.b_toldby .nil pass0 (pa_cons pe_str (pa_cons (pv 0) (pa_cons (pv 1) pa_nil)))) (pa_cons (pe_call G_toldby hr_toldby (by rfl) T.m_toldby T.F_toldby.kp T.b_toldby .nil pass0 (pa_cons pe_str (pa_cons (pv 0) (pa_cons (pv 1) pa_nil)))) pa_nil)) (by rfl))
      (pss_cons (ps_if (pt_cmpR op_eq (pv 1) pe_int (nomark _)) (pss_one (ps_ret (pe_cmpR (op_eqD hr.units) (pe_tup (pa_cons (pv 2) (pa_cons (pv 3) pa_nil))) (pe_tup (pa_cons pe_int (pa_cons pe_int pa_nil))) (nomark _)))) pss_nil)
      (pss_cons (ps_if (PW.pt (pw_or (pt_cmpR op_ne (pe_call G_brought hr_brought (by rfl) T.m_brought T.F_brought.kp T.b_brought .nil pass0 (pa_cons (pe_op op_add (pe_op op_mul (pv 2) (pv 1)) (pv 3)) pa_nil)) (pv 0) (nomark _)) (pw_or1 (pt_cmpR op_ge (pe_callB call_abs (by rfl) T.z_abs (by decide +kernel) (pa_cons (pv 3) pa_nil)) (pe_callB call_abs (by rfl) T.z_abs (by decide +kernel) (pa_cons (pv 1) pa_nil)) (nomark _))))) (pss_one (ps_ret pe_bl)) pss_nil)
      (pss_one (ps_ret (pe_or (pe_cmpR op_eq (pv 3) pe_int (nomark _)) (pe_one (pe_cmpR op_eq (pe_cmpR op_lt (pv 3) pe_int (nomark _)) (pe_cmpR op_lt (pv 1) pe_int (nomark _)) (nomark _))))))))), ?_⟩
    refine ⟨_, rfl, _, rfl, 3, a, b, by decide, rfl, ha, hb, _, rfl, _, rfl, 4, a, b, by decide, rfl, ha, hb, _, _, rfl, ?_⟩
    refine ⟨_, rfl, rfl, _, rfl, ite2 (fun h => ?_) (fun h => ?_)⟩
    · have e : b = 0 := V.int.inj (of_decide_eq_true h)
      subst e
      refine ⟨_, rfl, _, rfl, (show 2 ≤ sizeLine by decide), fun t1 h1 => ⟨(show 2 ≤ sizeLine by decide), fun t2 h2 => ?_⟩⟩
      refine ⟨.tuple [.int (br (sg 3 a 0)), .int (br (sg 4 a 0))], .tuple [.int 0, .int 0], .tup (SqT.of (Same.new h2 _ _ upd_same)) (.cons (.int _) (.cons (.int _) .nil)), .tup (SqT.of upd_same) (.cons (.int _) (.cons (.int _) .nil)), rfl, rfl, ?_⟩
      have e : PyData.eqv (.tuple [.int (br (sg 3 a 0)), .int (br (sg 4 a 0))]) (.tuple [.int 0, .int 0]) = true := by
        show PyData.eqv (.tuple [.int (br 0), .int (br 0)]) (.tuple [.int 0, .int 0]) = true
        decide
      rw [e]
      exact q _ ((Same.new h1).trans (Same.new h2))
    · have hz : b ≠ 0 := fun z => h (decide_eq_true (by rw [z]))
      have e3 : sg 3 a b = a.fdiv b := if_neg hz
      have e4 : sg 4 a b = a.fmod b := (if_neg hz).trans rest_is
      have hm := fmod_in (a := a) (b := b)
      have hr4 : br (sg 4 a b) = a.fmod b := by
        rw [e4]
        apply br_id
        unfold W at *
        omega
      have hq : br (br (sg 3 a b) * b + br (sg 4 a b)) = a := by
        rw [hr4, e3]
        exact quot_back ha
      rw [hr4]
      rw [hr4] at hq
      generalize a.fmod b = r at hm hq ⊢
      have hbq := br_W (sg 3 a b)
      generalize br (sg 3 a b) = x at hq hbq ⊢
      unfold W at ha hb hbq
      refine ⟨_, rfl, _, rfl, _, _, rfl, rfl, .inl ⟨by omega, by omega⟩, _, rfl, _, _, rfl, rfl, _, rfl, _, rfl, rfl, _, rfl, iteNS (by rw [V.int.injEq]; exact hq) ?_⟩
      refine ⟨_, rfl, _, rfl, _, rfl, _, rfl, _, _, rfl, rfl, _, rfl, iteB0 (decide_eq_false ?_) ?_⟩
      · split <;> split <;> omega
      · refine ⟨_, rfl, rfl, _, rfl, ?_⟩
        by_cases hr0 : r = 0
        · rw [decide_eq_true (by rw [hr0])]
          exact iteT (q _ (Same.refl _))
        · refine iteB0 (decide_eq_false (fun z => hr0 (V.int.inj z))) ?_
          refine ⟨_, rfl, _, _, rfl, rfl, _, rfl, _, _, rfl, rfl, rfl, ?_⟩
          have e : decide (V.bl (decide (r < 0)) = V.bl (decide (b < 0))) = true := by
            refine decide_eq_true (congrArg V.bl ?_)
            by_cases h1 : b < 0
            · rw [decide_eq_true h1, decide_eq_true (by omega)]
            · rw [decide_eq_false h1, decide_eq_false (by omega)]
          rw [e]
          exact q _ (Same.refl _)
theorem ok_lbits (T : Txt K w mg f fd ob) : FnOk P w K mg base CX0 3 (f 16) (fd 16) ["_law_a", "_law_b"] sp_l2 := by
  have G_toldby := ok_toldby (P := P) (base := base) T
  have G_brought := ok_brought (P := P) (base := base) T
  refine T.F_lbits.ok sc_lbits (fun vs H Q E h => ?_) (fun cdv A outer s H vs Q E hr h => ?_)
  · obtain ⟨a, b, rfl, _⟩ := h
    rfl
  · obtain ⟨a, b, rfl, ha, hb, q⟩ := h
    have hr_toldby := hr
    have hr_brought : Room 1 _ := hr.mono (by decide)
    have hA : br (sg 7 a b) = Builtin.bitAnd a b := br_id (and_W ha hb)
    have hX : br (sg 8 a b) = Builtin.bitXor a b := br_id (xor_W ha hb)
    have wA := and_W ha hb
    have wX := xor_W ha hb
    have hS : a + b = Builtin.bitXor a b + 2 * Builtin.bitAnd a b := by
      rw [PyProof.Rows.bitXor_and]
      omega
    refine ⟨_, (pss_cons (ps_par (i := 2) (j := 3) (by rfl) sc_lbits.nd rfl rfl (by decide) rfl rfl (pa_cons (pe_call G_toldby hr_toldby (by rfl) T.m_toldby T.F_toldby.kp T.b_toldby .nil pass0 (pa_cons pe_str (pa_cons (pv 0) (pa_cons (pv 1) pa_nil)))) (pa_cons (pe_call G_toldby hr_toldby (by rfl) T.m_toldby T.F_toldby.kp T.b_toldby .nil pass0 (pa_cons pe_str (pa_cons (pv 0) (pa_cons (pv 1) pa_nil)))) pa_nil)) (by rfl))
      (pss_cons (ps_if (PW.pt (pw_or (pt_cmpR op_ne (pe_call G_brought hr_brought (by rfl) T.m_brought T.F_brought.kp T.b_brought .nil pass0 (pa_cons (pe_op op_add (pv 0) (pv 1)) pa_nil)) (pe_call G_brought hr_brought (by rfl) T.m_brought T.F_brought.kp T.b_brought .nil pass0 (pa_cons (pe_op op_add (pv 3) (pe_op op_mul pe_int (pv 2))) pa_nil)) (nomark _)) (pw_or1 (pt_cmpR op_ne (pe_call G_toldby hr_toldby (by rfl) T.m_toldby T.F_toldby.kp T.b_toldby .nil pass0 (pa_cons pe_str (pa_cons (pv 3) (pa_cons (pv 1) pa_nil)))) (pv 0) (nomark _))))) (pss_one (ps_ret pe_bl)) pss_nil)
      (pss_cons (ps_if (PW.pt (pw_or (pt_cmpR op_ne (pe_call G_toldby hr_toldby (by rfl) T.m_toldby T.F_toldby.kp T.b_toldby .nil pass0 (pa_cons pe_str (pa_cons (pv 2) (pa_cons (pv 3) pa_nil)))) pe_int (nomark _)) (pw_or (pt_cmpR op_ne (pe_call G_toldby hr_toldby (by rfl) T.m_toldby T.F_toldby.kp T.b_toldby .nil pass0 (pa_cons pe_str (pa_cons (pv 0) (pa_cons (pv 0) pa_nil)))) (pv 0) (nomark _)) (pw_or1 (pt_cmpR op_ne (pe_call G_toldby hr_toldby (by rfl) T.m_toldby T.F_toldby.kp T.b_toldby .nil pass0 (pa_cons pe_str (pa_cons (pv 0) (pa_cons (pv 0) pa_nil)))) pe_int (nomark _)))))) (pss_one (ps_ret pe_bl)) pss_nil)
      (pss_one (ps_ret (pe_and (pe_cmpR op_eq (pe_call G_toldby hr_toldby (by rfl) T.m_toldby T.F_toldby.kp T.b_toldby .nil pass0 (pa_cons pe_str (pa_cons (pv 0) (pa_cons (pe_un un_neg pe_int) pa_nil)))) (pv 0) (nomark _)) (pe_one (pe_cmpR op_eq (pe_call G_toldby hr_toldby (by rfl) T.m_toldby T.F_toldby.kp T.b_toldby .nil pass0 (pa_cons pe_str (pa_cons (pv 0) (pa_cons pe_int pa_nil)))) (pv 0) (nomark _))))))))), ?_⟩
    refine ⟨_, rfl, _, rfl, 7, a, b, by decide, rfl, ha, hb, _, rfl, _, rfl, 8, a, b, by decide, rfl, ha, hb, _, _, rfl, ?_⟩
    rw [hA, hX]
    refine ⟨_, rfl, _, rfl, _, _, rfl, rfl, _, rfl, _, rfl, _, rfl, _, _, rfl, rfl, .inl ⟨by decide, by decide⟩, _, _, rfl, rfl, _, rfl, rfl, _, rfl, iteNS (by rw [hS]) ?_⟩
    refine ⟨_, rfl, _, rfl, 8, _, b, by decide, rfl, wX, hb, _, rfl, rfl, _, rfl, iteNS ?_ ?_⟩
    · show V.int (br (Builtin.bitXor (Builtin.bitXor a b) b)) = _
      rw [xor_back, br_id ha]
    refine ⟨_, rfl, _, rfl, 7, _, _, by decide, rfl, wA, wX, rfl, _, rfl, iteNS ?_ ?_⟩
    · show V.int (br (Builtin.bitAnd (Builtin.bitAnd a b) (Builtin.bitXor a b))) = _
      rw [and_xor]
      rfl
    refine ⟨_, rfl, _, rfl, 7, a, a, by decide, rfl, ha, ha, _, rfl, rfl, _, rfl, iteNS ?_ ?_⟩
    · show V.int (br (Builtin.bitAnd a a)) = _
      rw [PyProof.Rows.bitAnd_self, br_id ha]
    refine ⟨_, rfl, _, rfl, 8, a, a, by decide, rfl, ha, ha, rfl, _, rfl, iteNS ?_ ?_⟩
    · show V.int (br (Builtin.bitXor a a)) = _
      rw [PyProof.Rows.bitXor_self]
      rfl
    refine ⟨_, rfl, _, rfl, 7, a, -1, by decide, rfl, ha, ⟨by decide, by decide⟩, _, rfl, rfl, _, rfl, iteEq ?_ ?_⟩
    · show V.int (br (Builtin.bitAnd a (-1))) = _
      rw [and_ones, br_id ha]
    refine ⟨_, rfl, 8, a, 0, by decide, rfl, ha, ⟨by decide, by decide⟩, _, rfl, rfl, ?_⟩
    have e : decide (V.int (br (sg 8 a 0)) = V.int a) = true := decide_eq_true (by
      show V.int (br (Builtin.bitXor a 0)) = _
      rw [PyProof.Rows.bitXor_zero, br_id ha])
    rw [e]
    exact q _ (Same.refl _)
theorem ok_law (T : Txt K w mg f fd ob) : FnOk P w K mg base CX0 4 (f 17) (fd 17) ["_law_script"] (sp_law K) := by
  have G_toldby := ok_toldby (P := P) (base := base) T
  have G_lfeed := ok_lfeed (P := P) (base := base) T
  have G_lworth := ok_lworth (P := P) (base := base) T
  have G_lsums := ok_lsums (P := P) (base := base) T
  have G_lquots := ok_lquots (P := P) (base := base) T
  have G_lbits := ok_lbits (P := P) (base := base) T
  refine T.F_law.ok sc_law (fun vs H Q E h => ?_) (fun cdv A outer s H vs Q E hr h => ?_)
  · obtain ⟨a, ns, rfl, _⟩ := h
    rfl
  · obtain ⟨a, ns, rfl, hS, hlen, q⟩ := h
    have hr_lsums := hr
    have hr_lquots := hr
    have hr_lbits := hr
    have hr_toldby : Room 2 _ := hr.mono (by decide)
    have hr_lworth : Room 2 _ := hr.mono (by decide)
    have hr_lfeed : Room 1 _ := hr.mono (by decide)
    refine ⟨_, (pss_cons (ps_set (i := 1) sc_law.nd rfl (Or.inl rfl) (pe_call G_lfeed hr_lfeed (by rfl) T.m_lfeed T.F_lfeed.kp T.b_lfeed .nil pass0 (pa_cons (pv 0) pa_nil)))
      (pss_cons (ps_for PassesOwn.never rfl (pi_range1 (by rfl) T.z_range (pa_cons pe_int pa_nil)) (pg_name (i := 2) sc_law.nd rfl (Or.inl rfl)) (pss_cons (ps_par3 (i := 3) (j := 4) (l := 5) (by rfl) sc_law.nd rfl rfl rfl (by decide) (by decide) (by decide) rfl rfl rfl (pa_cons (pe_call G_lworth hr_lworth (by rfl) T.m_lworth T.F_lworth.kp T.b_lworth .nil pass0 (pa_cons (pv 1) pa_nil)) (pa_cons (pe_call G_lworth hr_lworth (by rfl) T.m_lworth T.F_lworth.kp T.b_lworth .nil pass0 (pa_cons (pv 1) pa_nil)) (pa_cons (pe_call G_lworth hr_lworth (by rfl) T.m_lworth T.F_lworth.kp T.b_lworth .nil pass0 (pa_cons (pv 1) pa_nil)) pa_nil))) (by rfl))
      (pss_cons (ps_if (PW.pt (pw_or (pt_not (pt_val (pe_call G_lsums hr_lsums (by rfl) T.m_lsums T.F_lsums.kp T.b_lsums .nil pass0 (pa_cons (pv 3) (pa_cons (pv 4) (pa_cons (pv 5) pa_nil)))))) (pw_or (pt_not (pt_val (pe_call G_lquots hr_lquots (by rfl) T.m_lquots T.F_lquots.kp T.b_lquots .nil pass0 (pa_cons (pv 3) (pa_cons (pv 4) pa_nil))))) (pw_or1 (pt_not (pt_val (pe_call G_lbits hr_lbits (by rfl) T.m_lbits T.F_lbits.kp T.b_lbits .nil pass0 (pa_cons (pv 3) (pa_cons (pv 4) pa_nil))))))))) (pss_one (ps_ret pe_bl)) pss_nil)
      (pss_cons (ps_if (PW.pt (pw_or (pt_cmpR op_ne (pe_op op_add (pe_op op_add (pe_call G_toldby hr_toldby (by rfl) T.m_toldby T.F_toldby.kp T.b_toldby .nil pass0 (pa_cons pe_str (pa_cons (pv 3) (pa_cons (pv 4) pa_nil)))) (pe_call G_toldby hr_toldby (by rfl) T.m_toldby T.F_toldby.kp T.b_toldby .nil pass0 (pa_cons pe_str (pa_cons (pv 4) (pa_cons (pv 3) pa_nil))))) (pe_call G_toldby hr_toldby (by rfl) T.m_toldby T.F_toldby.kp T.b_toldby .nil pass0 (pa_cons pe_str (pa_cons (pv 3) (pa_cons (pv 4) pa_nil))))) pe_int (nomark _)) (pw_or1 (pt_cmpR op_ne (pe_call G_toldby hr_toldby (by rfl) T.m_toldby T.F_toldby.kp T.b_toldby .nil pass0 (pa_cons pe_str (pa_cons (pv 3) (pa_cons (pv 3) pa_nil)))) pe_int (nomark _))))) (pss_one (ps_ret pe_bl)) pss_nil)
      (pss_one (ps_if (PW.pt (pw_and (pt_cmpR op_eq (pe_call G_toldby hr_toldby (by rfl) T.m_toldby T.F_toldby.kp T.b_toldby .nil pass0 (pa_cons pe_str (pa_cons (pv 3) (pa_cons (pv 4) pa_nil)))) pe_int (nomark _)) (pw_and (pt_cmpR op_eq (pe_call G_toldby hr_toldby (by rfl) T.m_toldby T.F_toldby.kp T.b_toldby .nil pass0 (pa_cons pe_str (pa_cons (pv 4) (pa_cons (pv 5) pa_nil)))) pe_int (nomark _)) (pw_and1 (pt_cmpR op_ne (pe_call G_toldby hr_toldby (by rfl) T.m_toldby T.F_toldby.kp T.b_toldby .nil pass0 (pa_cons pe_str (pa_cons (pv 3) (pa_cons (pv 5) pa_nil)))) pe_int (nomark _)))))) (pss_one (ps_ret pe_bl)) pss_nil))))))
      (pss_one (ps_ret pe_bl)))), ?_⟩
    refine ⟨_, rfl, a, ns, rfl, hS, hlen, fun H1 p c P1 => ?_⟩
    refine ⟨24, rfl, by decide, by decide, for_range (lo := 0) (n := 24) (fun i σ' H' => ∃ (y2 y3 y4 y5 : Option V) (n : Int), σ' = [some (.ref a), some (.ref p), y2, y3, y4, y5] ∧ Pen H' p c ns n ∧ n ≤ 6 * i)
      ⟨none, none, none, none, 0, rfl, P1, by omega⟩ ?_ ?_⟩
    · rintro i _ H2 hi ⟨y2, y3, y4, y5, n, rfl, P2, hn⟩
      refine ⟨_, rfl, p, c, ns, n, rfl, P2, by omega, fun H3 x n3 k3 P3 n3a n3b hx => ?_⟩
      refine ⟨_, rfl, p, c, ns, n3, rfl, P3, by omega, fun H4 y n4 k4 P4 n4a n4b hy => ?_⟩
      refine ⟨_, rfl, p, c, ns, n4, rfl, P4, by omega, fun H5 z n5 k5 P5 n5a n5b hz => ?_⟩
      refine ⟨_, _, _, rfl, ?_⟩
      refine ⟨_, rfl, _, rfl, _, rfl, x, y, z, rfl, hx, hy, hz, fun H6 s6 => ⟨_, rfl, iteF ?_⟩⟩
      refine ⟨_, rfl, _, rfl, x, y, rfl, hx, hy, fun H7 s7 => ⟨_, rfl, iteF ?_⟩⟩
      refine ⟨_, rfl, _, rfl, x, y, rfl, hx, hy, fun H8 s8 => ⟨_, rfl, iteF ?_⟩⟩
      have P8 := P5.same ((s6.trans s7).trans s8)
      -- one of three
      refine ⟨_, rfl, _, rfl, 5, x, y, by decide, rfl, hx, hy, _, rfl, _, rfl, 5, y, x, by decide, rfl, hy, hx, _, _, rfl, rfl, _, rfl, _, rfl, 6, x, y, by decide, rfl, hx, hy, _, _, rfl, rfl, rfl, _, rfl, iteNS ?_ ?_⟩
      · show V.int (br (if x < y then 1 else 0) + br (if y < x then 1 else 0) + br (if x = y then 1 else 0)) = _
        rcases Int.lt_trichotomy x y with h | h | h
        · rw [if_pos h, if_neg (show ¬ y < x by omega), if_neg (show ¬ x = y by omega)]
          rfl
        · rw [if_neg (show ¬ x < y by omega), if_neg (show ¬ y < x by omega), if_pos h]
          rfl
        · rw [if_neg (show ¬ x < y by omega), if_pos h, if_neg (show ¬ x = y by omega)]
          rfl
      refine ⟨_, rfl, _, rfl, 6, x, x, by decide, rfl, hx, hx, rfl, _, rfl, iteNS ?_ ?_⟩
      · show V.int (br (if x = x then 1 else 0)) = _
        rw [if_pos rfl]
        rfl
      -- the last test
      refine ⟨_, rfl, _, rfl, 5, x, y, by decide, rfl, hx, hy, rfl, _, rfl, ite2 (fun h1 => ?_) (fun h1 => iteF ?_)⟩
      · refine ⟨_, rfl, _, rfl, 5, y, z, by decide, rfl, hy, hz, rfl, _, rfl, ite2 (fun h2 => ?_) (fun h2 => iteF ?_)⟩
        · have less : ∀ u v : Int, decide (V.int (br (sg 5 u v)) = V.int 1) = true → u < v := fun u v h => by
            by_cases g : u < v
            · exact g
            · have e : sg 5 u v = 0 := if_neg g
              rw [e] at h
              have h3 := V.int.inj (of_decide_eq_true h)
              exact absurd h3 (by decide)
          have l1 := less _ _ h1
          have l2 := less _ _ h2
          refine ⟨_, rfl, _, rfl, 5, x, z, by decide, rfl, hx, hz, rfl, _, rfl, iteNS ?_ ?_⟩
          · show V.int (br (if x < z then 1 else 0)) = _
            rw [if_pos (by omega)]
            rfl
          · exact ⟨_, _, _, _, n5, rfl, P8, by omega⟩
        · exact ⟨_, _, _, _, n5, rfl, P8, by omega⟩
      · exact ⟨_, _, _, _, n5, rfl, P8, by omega⟩
    · rintro _ H2 ⟨y2, y3, y4, y5, n, rfl, P2, hn⟩
      exact q _
end
set_option maxHeartbeats 4000000 in
theorem all_mk {l : PySem.W.OpenLaw} {w : World} {K : PySem.W.Frag} {h : Heap} {mg : Str → Option Value} {fa : Addr} (X : K.In h) (G : h.Ns mainGlobals mg) (hfa : mg "law" = some (.ref fa))
    {od0 an0 od1 an1 od2 an2 od3 an3 od4 an4 od5 an5 od6 an6 od7 an7 od8 an8 od9 an9 od10 an10 od11 an11 od12 an12 od13 an13 od14 an14 od15 an15 od16 an16 od17 an17 : Option Addr} {sl0 sl1 sl2 sl3 sl4 sl5 sl6 sl7 sl8 sl9 sl10 sl11 sl12 sl13 sl14 sl15 sl16 sl17 : Array (Option Value)} {oc0 kV0 dc0 pm0 cd0 ct0 oc1 kV1 dc1 pm1 cd1 ct1 oc2 kV2 dc2 pm2 cd2 ct2 oc3 kV3 dc3 pm3 cd3 ct3 oc4 kV4 dc4 pm4 cd4 ct4 oc5 kV5 dc5 pm5 cd5 ct5 oc6 kV6 dc6 pm6 cd6 ct6 oc7 kV7 dc7 pm7 cd7 ct7 oc8 kV8 dc8 pm8 cd8 ct8 oc9 kV9 dc9 pm9 cd9 ct9 oc10 kV10 dc10 pm10 cd10 ct10 oc11 kV11 dc11 pm11 cd11 ct11 oc12 kV12 dc12 pm12 cd12 ct12 oc13 kV13 dc13 pm13 cd13 ct13 oc14 kV14 dc14 pm14 cd14 ct14 oc15 kV15 dc15 pm15 cd15 ct15 oc16 kV16 dc16 pm16 cd16 ct16 oc17 kV17 dc17 pm17 cd17 ct17 : Value} {a0 a1 a2 a3 a4 a5 a6 a7 a8 a9 a10 a11 a12 a13 a14 a15 a16 a17 : Addr} {es_SIGNS : Array DictEntry} {nn_SIGNS : Nat} {o_SIGNS : Addr}
    (e0 : PySem.W.nsIn K mainGlobals "brought" = some (some (.ref a0)))
    (l0 : K.lookup a0 = some ⟨oc0, od0, .func (PySem.W.fnOf "brought" "brought" (defArgs s_brought) (defBody s_brought) (defScope s_brought) .none kV0 dc0 pm0 an0 cd0 ct0), sl0⟩)
    (c0 : PySem.W.codeIn K cd0 "brought" = true) (k0 : PySem.W.keepIn K (.ref a0) = true)
    (e1 : PySem.W.nsIn K mainGlobals "plus" = some (some (.ref a1)))
    (l1 : K.lookup a1 = some ⟨oc1, od1, .func (PySem.W.fnOf "plus" "plus" (defArgs s_plus) (defBody s_plus) (defScope s_plus) .none kV1 dc1 pm1 an1 cd1 ct1), sl1⟩)
    (c1 : PySem.W.codeIn K cd1 "plus" = true) (k1 : PySem.W.keepIn K (.ref a1) = true)
    (e2 : PySem.W.nsIn K mainGlobals "minus" = some (some (.ref a2)))
    (l2 : K.lookup a2 = some ⟨oc2, od2, .func (PySem.W.fnOf "minus" "minus" (defArgs s_minus) (defBody s_minus) (defScope s_minus) .none kV2 dc2 pm2 an2 cd2 ct2), sl2⟩)
    (c2 : PySem.W.codeIn K cd2 "minus" = true) (k2 : PySem.W.keepIn K (.ref a2) = true)
    (e3 : PySem.W.nsIn K mainGlobals "times" = some (some (.ref a3)))
    (l3 : K.lookup a3 = some ⟨oc3, od3, .func (PySem.W.fnOf "times" "times" (defArgs s_times) (defBody s_times) (defScope s_times) .none kV3 dc3 pm3 an3 cd3 ct3), sl3⟩)
    (c3 : PySem.W.codeIn K cd3 "times" = true) (k3 : PySem.W.keepIn K (.ref a3) = true)
    (e4 : PySem.W.nsIn K mainGlobals "quotient" = some (some (.ref a4)))
    (l4 : K.lookup a4 = some ⟨oc4, od4, .func (PySem.W.fnOf "quotient" "quotient" (defArgs s_quotient) (defBody s_quotient) (defScope s_quotient) .none kV4 dc4 pm4 an4 cd4 ct4), sl4⟩)
    (c4 : PySem.W.codeIn K cd4 "quotient" = true) (k4 : PySem.W.keepIn K (.ref a4) = true)
    (e5 : PySem.W.nsIn K mainGlobals "rest" = some (some (.ref a5)))
    (l5 : K.lookup a5 = some ⟨oc5, od5, .func (PySem.W.fnOf "rest" "rest" (defArgs s_rest) (defBody s_rest) (defScope s_rest) .none kV5 dc5 pm5 an5 cd5 ct5), sl5⟩)
    (c5 : PySem.W.codeIn K cd5 "rest" = true) (k5 : PySem.W.keepIn K (.ref a5) = true)
    (e6 : PySem.W.nsIn K mainGlobals "is_less" = some (some (.ref a6)))
    (l6 : K.lookup a6 = some ⟨oc6, od6, .func (PySem.W.fnOf "is_less" "is_less" (defArgs s_isless) (defBody s_isless) (defScope s_isless) .none kV6 dc6 pm6 an6 cd6 ct6), sl6⟩)
    (c6 : PySem.W.codeIn K cd6 "is_less" = true) (k6 : PySem.W.keepIn K (.ref a6) = true)
    (e7 : PySem.W.nsIn K mainGlobals "is_same" = some (some (.ref a7)))
    (l7 : K.lookup a7 = some ⟨oc7, od7, .func (PySem.W.fnOf "is_same" "is_same" (defArgs s_issame) (defBody s_issame) (defScope s_issame) .none kV7 dc7 pm7 an7 cd7 ct7), sl7⟩)
    (c7 : PySem.W.codeIn K cd7 "is_same" = true) (k7 : PySem.W.keepIn K (.ref a7) = true)
    (e8 : PySem.W.nsIn K mainGlobals "bits_of_both" = some (some (.ref a8)))
    (l8 : K.lookup a8 = some ⟨oc8, od8, .func (PySem.W.fnOf "bits_of_both" "bits_of_both" (defArgs s_bitsofboth) (defBody s_bitsofboth) (defScope s_bitsofboth) .none kV8 dc8 pm8 an8 cd8 ct8), sl8⟩)
    (c8 : PySem.W.codeIn K cd8 "bits_of_both" = true) (k8 : PySem.W.keepIn K (.ref a8) = true)
    (e9 : PySem.W.nsIn K mainGlobals "bits_of_one" = some (some (.ref a9)))
    (l9 : K.lookup a9 = some ⟨oc9, od9, .func (PySem.W.fnOf "bits_of_one" "bits_of_one" (defArgs s_bitsofone) (defBody s_bitsofone) (defScope s_bitsofone) .none kV9 dc9 pm9 an9 cd9 ct9), sl9⟩)
    (c9 : PySem.W.codeIn K cd9 "bits_of_one" = true) (k9 : PySem.W.keepIn K (.ref a9) = true)
    (e10 : PySem.W.nsIn K mainGlobals "told_by" = some (some (.ref a10)))
    (l10 : K.lookup a10 = some ⟨oc10, od10, .func (PySem.W.fnOf "told_by" "told_by" (defArgs s_toldby) (defBody s_toldby) (defScope s_toldby) .none kV10 dc10 pm10 an10 cd10 ct10), sl10⟩)
    (c10 : PySem.W.codeIn K cd10 "told_by" = true) (k10 : PySem.W.keepIn K (.ref a10) = true)
    (e11 : PySem.W.nsIn K mainGlobals "_law_feed" = some (some (.ref a11)))
    (l11 : K.lookup a11 = some ⟨oc11, od11, .func (PySem.W.fnOf "_law_feed" "_law_feed" (defArgs s_lfeed) (defBody s_lfeed) (defScope s_lfeed) .none kV11 dc11 pm11 an11 cd11 ct11), sl11⟩)
    (c11 : PySem.W.codeIn K cd11 "_law_feed" = true) (k11 : PySem.W.keepIn K (.ref a11) = true)
    (e12 : PySem.W.nsIn K mainGlobals "_law_draw" = some (some (.ref a12)))
    (l12 : K.lookup a12 = some ⟨oc12, od12, .func (PySem.W.fnOf "_law_draw" "_law_draw" (defArgs s_ldraw) (defBody s_ldraw) (defScope s_ldraw) .none kV12 dc12 pm12 an12 cd12 ct12), sl12⟩)
    (c12 : PySem.W.codeIn K cd12 "_law_draw" = true) (k12 : PySem.W.keepIn K (.ref a12) = true)
    (e13 : PySem.W.nsIn K mainGlobals "_law_worth" = some (some (.ref a13)))
    (l13 : K.lookup a13 = some ⟨oc13, od13, .func (PySem.W.fnOf "_law_worth" "_law_worth" (defArgs s_lworth) (defBody s_lworth) (defScope s_lworth) .none kV13 dc13 pm13 an13 cd13 ct13), sl13⟩)
    (c13 : PySem.W.codeIn K cd13 "_law_worth" = true) (k13 : PySem.W.keepIn K (.ref a13) = true)
    (e14 : PySem.W.nsIn K mainGlobals "_law_sums_right" = some (some (.ref a14)))
    (l14 : K.lookup a14 = some ⟨oc14, od14, .func (PySem.W.fnOf "_law_sums_right" "_law_sums_right" (defArgs s_lsums) (defBody s_lsums) (defScope s_lsums) .none kV14 dc14 pm14 an14 cd14 ct14), sl14⟩)
    (c14 : PySem.W.codeIn K cd14 "_law_sums_right" = true) (k14 : PySem.W.keepIn K (.ref a14) = true)
    (e15 : PySem.W.nsIn K mainGlobals "_law_quotients_right" = some (some (.ref a15)))
    (l15 : K.lookup a15 = some ⟨oc15, od15, .func (PySem.W.fnOf "_law_quotients_right" "_law_quotients_right" (defArgs s_lquots) (defBody s_lquots) (defScope s_lquots) .none kV15 dc15 pm15 an15 cd15 ct15), sl15⟩)
    (c15 : PySem.W.codeIn K cd15 "_law_quotients_right" = true) (k15 : PySem.W.keepIn K (.ref a15) = true)
    (e16 : PySem.W.nsIn K mainGlobals "_law_bits_right" = some (some (.ref a16)))
    (l16 : K.lookup a16 = some ⟨oc16, od16, .func (PySem.W.fnOf "_law_bits_right" "_law_bits_right" (defArgs s_lbits) (defBody s_lbits) (defScope s_lbits) .none kV16 dc16 pm16 an16 cd16 ct16), sl16⟩)
    (c16 : PySem.W.codeIn K cd16 "_law_bits_right" = true) (k16 : PySem.W.keepIn K (.ref a16) = true)
    (e17 : PySem.W.nsIn K mainGlobals "law" = some (some (.ref a17)))
    (l17 : K.lookup a17 = some ⟨oc17, od17, .func (PySem.W.fnOf "law" "law" (defArgs s_law) (defBody s_law) (defScope s_law) .none kV17 dc17 pm17 an17 cd17 ct17), sl17⟩)
    (c17 : PySem.W.codeIn K cd17 "law" = true) (k17 : PySem.W.keepIn K (.ref a17) = true)
    (e_SIGNS : PySem.W.nsIn K mainGlobals "SIGNS" = some (some (.ref o_SIGNS)))
    (l_SIGNS : K.lookup o_SIGNS = some ⟨.type "dict", none, .dict es_SIGNS nn_SIGNS, #[]⟩)
    (k_SIGNS : PySem.W.KeysLit w.params es_SIGNS.toList)
    (v_SIGNS_0 : PySem.W.nsIn K o_SIGNS "+" = some (some (.ref a1)))
    (v_SIGNS_1 : PySem.W.nsIn K o_SIGNS "-" = some (some (.ref a2)))
    (v_SIGNS_2 : PySem.W.nsIn K o_SIGNS "*" = some (some (.ref a3)))
    (v_SIGNS_3 : PySem.W.nsIn K o_SIGNS "/" = some (some (.ref a4)))
    (v_SIGNS_4 : PySem.W.nsIn K o_SIGNS "#" = some (some (.ref a5)))
    (v_SIGNS_5 : PySem.W.nsIn K o_SIGNS "<" = some (some (.ref a6)))
    (v_SIGNS_6 : PySem.W.nsIn K o_SIGNS "=" = some (some (.ref a7)))
    (v_SIGNS_7 : PySem.W.nsIn K o_SIGNS "&" = some (some (.ref a8)))
    (v_SIGNS_8 : PySem.W.nsIn K o_SIGNS "^" = some (some (.ref a9)))
    (z_abs : PySem.W.nsIn K mainGlobals "abs" = some none)
    (z_len : PySem.W.nsIn K mainGlobals "len" = some none)
    (z_list : PySem.W.nsIn K mainGlobals "list" = some none)
    (z_range : PySem.W.nsIn K mainGlobals "range" = some none)
    : ∃ fd : FuncData, (∀ (s : Shared) (v : Value), BindsTo s fd ⟨[v], []⟩ [("_law_script", v)]) ∧ ∀ base : Heap, K.In base → base.Ns mainGlobals mg → FnOk l.prog w K mg base CX0 4 fa fd ["_law_script"] (sp_law K) := by
  have e := hfa.symm.trans (PySem.W.mg_of X G e17)
  cases e
  have F0 := fun_mk (st := s_brought) l0 c0 k0
  have b0 := F0.binds (ps := ["n"]) fun _ _ _ _ _ _ us hl => match us, hl with | [_], _ => rfl
  have F1 := fun_mk (st := s_plus) l1 c1 k1
  have b1 := F1.binds (ps := ["one", "other"]) fun _ _ _ _ _ _ us hl => match us, hl with | [_, _], _ => rfl
  have F2 := fun_mk (st := s_minus) l2 c2 k2
  have b2 := F2.binds (ps := ["one", "other"]) fun _ _ _ _ _ _ us hl => match us, hl with | [_, _], _ => rfl
  have F3 := fun_mk (st := s_times) l3 c3 k3
  have b3 := F3.binds (ps := ["one", "other"]) fun _ _ _ _ _ _ us hl => match us, hl with | [_, _], _ => rfl
  have F4 := fun_mk (st := s_quotient) l4 c4 k4
  have b4 := F4.binds (ps := ["one", "other"]) fun _ _ _ _ _ _ us hl => match us, hl with | [_, _], _ => rfl
  have F5 := fun_mk (st := s_rest) l5 c5 k5
  have b5 := F5.binds (ps := ["one", "other"]) fun _ _ _ _ _ _ us hl => match us, hl with | [_, _], _ => rfl
  have F6 := fun_mk (st := s_isless) l6 c6 k6
  have b6 := F6.binds (ps := ["one", "other"]) fun _ _ _ _ _ _ us hl => match us, hl with | [_, _], _ => rfl
  have F7 := fun_mk (st := s_issame) l7 c7 k7
  have b7 := F7.binds (ps := ["one", "other"]) fun _ _ _ _ _ _ us hl => match us, hl with | [_, _], _ => rfl
  have F8 := fun_mk (st := s_bitsofboth) l8 c8 k8
  have b8 := F8.binds (ps := ["one", "other"]) fun _ _ _ _ _ _ us hl => match us, hl with | [_, _], _ => rfl
  have F9 := fun_mk (st := s_bitsofone) l9 c9 k9
  have b9 := F9.binds (ps := ["one", "other"]) fun _ _ _ _ _ _ us hl => match us, hl with | [_, _], _ => rfl
  have F10 := fun_mk (st := s_toldby) l10 c10 k10
  have b10 := F10.binds (ps := ["sign", "one", "other"]) fun _ _ _ _ _ _ us hl => match us, hl with | [_, _, _], _ => rfl
  have F11 := fun_mk (st := s_lfeed) l11 c11 k11
  have b11 := F11.binds (ps := ["_law_script"]) fun _ _ _ _ _ _ us hl => match us, hl with | [_], _ => rfl
  have F12 := fun_mk (st := s_ldraw) l12 c12 k12
  have b12 := F12.binds (ps := ["_law_feed_here", "_law_many"]) fun _ _ _ _ _ _ us hl => match us, hl with | [_, _], _ => rfl
  have F13 := fun_mk (st := s_lworth) l13 c13 k13
  have b13 := F13.binds (ps := ["_law_feed_here"]) fun _ _ _ _ _ _ us hl => match us, hl with | [_], _ => rfl
  have F14 := fun_mk (st := s_lsums) l14 c14 k14
  have b14 := F14.binds (ps := ["_law_a", "_law_b", "_law_c"]) fun _ _ _ _ _ _ us hl => match us, hl with | [_, _, _], _ => rfl
  have F15 := fun_mk (st := s_lquots) l15 c15 k15
  have b15 := F15.binds (ps := ["_law_a", "_law_b"]) fun _ _ _ _ _ _ us hl => match us, hl with | [_, _], _ => rfl
  have F16 := fun_mk (st := s_lbits) l16 c16 k16
  have b16 := F16.binds (ps := ["_law_a", "_law_b"]) fun _ _ _ _ _ _ us hl => match us, hl with | [_, _], _ => rfl
  have F17 := fun_mk (st := s_law) l17 c17 k17
  have b17 := F17.binds (ps := ["_law_script"]) fun _ _ _ _ _ _ us hl => match us, hl with | [_], _ => rfl
  let f : Nat → Addr := fun i => match i with | 0 => a0 | 1 => a1 | 2 => a2 | 3 => a3 | 4 => a4 | 5 => a5 | 6 => a6 | 7 => a7 | 8 => a8 | 9 => a9 | 10 => a10 | 11 => a11 | 12 => a12 | 13 => a13 | 14 => a14 | 15 => a15 | 16 => a16 | 17 => fa | _ => a0
  let fd : Nat → FuncData := fun i => match i with | 0 => PySem.W.fnOf "brought" "brought" (defArgs s_brought) (defBody s_brought) (defScope s_brought) .none kV0 dc0 pm0 an0 cd0 ct0 | 1 => PySem.W.fnOf "plus" "plus" (defArgs s_plus) (defBody s_plus) (defScope s_plus) .none kV1 dc1 pm1 an1 cd1 ct1 | 2 => PySem.W.fnOf "minus" "minus" (defArgs s_minus) (defBody s_minus) (defScope s_minus) .none kV2 dc2 pm2 an2 cd2 ct2 | 3 => PySem.W.fnOf "times" "times" (defArgs s_times) (defBody s_times) (defScope s_times) .none kV3 dc3 pm3 an3 cd3 ct3 | 4 => PySem.W.fnOf "quotient" "quotient" (defArgs s_quotient) (defBody s_quotient) (defScope s_quotient) .none kV4 dc4 pm4 an4 cd4 ct4 | 5 => PySem.W.fnOf "rest" "rest" (defArgs s_rest) (defBody s_rest) (defScope s_rest) .none kV5 dc5 pm5 an5 cd5 ct5 | 6 => PySem.W.fnOf "is_less" "is_less" (defArgs s_isless) (defBody s_isless) (defScope s_isless) .none kV6 dc6 pm6 an6 cd6 ct6 | 7 => PySem.W.fnOf "is_same" "is_same" (defArgs s_issame) (defBody s_issame) (defScope s_issame) .none kV7 dc7 pm7 an7 cd7 ct7 | 8 => PySem.W.fnOf "bits_of_both" "bits_of_both" (defArgs s_bitsofboth) (defBody s_bitsofboth) (defScope s_bitsofboth) .none kV8 dc8 pm8 an8 cd8 ct8 | 9 => PySem.W.fnOf "bits_of_one" "bits_of_one" (defArgs s_bitsofone) (defBody s_bitsofone) (defScope s_bitsofone) .none kV9 dc9 pm9 an9 cd9 ct9 | 10 => PySem.W.fnOf "told_by" "told_by" (defArgs s_toldby) (defBody s_toldby) (defScope s_toldby) .none kV10 dc10 pm10 an10 cd10 ct10 | 11 => PySem.W.fnOf "_law_feed" "_law_feed" (defArgs s_lfeed) (defBody s_lfeed) (defScope s_lfeed) .none kV11 dc11 pm11 an11 cd11 ct11 | 12 => PySem.W.fnOf "_law_draw" "_law_draw" (defArgs s_ldraw) (defBody s_ldraw) (defScope s_ldraw) .none kV12 dc12 pm12 an12 cd12 ct12 | 13 => PySem.W.fnOf "_law_worth" "_law_worth" (defArgs s_lworth) (defBody s_lworth) (defScope s_lworth) .none kV13 dc13 pm13 an13 cd13 ct13 | 14 => PySem.W.fnOf "_law_sums_right" "_law_sums_right" (defArgs s_lsums) (defBody s_lsums) (defScope s_lsums) .none kV14 dc14 pm14 an14 cd14 ct14 | 15 => PySem.W.fnOf "_law_quotients_right" "_law_quotients_right" (defArgs s_lquots) (defBody s_lquots) (defScope s_lquots) .none kV15 dc15 pm15 an15 cd15 ct15 | 16 => PySem.W.fnOf "_law_bits_right" "_law_bits_right" (defArgs s_lbits) (defBody s_lbits) (defScope s_lbits) .none kV16 dc16 pm16 an16 cd16 ct16 | 17 => PySem.W.fnOf "law" "law" (defArgs s_law) (defBody s_law) (defScope s_law) .none kV17 dc17 pm17 an17 cd17 ct17 | _ => PySem.W.fnOf "brought" "brought" (defArgs s_brought) (defBody s_brought) (defScope s_brought) .none kV0 dc0 pm0 an0 cd0 ct0
  let ob : Nat → Addr := fun i => match i with | 0 => o_SIGNS | _ => o_SIGNS
  have T : Txt K w mg f fd ob := ⟨F0, PySem.W.mg_of X G e0, b0, F1, PySem.W.mg_of X G e1, b1, F2, PySem.W.mg_of X G e2, b2, F3, PySem.W.mg_of X G e3, b3, F4, PySem.W.mg_of X G e4, b4, F5, PySem.W.mg_of X G e5, b5, F6, PySem.W.mg_of X G e6, b6, F7, PySem.W.mg_of X G e7, b7, F8, PySem.W.mg_of X G e8, b8, F9, PySem.W.mg_of X G e9, b9, F10, PySem.W.mg_of X G e10, b10, F11, PySem.W.mg_of X G e11, b11, F12, PySem.W.mg_of X G e12, b12, F13, PySem.W.mg_of X G e13, b13, F14, PySem.W.mg_of X G e14, b14, F15, PySem.W.mg_of X G e15, b15, F16, PySem.W.mg_of X G e16, b16, F17, PySem.W.mg_of X G e17, b17, PySem.W.mg_of X G e_SIGNS, ⟨_, _, _, l_SIGNS, k_SIGNS, v_SIGNS_0, rfl⟩, ⟨_, _, _, l_SIGNS, k_SIGNS, v_SIGNS_1, rfl⟩, ⟨_, _, _, l_SIGNS, k_SIGNS, v_SIGNS_2, rfl⟩, ⟨_, _, _, l_SIGNS, k_SIGNS, v_SIGNS_3, rfl⟩, ⟨_, _, _, l_SIGNS, k_SIGNS, v_SIGNS_4, rfl⟩, ⟨_, _, _, l_SIGNS, k_SIGNS, v_SIGNS_5, rfl⟩, ⟨_, _, _, l_SIGNS, k_SIGNS, v_SIGNS_6, rfl⟩, ⟨_, _, _, l_SIGNS, k_SIGNS, v_SIGNS_7, rfl⟩, ⟨_, _, _, l_SIGNS, k_SIGNS, v_SIGNS_8, rfl⟩, PySem.W.mg_none_of X G z_abs, PySem.W.mg_none_of X G z_len, PySem.W.mg_none_of X G z_list, PySem.W.mg_none_of X G z_range⟩
  exact ⟨fd 17, fun s v => .of_eq rfl, fun base _ _ => ok_law T⟩
end Kw
open PySem PySem.W PyProof.Rows
set_option maxRecDepth 100000 in
set_option maxHeartbeats 0 in
theorem PySem.Challenge.cw_replaytravel_k03_whole_signs_hold_togeth_holds : PySem.Challenge.rw_replaytravel_k03_whole_signs_hold_togeth.Holds := by
  w_on; o_law; k_head; (case hw => w_witness2)
  k_fill
  refine L2.walk_of (l := PySem.Challenge.rw_replaytravel_k03_whole_signs_hold_togeth) (n := 63) (k := 4) (x := "_law_script") (CX := fun _ => L2.CX0) (sp := fun w => Kw.sp_law _) rfl (by decide) rfl ⟨rfl, by decide, by decide⟩ (fun w h Y => PySem.W.kIn_of Y) ?F (fun _ _ a ns hl _ hS => ⟨a, ns, rfl, hS, hl, fun _ => rfl⟩) (fun _ _ _ _ _ h => h)
  case F =>
    intro w mg fa h KX G hmg
    refine' Kw.all_mk KX G hmg ?e0 ?l0 ?c0 ?k0 ?e1 ?l1 ?c1 ?k1 ?e2 ?l2 ?c2 ?k2 ?e3 ?l3 ?c3 ?k3 ?e4 ?l4 ?c4 ?k4 ?e5 ?l5 ?c5 ?k5 ?e6 ?l6 ?c6 ?k6 ?e7 ?l7 ?c7 ?k7 ?e8 ?l8 ?c8 ?k8 ?e9 ?l9 ?c9 ?k9 ?e10 ?l10 ?c10 ?k10 ?e11 ?l11 ?c11 ?k11 ?e12 ?l12 ?c12 ?k12 ?e13 ?l13 ?c13 ?k13 ?e14 ?l14 ?c14 ?k14 ?e15 ?l15 ?c15 ?k15 ?e16 ?l16 ?c16 ?k16 ?e17 ?l17 ?c17 ?k17 ?e_SIGNS ?l_SIGNS ?k_SIGNS ?v_SIGNS_0 ?v_SIGNS_1 ?v_SIGNS_2 ?v_SIGNS_3 ?v_SIGNS_4 ?v_SIGNS_5 ?v_SIGNS_6 ?v_SIGNS_7 ?v_SIGNS_8 ?z_abs ?z_len ?z_list ?z_range
    (case e0 => k_is)
    (case l0 => k_is)
    (case c0 => k_is)
    (case k0 => k_is)
    (case e1 => k_is)
    (case l1 => k_is)
    (case c1 => k_is)
    (case k1 => k_is)
    (case e2 => k_is)
    (case l2 => k_is)
    (case c2 => k_is)
    (case k2 => k_is)
    (case e3 => k_is)
    (case l3 => k_is)
    (case c3 => k_is)
    (case k3 => k_is)
    (case e4 => k_is)
    (case l4 => k_is)
    (case c4 => k_is)
    (case k4 => k_is)
    (case e5 => k_is)
    (case l5 => k_is)
    (case c5 => k_is)
    (case k5 => k_is)
    (case e6 => k_is)
    (case l6 => k_is)
    (case c6 => k_is)
    (case k6 => k_is)
    (case e7 => k_is)
    (case l7 => k_is)
    (case c7 => k_is)
    (case k7 => k_is)
    (case e8 => k_is)
    (case l8 => k_is)
    (case c8 => k_is)
    (case k8 => k_is)
    (case e9 => k_is)
    (case l9 => k_is)
    (case c9 => k_is)
    (case k9 => k_is)
    (case e10 => k_is)
    (case l10 => k_is)
    (case c10 => k_is)
    (case k10 => k_is)
    (case e11 => k_is)
    (case l11 => k_is)
    (case c11 => k_is)
    (case k11 => k_is)
    (case e12 => k_is)
    (case l12 => k_is)
    (case c12 => k_is)
    (case k12 => k_is)
    (case e13 => k_is)
    (case l13 => k_is)
    (case c13 => k_is)
    (case k13 => k_is)
    (case e14 => k_is)
    (case l14 => k_is)
    (case c14 => k_is)
    (case k14 => k_is)
    (case e15 => k_is)
    (case l15 => k_is)
    (case c15 => k_is)
    (case k15 => k_is)
    (case e16 => k_is)
    (case l16 => k_is)
    (case c16 => k_is)
    (case k16 => k_is)
    (case e17 => k_is)
    (case l17 => k_is)
    (case c17 => k_is)
    (case k17 => k_is)
    (case e_SIGNS => k_is)
    (case l_SIGNS => k_is)
    (case k_SIGNS => repeat' (first | exact trivial | refine ⟨⟨_, _, rfl, rfl⟩, ?_⟩))
    (case v_SIGNS_0 => k_is)
    (case v_SIGNS_1 => k_is)
    (case v_SIGNS_2 => k_is)
    (case v_SIGNS_3 => k_is)
    (case v_SIGNS_4 => k_is)
    (case v_SIGNS_5 => k_is)
    (case v_SIGNS_6 => k_is)
    (case v_SIGNS_7 => k_is)
    (case v_SIGNS_8 => k_is)
    (case z_abs => k_is)
    (case z_len => k_is)
    (case z_list => k_is)
    (case z_range => k_is)

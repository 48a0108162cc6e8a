import PyProof.Rows.All
import Wide.All
import OpenK.AllK
import Wide.FinOn
import HandS.ForMost
import HandS.RaiseMore
import HandS.Defaults
import HandS.Wide
import HandS.Codes
import HandS.More
import HandS.Style
import HandS.DictComp
import HandS.Deep
import HandS.SetFor
import HandS.IsInst
import HandS.StrMore
import HandS.Walk
import HandS.Flow
import PyProof.ReprRoads
import PyProof.StrLaws
import PyProof.FitsInt
import PySem.Challenge.RW_replaytravel_k36_befores_kept
set_option Elab.async false
set_option maxRecDepth 100000
set_option maxHeartbeats 4000000
namespace Kw
open PySem L2
def top (i : Nat) : Stmt := PySem.Challenge.pw_replaytravel_k36_befores_kept.main.body.getD i (.Pass ⟨0, 0, 0, 0⟩)
abbrev s_namesof : Stmt := top 1
abbrev N_namesof : List Str := ["turns", "many", "names", "thread"]
theorem sc_namesof : FnScope N_namesof ["turns"] (defScope s_namesof) := ⟨rfl, rfl, rfl, by decide +kernel, rfl, by decide +kernel, by decide +kernel⟩
abbrev s_keeps : Stmt := top 3
abbrev N_keeps : List Str := ["befores", "turns", "places", "at", "name", "one", "other"]
theorem sc_keeps : FnScope N_keeps ["befores", "turns"] (defScope s_keeps) := ⟨rfl, rfl, rfl, by decide +kernel, rfl, by decide +kernel, by decide +kernel⟩
abbrev s_lpen : Stmt := top 5
abbrev N_lpen : List Str := ["_law_script"]
theorem sc_lpen : FnScope N_lpen ["_law_script"] (defScope s_lpen) := ⟨rfl, rfl, rfl, by decide +kernel, rfl, by decide +kernel, by decide +kernel⟩
abbrev s_ldraw : Stmt := top 6
abbrev N_ldraw : List Str := ["_law_pen_here", "_law_many", "_law_digit", "_law_turn", "_law_cell", "_law_primes", "_law_prime", "_law_mixed"]
theorem sc_ldraw : FnScope N_ldraw ["_law_pen_here", "_law_many"] (defScope s_ldraw) := ⟨rfl, rfl, rfl, by decide +kernel, rfl, by decide +kernel, by decide +kernel⟩
abbrev s_lnamed : Stmt := top 7
abbrev N_lnamed : List Str := ["_law_turns", "_law_k"]
theorem sc_lnamed : FnScope N_lnamed ["_law_turns"] (defScope s_lnamed) := ⟨rfl, rfl, rfl, by decide +kernel, rfl, by decide +kernel, by decide +kernel⟩
abbrev s_lkeeps : Stmt := top 8
abbrev N_lkeeps : List Str := ["_law_befores", "_law_called", "_law_one", "_law_other"]
theorem sc_lkeeps : FnScope N_lkeeps ["_law_befores", "_law_called"] (defScope s_lkeeps) := ⟨rfl, rfl, rfl, by decide +kernel, rfl, by decide +kernel, by decide +kernel⟩
abbrev s_law : Stmt := top 9
abbrev N_law : List Str := ["_law_script", "_law_pen_here", "_law_bout", "_law_turns", "_law_k", "_law_names", "_law_far", "_law_befores", "_law_some", "_law_j", "_law_at", "_law_kept", "_law_due"]
theorem sc_law : FnScope N_law ["_law_script"] (defScope s_law) := ⟨rfl, rfl, rfl, by decide +kernel, rfl, by decide +kernel, by decide +kernel⟩
structure Txt (K : PySem.W.Frag) (mg : Str → Option Value) (f : Nat → Addr) (fd : Nat → FuncData) : Prop where
  F_namesof : Fun K "names_of" "names_of" s_namesof (f 0) (fd 0)
  m_namesof : mg "names_of" = some (.ref (f 0))
  b_namesof : Binds K (fd 0) ["turns"] []
  F_keeps : Fun K "keeps" "keeps" s_keeps (f 1) (fd 1)
  m_keeps : mg "keeps" = some (.ref (f 1))
  b_keeps : Binds K (fd 1) ["befores", "turns"] []
  F_lpen : Fun K "_law_pen" "_law_pen" s_lpen (f 2) (fd 2)
  m_lpen : mg "_law_pen" = some (.ref (f 2))
  b_lpen : Binds K (fd 2) ["_law_script"] []
  F_ldraw : Fun K "_law_draw" "_law_draw" s_ldraw (f 3) (fd 3)
  m_ldraw : mg "_law_draw" = some (.ref (f 3))
  b_ldraw : Binds K (fd 3) ["_law_pen_here", "_law_many"] []
  F_lnamed : Fun K "_law_named" "_law_named" s_lnamed (f 4) (fd 4)
  m_lnamed : mg "_law_named" = some (.ref (f 4))
  b_lnamed : Binds K (fd 4) ["_law_turns"] []
  F_lkeeps : Fun K "_law_keeps" "_law_keeps" s_lkeeps (f 5) (fd 5)
  m_lkeeps : mg "_law_keeps" = some (.ref (f 5))
  b_lkeeps : Binds K (fd 5) ["_law_befores", "_law_called"] []
  F_law : Fun K "law" "law" s_law (f 6) (fd 6)
  m_law : mg "law" = some (.ref (f 6))
  b_law : Binds K (fd 6) ["_law_script"] []
  z_abs : mg "abs" = none
  z_enumerate : mg "enumerate" = none
  z_len : mg "len" = none
  z_list : mg "list" = none
  z_range : mg "range" = none
  z_repr : mg "repr" = none
  z_tuple : mg "tuple" = none
/-! Frames: all that was tracked but p stands as it stood. -/
def Kp (p : Addr) (H H' : Hp) : Prop := ∀ b o, b ≠ p → H b = some o → H' b = some o
theorem Kp.refl (p : Addr) (H : Hp) : Kp p H H := fun _ _ _ h => h
theorem Kp.trans {p : Addr} {H H1 H2 : Hp} (a : Kp p H H1) (b : Kp p H1 H2) : Kp p H H2 := fun x o n h => b x o n (a x o n h)
theorem Kp.upd {p : Addr} {H : Hp} (o : HO) : Kp p H (upd H p o) := fun b u n h => by
  rw [upd_ne n]
  exact h
theorem Kp.new {p q : Addr} {H : Hp} {o : HO} (h : H q = none) : Kp p H (L2.upd H q o) := fun b u _ e => by
  rw [upd_ne (ne_of_none e h)]
  exact e
theorem Kp.mut {p q : Addr} {H H' : Hp} {o : HO} (k : Kp p H H') (h : H q = none) : Kp p H (L2.upd H' q o) := fun b u n e => by
  rw [upd_ne (ne_of_none e h)]
  exact k b u n e
theorem Same.kp {p : Addr} {H H' : Hp} (s : Same H H') : Kp p H H' := fun b o _ h => s b o h
theorem Same.new {q : Addr} {H : Hp} {o : HO} (h : H q = none) : Same H (L2.upd H q o) := fun b u e => by
  rw [upd_ne (ne_of_none e h)]
  exact e
theorem Same.mut {q : Addr} {H H' : Hp} {o : HO} (k : Same H H') (h : H q = none) : Same H (L2.upd H' q o) := fun b u e => by
  rw [upd_ne (ne_of_none e h)]
  exact k b u e
/-- free behind a frame is free ahead of it, but for p -/
theorem Kp.free {p q : Addr} {H H' : Hp} (k : Kp p H H') (hq : q ≠ p) (h : H' q = none) : H q = none := by
  cases e : H q with
  | none => rfl
  | some o =>
    rw [k q o hq e] at h
    cases h
/-! What holds of the feed: a list of the cells, how many were begun, what is left. -/
def Pen (H : Hp) (p c : Addr) (ns : List Int) (n : Int) : Prop :=
  ∃ r : Int, H p = some (.lst [.ref c, .int n, .int r]) ∧ H c = some (.lst (ns.map V.int)) ∧ 0 ≤ n ∧ 0 ≤ r
theorem Pen.ne {H : Hp} {p c : Addr} {ns : List Int} {n : Int} (h : Pen H p c ns n) : c ≠ p := by
  obtain ⟨r, h1, h2, _⟩ := h
  refine ne_of h2 h1 fun e => ?_
  cases ns with
  | nil => cases e
  | cons a l => cases e
theorem Pen.nn {H : Hp} {p c : Addr} {ns : List Int} {n : Int} (h : Pen H p c ns n) : 0 ≤ n := by
  obtain ⟨r, _, _, h, _⟩ := h
  exact h
theorem Pen.new {H : Hp} {p c q : Addr} {ns : List Int} {n : Int} {o : HO} (h : Pen H p c ns n) (hq : H q = none) : Pen (upd H q o) p c ns n := by
  obtain ⟨r, h1, h2, h3, h4⟩ := h
  exact ⟨r, (upd_ne (ne_of_none h1 hq)).trans h1, (upd_ne (ne_of_none h2 hq)).trans h2, h3, h4⟩
theorem Pen.same {H H' : Hp} {p c : Addr} {ns : List Int} {n : Int} (h : Pen H p c ns n) (s : Same H H') : Pen H' p c ns n := by
  obtain ⟨r, h1, h2, h3, h4⟩ := h
  exact ⟨r, s _ _ h1, s _ _ h2, h3, h4⟩
theorem Pen.ni {H : Hp} {p c q : Addr} {ns : List Int} {n : Int} (h : Pen H p c ns n) (hq : H q = none) : q ≠ p := by
  obtain ⟨r, h1, _⟩ := h
  exact (ne_of_none h1 hq).symm
theorem cut63 {xs : List V} (h : xs.length ≤ 63) : cutV xs none (some 63) = xs := by
  unfold cutV
  rw [HT.sIx_none, show HT.sIx xs.length xs.length (some 63) = min 63 xs.length from HT.sIx_nat xs.length xs.length 63]
  rw [show min 63 xs.length = xs.length by omega]
  simp
theorem atI_in {ns : List Int} {i : Int} (h0 : 0 ≤ i) (h1 : i < ((ns.map V.int).length : Int)) : ∃ v : Int, atI (ns.map V.int) i = some (.int v) := by
  obtain ⟨j, rfl⟩ := Int.eq_ofNat_of_zero_le h0
  have hj : j < ns.length := by
    rw [List.length_map] at h1
    omega
  refine ⟨ns[j], atI_nat ?_⟩
  rw [List.getElem?_map, List.getElem?_eq_getElem hj]
  rfl
theorem few {i : Int} (h : i.natAbs < 2 ^ 20) : i.natAbs.log2 < 1920 := Nat.lt_of_lt_of_le (PySem.Flt.log2_lt_of (by decide) h) (by decide)
/-! Lists of ints as data. -/
theorem dpInts {K : PySem.W.Frag} {H : Hp} : ∀ ns : List Int, DpAll K H (ns.map V.int) (ns.map PyData.int)
  | [] => .nil
  | n :: r => .cons (.int n) (dpInts r)
theorem dpL {K : PySem.W.Frag} {H : Hp} {a : Addr} {ns : List Int} (h : SqL K H a (ns.map V.int)) : Dp K H (.ref a) (.list (ns.map PyData.int)) := .lst h (dpInts ns)
theorem shInts (ns : List Int) : SeqAt.shaped (.list (ns.map PyData.int)) = true := by
  simp [SeqAt.shaped, PyData.canLay0, PyData.depth, PySem.W.ke_canLayAll0, PySem.W.ke_depthAll]
theorem eqvInts (ns ms : List Int) : PyData.eqv (.list (ns.map PyData.int)) (.list (ms.map PyData.int)) = decide (ns = ms) := by
  rw [PyData.eqv, PySem.W.ked_eqvAll]
/-! A word between a test and what follows it; between an expression and what follows it. -/
section
variable {X : Cx}
def tM (t : TT) : TT := fun σ H Q => ∃ M : Bool → Hp → Prop, t σ H M ∧ ∀ b H', M b H' → Q b H'
theorem pt_M {e : Expr} {t : TT} (h : PT X e t) : PT X e (tM t) :=
  ⟨fun pins s σ H _ I ⟨M, hm, k⟩ => thn (h.run pins s σ H M I hm) fun b _ ⟨H1, I1, q⟩ => ⟨H1, I1, k b H1 q⟩⟩
def eM (t : TE) : TE := fun σ H Q => ∃ M : V → Hp → Prop, t σ H M ∧ ∀ v H', M v H' → Q v H'
theorem pe_M {e : Expr} {t : TE} (h : PE X e t) : PE X e (eM t) :=
  ⟨fun pins s σ H _ I ⟨M, hm, k⟩ => thn (h.run pins s σ H M I hm) fun _ _ ⟨v, H1, I1, r, q⟩ => ⟨v, H1, I1, r, k v H1 q⟩⟩
end
theorem Pen.nt {H : Hp} {p c q : Addr} {ns : List Int} {n : Int} {o : HO} (h : Pen H p c ns n) (e : H q = some o) (ho : ∀ xs, o ≠ .lst xs) : q ≠ p := by
  obtain ⟨r, h1, _⟩ := h
  exact ne_of e h1 (ho _)
theorem ex_t {K : PySem.W.Frag} {H H' : Hp} {a : Addr} {xs : List V} (e : Same H H') (h : SqT K H a xs) : SqT K H' a xs := by
  rcases h with (h | ⟨o, h⟩) | h
  · exact .inl (.inl (e _ _ h))
  · exact .inl (.inr ⟨o, e _ _ h⟩)
  · exact .inr h
/-! Defs that are called where no repr is under way (guards known): their promise, the rule, the call, the law's end. -/
structure FnG (P : Program) (w : World) (K : PySem.W.Frag) (mg : Str → Option Value) (base : Heap) (C : CXT) (k : Nat) (f : Addr) (fd : FuncData) (ps : List Str) (sp : Sp) : Prop where
  len : ∀ vs H Q E, sp vs H Q E → vs.length = ps.length
  go : ∀ (A : Around) (o : List Env) (s : Shared) (H : Hp) (args : Args) (us : List Value) (vs : List V) (Q : VK) (E : XK), A.guards = some [] → Room k A → Env0 P w K mg base A o s H →
    BindsTo s fd args (ps.zip us) → Vals vs us → sp vs H Q E → codeAny (model P w) A (.call (.ref f) args) (CR C o P w H s Q E) s
theorem FnG.of {P : Program} {w : World} {K : PySem.W.Frag} {mg : Str → Option Value} {base : Heap} {C : CXT} {k : Nat} {f : Addr} {fd : FuncData} {ps : List Str} {sp : Sp} (h : FnOk P w K mg base C k f fd ps sp) : FnG P w K mg base C k f fd ps sp :=
  ⟨h.len, fun A o s H args us vs Q E _ => h.run A o s H args us vs Q E⟩
section
open PyProof.Rows
theorem Fun.okG {P : Program} {w : World} {K : PySem.W.Frag} {mg : Str → Option Value} {base : Heap} {x qual : Str} {st : Stmt} {f : Addr} {fd : FuncData} {N ps : List Str} {k : Nat} {sp : Sp} (F : Fun K x qual st f fd) (S : FnScope N ps (defScope st))
    (len : ∀ vs H Q E, sp vs H Q E → vs.length = ps.length)
    (body : ∀ (cdv : Value) (A : Around) (o : List Env) (s : Shared) (H : Hp) (vs : List V) (Q : VK) (E : XK), A.guards = some [] → Room k (A.deeper (envOfC qual (defScope st) s.heap.objs.size f cdv)) → sp vs H Q E →
      ∃ t, PSs (cxOf CX0 P w K mg base N qual (defScope st) f cdv A o s H E).nox (defBody st) t ∧ t { nx := fun _ H' => Q .non H', rt := Q } (start N vs) H) : FnG P w K mg base CX0 (k + 1) f fd ps sp := by
  obtain ⟨oc, od, kV, doc, pm, an, cdv, ct, osl, rfl, lk, hcd⟩ := F.ex
  constructor
  · exact len
  · intro A o s H args us vs Q E hg room env bnd rel want
    have hl := len vs H Q E want
    have kin : K.In s.heap := env.mod.kin.keeps fun b u e => (env.bs b u e).1
    have nol : s.heap.NoLimit := env.mod.nolimit.keeps fun b u e => (env.bs b u e).1
    have kinds : ∀ y ∈ ps.zip us, (defScope st).names.lookup y.1 = some .local ∨ ((defScope st).names.lookup y.1 = some .cell ∧ ((cellsFrom (s.heap.objs.size + 1) (defScope st).names []).lookup y.1).isSome = true) := by
      rintro ⟨n, v⟩ hy
      rcases S.par n (List.of_mem_zip hy).1 with q | q
      · left
        exact q
      · right
        exact ⟨q, PySem.W.cellsFrom_some _ _ _ (.inl q)⟩
    refine codeAny_call_function room.depth (kin _ _ lk) rfl S.co S.gen rfl (PySem.W.codeRec_of kin hcd) (bnd _ _ _ _ ?_)
    apply wpAny_newFunctionEnv_cells S.kind kinds
    intro en he s1 q1
    subst he
    refine ⟨nol.keeps q1.toInCall.keep, codeAny_func ?_⟩
    obtain ⟨t, ht, hq⟩ := body cdv A o s H vs Q E hg (room.deeper _) want
    have J : Inv (cxOf CX0 P w K mg base N qual (defScope st) f cdv A o s H E) [] (start N vs) H s1 := inv_start S room.hd env hl rel q1
    refine wpAny_mono (ht.nox.run [] s1 (start N vs) H _ J hq) ?_ (fun e s' z => z)
    intro fl s' z
    match fl, z with
    | .ret u, ⟨v, _, H', I', rv, qv⟩ => exact ⟨v, H', I'.os, I'.bare, I'.base, I'.hok, rv, qv⟩
    | .next, ⟨_, H', I', qv⟩ => exact ⟨V.non, H', I'.os, I'.bare, I'.base, I'.hok, rfl, qv⟩
    | .brk, ⟨_, _, _, bad⟩ => exact False.elim bad
    | .cont, ⟨_, _, _, bad⟩ => exact False.elim bad
/-- the call of such a def by its name -/
theorem callG {X : Cx} {C : CXT} {k : Nat} {f : Addr} {fd : FuncData} {ps : List Str} {ds : List Value} {dvs : List V} {sp : Sp} {E : XK} {x : Str} {p pos : Pos} {e : Expr} {es : List Expr} {t : TA}
    (F : FnG X.prog X.w X.K X.mg X.base C k f fd ps sp) (hu : X.A.guards = some []) (room : Room k X.A) (glob : Gl X x) (hm : X.mg x = some (.ref f)) (kp : PySem.W.keepIn X.K (.ref f) = true) (bnd : Binds X.K fd ps ds) (hd : Vals dvs ds) (pas : Passes C X E)
    (args : PA X (e :: es) t) (h1 : (x == ("__debug__" : Str)) = false := by decide) (h2 : starEach (e :: es) X.env = (false, eval e X.env) :: starEach es X.env := by rfl) (h3 : (backTo pos (starEach es X.env)).any (·.1) = false := by rfl) :
    PE X (.Call (.Name x p) (e :: es) [] pos) (tCall sp dvs E t) := by
  constructor
  intro pins s σ H Q I h
  refine wpAny_Call_Name_kw (ld_glob I glob hm ?_ h1)
  refine PySem.W.callWith_K (h₀ := X.base) I.ok.mod.kin kp (thn (args.run pos pins s σ H _ I h) ?_) h2 h3
  rintro us s1 ⟨vs, H1, I1, r1, q1⟩
  refine ⟨I1.kIn, ?_⟩
  have r2 : Vals (vs ++ dvs) (us ++ ds) := r1.append hd
  have hl : (us ++ ds).length = ps.length := r2.length.symm.trans (F.len _ _ _ _ q1)
  refine wpAny_call (codeAny_mono (F.go X.A X.stack s1 H1 ⟨us, []⟩ (us ++ ds) (vs ++ dvs) Q E hu room I1.env0 (bnd s1 us I1.kIn hl) r2 q1) ?_)
  intro r s' hq
  match r, hq with
  | .error z, hq => exact pas pins σ H1 s1 z s' I1 hq
  | .ok (.ret u), hq => exact I1.after hq
  | .ok .next, hq => exact False.elim hq
  | .ok .brk, hq => exact False.elim hq
  | .ok .cont, hq => exact False.elim hq
/-- repr of data -/
structure ShowOk (d : PyData) : Prop where
  can : d.showable = true
  nod : d.hasDict = false
  deep : d.depth ≤ 60
  size : d.shown.length ≤ sizeLine
def rRepr (K : PySem.W.Frag) : List V → Hp → VK → Prop := fun xs H Q => ∃ (x : V) (d : PyData), xs = [x] ∧ Dp K H x d ∧ ShowOk d ∧ Q (.str d.shown) H
theorem call_reprD {X : Cx} (hg : X.A.guards = some []) (hu : X.A.units + 64 < cLine) : CallR X (.builtin "repr") (rRepr X.K) := by
  intro pins s σ H xs us Q I r h
  obtain ⟨x, d, rfl, dp, ok, q⟩ := h
  obtain ⟨u, rfl, ru⟩ := vals1 r
  obtain ⟨as, rd⟩ := Dp.reads I d x u dp ru
  cases dp with
  | non =>
    cases ru
    exact PySem.P.repr_of_none ⟨.str _, H, I.tok _, ⟨_, rfl⟩, q⟩
  | bl b =>
    cases ru
    exact PySem.P.repr_of_bool ⟨.str _, H, I.tok _, ⟨_, rfl⟩, q⟩
  | int i =>
    obtain ⟨t, rfl⟩ := ru
    exact PySem.P.repr_of_int (of_decide_eq_true ok.can) ⟨.str _, H, I.tok _, ⟨_, rfl⟩, q⟩
  | str z =>
    obtain ⟨t, rfl⟩ := ru
    exact PySem.P.repr_of_str ⟨.str _, H, I.tok _, ⟨_, rfl⟩, q⟩ ok.size
  | lst hs ha =>
    cases ru
    refine repr_of_reads' rd ok.can (fun e => by rw [ok.nod] at e; cases e) hg (by have := ok.deep; omega) (fun _ _ e => e) (fun h' t tk hk => ⟨.str _, H, I.kept hk, ⟨_, rfl⟩, q⟩) ok.size
  | tup hs ha =>
    cases ru
    refine repr_of_reads' rd ok.can (fun e => by rw [ok.nod] at e; cases e) hg (by have := ok.deep; omega) (fun _ _ e => e) (fun h' t tk hk => ⟨.str _, H, I.kept hk, ⟨_, rfl⟩, q⟩) ok.size
end
section
open PyProof.Rows
/-- the law's call from such a promise -/
theorem lawG {P : Program} {w : World} {K : PySem.W.Frag} {mg mb : Str → Option Value} {C : CXT} {k : Nat} {fa a : Addr} {fd : FuncData} {x : Str} {sp : Sp} {s0 : Shared} {vs : List Value} {ns : List Int}
    (kin : K.In s0.heap) (hns : s0.heap.Ns mainGlobals mg) (hbn : s0.heap.Ns builtinsNs mb) (hbb : ∀ z : Str, z ≠ "__name__" → mb z = bootBuiltins z) (nol : s0.heap.NoLimit) (gens : s0.gens = #[])
    (ha : s0.heap.get? a = some { cls := .type "list", data := .seq vs.toArray }) (nums : IntsAre vs ns) (few : ns.length ≤ sizeLine) (room : Room k callerA)
    (F : ∀ base : Heap, K.In base → base.Ns mainGlobals mg → FnG P w K mg base C k fa fd [x] sp) (bnd : ∀ (s : Shared) (u : Value), BindsTo s fd ⟨[u], []⟩ [(x, u)])
    (want : ∀ H : Hp, Only H → SqL K H a (ns.map V.int) → sp [.ref a] H (fun v _ => v = .bl true) fun _ _ _ => False) (noX : ∀ H e s', C [] H s0 (fun _ _ _ => False) e s' → False) :
    codeAny (model P w) callerA (.call (.ref fa) ⟨[.ref a], []⟩) (fun r s' => r = .ok (.ret (.bool true)) ∧ OldK s0.heap s'.heap ∧ s'.os = s0.os ∧ AllBare s'.gens) s0 := by
  have rel := vals_ints nums
  have nlen := nums.length
  have core : ∀ H : Hp, Only H → SqL K H a (ns.map V.int) → HOk P w H s0.heap → (∀ b, H b ≠ none → b = a) → (H a ≠ none → K.lookup a = none) →
      codeAny (model P w) callerA (.call (.ref fa) ⟨[.ref a], []⟩) (fun r s' => r = .ok (.ret (.bool true)) ∧ OldK s0.heap s'.heap ∧ s'.os = s0.os ∧ AllBare s'.gens) s0 := by
    intro H only sq hok isA notK
    have free : ∀ {b : Addr} {o : Obj} {es : Array DictEntry} {ep : Nat}, s0.heap.get? b = some o → o.data = .dict es ep → H b = none := by
      intro b o es ep e d
      cases q : H b with
      | none => rfl
      | some u =>
        obtain rfl : b = a := isA b (by rw [q]; simp)
        rw [ha] at e
        cases e
        cases d
    have nsK : ∀ {b : Addr} {m : Str → Option Value}, s0.heap.Ns b m → (hidT s0.heap H).Ns b m := by
      rintro b m ⟨o, es, ep, e, d, r⟩
      exact ⟨o, es, ep, hidT_get e (free e d), d, r⟩
    have kinB : K.In (hidT s0.heap H) := by
      intro b o e
      refine hidT_get (kin b o e) ?_
      cases q : H b with
      | none => rfl
      | some u =>
        obtain rfl : b = a := isA b (by rw [q]; simp)
        rw [notK (by rw [q]; simp)] at e
        cases e
    have lim : (hidT s0.heap H).NoLimit := by
      obtain ⟨mc, l1, l2⟩ := nol
      exact ⟨mc, nsK l1, l2⟩
    have env : Env0 P w K mg (hidT s0.heap H) callerA [] s0 H :=
      ⟨rfl, ⟨kinB, nsK hns, ⟨mb, nsK hbn, hbb⟩, lim⟩, fun b o e => of_hidT e, Nat.le_of_eq (hidT_size _ _), trivial, fun b z => absurd z (List.not_mem_nil), hok, .of_eq gens⟩
    refine codeAny_mono ((F _ kinB (nsK hns)).go callerA [] s0 H ⟨[.ref a], []⟩ [.ref a] [.ref a] _ _ rfl room env (bnd s0 (.ref a)) (.cons rfl .nil) (want H only sq)) ?_
    intro r s' h
    match r, h with
    | .error e, h => exact (noX H e s' h).elim
    | .ok .next, h => exact False.elim h
    | .ok .brk, h => exact False.elim h
    | .ok .cont, h => exact False.elim h
    | .ok (.ret u), h =>
      obtain ⟨v, H', os, bare, un, hok', rv, (q : v = .bl true)⟩ := h
      subst q
      obtain rfl : u = Value.bool true := rv
      refine ⟨rfl, OldK.of_keep ?_, os, bare⟩
      intro b o e
      cases q : H b with
      | none => exact un.keep b o e q (fun z => absurd z List.not_mem_nil) (fun z => absurd z List.not_mem_nil)
      | some u =>
        rcases only b with z | ⟨ob, xs, z⟩
        · rw [q] at z
          cases z
        · obtain ⟨e1, _⟩ := hok b _ z
          obtain ⟨e2, _⟩ := hok' b _ (un.frzs b ob _ z)
          rw [e] at e1
          cases e1
          exact e2
  cases hk : K.lookup a with
  | some o =>
    have e := kin a o hk
    rw [ha] at e
    cases e
    refine core (fun _ => none) (fun _ => .inl rfl) ?_ (fun b u z => nomatch z) (fun b z => absurd rfl z) (fun z => absurd rfl z)
    exact .inr ⟨_, vs.toArray, _, hk, rfl, rfl, rfl, by rw [List.size_toArray, nlen]; exact few, by simpa using rel⟩
  | none =>
    have at_ : ∀ b : Addr, (if b = a then some (HO.frz { cls := .type "list", data := .seq vs.toArray } (.lst (ns.map V.int))) else none) ≠ none → b = a := fun b z => by
      by_cases hb : b = a
      · exact hb
      · rw [if_neg hb] at z
        exact absurd rfl z
    refine core (fun b => if b = a then some (.frz { cls := .type "list", data := .seq vs.toArray } (.lst (ns.map V.int))) else none) (fun b => ?_) (.inl (.inr ⟨_, if_pos rfl⟩)) (fun b u z => ?_) at_ (fun _ => hk)
    · by_cases hb : b = a
      · exact .inr ⟨_, _, if_pos hb⟩
      · exact .inl (if_neg hb)
    · dsimp only at z
      obtain rfl := at_ b (by rw [z]; simp)
      rw [if_pos rfl] at z
      obtain rfl := Option.some.inj z
      exact ⟨ha, by rw [List.length_map]; exact few, vs, _, rel, ha⟩
theorem walkG {l : PySem.W.OpenLaw} {n k : Nat} {q : Program} {loose : List Str} {XP : (Str → Option Value) → Heap → Prop} {YP : World → Heap → Prop} {d : DefRec} {K : Params → PySem.W.Frag} {C : World → CXT} {sp : World → Sp} {x : Str}
    (hn : l.most = some n) (hn2 : n ≤ sizeLine) (hdf : d.params.defaults = []) (room : Room k callerA) (hY : ∀ (w : World) (h : Heap), YP w h → (K w.params).In h)
    (F : ∀ (w : World) (mg : Str → Option Value) (fa : Addr) (h : Heap), (K w.params).In h → h.Ns mainGlobals mg → mg d.name = some (.ref fa) →
      ∃ fd : FuncData, (∀ (s : Shared) (u : Value), BindsTo s fd ⟨[u], []⟩ [(x, u)]) ∧ ∀ base : Heap, (K w.params).In base → base.Ns mainGlobals mg → FnG l.prog w (K w.params) mg base (C w) k fa fd [x] (sp w))
    (want : ∀ (w : World) (H : Hp) (a : Addr) (ns : List Int), ns.length ≤ n → Only H → SqL (K w.params) H a (ns.map V.int) → sp w [.ref a] H (fun v _ => v = .bl true) fun _ _ _ => False)
    (noX : ∀ (w : World) (H : Hp) (s : Shared) (e : Value) (s' : Shared), C w [] H s (fun _ _ _ => False) e s' → False) : PySem.W.WalkO q loose XP YP l.row.toRowW d [] (fun f vs => PySem.call f vs) := by
  refine Att.attach_call hn hdf ?_
  intro w s₀ s1 mg mb fa o pm cd doc a vs ns G Y ho hd hcd hmg hobj nums hlen gens
  obtain ⟨fd, bnd, ok⟩ := F w mg fa _ (hY w _ Y) G.T.g hmg
  exact lawG (hY w _ Y) G.T.g G.T.b G.T.builtins G.T.nolimit gens hobj nums (Nat.le_trans hlen hn2) room ok bnd (fun H h1 h2 => want w H a ns hlen h1 h2) (fun H e s' => noX w H s1 e s')
end
theorem cutTo (xs : List V) (k : Nat) : cutV xs none (some (k : Int)) = xs.take k := by
  unfold cutV
  rw [HT.sIx_none, HT.sIx_nat]
  show (xs.drop 0).take (min k xs.length - 0) = _
  rw [List.drop_zero, Nat.sub_zero]
  by_cases h : k ≤ xs.length
  · rw [Nat.min_eq_left h]
  · rw [Nat.min_eq_right (by omega), List.take_of_length_le (Nat.le_refl _), List.take_of_length_le (by omega)]
theorem cutFrom (xs : List V) {k : Nat} (h : k ≤ xs.length) : cutV xs (some (k : Int)) none = xs.drop k := by
  unfold cutV
  rw [HT.sIx_none, HT.sIx_nat, Nat.min_eq_left h]
  exact List.take_of_length_le (by rw [List.length_drop]; omega)
/-! A dict made by a comprehension whose keys are tuples: {k: v for x in it}. -/
section
open PySem.Spec PyProof.Rows
variable {X : Cx}
theorem setT {pins : List (Addr × Obj)} {σ : L2.St} {H : Hp} {s : Shared} {E : Value → Shared → Prop} {D b : Addr} {kvs : List (List L2.Key × V)} {k : List L2.Key} {v : V} {r : Value} {Q : Unit → Shared → Prop}
    (hu : X.A.units < cLine) (I : L2.Inv X pins σ H s) (hD : H D = some (.dT kvs)) (hb : H b = some (.tup (k.map kV))) (hl : kvs.length < sizeLine) (rv : L2.RelV v r)
    (go : ∀ s', L2.Inv X pins σ (upd H D (.dT (putK kvs k v))) s' → Q () s') : wpAny (model X.prog X.w) X.A (dictSet D (.ref b) r) Q E s := by
  obtain ⟨z, hs, xs, rel, dd⟩ := dt_of I.hok hD
  have z2 := Paired.length rel
  have z3 := length_putK kvs k v
  refine wpAny_dictSet_heap (hsz := by omega) (show (tupleKind (mixKind X.prog X.w)).room X.A from hu) (key_of I.hok hb) dd fun h' dd' same => go _ ?_
  obtain ⟨ob, es, ep, h1, h2, h3, h4, _, h5⟩ := dd'
  refine d_write I (by rw [hD]; trivial) same ⟨ob, h1⟩ ⟨by omega, hs, _, (rel.put k hb rv).keeps ?_, ob, es, ep, h1, h2, h3, h4, h5⟩
  intro c ys hc
  rw [upd_ne (ne_of hc hD (fun e => nomatch e))]
  exact hc
def tDcT (wi : TI) (g : TG) (tk tv : TE) (vs : List Nat) : TE := fun σ H Q => wi σ H fun J H1 => ∀ D, H1 D = none → ∃ W : Nat → Nat → Hp → Prop, (∃ m, W 0 m (upd H1 D (.dT []))) ∧
  ∀ i m H, W i m H → (J.stop i H ∧ Q (.ref D) H) ∨ (J.go i H ∧ ∃ N : Hp → Prop, (∀ H', N H' → ∃ l, l < m ∧ W (i + 1) l H') ∧
    ∀ x H', J.yld i H x H' → g x (wipe σ vs) H' fun τ H2 => wipe τ vs = wipe σ vs ∧ tk τ H2 fun y H4 => tv τ H4 fun z H5 =>
      ∃ kvs k b, y = .ref b ∧ H5 b = some (.tup (k.map kV)) ∧ H5 D = some (.dT kvs) ∧ kvs.length < sizeLine ∧ N (upd H5 D (.dT (putK kvs k z))))
abbrev BlkAll (X : Cx) (sc : Scope) (F : Cx → Prop) : Prop := ∀ (s : Shared) (H : Hp) (C : Addr) (cl : List (Str × Addr)) (fp : List Addr), F (X.blk s H sc (compEnvC sc cl C X.env) fp)
theorem dcT_core {kx vx tg it : Expr} {sc : Scope} {own : List (Str × Nat)} {pos pos' : Pos} {wi : TI} {g : TG} {tk tv : TE} {pins : List (Addr × Obj)} {s : Shared} {σ : L2.St} {H : Hp} {Q : VK} {use : Option (Value → Sem Unit)} {Qf : Value → Shared → Prop}
    (hu : X.A.units < cLine) (calm : X.calm = true) (nd : X.N.Nodup) (I : L2.Inv X pins σ H s) (hi : PI X tg it wi) (ok : BlkOk X.N X.env.scope sc own)
    (hg : BlkAll X sc fun Y => PG Y tg g) (hk : BlkAll X sc fun Y => PE Y kx tk) (hv : BlkAll X sc fun Y => PE Y vx tv) (hf : ∀ x, foldedSetIterable it X.env x = pure x) (h : tDcT wi g tk tv (own.map (·.2)) σ H Q)
    (fin : ∀ D C t m G, L2.Inv X pins σ G t → Q (.ref D) G → t.heap.Ns C m → FpOk X pins G C → compPost (model X.prog X.w) X.A X.xe use Qf (.ref D) C (.ok .next) t) :
    wpAny (model X.prog X.w) X.A (comprehension (.DictComp kx vx [⟨tg, it, [], 0⟩] sc pos) sc X.env pos' newDict false (eval it X.env) use) Qf X.xe s := by
  have fr : ∀ y ∈ sc.names, y.2 = .free → ∃ c, X.env.cells.lookup y.1 = some c := by
    intro y hy e
    cases ok.free y hy e with
    | inl q => exact I.ok.has _ (.inl q)
    | inr q => exact I.ok.has _ (.inr q)
  refine wpAny_comprehension_free (use := use) rfl hf (closure_ok fr) ok.kind (fun y hy e => by rw [ok.uniq y hy, e]) (thn (hi.run pins s σ H _ I h) ?_)
  intro xv s1 hx
  refine thn hx ?_
  rintro _ s2 ⟨itr, fp, tn, J, H2, rfl, I2, T, st2, f2, q⟩
  refine wpAny_newObj_type (newEnv_comp ?_)
  generalize eD : s2.heap.objs.size = D
  obtain ⟨W, ⟨m0, w0⟩, turn⟩ := q D (I2.hok.fresh (Nat.le_of_eq eD))
  generalize e3 : ({ s2 with heap := s2.heap.push { cls := .type "dict", data := .dict #[] } } : Shared) = s3
  have hp3 : s3.heap = s2.heap.push { cls := .type "dict", data := .dict #[] } := by
    rw [← e3]
  have I3 : L2.Inv X pins σ (upd H2 D (.dT [])) s3 := by
    rw [← e3]
    refine I2.laid (t' := s2.toks) (fun b o z => Heap.get?_push_of_some _ z) (Nat.le_of_eq eD) ?_
    rw [← eD]
    exact dt_empty s2.heap I2.big
  have low : ∀ b ∈ fp, b < s2.heap.objs.size := by
    intro b hb
    obtain ⟨o, z, _⟩ := T.obj _ _ st2 b hb
    exact Heap.lt_size z
  have f3 : ∀ b ∈ fp, FpOk X pins (upd H2 D (.dT [])) b ∧ b < s3.heap.objs.size := by
    intro b hb
    have lb := low b hb
    refine ⟨⟨?_, (f2 b hb).2⟩, ?_⟩
    · rw [upd_ne (by rw [← eD]; exact Nat.ne_of_lt lb)]
      exact (f2 b hb).1
    · rw [hp3, Heap.size_push]
      exact Nat.lt_succ_of_lt lb
  have st3 : tn 0 s3.heap := by
    refine T.keep _ _ _ st2 ?_
    intro b _ o z
    rw [hp3]
    exact Heap.get?_push_of_some _ z
  have I4 := block_start I3 ok nd f3
  generalize ec : cellsFrom (s3.heap.objs.size + 1) sc.names (cloFrom X.env.cells sc.names []) = cl at I4
  have pg := hg s3 (upd H2 D (.dT [])) s3.heap.objs.size cl fp
  have pk := hk s3 (upd H2 D (.dT [])) s3.heap.objs.size cl fp
  have pv := hv s3 (upd H2 D (.dT [])) s3.heap.objs.size cl fp
  have free3 : ∀ b ∈ fp, (upd H2 D (.dT [])) b = none := fun b hb => (f3 b hb).1.1
  suffices loop : ∀ ce : Env, ce = compEnvC sc cl s3.heap.objs.size X.env → codeAny (model X.prog X.w) X.A (.compLoop (.DictComp kx vx [⟨tg, it, [], 0⟩] sc pos) 0 (.ref itr) (.ref D) ce)
      (compPost (model X.prog X.w) X.A X.xe use Qf (.ref D) s3.heap.objs.size) { s3 with heap := pushCells (s3.heap.push { cls := .type "dict", data := .dict #[] }) sc.names } by
    have st4 : tn 0 (pushCells (s3.heap.push { cls := .type "dict", data := .dict #[] }) sc.names) := T.keep _ _ _ st3 fun b _ o z => pushCells_keeps _ _ _ _ (Heap.get?_push_of_some _ z)
    have lp := loop _ rfl
    subst ec
    show codeAny _ _ (.compStart (.DictComp kx vx [⟨tg, it, [], 0⟩] sc pos) 0 (.ref itr) (.ref D) (compEnvC sc (cellsFrom (s3.heap.objs.size + 1) sc.names (cloFrom X.env.cells sc.names [])) s3.heap.objs.size X.env))
      (compPost (model X.prog X.w) X.A X.xe use Qf (.ref D) s3.heap.objs.size) { s3 with heap := pushCells (s3.heap.push { cls := .type "dict", data := .dict #[] }) sc.names }
    exact codeAny_compStart_dict lp (T.self X.A 0 _ _ _ st4 lp)
  intro ce hce
  rw [← hce] at I4 pg pk pv
  have cL : ce.locals = s3.heap.objs.size := by
    rw [hce]
    rfl
  clear hce
  generalize e4 : ({ s3 with heap := pushCells (s3.heap.push { cls := .type "dict", data := .dict #[] }) sc.names } : Shared) = s4 at I4 ⊢
  have st4 : tn 0 s4.heap := by
    refine T.keep _ _ _ st3 ?_
    intro b _ o z
    rw [← e4]
    exact pushCells_keeps _ _ _ _ (Heap.get?_push_of_some _ z)
  generalize eH : upd H2 D (.dT []) = H3 at I3 I4 pg pk pv w0 free3 f3
  generalize eY : X.blk s3 H3 sc ce fp = Y at I4 pg pk pv
  have still : ∀ {τ : L2.St} {G : Hp} {t : Shared}, L2.Inv Y [] τ G t → (∀ b ∈ fp, G b = none) → ∀ b ∈ fp, FpOk Y [] G b := by
    intro τ G t J1 hn b hb
    subst eY
    refine ⟨hn b hb, (J1.ok.exf b hb).1, J1.ok.exfs b hb, .inl hb, (J1.ok.exf b hb).2, ?_⟩
    intro p hp
    exact absurd (show p ∈ ([] : List (Addr × Obj)) ++ [] from hp) (by simp)
  have yA : Y.A = X.A := by subst eY; rfl
  have yP : Y.prog = X.prog := by subst eY; rfl
  have yW : Y.w = X.w := by subst eY; rfl
  refine compLoop_anyD (fun n t => ∃ i G, L2.Inv Y [] (wipe σ (own.map (·.2))) G t ∧ tn i t.heap ∧ (∀ b ∈ fp, G b = none) ∧ W i n G) ?_ m0 ⟨0, H3, I4, st4, free3, w0⟩
  rintro n s5 ⟨i, H5, I5, st5, n5, w5⟩
  rcases turn i n H5 w5 with ⟨stop, done⟩ | ⟨go, N, hN, step⟩
  · subst eY
    refine thnF (T.done (X.blk s3 H3 sc ce fp) rfl rfl rfl calm i [] s5 _ H5 (fun _ _ => False) I5 (still I5 n5) st5 stop) ?_
    rintro r s6 ⟨rfl, I6⟩
    have I7 : L2.Inv X pins σ H5 s6 := by
      refine I3.call' (ch := fp) I6.os I6.base I6.hok I6.bare ?_
      intro b hb
      obtain ⟨⟨_, y1, _, y2, y3, y4⟩, _⟩ := f3 b hb
      exact ⟨y2, y1, y3, y4⟩
    have n6 : H5 s3.heap.objs.size = none := by
      have z : H5 ce.locals = none := I6.free
      rwa [cL] at z
    obtain ⟨mm, hn, _⟩ := I6.loc
    have hn : s6.heap.Ns ce.locals mm := hn
    rw [cL] at hn
    exact fin D _ s6 mm H5 I7 done hn (I3.fpOk (Nat.le_refl _) n6)
  · subst eY
    refine thnF (T.item (X.blk s3 H3 sc ce fp) rfl rfl rfl calm i [] s5 _ H5 (fun _ _ => False) I5 (still I5 n5) st5 go) ?_
    rintro r s6 ⟨u, rfl, h6⟩
    refine thnF h6 ?_
    rintro _ s7 ⟨x, H7, I7, r7, y7, st7, n7⟩
    have J7 := I7.pinned (still I7 n7) (T.obj _ _ st7)
    refine thnF (pg.run _ s7 _ H7 x u _ J7 r7 (step x H7 y7)) ?_
    rintro _ s8 ⟨τ, H8, I8, w8, q8⟩
    refine wpAny_pure ?_
    rw [if_pos rfl]
    refine thnF (pk.run _ s8 τ H8 _ I8 q8) ?_
    rintro z s10 ⟨yk, H10, I10, r10, q10⟩
    refine thnF (pv.run _ s10 τ H10 _ I10 q10) ?_
    rintro z2 s11 ⟨yv, H11, I11, r11, kvs, k, b, rfl, hb, hD, hl, nx⟩
    cases (show z = Value.ref b from r10)
    refine setT (X := X.blk s3 H3 sc ce fp) hu I11 hD hb hl r11 ?_
    intro s12 I12
    obtain ⟨m', hm, w'⟩ := hN _ nx
    have pin : ∀ c ∈ fp, ∀ o, s7.heap.get? c = some o → s12.heap.get? c = some o ∧ (upd H11 D (.dT (putK kvs k yv))) c = none := by
      intro c hc o z
      have y := I12.pin (c, o) (List.mem_append_right _ (List.mem_append_right _ (mem_pinsAt hc z)))
      exact ⟨y.1, y.2.1⟩
    have len : (wipe σ (own.map (·.2))).length = τ.length := by
      rw [← w8, wipe_length]
    refine ⟨m', hm, i + 1, _, (I12.unpinned (pins := [])).weak len ?_, T.keep _ _ _ st7 fun c hc o z => (pin c hc o z).1, ?_, w'⟩
    · intro j v z
      rw [← w8] at z
      exact (wipe_some z).1
    · intro c hc
      obtain ⟨o, z, _⟩ := T.obj _ _ st7 c hc
      exact (pin c hc o z).2
/-- as a value -/
theorem pe_dcT {kx vx tg it : Expr} {sc : Scope} {own : List (Str × Nat)} {pos : Pos} {wi : TI} {g : TG} {tk tv : TE} (hu : X.A.units < cLine) (calm : X.calm = true) (nd : X.N.Nodup) (hi : PI X tg it wi) (ok : BlkOk X.N X.env.scope sc own)
    (hg : BlkAll X sc fun Y => PG Y tg g) (hk : BlkAll X sc fun Y => PE Y kx tk) (hv : BlkAll X sc fun Y => PE Y vx tv) (hf : ∀ x, foldedSetIterable it X.env x = pure x := by intro _; rfl) :
    PE X (.DictComp kx vx [⟨tg, it, [], 0⟩] sc pos) (tDcT wi g tk tv (own.map (·.2))) := by
  constructor
  intro pins s σ H Q I h
  rw [arm_eval_DictComp]
  refine dcT_core hu calm nd I hi ok hg hk hv hf h ?_
  rintro D C t m G I' q hn ⟨y0, y1, y2, y3, y4, y5⟩
  exact ⟨m, hn, fun h2 sb => ⟨.ref D, G, I'.turned (t' := t.toks) (fun b o hb z => (sb.2 b hb).trans z) y0 y1 y3 y4 y5, rfl, q⟩⟩
/-- laid in a name -/
theorem ps_setDcT {i : Nat} {y : Str} {py spos : Pos} {kx vx tg it : Expr} {sc : Scope} {own : List (Str × Nat)} {pos : Pos} {wi : TI} {g : TG} {tk tv : TE} (hu : X.A.units < cLine) (calm : X.calm = true) (nd : X.N.Nodup) (hy : X.N[i]? = some y) (hyl : X.env.scope.names.lookup y = some .local)
    (sw : swapsWith (.DictComp kx vx [⟨tg, it, [], 0⟩] sc pos) (some (.Name y py)) spos.line X.env = pure true) (hi : PI X tg it wi) (ok : BlkOk X.N X.env.scope sc own)
    (hg : BlkAll X sc fun Y => PG Y tg g) (hk : BlkAll X sc fun Y => PE Y kx tk) (hv : BlkAll X sc fun Y => PE Y vx tv) (hf : ∀ x, foldedSetIterable it X.env x = pure x := by intro _; rfl) :
    PS X (.Assign [.Name y py] (.DictComp kx vx [⟨tg, it, [], 0⟩] sc pos) spos) (tAsg (tDcT wi g tk tv (own.map (·.2))) (gName i)) := by
  constructor
  intro pins s σ H D I h
  rw [exec_Assign_Name_used _ _ _ _ sw]
  refine wpAny_bind (wpAny_standAt (wpAny_bind ?_))
  have h : tDcT wi g tk tv (own.map (·.2)) σ H (fun x H1 => gName i x σ H1 D.nx) := h
  show wpAny _ X.A (do let _ ← comprehension (.DictComp kx vx [⟨tg, it, [], 0⟩] sc pos) sc X.env (firstIterPos [⟨tg, it, [], 0⟩] pos) newDict false (eval it X.env) (some (assign (.Name y py) X.env))) _ _ s
  refine wpAny_bind (thn (dcT_core (Qf := fun _ t => SP X pins D .next t) hu calm nd I hi ok hg hk hv hf h ?_) fun _ t hq => wpAny_pure (wpAny_pure hq))
  rintro L C t m G I' q hn ⟨y0, y1, y2, y3, y4, y5⟩
  show wpAny _ _ (assign (.Name y py) X.env (.ref L)) _ _ _
  refine wpAny_assign_Name (store_ok2 (v := V.ref L) I' nd hy (.inl hyl) rfl ?_ (.inr hyl))
  rintro t2 I2 ⟨a, sb, ha⟩
  have ne : C ≠ a := by
    cases ha with
    | inl z =>
      rw [z]
      exact y1
    | inr z => exact fun e => y4 y a z e.symm
  exact ⟨m, hn.sameBut sb ne, fun h3 sb3 => ⟨_, G, I2.turned (t' := t2.toks) (fun b o hb z => (sb3.2 b hb).trans z) y0 y1 y3 y4 y5, q⟩⟩
theorem sw_dcT {kx vx : Expr} {gs : List Comprehension} {sc : Scope} {pos py : Pos} {y : Str} {l : Nat} {env : Env} (hk : env.scope.kind = .function) (hy : env.scope.names.lookup y = some .local) (hl : (py.line == pos.line) = true)
    (ha : (sc.names.any fun (n, k) => n == y && (k == .local || k == .cell)) = false) : swapsWith (.DictComp kx vx gs sc pos) (some (.Name y py)) l env = pure true := by
  have ky : env.kindOf y = some .local := hy
  have kb : env.blockKind = .function := by
    unfold Env.blockKind
    rw [hk]
    rfl
  unfold swapsWith
  simp only [kb, ky]
  have e : (Expr.DictComp kx vx gs sc pos).pos = pos := rfl
  rw [e, hl, ha]
  rfl
/-- over a walk -/
theorem dcT_it {J : It} {n : Nat} {G : Hp → Prop} {Y : Nat → Hp → V → Hp → Prop} (w : Walk J n G Y) {g : TG} {tk tv : TE} {vs : List Nat} {σ : L2.St} {H1 : Hp} {D : Addr} {Qd : Hp → Prop} (Pv : Nat → Hp → Prop)
    (h0 : Pv 0 (upd H1 D (.dT []))) (hG : ∀ i H, i ≤ n → Pv i H → G H)
    (hs : ∀ i x H H', i < n → Pv i H → Y i H x H' → g x (wipe σ vs) H' fun τ H2 => wipe τ vs = wipe σ vs ∧ tk τ H2 fun y H4 => tv τ H4 fun z H5 =>
      ∃ kvs k b, y = .ref b ∧ H5 b = some (.tup (k.map kV)) ∧ H5 D = some (.dT kvs) ∧ kvs.length < sizeLine ∧ Pv (i + 1) (upd H5 D (.dT (putK kvs k z)))) (hd : ∀ H, Pv n H → Qd H) :
    ∃ W : Nat → Nat → Hp → Prop, (∃ m, W 0 m (upd H1 D (.dT []))) ∧
      ∀ i m H, W i m H → (J.stop i H ∧ Qd H) ∨ (J.go i H ∧ ∃ N : Hp → Prop, (∀ H', N H' → ∃ l, l < m ∧ W (i + 1) l H') ∧
        ∀ x H', J.yld i H x H' → g x (wipe σ vs) H' fun τ H2 => wipe τ vs = wipe σ vs ∧ tk τ H2 fun y H4 => tv τ H4 fun z H5 =>
          ∃ kvs k b, y = .ref b ∧ H5 b = some (.tup (k.map kV)) ∧ H5 D = some (.dT kvs) ∧ kvs.length < sizeLine ∧ N (upd H5 D (.dT (putK kvs k z)))) := by
  refine ⟨fun i m H => m = n - i ∧ i ≤ n ∧ Pv i H, ⟨n, rfl, Nat.zero_le _, h0⟩, ?_⟩
  rintro i m H ⟨rfl, hi, p⟩
  have q := hG i H hi p
  rcases Nat.lt_or_ge i n with lt | ge
  · refine .inr ⟨w.goes i H lt q, Pv (i + 1), fun H' p' => ⟨n - (i + 1), by omega, rfl, lt, p'⟩, ?_⟩
    intro x H' y
    exact hs i x H H' lt p (w.yields i H x H' lt q y)
  · obtain rfl : i = n := by omega
    exact .inl ⟨w.stops H q, hd H p⟩
end
/-! Data that can be shown, put together: at most n signs, at most k deep. -/
structure Shw (d : PyData) (n k : Nat) : Prop where
  len : d.shown.length ≤ n
  can : d.showable = true
  nod : d.hasDict = false
  deep : d.depth ≤ k
theorem Shw.ok {d : PyData} {n k : Nat} (h : Shw d n k) (hn : n ≤ 10000000) (hk : k ≤ 60) : ShowOk d :=
  ⟨h.can, h.nod, Nat.le_trans h.deep hk, Nat.le_trans h.len (Nat.le_trans hn (by decide))⟩
theorem Shw.mono {d : PyData} {n k n' k' : Nat} (h : Shw d n k) (hn : n ≤ n') (hk : k ≤ k') : Shw d n' k' := ⟨Nat.le_trans h.len hn, h.can, h.nod, Nat.le_trans h.deep hk⟩
theorem sm_app (a b : Str) : (a ++ b).length = a.length + b.length := by
  rw [TL.len_tl, show TL.tl (a ++ b) = TL.tl a ++ TL.tl b from TL.tl_append a b, List.length_append, ← TL.len_tl, ← TL.len_tl]
theorem sm_join : ∀ (n : Nat) (ts : List Str), (∀ t ∈ ts, t.length ≤ n) → (Str.join ", " ts).length ≤ (n + 2) * ts.length
  | n, [], _ => by
    show (Str.empty).length ≤ _
    rw [show (Str.empty).length = 0 from rfl]
    omega
  | n, [x], h => by
    show x.length ≤ (n + 2) * 1
    have := h x List.mem_cons_self
    omega
  | n, x :: y :: r, h => by
    have ih := sm_join n (y :: r) (fun t ht => h t (List.mem_cons_of_mem _ ht))
    have hx := h x List.mem_cons_self
    show (x ++ ", " ++ Str.join ", " (y :: r)).length ≤ _
    rw [sm_app, sm_app, show ((", " : Str)).length = 2 by decide +kernel]
    rw [List.length_cons] at ih ⊢
    rw [List.length_cons]
    rw [Nat.mul_succ] at ih ⊢
    rw [Nat.mul_succ]
    omega
theorem sm_from : ∀ (ts : List Str) (j : Nat) (acc : Str) (n : Nat), (∀ t ∈ ts, t.length ≤ n) → (textFrom j acc ts).length ≤ acc.length + (n + 2) * ts.length
  | [], j, acc, n, _ => by
    show acc.length ≤ _
    omega
  | t :: r, j, acc, n, h => by
    have ht := h t List.mem_cons_self
    have e : (textFrom j acc (t :: r)) = textFrom (j + 1) (acc ++ ((if j > 0 then ", " else "" : String) : Str) ++ t) r := rfl
    rw [e]
    have ih := sm_from r (j + 1) (acc ++ ((if j > 0 then ", " else "" : String) : Str) ++ t) n (fun x hx => h x (List.mem_cons_of_mem _ hx))
    rw [sm_app, sm_app] at ih
    have h2 : ((if j > 0 then ", " else "" : String) : Str).length ≤ 2 := by
      split <;> decide +kernel
    rw [List.length_cons, Nat.mul_succ]
    omega
theorem shw_int {a : Int} (h : a.natAbs < 100000) : Shw (.int a) 6 0 := by
  refine ⟨?_, decide_eq_true (Nat.lt_of_lt_of_le (PySem.Flt.log2_lt_of (k := 17) (by decide) (Nat.lt_trans h (by decide))) (by decide)), rfl, Nat.le_refl _⟩
  show (Str.ofString (toString a)).length ≤ 6
  have := int_text_length_le10 (a := a) (k := 5) (by decide) h
  have e : (Str.ofString (toString a)).length = (toString a).length := by
    rw [TL.len_tl, show TL.tl (Str.ofString (toString a)) = (toString a).toList.map Char.toNat from TL.tl_ofString _, List.length_map]
    rfl
  rw [e]
  exact this
theorem shw_all : ∀ {ds : List PyData} {n k : Nat}, (∀ d ∈ ds, Shw d n k) → (∀ t ∈ PyData.shownAll ds, t.length ≤ n) ∧ (PyData.shownAll ds).length = ds.length ∧ PyData.showableAll ds = true ∧ PyData.hasDictAll ds = false ∧ PyData.depthAll ds ≤ k
  | [], n, k, _ => ⟨(fun t h => nomatch h), rfl, rfl, rfl, Nat.zero_le _⟩
  | d :: r, n, k, h => by
    have a := h d List.mem_cons_self
    obtain ⟨b1, b2, b3, b4, b5⟩ := shw_all (ds := r) (fun x hx => h x (List.mem_cons_of_mem _ hx))
    refine ⟨fun t ht => ?_, ?_, ?_, ?_, ?_⟩
    · rcases List.mem_cons.mp (show t ∈ d.shown :: PyData.shownAll r from ht) with rfl | ht
      · exact a.len
      · exact b1 t ht
    · show (PyData.shownAll r).length + 1 = r.length + 1
      rw [b2]
    · show (d.showable && PyData.showableAll r) = true
      rw [a.can, b3]
      rfl
    · show (d.hasDict || PyData.hasDictAll r) = false
      rw [a.nod, b4]
      rfl
    · show max d.depth (PyData.depthAll r) ≤ k
      have := a.deep
      omega
theorem shw_tup {ds : List PyData} {n k : Nat} (h : ∀ d ∈ ds, Shw d n k) : Shw (.tuple ds) ((n + 2) * ds.length + 3) (k + 1) := by
  obtain ⟨b1, b2, b3, b4, b5⟩ := shw_all h
  refine ⟨?_, b3, b4, ?_⟩
  · show (tupleText (PyData.shownAll ds)).length ≤ _
    have hj := sm_join n _ b1
    rw [b2] at hj
    unfold tupleText
    rw [sm_app, sm_app]
    have h1 : (("(" : Str)).length = 1 := by decide +kernel
    have h2 : ((if (PyData.shownAll ds).length == 1 then ",)" else ")" : String) : Str).length ≤ 2 := by
      split <;> decide +kernel
    rw [h1]
    omega
  · show PyData.depthAll ds + 1 ≤ k + 1
    omega
theorem shw_lst {ds : List PyData} {n k : Nat} (h : ∀ d ∈ ds, Shw d n k) : Shw (.list ds) ((n + 2) * ds.length + 2) (k + 1) := by
  obtain ⟨b1, b2, b3, b4, b5⟩ := shw_all h
  refine ⟨?_, b3, b4, ?_⟩
  · show (listText (PyData.shownAll ds)).length ≤ _
    have hj := sm_from (PyData.shownAll ds) 0 "[" n b1
    rw [b2] at hj
    unfold listText
    have h1 : (("[" : Str)).length = 1 := by decide +kernel
    have h2 : (("]" : Str)).length = 1 := by decide +kernel
    rw [sm_app, h2]
    rw [h1] at hj
    omega
  · show PyData.depthAll ds + 1 ≤ k + 1
    omega
theorem shw_bool (b : Bool) : Shw (.bool b) 5 0 := ⟨by cases b <;> decide +kernel, rfl, rfl, Nat.zero_le _⟩
/-! Names of steps, their places, what keeps befores. -/
abbrev Nm := Int × Int
def nmAt (ts : List Int) (i : Nat) : Nm := (ts.getD i 0, (((ts.take i).count (ts.getD i 0) : Nat) : Int))
def nmOf (ts : List Int) : List Nm := (List.range ts.length).map (nmAt ts)
theorem nmOf_len (ts : List Int) : (nmOf ts).length = ts.length := by simp [nmOf]
theorem nmOf_get {ts : List Int} {i : Nat} (h : i < ts.length) : (nmOf ts)[i]? = some (nmAt ts i) := by simp [nmOf, h]
theorem nmTo_succ (ts : List Int) (i : Nat) : (List.range (i + 1)).map (nmAt ts) = (List.range i).map (nmAt ts) ++ [nmAt ts i] := by
  rw [List.range_succ, List.map_append]
  rfl
theorem cnt_succ {ts : List Int} {i : Nat} (h : i < ts.length) (t : Int) : (ts.take (i + 1)).count t = (ts.take i).count t + if ts.getD i 0 = t then 1 else 0 := by
  rw [List.take_add_one, List.count_append, List.getElem?_eq_getElem h]
  have e : ts.getD i 0 = ts[i] := by simp [List.getD, h]
  rw [e]
  show _ + List.count t [ts[i]] = _
  rw [List.count_singleton]
  by_cases q : ts[i] = t
  · rw [if_pos q, if_pos (by simp [q])]
  · rw [if_neg q, if_neg (by simp [q])]
theorem nmAt_lt {ts : List Int} {i j : Nat} (hij : i < j) (hj : j < ts.length) : nmAt ts i ≠ nmAt ts j := by
  intro e
  have e1 : ts.getD i 0 = ts.getD j 0 := (Prod.mk.injEq .. ▸ e).1
  have e2 : (((ts.take i).count (ts.getD i 0) : Nat) : Int) = (((ts.take j).count (ts.getD j 0) : Nat) : Int) := (Prod.mk.injEq .. ▸ e).2
  rw [← e1] at e2
  have c := cnt_succ (ts := ts) (i := i) (by omega) (ts.getD i 0)
  rw [if_pos rfl] at c
  have s : ((ts.take j).take (i + 1)).count (ts.getD i 0) ≤ (ts.take j).count (ts.getD i 0) := List.Sublist.count_le _ (List.take_sublist _ _)
  rw [List.take_take, Nat.min_eq_left (by omega)] at s
  omega
theorem nmAt_inj {ts : List Int} {i j : Nat} (hi : i < ts.length) (hj : j < ts.length) (e : nmAt ts i = nmAt ts j) : i = j := by
  rcases Nat.lt_trichotomy i j with h | h | h
  · exact absurd e (nmAt_lt h hj)
  · exact h
  · exact absurd e.symm (nmAt_lt h hi)
/-- the last place below n at which N is x -/
def posT (N : Nat → Nm) (x : Nm) : Nat → Option Nat
  | 0 => none
  | n + 1 => if N n = x then some n else posT N x n
theorem posT_some {N : Nat → Nm} {x : Nm} : ∀ {n j : Nat}, posT N x n = some j → j < n ∧ N j = x
  | 0, _, h => by cases h
  | n + 1, j, h => by
    unfold posT at h
    split at h
    · rename_i e
      cases h
      exact ⟨Nat.lt_succ_self _, e⟩
    · obtain ⟨a, b⟩ := posT_some h
      exact ⟨Nat.lt_succ_of_lt a, b⟩
theorem posT_none {N : Nat → Nm} {x : Nm} : ∀ {n : Nat}, posT N x n = none → ∀ i, i < n → N i ≠ x
  | 0, _, i, hi => by omega
  | n + 1, h, i, hi => by
    unfold posT at h
    split at h
    · cases h
    · rename_i e
      by_cases q : i = n
      · rw [q]
        exact e
      · exact posT_none h i (by omega)
def kpM (ts : List Int) (p : Nm × Nm) : Bool := match posT (nmAt ts) p.2 ts.length with
  | none => true
  | some j => match posT (nmAt ts) p.1 ts.length with
    | none => false
    | some i => decide (i < j)
def keepsM (bs : List (Nm × Nm)) (ts : List Int) : Bool := bs.all (kpM ts)
/-! Such things in the heap, and as data. -/
def All2 {α : Type} (R : V → α → Prop) : List V → List α → Prop
  | [], [] => True
  | v :: vs, x :: xs => R v x ∧ All2 R vs xs
  | _, _ => False
theorem All2.mono {α : Type} {R S : V → α → Prop} (h : ∀ v x, R v x → S v x) : ∀ {vs : List V} {xs : List α}, All2 R vs xs → All2 S vs xs
  | [], [], _ => trivial
  | _ :: _, _ :: _, ⟨a, b⟩ => ⟨h _ _ a, b.mono h⟩
  | [], _ :: _, z => z.elim
  | _ :: _, [], z => z.elim
theorem All2.len {α : Type} {R : V → α → Prop} : ∀ {vs : List V} {xs : List α}, All2 R vs xs → vs.length = xs.length
  | [], [], _ => rfl
  | _ :: _, _ :: _, ⟨_, b⟩ => by rw [List.length_cons, List.length_cons, b.len]
  | [], _ :: _, z => z.elim
  | _ :: _, [], z => z.elim
theorem All2.snoc {α : Type} {R : V → α → Prop} {v : V} {x : α} (hv : R v x) : ∀ {vs : List V} {xs : List α}, All2 R vs xs → All2 R (vs ++ [v]) (xs ++ [x])
  | [], [], _ => ⟨hv, trivial⟩
  | _ :: _, _ :: _, ⟨a, b⟩ => ⟨a, b.snoc hv⟩
  | [], _ :: _, z => z.elim
  | _ :: _, [], z => z.elim
theorem All2.app {α : Type} {R : V → α → Prop} : ∀ {vs us : List V} {xs ys : List α}, All2 R vs xs → All2 R us ys → All2 R (vs ++ us) (xs ++ ys)
  | [], _, [], _, _, h => h
  | _ :: _, _, _ :: _, _, ⟨a, b⟩, h => ⟨a, b.app h⟩
  | [], _, _ :: _, _, z, _ => z.elim
  | _ :: _, _, [], _, z, _ => z.elim
theorem All2.take {α : Type} {R : V → α → Prop} : ∀ {vs : List V} {xs : List α} (n : Nat), All2 R vs xs → All2 R (vs.take n) (xs.take n)
  | [], [], n, _ => by
    rw [List.take_nil, List.take_nil]
    trivial
  | _ :: _, _ :: _, 0, _ => trivial
  | _ :: _, _ :: _, n + 1, ⟨a, b⟩ => ⟨a, b.take n⟩
  | [], _ :: _, _, z => z.elim
  | _ :: _, [], _, z => z.elim
theorem All2.get {α : Type} {R : V → α → Prop} : ∀ {vs : List V} {xs : List α} {i : Nat} {v : V}, All2 R vs xs → vs[i]? = some v → ∃ x, xs[i]? = some x ∧ R v x
  | [], [], i, v, _, e => by simp at e
  | a :: _, x :: _, 0, v, ⟨h, _⟩, e => by
    cases (show some a = some v from e)
    exact ⟨x, rfl, h⟩
  | _ :: _, _ :: _, i + 1, v, ⟨_, b⟩, e => b.get (i := i) e
  | [], _ :: _, _, _, z, _ => z.elim
  | _ :: _, [], _, _, z, _ => z.elim
def NmV (H : Hp) (v : V) (x : Nm) : Prop := ∃ p, v = .ref p ∧ H p = some (.tup [.int x.1, .int x.2])
def BfV (H : Hp) (v : V) (x : Nm × Nm) : Prop := ∃ p a b, v = .ref p ∧ H p = some (.tup [a, b]) ∧ NmV H a x.1 ∧ NmV H b x.2
/-- all tuples of H stand in H' -/
def TKp (H H' : Hp) : Prop := ∀ b xs, H b = some (.tup xs) → H' b = some (.tup xs)
theorem TKp.same {H H' : Hp} (s : Same H H') : TKp H H' := fun b _ h => s b _ h
theorem TKp.trans {H H1 H2 : Hp} (a : TKp H H1) (b : TKp H1 H2) : TKp H H2 := fun x xs h => b x xs (a x xs h)
theorem TKp.updL {H : Hp} {q : Addr} {xs : List V} {o : HO} (e : H q = some (.lst xs)) : TKp H (upd H q o) := fun b ys h => by
  rw [upd_ne (ne_of h e (fun z => nomatch z))]
  exact h
theorem Kp.tkp {p : Addr} {H H' : Hp} {xs : List V} (k : Kp p H H') (e : H p = some (.lst xs)) : TKp H H' := fun b ys h => k b _ (ne_of h e (fun z => nomatch z)) h
theorem NmV.keep {H H' : Hp} {v : V} {x : Nm} (k : TKp H H') (h : NmV H v x) : NmV H' v x := by
  obtain ⟨p, rfl, e⟩ := h
  exact ⟨p, rfl, k _ _ e⟩
theorem BfV.keep {H H' : Hp} {v : V} {x : Nm × Nm} (k : TKp H H') (h : BfV H v x) : BfV H' v x := by
  obtain ⟨p, a, b, rfl, e, h1, h2⟩ := h
  exact ⟨p, a, b, rfl, k _ _ e, h1.keep k, h2.keep k⟩
def dN (x : Nm) : PyData := .tuple [.int x.1, .int x.2]
def dB (x : Nm × Nm) : PyData := .tuple [dN x.1, dN x.2]
theorem dpN {K : PySem.W.Frag} {H : Hp} {v : V} {x : Nm} (h : NmV H v x) : Dp K H v (dN x) := by
  obtain ⟨p, rfl, e⟩ := h
  exact .tup (SqT.of e) (.cons (.int _) (.cons (.int _) .nil))
theorem dpB {K : PySem.W.Frag} {H : Hp} {v : V} {x : Nm × Nm} (h : BfV H v x) : Dp K H v (dB x) := by
  obtain ⟨p, a, b, rfl, e, h1, h2⟩ := h
  exact .tup (SqT.of e) (.cons (dpN h1) (.cons (dpN h2) .nil))
theorem dpA {α : Type} {K : PySem.W.Frag} {H : Hp} {R : V → α → Prop} {d : α → PyData} (hd : ∀ v x, R v x → Dp K H v (d x)) : ∀ {vs : List V} {xs : List α}, All2 R vs xs → DpAll K H vs (xs.map d)
  | [], [], _ => .nil
  | _ :: _, _ :: _, ⟨a, b⟩ => .cons (hd _ _ a) (dpA hd b)
  | [], _ :: _, z => z.elim
  | _ :: _, [], z => z.elim
theorem dpNs {K : PySem.W.Frag} {H : Hp} {l : Addr} {vs : List V} {xs : List Nm} (h : SqL K H l vs) (a : All2 (NmV H) vs xs) : Dp K H (.ref l) (.list (xs.map dN)) := .lst h (dpA (d := dN) (fun _ _ z => dpN z) a)
theorem dpBs {K : PySem.W.Frag} {H : Hp} {l : Addr} {vs : List V} {xs : List (Nm × Nm)} (h : SqL K H l vs) (a : All2 (BfV H) vs xs) : Dp K H (.ref l) (.list (xs.map dB)) := .lst h (dpA (d := dB) (fun _ _ z => dpB z) a)
theorem dN_eqv (x y : Nm) : PyData.eqv (dN x) (dN y) = decide (x = y) := by
  obtain ⟨a, b⟩ := x
  obtain ⟨c, d⟩ := y
  have e : PyData.eqv (dN (a, b)) (dN (c, d)) = ((a == c) && ((b == d) && true)) := by
    simp only [dN, PyData.eqv, PyData.eqvAll]
  rw [e, Bool.and_true]
  by_cases h1 : a = c
  · by_cases h2 : b = d
    · subst h1
      subst h2
      simp
    · rw [decide_eq_false (fun z => h2 (Prod.mk.inj z).2), beq_eq_false_iff_ne.mpr h2, Bool.and_false]
  · rw [decide_eq_false (fun z => h1 (Prod.mk.inj z).1), beq_eq_false_iff_ne.mpr h1, Bool.false_and]
theorem dN_depth (x : Nm) : (dN x).depth = 1 := by simp [dN, PyData.depth, PyData.depthAll]
theorem dN_lay (x : Nm) : (dN x).canLay0 = true := by simp [dN, PyData.canLay0, PyData.canLayAll0]
theorem dNs_lay : ∀ xs : List Nm, PyData.canLayAll0 (xs.map dN) = true
  | [] => by simp [PyData.canLayAll0]
  | x :: r => by simp [PyData.canLayAll0, dN_lay x, dNs_lay r]
theorem dNs_depth : ∀ xs : List Nm, PyData.depthAll (xs.map dN) ≤ 1
  | [] => by simp [PyData.depthAll]
  | x :: r => by
    have h1 := dNs_depth r
    have h2 := dN_depth x
    rw [List.map_cons]
    show max (dN x).depth (PyData.depthAll (r.map dN)) ≤ 1
    omega
theorem dN_shaped (x : Nm) : SeqAt.shaped (dN x) = true := by
  show ((dN x).canLay0 && decide ((dN x).depth ≤ 64)) = true
  rw [dN_lay, dN_depth]
  rfl
theorem dNs_shaped (xs : List Nm) : SeqAt.shaped (.list (xs.map dN)) = true := by
  have h := dNs_depth xs
  show (PyData.canLayAll0 (xs.map dN) && decide (PyData.depthAll (xs.map dN) + 1 ≤ 64)) = true
  rw [dNs_lay, decide_eq_true (by omega)]
  rfl
theorem dNs_eqv_nil (xs : List Nm) : PyData.eqv (.list (xs.map dN)) (.list []) = decide (xs = []) := by
  cases xs with
  | nil => rfl
  | cons x r => rfl
/-- what the law asks of one before -/
theorem any_pos {ts : List Int} {x : Nm} : ((nmOf ts).map dN).any (fun z => PyData.eqv z (dN x)) = (posT (nmAt ts) x ts.length).isSome := by
  cases e : posT (nmAt ts) x ts.length with
  | none =>
    have h := posT_none e
    show _ = false
    rw [List.any_eq_false]
    intro z hz
    obtain ⟨y, hy, rfl⟩ := List.mem_map.mp hz
    obtain ⟨i, hi, rfl⟩ := List.mem_map.mp (show y ∈ (List.range ts.length).map (nmAt ts) from hy)
    rw [dN_eqv, decide_eq_false (h i (List.mem_range.mp hi))]
    exact Bool.false_ne_true
  | some j =>
    obtain ⟨h1, h2⟩ := posT_some e
    show _ = true
    rw [List.any_eq_true]
    refine ⟨dN (nmAt ts j), List.mem_map_of_mem (List.mem_map_of_mem (List.mem_range.mpr h1)), ?_⟩
    rw [dN_eqv, h2, decide_eq_true rfl]
theorem any_take {ts : List Int} {x : Nm} {j : Nat} (hj : j ≤ ts.length) : (((nmOf ts).take j).map dN).any (fun z => PyData.eqv z (dN x)) = match posT (nmAt ts) x ts.length with
    | none => false
    | some i => decide (i < j) := by
  have et : (nmOf ts).take j = (List.range j).map (nmAt ts) := by
    unfold nmOf
    rw [← List.map_take, List.take_range, Nat.min_eq_left hj]
  rw [et]
  cases e : posT (nmAt ts) x ts.length with
  | none =>
    have h := posT_none e
    show _ = false
    rw [List.any_eq_false]
    intro z hz
    obtain ⟨y, hy, rfl⟩ := List.mem_map.mp hz
    obtain ⟨i, hi, rfl⟩ := List.mem_map.mp hy
    have := List.mem_range.mp hi
    rw [dN_eqv, decide_eq_false (h i (by omega))]
    exact Bool.false_ne_true
  | some k =>
    obtain ⟨h1, h2⟩ := posT_some e
    show _ = decide (k < j)
    by_cases q : k < j
    · rw [decide_eq_true q, List.any_eq_true]
      refine ⟨dN (nmAt ts k), List.mem_map_of_mem (List.mem_map_of_mem (List.mem_range.mpr q)), ?_⟩
      rw [dN_eqv, h2, decide_eq_true rfl]
    · rw [decide_eq_false q, List.any_eq_false]
      intro z hz
      obtain ⟨y, hy, rfl⟩ := List.mem_map.mp hz
      obtain ⟨i, hi, rfl⟩ := List.mem_map.mp hy
      have hi := List.mem_range.mp hi
      rw [dN_eqv, decide_eq_false]
      · exact Bool.false_ne_true
      · intro z
        have := nmAt_inj (ts := ts) (i := i) (j := k) (by omega) h1 (by rw [h2]; exact z)
        omega
theorem hu65_of {k : Nat} {A : Around} (hr : Room k A) : A.units + 65 < cLine := by
  have := hr.un
  omega
theorem iteB0 {c : Bool} {A B : Prop} (h : c = false) (hB : B) : if c = true then A else B := by
  rw [h]
  exact iteF hB
theorem iteB1 {c : Bool} {A B : Prop} (h : c = true) (hA : A) : if c = true then A else B := by
  rw [h]
  exact iteT hA
/-! The promises. -/
theorem prime_at {i : Int} (h0 : 0 ≤ i) (h1 : i < 5) : ∃ v : Int, atI [V.int 2147483647, V.int 2147483629, V.int 2147483587, V.int 2147483579, V.int 2147483563] i = some (.int v) ∧ 2147483563 ≤ v ∧ v ≤ 2147483647 := by
  have h : i = 0 ∨ i = 1 ∨ i = 2 ∨ i = 3 ∨ i = 4 := by omega
  rcases h with rfl | rfl | rfl | rfl | rfl
  · exact ⟨_, rfl, by decide, by decide⟩
  · exact ⟨_, rfl, by decide, by decide⟩
  · exact ⟨_, rfl, by decide, by decide⟩
  · exact ⟨_, rfl, by decide, by decide⟩
  · exact ⟨_, rfl, by decide, by decide⟩
def sp_lpen (K : PySem.W.Frag) : Sp := fun vs H Q _ => ∃ (a : Addr) (ns : List Int), vs = [.ref a] ∧ SqL K H a (ns.map V.int) ∧ ns.length ≤ 63 ∧
  ∀ H' p c, Pen H' p c ns 0 → Q (.ref p) H'
def sp_ldraw : Sp := fun vs H Q _ => ∃ (p c : Addr) (ns : List Int) (n m : Int), vs = [.ref p, .int m] ∧ Pen H p c ns n ∧ 0 < m ∧ m < 1073741824 ∧ n < 1000000 ∧
  ∀ (H' : Hp) (d n' : Int), Kp p H H' → Pen H' p c ns n' → 0 ≤ d → d < m → n ≤ n' → n' ≤ n + 1 → Q (.int d) H'
def sp_namesof (K : PySem.W.Frag) : Sp := fun vs H Q _ => ∃ (a : Addr) (ts : List Int), vs = [.ref a] ∧ SqL K H a (ts.map V.int) ∧ ts.length ≤ 1000 ∧
  ∀ (H' : Hp) (l : Addr) (us : List V), Same H H' → H' l = some (.lst us) → All2 (NmV H') us (nmOf ts) → Q (.ref l) H'
def sp_keeps (K : PySem.W.Frag) : Sp := fun vs H Q _ => ∃ (b a : Addr) (us : List V) (bs : List (Nm × Nm)) (ts : List Int), vs = [.ref b, .ref a] ∧ SqL K H b us ∧ All2 (BfV H) us bs ∧ SqL K H a (ts.map V.int) ∧ ts.length ≤ 1000 ∧
  ∀ H', Same H H' → Q (.bl (keepsM bs ts)) H'
def sp_lnamed (K : PySem.W.Frag) : Sp := fun vs H Q _ => ∃ (a : Addr) (ts : List Int), vs = [.ref a] ∧ SqL K H a (ts.map V.int) ∧ ts.length ≤ 1000 ∧
  ∀ (H' : Hp) (l : Addr) (us : List V), Same H H' → H' l = some (.lst us) → All2 (NmV H') us (nmOf ts) → Q (.ref l) H'
def sp_lkeeps (K : PySem.W.Frag) : Sp := fun vs H Q _ => ∃ (b a : Addr) (us ws : List V) (bs : List (Nm × Nm)) (ts : List Int), vs = [.ref b, .ref a] ∧ SqL K H b us ∧ All2 (BfV H) us bs ∧ SqL K H a ws ∧ All2 (NmV H) ws (nmOf ts) ∧ ts.length ≤ 1000 ∧
  ∀ H', Same H H' → Q (.bl (keepsM bs ts)) H'
def sp_law (K : PySem.W.Frag) : Sp := fun vs H Q _ => ∃ (a : Addr) (ns : List Int), vs = [.ref a] ∧ SqL K H a (ns.map V.int) ∧ ns.length ≤ 63 ∧ ∀ H', Q (.bl true) H'
section
variable {P : Program} {w : World} {K : PySem.W.Frag} {mg : Str → Option Value} {base : Heap} {f : Nat → Addr} {fd : Nat → FuncData}
theorem ok_lpen (T : Txt K mg f fd) : FnOk P w K mg base CX0 1 (f 2) (fd 2) ["_law_script"] (sp_lpen K) := by
  refine T.F_lpen.ok sc_lpen (fun vs H Q E h => ?_) (fun cdv A outer s H vs Q E hr h => ?_)
  · obtain ⟨a, ns, rfl, _⟩ := h
    rfl
  · obtain ⟨a, ns, rfl, hS, hlen, q⟩ := h
    refine ⟨_, (pss_one (ps_ret (pe_lst (pa_cons (pe_callTy call_list_of (by rfl) T.z_list (by decide +kernel) (pa_cons (pe_slice sl_list (pv 0) po_none (po_some pe_int)) pa_nil)) (pa_cons pe_int (pa_cons pe_int pa_nil)))))), ?_⟩
    refine ⟨_, rfl, _, rfl, a, _, rfl, hS, fun c1 n1 => ⟨_, _, rfl, .inl (SqL.of upd_same), fun c n2 => ⟨(show 3 ≤ sizeLine by decide), fun p n3 => ?_⟩⟩⟩
    refine q _ p c ⟨0, upd_same, ?_, by decide, by decide⟩
    rw [upd_ne (ne_of_none upd_same n3), upd_same, cut63 (by rw [List.length_map]; exact hlen)]
theorem ok_ldraw (T : Txt K mg f fd) : FnOk P w K mg base CX0 1 (f 3) (fd 3) ["_law_pen_here", "_law_many"] sp_ldraw := by
  refine T.F_ldraw.ok sc_ldraw (fun vs H Q E h => ?_) (fun cdv A outer s H vs Q E hr h => ?_)
  · obtain ⟨p, c, ns, n, m, rfl, _⟩ := h
    rfl
  · obtain ⟨p, c, ns, n, m, rfl, hP, hm0, hm1, hn1, q⟩ := h
    have hne : c ≠ p := hP.ne
    obtain ⟨r, hp, hc, hn0, hr0⟩ := hP
    refine ⟨_, (pss_cons (ps_if (pt_cmpR op_gt (pe_ix ix_list (pv 0) pe_int (fun _ _ => rfl)) pe_int (nomark _)) (pss_cons (ps_set (i := 2) sc_ldraw.nd rfl (Or.inl rfl) (pe_op op_mod (pe_ix ix_list (pv 0) pe_int (fun _ _ => rfl)) (pv 1)))
      (pss_cons (ps_asg (pe_op op_fdiv (pe_ix ix_list (pv 0) pe_int (fun _ _ => rfl)) (pv 1)) (pg_sub (pv 0) pe_int set_list))
      (pss_one (ps_ret (pv 2))))) pss_nil)
      (pss_cons (ps_set (i := 3) sc_ldraw.nd rfl (Or.inl rfl) (pe_ix ix_list (pv 0) pe_int (fun _ _ => rfl)))
      (C8.pss_cut (ps_asg (pe_op op_add (pv 3) pe_int) (pg_sub (pv 0) pe_int set_list))
      (pss_cons (ps_set (i := 4) sc_ldraw.nd rfl (Or.inl rfl) pe_int)
      (C8.pss_cut (ps_if (pt_cmpR (op_neD hr.units) (pe_ix ix_list (pv 0) pe_int (fun _ _ => rfl)) (pe_lst pa_nil) (nomark _)) (pss_one (ps_set (i := 4) sc_ldraw.nd rfl (Or.inl rfl) (pe_ix ix_list (pe_ix ix_list (pv 0) pe_int (fun _ _ => rfl)) (pe_op op_mod (pv 3) (pe_callB call_len_seq (by rfl) T.z_len PySem.boot_len (pa_cons (pe_ix ix_list (pv 0) pe_int (fun _ _ => rfl)) pa_nil))) (fun _ _ => rfl)))) pss_nil)
      (C8.pss_cut (ps_if (PW.pt (pw_and (pt_cmpR op_lt (pv 3) (pe_callB call_len_seq (by rfl) T.z_len PySem.boot_len (pa_cons (pe_ix ix_list (pv 0) pe_int (fun _ _ => rfl)) pa_nil)) (nomark _)) (pw_and1 (pt_cmpR op_ge (pe_callB call_abs (by rfl) T.z_abs (by decide +kernel) (pa_cons (pv 4) pa_nil)) (pe_op op_pow pe_int pe_int) (nomark _))))) (pss_cons (ps_asg (pe_op op_fdiv (pe_op op_sub (pe_callB call_abs (by rfl) T.z_abs (by decide +kernel) (pa_cons (pv 4) pa_nil)) (pe_op op_pow pe_int pe_int)) (pv 1)) (pg_sub (pv 0) pe_int set_list))
      (pss_one (ps_ret (pe_op op_mod (pe_op op_sub (pe_callB call_abs (by rfl) T.z_abs (by decide +kernel) (pa_cons (pv 4) pa_nil)) (pe_op op_pow pe_int pe_int)) (pv 1))))) pss_nil)
      (C8.pss_cut (ps_set (i := 5) sc_ldraw.nd rfl (Or.inl rfl) (pe_lst (pa_cons pe_int (pa_cons pe_int (pa_cons pe_int (pa_cons pe_int (pa_cons pe_int pa_nil)))))))
      (pss_cons (ps_set (i := 6) sc_ldraw.nd rfl (Or.inl rfl) (pe_ix ix_list (pv 5) (pe_op op_mod (pv 3) pe_int) (fun _ _ => rfl)))
      (C8.pss_cut (ps_set (i := 7) sc_ldraw.nd rfl (Or.inl rfl) (pe_op op_mod (pe_op op_add (pe_op op_add (pe_op op_add (pe_op op_mul (pe_op op_mod (pv 4) (pv 6)) pe_int) (pe_op op_mul (pe_op op_mul pe_int (pv 3)) (pv 3))) (pe_op op_mul pe_int (pv 3))) pe_int) (pv 6)))
      (C8.pss_cut (ps_set (i := 7) sc_ldraw.nd rfl (Or.inl rfl) (pe_op op_mod (pe_op op_mul (pv 7) (pe_op op_add (pv 7) pe_int)) (pe_ix ix_list (pv 5) (pe_op op_mod (pe_op op_add (pv 3) pe_int) pe_int) (fun _ _ => rfl))))
      (pss_one (ps_ret (pe_op op_mod (pe_op op_fdiv (pe_op op_mod (pe_op op_mul (pv 7) (pv 7)) pe_int) pe_int) (pv 1)))))))))))))), ?_⟩
    refine ⟨_, rfl, _, _, _, _, rfl, rfl, SqL.of hp, rfl, _, _, rfl, rfl, _, rfl, ite2 (fun h1 => ?_) (fun h1 => ?_)⟩
    · refine ⟨_, rfl, _, _, _, _, rfl, rfl, SqL.of hp, rfl, _, rfl, _, _, rfl, rfl, hm0, ?_⟩
      refine ⟨_, rfl, _, _, _, _, rfl, rfl, SqL.of hp, rfl, _, rfl, _, _, rfl, rfl, ⟨hm0, hm1⟩, _, rfl, _, _, _, _, rfl, rfl, hp, rfl, ?_⟩
      exact ⟨_, rfl, q _ _ _ (Kp.upd _) ⟨_, upd_same, (upd_ne hne).trans hc, hn0, Int.ediv_nonneg hr0 (by omega)⟩ (Int.emod_nonneg _ (by omega)) (Int.emod_lt_of_pos _ hm0) (by omega) (by omega)⟩
    · refine ⟨_, rfl, _, _, _, _, rfl, rfl, SqL.of hp, rfl, ?_⟩
      refine ⟨fun σ' H' => σ' = [some (.ref p), some (.int m), none, some (.int n), none, none, none, none] ∧ Kp p H H' ∧ H' p = some (.lst [.ref c, .int (n + 1), .int r]) ∧ H' c = some (.lst (ns.map V.int)),
        ⟨_, rfl, _, _, rfl, rfl, _, rfl, _, _, _, _, rfl, rfl, hp, rfl, rfl, Kp.upd _, upd_same, (upd_ne hne).trans hc⟩, ?_⟩
      rintro _ H1 ⟨rfl, k1, hp1, hc1⟩
      -- cell = 0; if pen[0] != []
      refine ⟨fun σ' H' => ∃ v : Int, σ' = [some (.ref p), some (.int m), none, some (.int n), some (.int v), none, none, none] ∧ Same H1 H', ?_, ?_⟩
      · refine ⟨_, rfl, _, _, _, _, rfl, rfl, SqL.of hp1, rfl, Nat.zero_le _, fun e he => ?_⟩
        have se : Same H1 (upd H1 e (.lst [])) := Same.new he
        refine ⟨_, _, dpL (SqL.of (se _ _ hc1)), dpL (ns := []) (SqL.of upd_same), shInts _, shInts _, _, rfl, ?_⟩
        rw [eqvInts]
        by_cases h2 : ns = []
        · rw [decide_eq_true h2]
          exact iteF ⟨0, rfl, se⟩
        · rw [decide_eq_false h2]
          have hl : 0 < ((ns.map V.int).length : Int) := by
            rw [List.length_map]
            have := List.length_pos_iff.mpr h2
            omega
          obtain ⟨v, hv⟩ := atI_in (ns := ns) (Int.emod_nonneg n (by omega)) (Int.emod_lt_of_pos n hl)
          exact iteT ⟨_, rfl, _, _, _, _, rfl, rfl, SqL.of (se _ _ hp1), rfl, _, rfl, _, rfl, _, _, _, _, rfl, rfl, SqL.of (se _ _ hp1), rfl, _, _, rfl, .inl (SqL.of (se _ _ hc1)), _, _, rfl, rfl, hl, _, _, _, _, rfl, rfl, SqL.of (se _ _ hc1), hv, v, rfl, se⟩
      · rintro _ H2 ⟨v, rfl, s2⟩
        have hp2 := s2 _ _ hp1
        have hc2 := s2 _ _ hc1
        -- if turn < len(pen[0]) and abs(cell) >= 10 ** 18
        refine ⟨fun σ' H' => σ' = [some (.ref p), some (.int m), none, some (.int n), some (.int v), none, none, none] ∧ H2 = H', ?_, ?_⟩
        · refine ⟨_, rfl, _, rfl, _, _, _, _, rfl, rfl, SqL.of hp2, rfl, _, _, rfl, .inl (SqL.of hc2), _, _, rfl, rfl, _, rfl, ite2 (fun h3 => ?_) (fun h3 => iteF ⟨rfl, rfl⟩)⟩
          refine ⟨_, rfl, _, rfl, _, _, rfl, rfl, ⟨by decide, by decide, by decide⟩, _, _, rfl, rfl, _, rfl, ite2 (fun h4 => ?_) (fun h4 => ⟨rfl, rfl⟩)⟩
          have hv : (10 : Int) ^ (18 : Int).toNat ≤ (if v < 0 then -v else v) := of_decide_eq_true h4
          have hv0 : 0 ≤ (if v < 0 then -v else v) - (10 : Int) ^ (18 : Int).toNat := by omega
          refine ⟨_, rfl, _, rfl, _, _, rfl, rfl, ⟨by decide, by decide, by decide⟩, _, _, rfl, rfl, _, rfl, _, _, rfl, rfl, ⟨hm0, hm1⟩, _, rfl, _, _, _, _, rfl, rfl, hp2, rfl, ?_⟩
          refine ⟨_, rfl, _, rfl, _, _, rfl, rfl, ⟨by decide, by decide, by decide⟩, _, _, rfl, rfl, _, rfl, _, _, rfl, rfl, hm0, ?_⟩
          exact q _ _ (n + 1) ((k1.trans (Same.kp s2)).trans (Kp.upd _)) ⟨_, upd_same, (upd_ne hne).trans hc2, by omega, Int.ediv_nonneg hv0 (by omega)⟩ (Int.emod_nonneg _ (by omega)) (Int.emod_lt_of_pos _ hm0) (by omega) (by omega)
        · rintro _ _ ⟨rfl, rfl⟩
          -- primes, prime
          obtain ⟨z, hz, hz0, hz1⟩ := prime_at (i := n % 5) (Int.emod_nonneg _ (by decide)) (Int.emod_lt_of_pos _ (by decide))
          obtain ⟨y, hy, hy0, hy1⟩ := prime_at (i := (n + 2) % 5) (Int.emod_nonneg _ (by decide)) (Int.emod_lt_of_pos _ (by decide))
          refine ⟨fun σ' H' => ∃ l, σ' = [some (.ref p), some (.int m), none, some (.int n), some (.int v), some (.ref l), none, none] ∧ Same H2 H' ∧ H' l = some (.lst [V.int 2147483647, V.int 2147483629, V.int 2147483587, V.int 2147483579, V.int 2147483563]),
            ⟨(show 5 ≤ sizeLine by decide), fun l hl => ⟨l, rfl, Same.new hl, upd_same⟩⟩, ?_⟩
          rintro _ H3 ⟨l, rfl, s3, hl3⟩
          refine ⟨_, rfl, _, rfl, _, _, rfl, rfl, (by show (0 : Int) < 5; decide), _, _, _, _, rfl, rfl, SqL.of hl3, hz, ?_⟩
          -- mixed
          refine ⟨fun σ' H' => ∃ x : Int, σ' = [some (.ref p), some (.int m), none, some (.int n), some (.int v), some (.ref l), some (.int z), some (.int x)] ∧ 0 ≤ x ∧ x < z ∧ H3 = H',
            ⟨_, rfl, _, rfl, _, _, rfl, rfl, (show (0 : Int) < z by omega), _, _, rfl, rfl, .inr ⟨by decide, by decide⟩, _, rfl, _, _, rfl, rfl, .inl ⟨by decide, by decide⟩, _, rfl, _, _, rfl, rfl, .inr ⟨by omega, by omega⟩, _, _, rfl, rfl, _, rfl, _, _, rfl, rfl, .inl ⟨by decide, by decide⟩, _, _, rfl, rfl, _, _, rfl, rfl, _, rfl, _, _, rfl, rfl, (show (0 : Int) < z by omega),
              _, rfl, Int.emod_nonneg _ (by omega), Int.emod_lt_of_pos _ (by omega), rfl⟩, ?_⟩
          rintro _ _ ⟨x, rfl, hx0, hx1, rfl⟩
          refine ⟨fun σ' H' => ∃ u : Int, σ' = [some (.ref p), some (.int m), none, some (.int n), some (.int v), some (.ref l), some (.int z), some (.int u)] ∧ 0 ≤ u ∧ u < y ∧ H3 = H',
            ⟨_, rfl, _, rfl, _, _, rfl, rfl, _, _, rfl, rfl, .inl ⟨by omega, by omega⟩, _, rfl, _, rfl, _, _, rfl, rfl, _, _, rfl, rfl, (by show (0 : Int) < 5; decide), _, _, _, _, rfl, rfl, SqL.of hl3, hy, _, _, rfl, rfl, (show (0 : Int) < y by omega),
              _, rfl, Int.emod_nonneg _ (by omega), Int.emod_lt_of_pos _ (by omega), rfl⟩, ?_⟩
          rintro _ _ ⟨u, rfl, hu0, hu1, rfl⟩
          refine ⟨_, rfl, _, rfl, _, _, rfl, rfl, .inl ⟨by omega, by omega⟩, _, _, rfl, rfl, (by show (0 : Int) < 2147483549; decide), _, _, rfl, rfl, ⟨by decide, by decide⟩, _, rfl, _, _, rfl, rfl, hm0, ?_⟩
          exact q _ _ (n + 1) (k1.trans (Same.kp (s2.trans s3))) ⟨_, s3 _ _ hp2, s3 _ _ hc2, by omega, hr0⟩ (Int.emod_nonneg _ (by omega)) (Int.emod_lt_of_pos _ hm0) (by omega) (by omega)
theorem getD_at {ts : List Int} {i : Nat} (h : i < ts.length) : ts.getD i 0 = ts[i] := by simp [List.getD, h]
theorem ok_namesof (T : Txt K mg f fd) : FnOk P w K mg base CX0 1 (f 0) (fd 0) ["turns"] (sp_namesof K) := by
  refine T.F_namesof.ok sc_namesof (fun vs H Q E h => ?_) (fun cdv A outer s H vs Q E hr h => ?_)
  · obtain ⟨a, ts, rfl, _⟩ := h
    rfl
  · obtain ⟨a, ts, rfl, hS, hlen, q⟩ := h
    refine ⟨_, (pss_cons (ps_set (i := 1) sc_namesof.nd rfl (Or.inl rfl) pe_dnewK)
      (pss_cons (ps_set (i := 2) sc_namesof.nd rfl (Or.inl rfl) (pe_lst pa_nil))
      (pss_cons (ps_for PassesOwn.never rfl (pi_list (pv 0)) (pg_name (i := 3) sc_namesof.nd rfl (Or.inl rfl)) (pss_cons (ps_expr (pe_bm PySem.F.plainAttrs_list PySem.F.slot_list_append PySem.F.type_list_append mt_append (pv 2) (pa_cons (pe_tup (pa_cons (pv 3) (pa_cons (pe_dget2 (hu_of hr) (pv 1) (pv 3) pe_int ⟨rfl, rfl, rfl, rfl⟩) pa_nil))) pa_nil)))
      (pss_one (ps_dput (hu_of hr) (pv 1) (pv 3) (pe_op op_add (pe_dget2 (hu_of hr) (pv 1) (pv 3) pe_int ⟨rfl, rfl, rfl, rfl⟩) pe_int) rfl))))
      (pss_one (ps_ret (pv 2)))))), ?_⟩
    intro d hd
    have s1 : Same H (upd H d (.dK [])) := Same.new hd
    have e1 : (upd H d (.dK [])) d = some (.dK []) := upd_same
    generalize (upd H d (.dK [])) = H1 at s1 e1
    refine ⟨Nat.zero_le _, fun l hl => ?_⟩
    have s2 : Same H1 (upd H1 l (.lst [])) := Same.new hl
    have nl : H l = none := by
      cases z : H l with
      | none => rfl
      | some o =>
        rw [s1 _ _ z] at hl
        cases hl
    have ndl : d ≠ l := ne_of_none e1 hl
    refine ⟨_, rfl, a, rfl, ⟨_, (s1.trans s2).seq hS⟩, for_list (K := K) (a := a) (xs := ts.map V.int) (fun i σ' H' => ∃ (kvs : List (Key × V)) (us : List V) (y : Option V), σ' = [some (.ref a), some (.ref d), some (.ref l), y] ∧ Same H H' ∧ H' d = some (.dK kvs) ∧ kvs.length ≤ i ∧
        (∀ t : Int, (valV kvs (.inl t)).getD (.int 0) = .int (((ts.take i).count t : Nat) : Int)) ∧ H' l = some (.lst us) ∧ All2 (NmV H') us ((List.range i).map (nmAt ts)))
      ⟨[], [], none, rfl, s1.trans s2, s2 _ _ e1, Nat.le_refl _, fun t => rfl, upd_same, trivial⟩ (fun i σ' H' _ h => ?_) ?_ ?_⟩
    · obtain ⟨kvs, us, y, rfl, sm, _⟩ := h
      exact sm.seq hS
    · rintro i x _ H2 hx ⟨kvs, us, y, rfl, sm, hd2, hk, hv, hl2, hN⟩
      have hi : i < ts.length := by
        have := (List.getElem?_eq_some_iff.mp hx).1
        rwa [List.length_map] at this
      rw [List.getElem?_map, List.getElem?_eq_getElem hi] at hx
      obtain rfl := Option.some.inj hx
      have ge := getD_at hi
      have hc := hv ts[i]
      -- names.append((thread, many.get(thread, 0)))
      refine ⟨_, rfl, .inl ⟨rfl, _, SqL.of hl2⟩, _, rfl, _, rfl, d, rfl, .inl ⟨_, .inl hd2⟩, _, rfl, _, DGet.k (k := .inl ts[i]) hd2, (show 2 ≤ sizeLine by decide), fun t ht => ?_⟩
      rw [hc]
      have s3 : Same H2 (upd H2 t (.tup [.int ts[i], .int (((ts.take i).count ts[i] : Nat) : Int)])) := Same.new ht
      have e3 : (upd H2 t (.tup [.int ts[i], .int (((ts.take i).count ts[i] : Nat) : Int)])) t = some (.tup [.int ts[i], .int (((ts.take i).count ts[i] : Nat) : Int)]) := upd_same
      generalize (upd H2 t (.tup [.int ts[i], .int (((ts.take i).count ts[i] : Nat) : Int)])) = H3 at s3 e3
      have lu := hN.len
      rw [List.length_map, List.length_range] at lu
      refine ⟨l, _, _, rfl, rfl, s3 _ _ hl2, small1000 (by omega), ?_⟩
      have hl3 := s3 _ _ hl2
      have k4 : TKp H3 (upd H3 l (.lst (us ++ [.ref t]))) := TKp.updL hl3
      have sm4 : Same H (upd H3 l (.lst (us ++ [.ref t]))) := Same.mut (sm.trans s3) nl
      have hd4 : (upd H3 l (.lst (us ++ [.ref t]))) d = some (.dK kvs) := (upd_ne ndl).trans (s3 _ _ hd2)
      have hl4 : (upd H3 l (.lst (us ++ [.ref t]))) l = some (.lst (us ++ [.ref t])) := upd_same
      generalize (upd H3 l (.lst (us ++ [.ref t]))) = H4 at k4 sm4 hd4 hl4
      -- many[thread] = many.get(thread, 0) + 1
      refine ⟨_, rfl, d, rfl, .inl ⟨_, .inl hd4⟩, _, rfl, _, DGet.k (k := .inl ts[i]) hd4, ?_⟩
      rw [hc]
      have nd : H d = none := hd
      refine ⟨_, _, rfl, rfl, _, rfl, _, rfl, d, _, rfl, DPut.k (k := .inl ts[i]) hd4 (small1000 (by omega)), ?_⟩
      have k5 : ∀ o, TKp H4 (upd H4 d o) := fun o b ys h => by
        rw [upd_ne (ne_of h hd4 (fun z => nomatch z))]
        exact h
      refine ⟨_, us ++ [.ref t], _, rfl, Same.mut sm4 nd, upd_same, Nat.le_trans (length_putK _ _ _) (by omega), fun u => ?_, (upd_ne ndl.symm).trans hl4, ?_⟩
      · rw [valV_put, cnt_succ hi, ge]
        by_cases z : ts[i] = u
        · subst z
          rw [if_pos rfl, if_pos rfl]
          rfl
        · rw [if_neg z, if_neg (fun y => z (Sum.inl.inj y).symm), hv u]
          rfl
      · rw [nmTo_succ]
        refine All2.snoc ⟨t, rfl, k5 _ _ _ (k4 _ _ ?_)⟩ (hN.mono fun v x h => h.keep ((TKp.same s3).trans (k4.trans (k5 _))))
        rw [e3]
        unfold nmAt
        rw [ge]
    · rintro _ H2 ⟨kvs, us, y, rfl, sm, hd2, hk, hv, hl2, hN⟩
      rw [List.length_map] at hN
      exact ⟨_, rfl, q _ l us sm hl2 hN⟩
theorem ok_keeps (T : Txt K mg f fd) : FnOk P w K mg base CX0 2 (f 1) (fd 1) ["befores", "turns"] (sp_keeps K) := by
  have G_namesof := ok_namesof (P := P) (w := w) (base := base) T
  refine T.F_keeps.ok sc_keeps (fun vs H Q E h => ?_) (fun cdv A outer s H vs Q E hr h => ?_)
  · obtain ⟨b, a, us, bs, ts, rfl, _⟩ := h
    rfl
  · obtain ⟨b, a, us, bs, ts, rfl, hB, hBs, hS, hlen, q⟩ := h
    have hr_namesof := hr
    refine ⟨_, (C8.pss_cut (ps_setDcT (i := 2) (own := [("at", 3), ("name", 4)]) (g := (gTup K 2 (gCons (gName 3) (gCons (gName 4) gNil)))) (tk := (tVar 4)) (tv := (tVar 3)) (Nat.lt_of_succ_lt (hu_of hr)) (by rfl) sc_keeps.nd rfl rfl (sw_dcT rfl rfl rfl (by decide +kernel)) (pi_enum (by rfl) T.z_enumerate (pa_cons (pe_call G_namesof hr_namesof (by rfl) T.m_namesof T.F_namesof.kp T.b_namesof .nil pass0 (pa_cons (pv 1) pa_nil)) pa_nil)) (blkOk_by (own := [("at", 3), ("name", 4)]) (N := N_keeps) (sc := defScope s_keeps) (by decide +kernel)) (fun _ _ _ _ _ => (pg_tup (by rfl) (pgs_cons (pg_name (i := 3) sc_keeps.nd rfl (Or.inl rfl)) (pgs_cons (pg_name (i := 4) sc_keeps.nd rfl (Or.inl rfl)) pgs_nil)))) (fun _ _ _ _ _ => (pv 4)) (fun _ _ _ _ _ => (pv 3)))
      (pss_cons (ps_for PassesOwn.never rfl (pi_list (pv 0)) (pg_tup (by rfl) (pgs_cons (pg_name (i := 5) sc_keeps.nd rfl (Or.inl rfl)) (pgs_cons (pg_name (i := 6) sc_keeps.nd rfl (Or.inl rfl)) pgs_nil))) (pss_one (ps_if (PW.pt (pw_and (pt_cmp (pc_din (hu_of hr) (pv 6) (pv 2))) (pw_and1 (pt_cmpR op_ge (pe_dget2 (hu_of hr) (pv 2) (pv 5) (pe_callB call_len_seq (by rfl) T.z_len PySem.boot_len (pa_cons (pv 1) pa_nil)) ⟨rfl, rfl, rfl, rfl⟩) (pe_dget (hu_of hr) (pv 2) (pv 6) (fun _ _ => rfl)) (nomark _))))) (pss_one (ps_ret pe_bl)) pss_nil)))
      (pss_one (ps_ret pe_bl)))), ?_⟩
    refine ⟨fun σ' H' => ∃ (D : Addr) (kvs : List (List Key × V)), σ' = [some (.ref b), some (.ref a), some (.ref D), none, none, none, none] ∧ Same H H' ∧ H' D = some (.dT kvs) ∧
      ∀ x : Nm, valV kvs [.inl x.1, .inl x.2] = (posT (nmAt ts) x ts.length).map (fun j : Nat => V.int ((j : Nat) : Int)), ?_, ?_⟩
    · refine ⟨_, rfl, a, ts, rfl, hS, hlen, fun H1 l vs s1 hl hN => ?_⟩
      have lv : vs.length = ts.length := by rw [hN.len, nmOf_len]
      refine ⟨l, _, rfl, SqL.of hl, fun D nD => ?_⟩
      refine dcT_it walk_enum (fun i H' => ∃ kvs : List (List Key × V), Same H1 H' ∧ H' D = some (.dT kvs) ∧ kvs.length ≤ i ∧ ∀ x : Nm, valV kvs [.inl x.1, .inl x.2] = (posT (nmAt ts) x i).map (fun j : Nat => V.int ((j : Nat) : Int)))
        ⟨[], Same.new nD, upd_same, Nat.le_refl _, fun x => rfl⟩ (fun i H' _ ⟨kvs, sm, _⟩ => SqL.of (sm _ _ hl)) ?_ ?_
      · rintro i x H2 H3 hi ⟨kvs, sm, hD, hk, hv⟩ ⟨t, u, v, rfl, nt, rfl, gu, gv⟩
        obtain rfl := Option.some.inj gu
        obtain ⟨nm, gn, p, rfl, hp⟩ := hN.get gv
        have hi' : i < ts.length := by omega
        rw [nmOf_get hi'] at gn
        obtain rfl := Option.some.inj gn
        have sT : Same H2 (upd H2 t (.tup [.int ((i : Nat) : Int), .ref p])) := Same.new nt
        refine ⟨t, _, rfl, SqT.of upd_same, rfl, _, _, rfl, _, _, rfl, rfl, rfl, ?_⟩
        refine ⟨_, rfl, _, rfl, kvs, [.inl (nmAt ts i).1, .inl (nmAt ts i).2], p, rfl, sT _ _ (sm _ _ hp), sT _ _ hD, small1000 (by omega), ?_⟩
        refine ⟨_, Same.mut (sm.trans sT) nD, upd_same, Nat.le_trans (length_putK _ _ _) (by omega), fun x => ?_⟩
        rw [valV_put]
        show _ = (if nmAt ts i = x then some i else posT (nmAt ts) x i).map _
        by_cases z : nmAt ts i = x
        · rw [if_pos z, if_pos (by rw [z])]
          rfl
        · rw [if_neg z, if_neg, hv x]
          intro y
          injection y with y1 y2
          injection y2 with y2 _
          exact z (Prod.ext (Sum.inl.inj y1).symm (Sum.inl.inj y2).symm)
      · rintro H2 ⟨kvs, sm, hD, hk, hv⟩
        rw [lv] at hv
        exact ⟨D, kvs, rfl, s1.trans sm, hD, hv⟩
    · rintro _ H1 ⟨D, kvs, rfl, s1, hD, hv⟩
      refine ⟨_, rfl, b, rfl, ⟨_, s1.seq hB⟩, for_list (K := K) (a := b) (xs := us) (fun i σ' H' => ∃ (y z y5 y6 : Option V), σ' = [some (.ref b), some (.ref a), some (.ref D), y5, y6, y, z] ∧ H1 = H' ∧ (bs.take i).all (kpM ts) = true)
        ⟨none, none, none, none, rfl, rfl, by simp⟩ (fun i σ' H' _ h => ?_) ?_ ?_⟩
      · obtain ⟨y, z, y5, y6, rfl, rfl, _⟩ := h
        exact s1.seq hB
      · rintro i x _ _ hx ⟨y, z, y5, y6, rfl, rfl, hall⟩
        obtain ⟨⟨n1, n2⟩, gx, p, u, v, rfl, hp, hu, hv2⟩ := hBs.get hx
        obtain ⟨pu, rfl, eu⟩ := hu
        obtain ⟨pv, rfl, ev⟩ := hv2
        refine ⟨p, _, rfl, SqT.of (s1 _ _ hp), rfl, _, _, rfl, _, _, rfl, rfl, ?_⟩
        have g2 := DGet.t (k := [.inl n2.1, .inl n2.2]) hD (s1 _ _ ev)
        have g1 := DGet.t (k := [.inl n1.1, .inl n1.2]) hD (s1 _ _ eu)
        rw [hv] at g1 g2
        have ta : bs.take (i + 1) = bs.take i ++ [(n1, n2)] := by
          rw [List.take_add_one, gx]
          rfl
        have next : kpM ts (n1, n2) = true → (bs.take (i + 1)).all (kpM ts) = true := by
          intro z
          rw [ta, List.all_append, hall]
          simp [z]
        have stop : kpM ts (n1, n2) = false → keepsM bs ts = false := by
          intro z
          unfold keepsM
          rw [List.all_eq_false]
          refine ⟨(n1, n2), List.mem_of_getElem? gx, ?_⟩
          rw [z]
          exact Bool.false_ne_true
        refine ⟨_, rfl, _, rfl, D, _, rfl, g2, ?_⟩
        cases e2 : posT (nmAt ts) n2 ts.length with
        | none =>
          refine ⟨_, rfl, iteF (iteF ⟨_, _, _, _, rfl, rfl, next ?_⟩)⟩
          unfold kpM
          rw [e2]
        | some j =>
          rw [e2] at g2
          have j1 := (posT_some e2).1
          refine ⟨_, rfl, iteT ?_⟩
          cases e1 : posT (nmAt ts) n1 ts.length with
          | none =>
            rw [e1] at g1
            refine ⟨_, rfl, D, rfl, .inr ⟨_, .inl hD⟩, _, rfl, _, rfl, _, _, rfl, .inl (s1.seq hS), _, g1, _, rfl, _, rfl, D, _, rfl, g2, _, _, rfl, rfl, _, rfl, ?_⟩
            rw [List.length_map, decide_eq_true (show ((j : Nat) : Int) ≤ ((ts.length : Nat) : Int) by omega)]
            have q1 := q _ s1
            rw [stop (by unfold kpM; rw [e2, e1])] at q1
            exact iteT q1
          | some i1 =>
            rw [e1] at g1
            refine ⟨_, rfl, D, rfl, .inr ⟨_, .inl hD⟩, _, rfl, _, rfl, _, _, rfl, .inl (s1.seq hS), _, g1, _, rfl, _, rfl, D, _, rfl, g2, _, _, rfl, rfl, _, rfl, ?_⟩
            by_cases hle : (j : Int) ≤ (i1 : Int)
            · rw [decide_eq_true hle]
              have q1 := q _ s1
              rw [stop (by unfold kpM; rw [e2, e1]; exact decide_eq_false (by omega))] at q1
              exact iteT q1
            · rw [decide_eq_false hle]
              refine iteF ⟨_, _, _, _, rfl, rfl, next ?_⟩
              unfold kpM
              rw [e2, e1]
              exact decide_eq_true (by omega)
      · rintro _ _ ⟨y, z, y5, y6, rfl, rfl, hall⟩
        have e : keepsM bs ts = true := by
          rw [hBs.len, List.take_length] at hall
          exact hall
        have q1 := q _ s1
        rw [e] at q1
        exact q1
theorem ok_lnamed (T : Txt K mg f fd) : FnOk P w K mg base CX0 1 (f 4) (fd 4) ["_law_turns"] (sp_lnamed K) := by
  refine T.F_lnamed.ok sc_lnamed (fun vs H Q E h => ?_) (fun cdv A outer s H vs Q E hr h => ?_)
  · obtain ⟨a, ts, rfl, _⟩ := h
    rfl
  · obtain ⟨a, ts, rfl, hS, hlen, q⟩ := h
    refine ⟨_, (pss_one (ps_ret (pe_lc (own := [("_law_k", 1)]) (g := (gName 1)) (tt := tYes) (te := (tTup (tCons (tOp (rIxL K) (tVar 0) (tVar 1)) (tCons (tBM K "list" (rCntI K) (tSl (rSlL K) (tVar 0) tNoPart (tPart (tVar 1))) (tCons (tOp (rIxL K) (tVar 0) (tVar 1)) tNil)) tNil)))) (by rfl) sc_lnamed.nd (pi_range1 (by rfl) T.z_range (pa_cons (pe_callB call_len_seq (by rfl) T.z_len PySem.boot_len (pa_cons (pv 0) pa_nil)) pa_nil)) (blkOk_by (own := [("_law_k", 1)]) (N := N_lnamed) (sc := defScope s_lnamed) (by decide +kernel)) (fun _ _ _ _ _ => (pg_name (i := 1) sc_lnamed.nd rfl (Or.inl rfl))) (fun _ _ _ _ _ => pts_nil) (fun _ _ _ _ _ => (pe_tup (pa_cons (pe_ix ix_list (pv 0) (pv 1) (fun _ _ => rfl)) (pa_cons (pe_bm PySem.F.plainAttrs_list PySem.F.slot_list_count PySem.F.type_list_count mt_lcount (pe_slice sl_list (pv 0) po_none (po_some (pv 1))) (pa_cons (pe_ix ix_list (pv 0) (pv 1) (fun _ _ => rfl)) pa_nil)) pa_nil))))))), ?_⟩
    refine ⟨_, rfl, _, _, rfl, .inl hS, _, rfl, by omega, by rw [List.length_map]; omega, fun D nD => ?_⟩
    rw [List.length_map, Int.toNat_natCast]
    refine lc_it walk_range (fun i H' => ∃ us : List V, Same H H' ∧ H' D = some (.lst us) ∧ All2 (NmV H') us ((List.range i).map (nmAt ts))) ⟨[], Same.new nD, upd_same, trivial⟩ (fun _ _ _ _ => trivial) ?_ ?_
    · rintro i x _ H2 hi ⟨us, sm, hD, hN⟩ ⟨rfl, rfl⟩
      have ge := getD_at hi
      have hx : atI (ts.map V.int) (0 + (i : Int)) = some (.int ts[i]) := by
        rw [Int.zero_add]
        refine atI_nat ?_
        rw [List.getElem?_map, List.getElem?_eq_getElem hi]
        rfl
      refine ⟨rfl, _, rfl, _, rfl, _, _, _, _, rfl, rfl, sm.seq hS, hx, ?_⟩
      refine ⟨_, rfl, _, rfl, _, rfl, a, _, rfl, sm.seq hS, fun c hc => ?_⟩
      rw [Int.zero_add, cutTo, ← List.map_take]
      have s3 : Same H2 (upd H2 c (.lst ((ts.take i).map V.int))) := Same.new hc
      have e3 : (upd H2 c (.lst ((ts.take i).map V.int))) c = some (.lst ((ts.take i).map V.int)) := upd_same
      generalize (upd H2 c (.lst ((ts.take i).map V.int))) = H3 at s3 e3
      refine ⟨.inl ⟨rfl, _, SqL.of e3⟩, _, rfl, _, rfl, _, _, _, _, rfl, rfl, (sm.trans s3).seq hS, hx, c, _, _, rfl, rfl, SqL.of e3, ?_⟩
      refine ⟨(show 2 ≤ sizeLine by decide), fun t ht => ?_⟩
      have s4 : Same H3 (upd H3 t (.tup [.int ts[i], .int (((ts.take i).count ts[i] : Nat) : Int)])) := Same.new ht
      have lu := hN.len
      rw [List.length_map, List.length_range] at lu
      refine ⟨us, s4 _ _ (s3 _ _ hD), small1000 (by omega), us ++ [.ref t], Same.mut (sm.trans (s3.trans s4)) nD, upd_same, ?_⟩
      have k5 : TKp (upd H3 t (.tup [.int ts[i], .int (((ts.take i).count ts[i] : Nat) : Int)])) (upd (upd H3 t (.tup [.int ts[i], .int (((ts.take i).count ts[i] : Nat) : Int)])) D (.lst (us ++ [.ref t]))) := TKp.updL (s4 _ _ (s3 _ _ hD))
      rw [nmTo_succ]
      refine All2.snoc ⟨t, rfl, k5 _ _ ?_⟩ (hN.mono fun v x h => h.keep ((TKp.same (s3.trans s4)).trans k5))
      rw [upd_same]
      unfold nmAt
      rw [ge]
    · rintro H2 ⟨us, sm, hD, hN⟩
      exact q _ D us sm hD hN
theorem ok_lkeeps (T : Txt K mg f fd) : FnOk P w K mg base CX0 1 (f 5) (fd 5) ["_law_befores", "_law_called"] (sp_lkeeps K) := by
  refine T.F_lkeeps.ok sc_lkeeps (fun vs H Q E h => ?_) (fun cdv A outer s H vs Q E hr h => ?_)
  · obtain ⟨b, a, us, ws, bs, ts, rfl, _⟩ := h
    rfl
  · obtain ⟨b, a, us, ws, bs, ts, rfl, hB, hBs, hW, hN, hlen, q⟩ := h
    have hu65 := hu65_of hr
    refine ⟨_, (pss_cons (ps_for PassesOwn.never rfl (pi_list (pv 0)) (pg_tup (by rfl) (pgs_cons (pg_name (i := 2) sc_lkeeps.nd rfl (Or.inl rfl)) (pgs_cons (pg_name (i := 3) sc_lkeeps.nd rfl (Or.inl rfl)) pgs_nil))) (pss_one (ps_if (PW.pt (pw_and (pt_cmpR (op_inD hu65) (pv 3) (pv 1) (by rfl)) (pw_and1 (pt_cmpR (op_notInD hu65) (pv 2) (pe_slice sl_list (pv 1) po_none (po_some (pe_bm PySem.F.plainAttrs_list PySem.F.slot_list_index PySem.F.type_list_index (mt_indexD hu65) (pv 1) (pa_cons (pv 3) pa_nil)))) (by rfl))))) (pss_one (ps_ret pe_bl)) pss_nil)))
      (pss_one (ps_ret pe_bl))), ?_⟩
    have lw : ws.length = ts.length := by rw [hN.len, nmOf_len]
    refine ⟨_, rfl, b, rfl, ⟨_, hB⟩, for_list (K := K) (a := b) (xs := us) (fun i σ' H' => ∃ (y z : Option V), σ' = [some (.ref b), some (.ref a), y, z] ∧ Same H H' ∧ (bs.take i).all (kpM ts) = true)
      ⟨none, none, rfl, Same.refl H, by simp⟩ (fun i σ' H' _ h => ?_) ?_ ?_⟩
    · obtain ⟨y, z, rfl, sm, _⟩ := h
      exact sm.seq hB
    · rintro i x _ H1 hx ⟨y, z, rfl, s1, hall⟩
      obtain ⟨⟨n1, n2⟩, gx, p, u, v, rfl, hp, hu, hv2⟩ := hBs.get hx
      refine ⟨p, _, rfl, SqT.of (s1 _ _ hp), rfl, _, _, rfl, _, _, rfl, rfl, ?_⟩
      have k1 := TKp.same s1
      have hu1 := hu.keep k1
      have hv1 := hv2.keep k1
      have hN1 := hN.mono fun v x h => h.keep k1
      have ta : bs.take (i + 1) = bs.take i ++ [(n1, n2)] := by
        rw [List.take_add_one, gx]
        rfl
      have next : kpM ts (n1, n2) = true → (bs.take (i + 1)).all (kpM ts) = true := by
        intro z
        rw [ta, List.all_append, hall]
        simp [z]
      have stop : kpM ts (n1, n2) = false → keepsM bs ts = false := by
        intro z
        unfold keepsM
        rw [List.all_eq_false]
        refine ⟨(n1, n2), List.mem_of_getElem? gx, ?_⟩
        rw [z]
        exact Bool.false_ne_true
      refine ⟨_, rfl, _, rfl, _, _, dpN hv1, dpNs (s1.seq hW) hN1, dN_shaped _, dNs_shaped _, _, rfl, ?_⟩
      rw [any_pos]
      cases e2 : posT (nmAt ts) n2 ts.length with
      | none =>
        refine iteF (iteF ⟨_, _, rfl, s1, next ?_⟩)
        unfold kpM
        rw [e2]
      | some j =>
        obtain ⟨j1, j2⟩ := posT_some e2
        refine iteT ?_
        have gj : ((nmOf ts).map dN)[j]? = some (dN (nmAt ts j)) := by
          rw [List.getElem?_map, nmOf_get j1]
          rfl
        refine ⟨_, rfl, _, rfl, _, rfl, .inl ⟨rfl, _, s1.seq hW⟩, _, rfl, a, _, _, _, j, _, rfl, rfl, dpNs (s1.seq hW) hN1, dpN hv1, dNs_shaped _, dN_shaped _, gj, ?_, fun m z' hm hz => ?_, ?_⟩
        · rw [dN_eqv, j2, decide_eq_true rfl]
        · rw [List.getElem?_map, nmOf_get (by omega)] at hz
          obtain rfl := Option.some.inj hz
          rw [dN_eqv, decide_eq_false]
          intro e
          have := nmAt_inj (ts := ts) (i := m) (j := j) (by omega) j1 (by rw [j2]; exact e)
          omega
        · refine ⟨_, rfl, a, _, rfl, s1.seq hW, fun c hc => ?_⟩
          rw [cutTo]
          have s3 : Same H1 (upd H1 c (.lst (ws.take j))) := Same.new hc
          have e3 : (upd H1 c (.lst (ws.take j))) c = some (.lst (ws.take j)) := upd_same
          generalize (upd H1 c (.lst (ws.take j))) = H3 at s3 e3
          have k3 := TKp.same s3
          refine ⟨_, _, dpN (hu1.keep k3), dpNs (SqL.of e3) ((hN1.mono fun v x h => h.keep k3).take j), dN_shaped _, dNs_shaped _, _, rfl, ?_⟩
          rw [any_take (by omega)]
          have s13 := s1.trans s3
          cases e1 : posT (nmAt ts) n1 ts.length with
          | none =>
            have q1 := q _ s13
            rw [stop (by unfold kpM; rw [e2, e1])] at q1
            exact iteT q1
          | some i1 =>
            show if (!decide (i1 < j)) = true then _ else _
            by_cases hle : i1 < j
            · rw [decide_eq_true hle]
              refine iteF ⟨_, _, rfl, s13, next ?_⟩
              unfold kpM
              rw [e2, e1]
              exact decide_eq_true hle
            · rw [decide_eq_false hle]
              have q1 := q _ s13
              rw [stop (by unfold kpM; rw [e2, e1]; exact decide_eq_false hle)] at q1
              exact iteT q1
    · rintro _ H1 ⟨y, z, rfl, s1, hall⟩
      have e : keepsM bs ts = true := by
        rw [hBs.len, List.take_length] at hall
        exact hall
      have q1 := q _ s1
      rw [e] at q1
      exact q1
--SPLIT
theorem Pen.mut {H0 H2 : Hp} {p c D : Addr} {o : HO} {ns : List Int} {m n2 : Int} (Q0 : Pen H0 p c ns m) (hD : H0 D = none) (Q2 : Pen H2 p c ns n2) : Pen (upd H2 D o) p c ns n2 := by
  have ndp : D ≠ p := Q0.ni hD
  have ndc : c ≠ D := fun z => by
    obtain ⟨r0, _, c2, _⟩ := Q0
    rw [z, hD] at c2
    cases c2
  obtain ⟨r, g1, g2, g3, g4⟩ := Q2
  exact ⟨r, (upd_ne ndp.symm).trans g1, (upd_ne ndc).trans g2, g3, g4⟩
def Sm (x : Nm) : Prop := 0 ≤ x.1 ∧ x.1 < 1000 ∧ 0 ≤ x.2 ∧ x.2 < 1000
/-- what stands while the befores are drawn -/
structure Wd (H : Hp) (p c : Addr) (ns : List Int) (n : Int) (l : Addr) (ts : List Int) (ln : Addr) (us : List V) (lb : Addr) (bv : List V) (bs : List (Nm × Nm)) : Prop where
  pen : Pen H p c ns n
  hl : H l = some (.lst (ts.map V.int))
  hn : H ln = some (.lst us)
  hN : All2 (NmV H) us (nmOf ts)
  hb : H lb = some (.lst bv)
  hB : All2 (BfV H) bv bs
  lp : l ≠ p
  np : ln ≠ p
  bp : lb ≠ p
  lb' : l ≠ lb
  nb : ln ≠ lb
  cb : c ≠ lb
theorem Wd.same {H H' : Hp} {p c : Addr} {ns : List Int} {n : Int} {l : Addr} {ts : List Int} {ln : Addr} {us : List V} {lb : Addr} {bv : List V} {bs : List (Nm × Nm)} (h : Wd H p c ns n l ts ln us lb bv bs) (s : Same H H') : Wd H' p c ns n l ts ln us lb bv bs :=
  ⟨h.pen.same s, s _ _ h.hl, s _ _ h.hn, h.hN.mono fun _ _ z => z.keep (TKp.same s), s _ _ h.hb, h.hB.mono fun _ _ z => z.keep (TKp.same s), h.lp, h.np, h.bp, h.lb', h.nb, h.cb⟩
theorem Pen.tkp {H H' : Hp} {p c : Addr} {ns : List Int} {n : Int} (h : Pen H p c ns n) (k : Kp p H H') : TKp H H' := by
  obtain ⟨r, h1, _⟩ := h
  exact k.tkp h1
theorem Wd.drawn {H H' : Hp} {p c : Addr} {ns : List Int} {n n' : Int} {l : Addr} {ts : List Int} {ln : Addr} {us : List V} {lb : Addr} {bv : List V} {bs : List (Nm × Nm)} (h : Wd H p c ns n l ts ln us lb bv bs) (k : Kp p H H') (P : Pen H' p c ns n') : Wd H' p c ns n' l ts ln us lb bv bs :=
  ⟨P, k _ _ h.lp h.hl, k _ _ h.np h.hn, h.hN.mono fun _ _ z => z.keep (h.pen.tkp k), k _ _ h.bp h.hb, h.hB.mono fun _ _ z => z.keep (h.pen.tkp k), h.lp, h.np, h.bp, h.lb', h.nb, h.cb⟩
theorem Wd.app {H : Hp} {p c : Addr} {ns : List Int} {n : Int} {l : Addr} {ts : List Int} {ln : Addr} {us : List V} {lb : Addr} {bv : List V} {bs : List (Nm × Nm)} (h : Wd H p c ns n l ts ln us lb bv bs) {v : V} {x : Nm × Nm} (hv : BfV H v x) : Wd (upd H lb (.lst (bv ++ [v]))) p c ns n l ts ln us lb (bv ++ [v]) (bs ++ [x]) := by
  have k : TKp H (upd H lb (.lst (bv ++ [v]))) := TKp.updL h.hb
  refine ⟨?_, (upd_ne h.lb').trans h.hl, (upd_ne h.nb).trans h.hn, h.hN.mono fun _ _ z => z.keep k, upd_same, (h.hB.mono fun _ _ z => z.keep k).snoc (hv.keep k), h.lp, h.np, h.bp, h.lb', h.nb, h.cb⟩
  obtain ⟨r, g1, g2, g3, g4⟩ := h.pen
  exact ⟨r, (upd_ne h.bp.symm).trans g1, (upd_ne h.cb).trans g2, g3, g4⟩
theorem keepsM_more (bs : List (Nm × Nm)) (ts : List Int) : keepsM (bs ++ bs.take 1) ts = keepsM bs ts := by
  unfold keepsM
  rw [List.all_append]
  cases bs with
  | nil => rfl
  | cons b r =>
    show ((b :: r).all (kpM ts) && (kpM ts b && true)) = _
    rw [List.all_cons]
    cases kpM ts b <;> cases r.all (kpM ts) <;> rfl
theorem keepsM_nil (bs : List (Nm × Nm)) : keepsM bs [] = true := by
  unfold keepsM
  rw [List.all_eq_true]
  intro x _
  rfl
theorem dN_shw {x : Nm} (h : Sm x) : Shw (dN x) 19 1 := by
  obtain ⟨a, b, c, d⟩ := h
  have z := shw_tup (ds := [.int x.1, .int x.2]) (n := 6) (k := 0) (by
    intro y hy
    simp only [List.mem_cons, List.not_mem_nil, or_false] at hy
    rcases hy with rfl | rfl
    · exact shw_int (by omega)
    · exact shw_int (by omega))
  exact z.mono (by show (6 + 2) * 2 + 3 ≤ 19; decide) (by decide)
theorem two_of {α : Type} {R : V → α → Prop} : ∀ {vs : List V} {xs : List α}, All2 R vs xs → xs.length = 2 → ∃ v1 v2 x1 x2, vs = [v1, v2] ∧ xs = [x1, x2] ∧ R v1 x1 ∧ R v2 x2
  | [v1, v2], [x1, x2], ⟨h1, h2, _⟩, _ => ⟨v1, v2, x1, x2, rfl, rfl, h1, h2⟩
  | _, [], _, h => by cases h
  | _, [_], _, h => by cases h
  | _, _ :: _ :: _ :: _, _, h => by simp at h
  | [], [_, _], h, _ => h.elim
  | [_], [_, _], ⟨_, h⟩, _ => h.elim
  | _ :: _ :: _ :: _, [_, _], ⟨_, _, h⟩, _ => h.elim
theorem all_show {bs : List (Nm × Nm)} {ts : List Int} (hb : ∀ x ∈ bs, Sm x.1 ∧ Sm x.2) (hl : bs.length ≤ 10) (ht : ∀ t ∈ ts, 0 ≤ t ∧ t < 4) (htl : ts.length ≤ 100) : ShowOk (.tuple [.list (bs.map dB), .list (ts.map PyData.int)]) := by
  have h1 : Shw (.list (bs.map dB)) 500 3 := by
    refine (shw_lst (n := 45) (k := 2) (fun d hd => ?_)).mono (by rw [List.length_map]; omega) (by decide)
    obtain ⟨x, hx, rfl⟩ := List.mem_map.mp hd
    obtain ⟨a, b⟩ := hb x hx
    refine (shw_tup (ds := [dN x.1, dN x.2]) (n := 19) (k := 1) (fun y hy => ?_)).mono (by show (19 + 2) * 2 + 3 ≤ 45; decide) (by decide)
    simp only [List.mem_cons, List.not_mem_nil, or_false] at hy
    rcases hy with rfl | rfl
    · exact dN_shw a
    · exact dN_shw b
  have h2 : Shw (.list (ts.map PyData.int)) 1000 3 := by
    refine (shw_lst (n := 6) (k := 0) (fun d hd => ?_)).mono (by rw [List.length_map]; omega) (by decide)
    obtain ⟨x, hx, rfl⟩ := List.mem_map.mp hd
    have := ht x hx
    exact shw_int (by omega)
  refine (shw_tup (n := 1000) (k := 3) (fun d hd => ?_)).ok (by show (1000 + 2) * 2 + 3 ≤ _; decide) (by decide)
  simp only [List.mem_cons, List.not_mem_nil, or_false] at hd
  rcases hd with rfl | rfl
  · exact h1.mono (by decide) (by decide)
  · exact h2
theorem nm_small {ts : List Int} (ht : ∀ t ∈ ts, 0 ≤ t ∧ t < 4) (htl : ts.length ≤ 100) {i : Nat} (hi : i < ts.length) : Sm (nmAt ts i) := by
  have := ht _ (List.getElem_mem hi)
  have ge := getD_at hi
  have c := List.count_le_length (a := ts.getD i 0) (l := ts.take i)
  rw [List.length_take] at c
  unfold nmAt Sm
  rw [ge] at c ⊢
  exact ⟨this.1, by show ts[i] < 1000; omega, by omega, by show (((ts.take i).count ts[i] : Nat) : Int) < 1000; omega⟩
theorem ok_law (T : Txt K mg f fd) : FnG P w K mg base CX0 3 (f 6) (fd 6) ["_law_script"] (sp_law K) := by
  have G_keeps := ok_keeps (P := P) (w := w) (base := base) T
  have G_lpen := ok_lpen (P := P) (w := w) (base := base) T
  have G_ldraw := ok_ldraw (P := P) (w := w) (base := base) T
  have G_lnamed := ok_lnamed (P := P) (w := w) (base := base) T
  have G_lkeeps := ok_lkeeps (P := P) (w := w) (base := base) T
  refine Fun.okG T.F_law sc_law (fun vs H Q E h => ?_) (fun cdv A outer s H vs Q E hg hr h => ?_)
  · obtain ⟨a, ns, rfl, _⟩ := h
    rfl
  · obtain ⟨a, ns, rfl, hsq, hlen, q⟩ := h
    have hr_keeps := hr
    have hr_lpen : Room 1 _ := hr.mono (by decide)
    have hr_ldraw : Room 1 _ := hr.mono (by decide)
    have hr_lnamed : Room 1 _ := hr.mono (by decide)
    have hr_lkeeps : Room 1 _ := hr.mono (by decide)
    have hu64 := hr.units
    refine ⟨_, (pss_cons (ps_set (i := 1) sc_law.nd rfl (Or.inr rfl) (pe_call G_lpen hr_lpen (by rfl) T.m_lpen T.F_lpen.kp T.b_lpen .nil pass0 (pa_cons (pv 0) pa_nil)))
      (pss_cons (ps_for PassesOwn.never rfl (pi_range1 (by rfl) T.z_range (pa_cons pe_int pa_nil)) (pg_name (i := 2) sc_law.nd rfl (Or.inl rfl)) (C8.pss_cut (ps_setLc (i := 3) (own := [("_law_k", 4)]) (g := (gName 4)) (tt := tYes) (te := (tCall sp_ldraw [] E0 (tCons (tVar 1) (tCons (tC (.int 4)) tNil)))) (by rfl) sc_law.nd rfl rfl (sw_true rfl rfl rfl (by decide +kernel)) (pi_range1 (by rfl) T.z_range (pa_cons (pe_call G_ldraw hr_ldraw (by rfl) T.m_ldraw T.F_ldraw.kp T.b_ldraw .nil pass0 (pa_cons (pv 1) (pa_cons (pe_ix ix_list (pe_lst (pa_cons pe_int (pa_cons pe_int (pa_cons pe_int pa_nil)))) (pe_call G_ldraw hr_ldraw (by rfl) T.m_ldraw T.F_ldraw.kp T.b_ldraw .nil pass0 (pa_cons (pv 1) (pa_cons pe_int pa_nil))) (fun _ _ => rfl)) pa_nil))) pa_nil)) (blkOk_by (own := [("_law_k", 4)]) (N := N_law) (sc := defScope s_law) (by decide +kernel)) (fun _ _ _ _ _ => (pg_name (i := 4) sc_law.nd rfl (Or.inl rfl))) (fun _ _ _ _ _ => pts_nil) (fun _ _ _ _ _ => (pe_call G_ldraw hr_ldraw (by rfl) T.m_ldraw T.F_ldraw.kp T.b_ldraw .nil pass0 (pa_cons (pv 1) (pa_cons pe_int pa_nil)))))
      (C8.pss_cut (ps_asg (pe_tup (pa_cons (pe_call G_lnamed hr_lnamed (by rfl) T.m_lnamed T.F_lnamed.kp T.b_lnamed .nil pass0 (pa_cons (pv 3) pa_nil)) (pa_cons (pe_ix ix_list (pe_lst (pa_cons pe_int (pa_cons pe_int (pa_cons pe_int pa_nil)))) (pe_call G_ldraw hr_ldraw (by rfl) T.m_ldraw T.F_ldraw.kp T.b_ldraw .nil pass0 (pa_cons (pv 1) (pa_cons pe_int pa_nil))) (fun _ _ => rfl)) (pa_cons (pe_lst pa_nil) pa_nil)))) (pg_tup (by rfl) (pgs_cons (pg_name (i := 5) sc_law.nd rfl (Or.inl rfl)) (pgs_cons (pg_name (i := 6) sc_law.nd rfl (Or.inr rfl)) (pgs_cons (pg_name (i := 7) sc_law.nd rfl (Or.inl rfl)) pgs_nil)))))
      (C8.pss_cut (ps_for PassesOwn.never rfl (pi_range1 (by rfl) T.z_range (pa_cons (pe_call G_ldraw hr_ldraw (by rfl) T.m_ldraw T.F_ldraw.kp T.b_ldraw .nil pass0 (pa_cons (pv 1) (pa_cons pe_int pa_nil))) pa_nil)) (pg_name (i := 4) sc_law.nd rfl (Or.inl rfl)) (C8.pss_cut (ps_setLc (i := 8) (own := [("_law_j", 9)]) (g := (gName 9)) (tt := tYes) (te := (tTup (tCons (tCall sp_ldraw [] E0 (tCons (tVar 1) (tCons (tC (.int 4)) tNil))) (tCons (tCall sp_ldraw [] E0 (tCons (tVar 1) (tCons (tVar 6) tNil))) tNil)))) (by rfl) sc_law.nd rfl rfl (sw_true rfl rfl rfl (by decide +kernel)) (pi_range1 (by rfl) T.z_range (pa_cons pe_int pa_nil)) (blkOk_by (own := [("_law_j", 9)]) (N := N_law) (sc := defScope s_law) (by decide +kernel)) (fun _ _ _ _ _ => (pg_name (i := 9) sc_law.nd rfl (Or.inl rfl))) (fun _ _ _ _ _ => pts_nil) (fun _ _ _ _ _ => (pe_tup (pa_cons (pe_call G_ldraw hr_ldraw (by rfl) T.m_ldraw T.F_ldraw.kp T.b_ldraw .nil pass0 (pa_cons (pv 1) (pa_cons pe_int pa_nil))) (pa_cons (pe_call G_ldraw hr_ldraw (by rfl) T.m_ldraw T.F_ldraw.kp T.b_ldraw .nil pass0 (pa_cons (pv 1) (pa_cons (pv 6) pa_nil))) pa_nil)))))
      (C8.pss_cut (ps_if (PW.pt (pw_and (pt_cmpR (op_neD hr.units) (pv 5) (pe_lst pa_nil) (nomark _)) (pw_and1 (pt_cmpR op_eq (pe_call G_ldraw hr_ldraw (by rfl) T.m_ldraw T.F_ldraw.kp T.b_ldraw .nil pass0 (pa_cons (pv 1) (pa_cons pe_int pa_nil))) pe_int (nomark _))))) (pss_cons (ps_set (i := 10) sc_law.nd rfl (Or.inl rfl) (pe_call G_ldraw hr_ldraw (by rfl) T.m_ldraw T.F_ldraw.kp T.b_ldraw .nil pass0 (pa_cons (pv 1) (pa_cons (pe_callB call_len_seq (by rfl) T.z_len PySem.boot_len (pa_cons (pv 5) pa_nil)) pa_nil))))
      (pss_one (ps_set (i := 8) sc_law.nd rfl (Or.inl rfl) (pe_lst (pa_cons (pe_ix ix_list (pv 5) (pe_call G_ldraw hr_ldraw (by rfl) T.m_ldraw T.F_ldraw.kp T.b_ldraw .nil pass0 (pa_cons (pv 1) (pa_cons (pe_op op_add (pv 10) pe_int) pa_nil))) (fun _ _ => rfl)) (pa_cons (pe_ix ix_list (pv 5) (pv 10) (fun _ _ => rfl)) pa_nil)))))) pss_nil)
      (pss_one (ps_if (pt_cmpR (op_neD hr.units) (pe_ix ix_list (pv 8) pe_int (fun _ _ => rfl)) (pe_ix ix_list (pv 8) pe_int (fun _ _ => rfl)) (nomark _)) (pss_one (ps_expr (pe_bm PySem.F.plainAttrs_list PySem.F.slot_list_append PySem.F.type_list_append mt_append (pv 7) (pa_cons (pe_callTy call_tuple_of (by rfl) T.z_tuple (by decide +kernel) (pa_cons (pv 8) pa_nil)) pa_nil)))) pss_nil)))))
      (C8.pss_cut (ps_set (i := 11) sc_law.nd rfl (Or.inl rfl) (pe_callB (call_reprD hg hu64) (by rfl) T.z_repr (by decide +kernel) (pa_cons (pe_tup (pa_cons (pv 7) (pa_cons (pv 3) pa_nil))) pa_nil)))
      (C8.pss_cut (ps_set (i := 12) sc_law.nd rfl (Or.inl rfl) (pe_call G_lkeeps hr_lkeeps (by rfl) T.m_lkeeps T.F_lkeeps.kp T.b_lkeeps .nil pass0 (pa_cons (pv 7) (pa_cons (pv 5) pa_nil))))
      (C8.pss_cut (ps_if (PW.pt (pw_or (pt_cmpR op_ne (pe_callB (call_reprD hg hu64) (by rfl) T.z_repr (by decide +kernel) (pa_cons (pe_call G_keeps hr_keeps (by rfl) T.m_keeps T.F_keeps.kp T.b_keeps .nil pass0 (pa_cons (pv 7) (pa_cons (pv 3) pa_nil))) pa_nil)) (pe_callB (call_reprD hg hu64) (by rfl) T.z_repr (by decide +kernel) (pa_cons (pv 12) pa_nil)) (nomark _)) (pw_or1 (pt_cmpR op_ne (pe_call G_keeps hr_keeps (by rfl) T.m_keeps T.F_keeps.kp T.b_keeps .nil pass0 (pa_cons (pe_op op_cat (pv 7) (pe_slice sl_list (pv 7) po_none (po_some pe_int))) (pa_cons (pv 3) pa_nil))) (pv 12) (nomark _))))) (pss_one (ps_ret pe_bl)) pss_nil)
      (pss_one (ps_if (PW.pt (pw_or (pt_cmpR op_ne (pe_callB (call_reprD hg hu64) (by rfl) T.z_repr (by decide +kernel) (pa_cons (pe_tup (pa_cons (pv 7) (pa_cons (pv 3) pa_nil))) pa_nil)) (pv 11) (nomark _)) (pw_or (pt_cmpR op_notBl (pe_call G_keeps hr_keeps (by rfl) T.m_keeps T.F_keeps.kp T.b_keeps .nil pass0 (pa_cons (pe_lst pa_nil) (pa_cons (pv 3) pa_nil))) pe_bl (nomark _)) (pw_or1 (pt_cmpR op_notBl (pe_call G_keeps hr_keeps (by rfl) T.m_keeps T.F_keeps.kp T.b_keeps .nil pass0 (pa_cons (pv 7) (pa_cons (pe_lst pa_nil) pa_nil))) pe_bl (nomark _)))))) (pss_one (ps_ret pe_bl)) pss_nil)))))))))
      (pss_one (ps_ret pe_bl)))), ?_⟩
    refine ⟨_, rfl, a, ns, rfl, hsq, hlen, fun H1 p c P1 => ?_⟩
    refine ⟨12, rfl, by decide, by decide, for_range (lo := 0) (n := 12) (fun i σ' H' => ∃ (y2 y3 y4 y5 y6 y7 y8 y9 y10 y11 y12 : Option V) (n : Int), σ' = [some (.ref a), some (.ref p), y2, y3, y4, y5, y6, y7, y8, y9, y10, y11, y12] ∧ Pen H' p c ns n ∧ n ≤ 1000 * i)
      ⟨none, none, none, none, none, none, none, none, none, none, none, 0, rfl, P1, by omega⟩ ?_ ?_⟩
    · rintro i _ H2 hi ⟨y2, y3, y4, y5, y6, y7, y8, y9, y10, y11, y12, n, rfl, P2, hn⟩
      have hn0 := P2.nn
      -- turns
      refine ⟨fun σ' H' => ∃ (l : Addr) (ts : List Int) (n' : Int), σ' = [some (.ref a), some (.ref p), some (.int (0 + (i : Int))), some (.ref l), y4, y5, y6, y7, y8, y9, y10, y11, y12] ∧ Pen H' p c ns n' ∧ n ≤ n' ∧ n' ≤ n + 100 ∧ H' l = some (.lst (ts.map V.int)) ∧ l ≠ p ∧
        (∀ t ∈ ts, 0 ≤ t ∧ t < 4) ∧ ts.length ≤ 61, ?_, ?_⟩
      · refine ⟨_, rfl, (show 3 ≤ sizeLine by decide), fun l3 hl3 => ?_⟩
        refine ⟨_, rfl, p, c, ns, n, 3, rfl, P2.new hl3, by decide, by decide, by omega, fun H3 d3 n3 k3 P3 d3a d3b n3a n3b => ?_⟩
        have e3 : H3 l3 = some (.lst [V.int 4, V.int 12, V.int 61]) := k3 _ _ (P2.ni hl3) upd_same
        obtain ⟨v, hv, hv0, hv1⟩ : ∃ v : Int, atI [V.int 4, V.int 12, V.int 61] d3 = some (.int v) ∧ 4 ≤ v ∧ v ≤ 61 := by
          have h : d3 = 0 ∨ d3 = 1 ∨ d3 = 2 := by omega
          rcases h with rfl | rfl | rfl
          all_goals exact ⟨_, rfl, by decide, by decide⟩
        refine ⟨_, _, _, _, rfl, rfl, SqL.of e3, hv, p, c, ns, n3, v, rfl, P3, by omega, by omega, by omega, fun H4 d4 n4 k4 P4 d4a d4b n4a n4b => ?_⟩
        refine ⟨_, rfl, by omega, by omega, fun D nD => ?_⟩
        have hDp : D ≠ p := P4.ni nD
        refine lc_it walk_range (fun j H' => ∃ (ts : List Int) (n' : Int), Kp p H4 H' ∧ Pen H' p c ns n' ∧ n4 ≤ n' ∧ n' ≤ n4 + j ∧ H' D = some (.lst (ts.map V.int)) ∧ (∀ t ∈ ts, 0 ≤ t ∧ t < 4) ∧ ts.length = j)
          ⟨[], n4, Kp.new nD, P4.new nD, by omega, by omega, upd_same, (fun m hm => nomatch hm), rfl⟩ (fun _ _ _ _ => trivial) ?_ ?_
        · rintro j x H5 _ hj ⟨ts, n5, k5, P5, n5a, n5b, hD, hts, hl⟩ ⟨rfl, rfl⟩
          refine ⟨rfl, _, rfl, p, c, ns, n5, 4, rfl, P5, by decide, by decide, by omega, fun H6 d6 n6 k6 P6 d6a d6b n6a n6b => ?_⟩
          refine ⟨_, k6 _ _ hDp hD, ?_, ts ++ [d6], n6, Kp.mut (k5.trans k6) nD, Pen.mut P4 nD P6, by omega, by omega, ?_, fun t ht => ?_, ?_⟩
          · rw [List.length_map]
            exact small1000 (by omega)
          · rw [upd_same, List.map_append]
            rfl
          · rcases List.mem_append.mp ht with ht | ht
            · exact hts _ ht
            · rw [List.mem_singleton] at ht
              rw [ht]
              exact ⟨d6a, d6b⟩
          · rw [List.length_append, List.length_singleton, hl]
        · rintro H5 ⟨ts, n5, k5, P5, n5a, n5b, hD, hts, hl⟩
          exact ⟨D, ts, n5, rfl, P5, by omega, by omega, hD, hDp, hts, by omega⟩
      rintro _ H3 ⟨l, ts, n3, rfl, P3, n3a, n3b, hl3, nlp, hts, htl⟩
      -- names, far, befores
      refine ⟨fun σ' H' => ∃ (ln lb : Addr) (us : List V) (far n' : Int), σ' = [some (.ref a), some (.ref p), some (.int (0 + (i : Int))), some (.ref l), y4, some (.ref ln), some (.int far), some (.ref lb), y8, y9, y10, y11, y12] ∧ n ≤ n' ∧ n' ≤ n + 101 ∧ 3 ≤ far ∧ far ≤ 20 ∧
        Wd H' p c ns n' l ts ln us lb [] [], ?_, ?_⟩
      · refine ⟨_, rfl, l, ts, rfl, SqL.of hl3, by omega, fun H4 ln us s4 hln hN => ?_⟩
        have P4 := P3.same s4
        have nnp : ln ≠ p := by
          obtain ⟨r, g1, g2, _⟩ := P4
          intro z
          rw [z, g1] at hln
          have e : [V.ref c, .int n3, .int r] = us := by
            injection hln with e
            injection e
          rw [← e] at hN
          have := hN
          cases hq : nmOf ts with
          | nil =>
            rw [hq] at this
            exact this.elim
          | cons x xs =>
            rw [hq] at this
            obtain ⟨⟨q1, e1, e2⟩, e3⟩ := this
            cases xs with
            | nil => exact e3.elim
            | cons x2 xs2 =>
              obtain ⟨⟨q2, e4, _⟩, _⟩ := e3
              cases e4
        refine ⟨(show 3 ≤ sizeLine by decide), fun l3 hl3' => ?_⟩
        refine ⟨_, rfl, p, c, ns, n3, 3, rfl, P4.new hl3', by decide, by decide, by omega, fun H5 d5 n5 k5 P5 d5a d5b n5a n5b => ?_⟩
        have e3 : H5 l3 = some (.lst [V.int 3, V.int 9, V.int 20]) := k5 _ _ (P4.ni hl3') upd_same
        obtain ⟨v, hv, hv0, hv1⟩ : ∃ v : Int, atI [V.int 3, V.int 9, V.int 20] d5 = some (.int v) ∧ 3 ≤ v ∧ v ≤ 20 := by
          have h : d5 = 0 ∨ d5 = 1 ∨ d5 = 2 := by omega
          rcases h with rfl | rfl | rfl
          all_goals exact ⟨_, rfl, by decide, by decide⟩
        refine ⟨_, _, _, _, rfl, rfl, SqL.of e3, hv, Nat.zero_le _, fun lb hlb => ?_⟩
        refine ⟨(show 3 ≤ sizeLine by decide), fun T hT => ⟨T, _, rfl, SqT.of upd_same, rfl, _, _, rfl, _, _, rfl, _, _, rfl, rfl, ?_⟩⟩
        have k45 : Kp p H4 H5 := (Kp.new hl3').trans k5
        have hl5 := k45 _ _ nlp (s4 _ _ hl3)
        have hn5 := k45 _ _ nnp hln
        have kt := (P4.tkp k45)
        have w5 : Wd (upd H5 lb (.lst [])) p c ns n5 l ts ln us lb [] [] := by
          have se : Same H5 (upd H5 lb (.lst [])) := Same.new hlb
          refine ⟨P5.same se, se _ _ hl5, se _ _ hn5, hN.mono fun _ _ z => z.keep (kt.trans (TKp.same se)), upd_same, trivial, nlp, nnp, P5.ni hlb, ne_of_none hl5 hlb, ne_of_none hn5 hlb, ?_⟩
          obtain ⟨r, g1, g2, _⟩ := P5
          exact ne_of_none g2 hlb
        exact ⟨ln, lb, us, v, n5, rfl, by omega, by omega, hv0, hv1, w5.same (Same.new hT)⟩
      rintro _ H4 ⟨ln, lb, us, far, n4, rfl, n4a, n4b, hf0, hf1, W4⟩
      -- the befores
      refine ⟨fun σ' H' => ∃ (bv : List V) (bs : List (Nm × Nm)) (n' : Int) (z4 z8 z9 z10 : Option V), σ' = [some (.ref a), some (.ref p), some (.int (0 + (i : Int))), some (.ref l), z4, some (.ref ln), some (.int far), some (.ref lb), z8, z9, z10, y11, y12] ∧ n ≤ n' ∧ n' ≤ n + 200 ∧
        Wd H' p c ns n' l ts ln us lb bv bs ∧ bs.length ≤ 6 ∧ (∀ x ∈ bs, Sm x.1 ∧ Sm x.2), ?_, ?_⟩
      · refine ⟨_, rfl, p, c, ns, n4, 7, rfl, W4.pen, by decide, by decide, by omega, fun H5 d5 n5 k5 P5 d5a d5b n5a n5b => ?_⟩
        refine ⟨_, rfl, by omega, by omega, for_range (lo := 0) (n := d5.toNat) (fun j σ' H' => ∃ (bv : List V) (bs : List (Nm × Nm)) (n' : Int) (z4 z8 z9 z10 : Option V), σ' = [some (.ref a), some (.ref p), some (.int (0 + (i : Int))), some (.ref l), z4, some (.ref ln), some (.int far), some (.ref lb), z8, z9, z10, y11, y12] ∧ n ≤ n' ∧ n' ≤ n + 102 + 8 * j ∧
          Wd H' p c ns n' l ts ln us lb bv bs ∧ bs.length ≤ j ∧ (∀ x ∈ bs, Sm x.1 ∧ Sm x.2)) ⟨[], [], n5, y4, y8, y9, y10, rfl, by omega, by omega, W4.drawn k5 P5, Nat.le_refl _, fun m hm => nomatch hm⟩ ?_ ?_⟩
        · rintro j _ H6 hj ⟨bv, bs, n6, z4, z8, z9, z10, rfl, n6a, n6b, W6, hbl, hbs⟩
          -- some
          refine ⟨fun σ' H' => ∃ (ls : Addr) (v1 v2 : V) (x1 x2 : Nm) (n' : Int), σ' = [some (.ref a), some (.ref p), some (.int (0 + (i : Int))), some (.ref l), some (.int (0 + (j : Int))), some (.ref ln), some (.int far), some (.ref lb), some (.ref ls), z9, z10, y11, y12] ∧ n6 ≤ n' ∧ n' ≤ n6 + 4 ∧
            Wd H' p c ns n' l ts ln us lb bv bs ∧ H' ls = some (.lst [v1, v2]) ∧ NmV H' v1 x1 ∧ NmV H' v2 x2 ∧ Sm x1 ∧ Sm x2, ?_, ?_⟩
          · refine ⟨2, rfl, by decide, by decide, fun D nD => ?_⟩
            have hDp : D ≠ p := W6.pen.ni nD
            refine lc_it walk_range (fun k H' => ∃ (vs : List V) (xs : List Nm) (n' : Int), Kp p H6 H' ∧ Pen H' p c ns n' ∧ n6 ≤ n' ∧ n' ≤ n6 + 2 * k ∧ H' D = some (.lst vs) ∧ All2 (NmV H') vs xs ∧ (∀ x ∈ xs, Sm x) ∧ xs.length = k)
              ⟨[], [], n6, Kp.new nD, W6.pen.new nD, by omega, by omega, upd_same, trivial, (fun m hm => nomatch hm), rfl⟩ (fun _ _ _ _ => trivial) ?_ ?_
            · rintro k x _ H7 hk ⟨vs, xs, n7, k7, P7, n7a, n7b, hD, hV, hxs, hl⟩ ⟨rfl, rfl⟩
              refine ⟨rfl, _, rfl, p, c, ns, n7, 4, rfl, P7, by decide, by decide, by omega, fun H8 d8 n8 k8 P8 d8a d8b n8a n8b => ?_⟩
              refine ⟨_, rfl, _, rfl, p, c, ns, n8, far, rfl, P8, by omega, by omega, by omega, fun H9 d9 n9 k9 P9 d9a d9b n9a n9b => ?_⟩
              refine ⟨(show 2 ≤ sizeLine by decide), fun t ht => ?_⟩
              have st : Same H9 (upd H9 t (.tup [.int d8, .int d9])) := Same.new ht
              have et : (upd H9 t (.tup [.int d8, .int d9])) t = some (.tup [.int d8, .int d9]) := upd_same
              generalize (upd H9 t (.tup [.int d8, .int d9])) = H10 at st et
              have hD10 : H10 D = some (.lst vs) := st _ _ (k9 _ _ hDp (k8 _ _ hDp hD))
              have lu := hV.len
              have kk : TKp H7 (upd H10 D (.lst (vs ++ [.ref t]))) := (P7.tkp (k8.trans k9)).trans ((TKp.same st).trans (TKp.updL hD10))
              refine ⟨vs, hD10, small1000 (by omega), vs ++ [.ref t], xs ++ [(d8, d9)], n9, Kp.mut ((k7.trans k8).trans (k9.trans (Same.kp st))) nD, Pen.mut W6.pen nD (P9.same st), by omega, by omega, upd_same, ?_, fun x hx => ?_, ?_⟩
              · exact (hV.mono fun _ _ z => z.keep kk).snoc ⟨t, rfl, TKp.updL hD10 _ _ et⟩
              · rcases List.mem_append.mp hx with hx | hx
                · exact hxs _ hx
                · rw [List.mem_singleton] at hx
                  rw [hx]
                  exact ⟨d8a, by show d8 < 1000; omega, d9a, by show d9 < 1000; omega⟩
              · rw [List.length_append, List.length_singleton, hl]
            · rintro H7 ⟨vs, xs, n7, k7, P7, n7a, n7b, hD, hV, hxs, hl⟩
              obtain ⟨v1, v2, x1, x2, rfl, rfl, h1, h2⟩ := two_of hV hl
              exact ⟨D, v1, v2, x1, x2, n7, rfl, by omega, by omega, W6.drawn k7 P7, hD, h1, h2, hxs x1 (by simp), hxs x2 (by simp)⟩
          rintro _ H7 ⟨ls, v1, v2, x1, x2, n7, rfl, n7a, n7b, W7, hls, hv1, hv2, sx1, sx2⟩
          -- if names != [] and ..
          refine ⟨fun σ' H' => ∃ (ls : Addr) (v1 v2 : V) (x1 x2 : Nm) (n' : Int) (z10 : Option V), σ' = [some (.ref a), some (.ref p), some (.int (0 + (i : Int))), some (.ref l), some (.int (0 + (j : Int))), some (.ref ln), some (.int far), some (.ref lb), some (.ref ls), z9, z10, y11, y12] ∧ n6 ≤ n' ∧ n' ≤ n6 + 7 ∧
            Wd H' p c ns n' l ts ln us lb bv bs ∧ H' ls = some (.lst [v1, v2]) ∧ NmV H' v1 x1 ∧ NmV H' v2 x2 ∧ Sm x1 ∧ Sm x2, ?_, ?_⟩
          · refine ⟨_, rfl, Nat.zero_le _, fun e he => ?_⟩
            have se : Same H7 (upd H7 e (.lst [])) := Same.new he
            have ee : (upd H7 e (.lst [])) e = some (.lst []) := upd_same
            generalize (upd H7 e (.lst [])) = H8 at se ee
            have W8 := W7.same se
            refine ⟨_, _, dpNs (SqL.of W8.hn) W8.hN, dpNs (xs := []) (SqL.of ee) trivial, dNs_shaped _, dNs_shaped [], _, rfl, ?_⟩
            have hls8 := se _ _ hls
            have u1 := hv1.keep (TKp.same se)
            have u2 := hv2.keep (TKp.same se)
            rw [show PyData.eqv (.list ((nmOf ts).map dN)) (.list (([] : List Nm).map dN)) = decide (nmOf ts = []) from dNs_eqv_nil _]
            by_cases hnm : nmOf ts = []
            · rw [decide_eq_true hnm]
              exact iteF (iteF ⟨ls, v1, v2, x1, x2, n7, z10, rfl, by omega, by omega, W8, hls8, u1, u2, sx1, sx2⟩)
            · rw [decide_eq_false hnm]
              refine iteT ⟨_, rfl, p, c, ns, n7, 2, rfl, W8.pen, by decide, by decide, by omega, fun H9 d9 n9 k9 P9 d9a d9b n9a n9b => ?_⟩
              have W9 := W8.drawn k9 P9
              have nlsp : ls ≠ p := by
                obtain ⟨r, g1, _⟩ := W8.pen
                refine ne_of hls8 g1 fun e => ?_
                cases e
              have hls9 := k9 _ _ nlsp hls8
              have kt9 := W8.pen.tkp k9
              refine ⟨rfl, _, rfl, ite2 (fun h2 => ?_) (fun h2 => ⟨ls, v1, v2, x1, x2, n9, z10, rfl, by omega, by omega, W9, hls9, u1.keep kt9, u2.keep kt9, sx1, sx2⟩)⟩
              have lu : us.length = ts.length := by rw [W9.hN.len, nmOf_len]
              have tl : 0 < ts.length := by
                rw [← nmOf_len]
                exact List.length_pos_iff.mpr hnm
              refine ⟨_, rfl, _, rfl, _, _, rfl, .inl (SqL.of W9.hn), p, c, ns, n9, (us.length : Int), rfl, W9.pen, by omega, by omega, by omega, fun H10 d10 n10 k10 P10 d10a d10b n10a n10b => ?_⟩
              have W10 := W9.drawn k10 P10
              have pick : ∀ {H : Hp} {n' : Int} (W : Wd H p c ns n' l ts ln us lb bv bs) (m : Int), 0 ≤ m → m < us.length → ∃ (v : V) (x : Nm), atI us m = some v ∧ NmV H v x ∧ Sm x := by
                intro H n' W m h0 h1
                obtain ⟨k, rfl⟩ := Int.eq_ofNat_of_zero_le h0
                have hk : k < us.length := by omega
                have g : us[k]? = some us[k] := List.getElem?_eq_getElem hk
                obtain ⟨x, gx, hx⟩ := W.hN.get g
                rw [nmOf_get (by omega)] at gx
                obtain rfl := Option.some.inj gx
                exact ⟨us[k], _, atI_nat g, hx, nm_small hts (by omega) (by omega)⟩
              refine ⟨_, rfl, _, rfl, _, rfl, _, _, rfl, rfl, p, c, ns, n10, d10 + 1, rfl, W10.pen, by omega, by omega, by omega, fun H11 d11 n11 k11 P11 d11a d11b n11a n11b => ?_⟩
              have W11 := W10.drawn k11 P11
              obtain ⟨w1, m1, a1, b1, c1⟩ := pick W11 d11 d11a (by omega)
              obtain ⟨w2, m2, a2, b2, c2⟩ := pick W11 d10 d10a (by omega)
              refine ⟨_, _, _, _, rfl, rfl, SqL.of W11.hn, a1, _, rfl, _, rfl, _, _, _, _, rfl, rfl, SqL.of W11.hn, a2, (show 2 ≤ sizeLine by decide), fun l2 hl2 => ?_⟩
              have s2 := TKp.same (Same.new (o := .lst [w1, w2]) hl2)
              exact ⟨l2, w1, w2, m1, m2, n11, _, rfl, by omega, by omega, W11.same (Same.new hl2), upd_same, b1.keep s2, b2.keep s2, c1, c2⟩
          rintro _ H8 ⟨ls, v1, v2, x1, x2, n8, z10, rfl, n8a, n8b, W8, hls, hv1, hv2, sx1, sx2⟩
          -- if some[0] != some[1]
          refine ⟨_, rfl, _, _, _, _, rfl, rfl, SqL.of hls, rfl, _, rfl, _, _, _, _, rfl, rfl, SqL.of hls, rfl, _, _, dpN hv1, dpN hv2, dN_shaped _, dN_shaped _, _, rfl, ?_⟩
          rw [dN_eqv]
          by_cases hx : x1 = x2
          · rw [decide_eq_true hx]
            exact iteF ⟨bv, bs, n8, _, _, _, _, rfl, by omega, by omega, W8, by omega, hbs⟩
          · rw [decide_eq_false hx]
            refine iteT ⟨_, rfl, .inl ⟨rfl, _, SqL.of W8.hb⟩, _, rfl, ls, _, rfl, .inl ⟨SqL.of hls, fun t ht => ?_⟩⟩
            have st : Same H8 (upd H8 t (.tup [v1, v2])) := Same.new ht
            have et : (upd H8 t (.tup [v1, v2])) t = some (.tup [v1, v2]) := upd_same
            generalize (upd H8 t (.tup [v1, v2])) = H9 at st et
            have W9 := W8.same st
            have lb9 := W9.hB.len
            refine ⟨lb, _, _, rfl, rfl, W9.hb, small1000 (by omega), ?_⟩
            refine ⟨bv ++ [.ref t], bs ++ [(x1, x2)], n8, _, _, _, _, rfl, by omega, by omega, W9.app ⟨t, v1, v2, rfl, et, hv1.keep (TKp.same st), hv2.keep (TKp.same st)⟩, ?_, fun x hx => ?_⟩
            · rw [List.length_append, List.length_singleton]
              omega
            · rcases List.mem_append.mp hx with hx | hx
              · exact hbs _ hx
              · rw [List.mem_singleton] at hx
                rw [hx]
                exact ⟨sx1, sx2⟩
        · rintro _ H6 ⟨bv, bs, n6, z4, z8, z9, z10, rfl, n6a, n6b, W6, hbl, hbs⟩
          exact ⟨bv, bs, n6, z4, z8, z9, z10, rfl, by omega, by omega, W6, by omega, hbs⟩
      rintro _ H5 ⟨bv, bs, n5, z4, z8, z9, z10, rfl, n5a, n5b, W5, hbl, hbs⟩
      have lb5 := W5.hB.len
      have hso := all_show hbs (by omega) hts (by omega)
      -- kept
      refine ⟨fun σ' H' => σ' = [some (.ref a), some (.ref p), some (.int (0 + (i : Int))), some (.ref l), z4, some (.ref ln), some (.int far), some (.ref lb), z8, z9, z10, some (.str (PyData.shown (.tuple [.list (bs.map dB), .list (ts.map PyData.int)]))), y12] ∧ Wd H' p c ns n5 l ts ln us lb bv bs, ?_, ?_⟩
      · refine ⟨_, rfl, _, rfl, (show 2 ≤ sizeLine by decide), fun t ht => ?_⟩
        have W6 := W5.same (Same.new (o := .tup [.ref lb, .ref l]) ht)
        exact ⟨_, _, rfl, .tup (SqT.of upd_same) (.cons (dpBs (SqL.of W6.hb) W6.hB) (.cons (dpL (SqL.of W6.hl)) .nil)), hso, rfl, W6⟩
      rintro _ H6 ⟨rfl, W6⟩
      -- due
      refine ⟨fun σ' H' => σ' = [some (.ref a), some (.ref p), some (.int (0 + (i : Int))), some (.ref l), z4, some (.ref ln), some (.int far), some (.ref lb), z8, z9, z10, some (.str (PyData.shown (.tuple [.list (bs.map dB), .list (ts.map PyData.int)]))), some (.bl (keepsM bs ts))] ∧ Wd H' p c ns n5 l ts ln us lb bv bs, ?_, ?_⟩
      · exact ⟨_, rfl, _, rfl, lb, ln, bv, us, bs, ts, rfl, SqL.of W6.hb, W6.hB, SqL.of W6.hn, W6.hN, by omega, fun H7 s7 => ⟨rfl, W6.same s7⟩⟩
      rintro _ H7 ⟨rfl, W7⟩
      -- the first test
      refine ⟨fun σ' H' => σ' = [some (.ref a), some (.ref p), some (.int (0 + (i : Int))), some (.ref l), z4, some (.ref ln), some (.int far), some (.ref lb), z8, z9, z10, some (.str (PyData.shown (.tuple [.list (bs.map dB), .list (ts.map PyData.int)]))), some (.bl (keepsM bs ts))] ∧ Wd H' p c ns n5 l ts ln us lb bv bs, ?_, ?_⟩
      · have hbo := (shw_bool (keepsM bs ts)).ok (by decide) (by decide)
        refine ⟨_, rfl, _, rfl, lb, l, bv, bs, ts, rfl, SqL.of W7.hb, W7.hB, SqL.of W7.hl, by omega, fun H8 s8 => ?_⟩
        have W8 := W7.same s8
        refine ⟨_, _, rfl, .bl _, hbo, _, rfl, _, _, rfl, .bl _, hbo, rfl, _, rfl, iteNS rfl ?_⟩
        refine ⟨_, rfl, _, rfl, 1, rfl, lb, _, rfl, SqL.of W8.hb, fun l4 hl4 => ?_⟩
        have e4 : (upd H8 l4 (.lst (cutV bv none (some 1)))) l4 = some (.lst (bv.take 1)) := by
          rw [upd_same]
          exact congrArg (fun z => some (HO.lst z)) (cutTo bv 1)
        have W9 := W8.same (Same.new (o := .lst (cutV bv none (some 1))) hl4)
        generalize (upd H8 l4 (.lst (cutV bv none (some 1)))) = H9 at e4 W9
        refine ⟨_, _, _, _, rfl, rfl, W9.hb, e4, ?_, fun l5 hl5 => ?_⟩
        · rw [List.length_take]
          exact Nat.le_trans (show _ ≤ 1000 by omega) (by decide)
        have W10 := W9.same (Same.new (o := .lst (bv ++ bv.take 1)) hl5)
        refine ⟨_, rfl, l5, l, bv ++ bv.take 1, bs ++ bs.take 1, ts, rfl, SqL.of upd_same, W10.hB.app (W10.hB.take 1), SqL.of W10.hl, by omega, fun H11 s11 => ?_⟩
        rw [keepsM_more]
        exact ⟨_, rfl, rfl, _, rfl, iteNS rfl ⟨rfl, W10.same s11⟩⟩
      rintro _ H8 ⟨rfl, W8⟩
      -- the second one
      refine ⟨_, rfl, _, rfl, (show 2 ≤ sizeLine by decide), fun t ht => ?_⟩
      have W9 := W8.same (Same.new (o := .tup [.ref lb, .ref l]) ht)
      refine ⟨_, _, rfl, .tup (SqT.of upd_same) (.cons (dpBs (SqL.of W9.hb) W9.hB) (.cons (dpL (SqL.of W9.hl)) .nil)), hso, _, rfl, rfl, _, rfl, iteNS rfl ?_⟩
      generalize (upd H8 t (.tup [.ref lb, .ref l])) = H9 at W9
      refine ⟨Nat.zero_le _, fun e he => ?_⟩
      have W10 := W9.same (Same.new (o := .lst []) he)
      refine ⟨_, rfl, e, l, [], [], ts, rfl, SqL.of upd_same, trivial, SqL.of W10.hl, by omega, fun H11 s11 => ⟨_, _, rfl, rfl, _, rfl, iteF ?_⟩⟩
      have W11 := W10.same s11
      refine ⟨_, rfl, Nat.zero_le _, fun e2 he2 => ?_⟩
      have W12 := W11.same (Same.new (o := .lst []) he2)
      refine ⟨lb, e2, bv, bs, [], rfl, SqL.of W12.hb, W12.hB, SqL.of upd_same, by decide, fun H13 s13 => ?_⟩
      rw [keepsM_nil]
      exact ⟨_, _, rfl, rfl, _, rfl, iteF ⟨_, _, _, _, _, _, _, _, _, _, _, n5, rfl, (W12.same s13).pen, by omega⟩⟩
    · rintro _ H2 ⟨y2, y3, y4, y5, y6, y7, y8, y9, y10, y11, y12, n, rfl, P2, hn⟩
      exact q _
end
--END
set_option maxHeartbeats 4000000 in
theorem all_mk {l : PySem.W.OpenLaw} {w : World} {K : PySem.W.Frag} {h : Heap} {mg : Str → Option Value} {fa : Addr} (X : K.In h) (G : h.Ns mainGlobals mg) (hfa : mg "law" = some (.ref fa))
    {od0 an0 od1 an1 od2 an2 od3 an3 od4 an4 od5 an5 od6 an6 : Option Addr} {sl0 sl1 sl2 sl3 sl4 sl5 sl6 : Array (Option Value)} {oc0 kV0 dc0 pm0 cd0 ct0 oc1 kV1 dc1 pm1 cd1 ct1 oc2 kV2 dc2 pm2 cd2 ct2 oc3 kV3 dc3 pm3 cd3 ct3 oc4 kV4 dc4 pm4 cd4 ct4 oc5 kV5 dc5 pm5 cd5 ct5 oc6 kV6 dc6 pm6 cd6 ct6 : Value} {a0 a1 a2 a3 a4 a5 a6 : Addr}
    (e0 : PySem.W.nsIn K mainGlobals "names_of" = some (some (.ref a0)))
    (l0 : K.lookup a0 = some ⟨oc0, od0, .func (PySem.W.fnOf "names_of" "names_of" (defArgs s_namesof) (defBody s_namesof) (defScope s_namesof) .none kV0 dc0 pm0 an0 cd0 ct0), sl0⟩)
    (c0 : PySem.W.codeIn K cd0 "names_of" = true) (k0 : PySem.W.keepIn K (.ref a0) = true)
    (e1 : PySem.W.nsIn K mainGlobals "keeps" = some (some (.ref a1)))
    (l1 : K.lookup a1 = some ⟨oc1, od1, .func (PySem.W.fnOf "keeps" "keeps" (defArgs s_keeps) (defBody s_keeps) (defScope s_keeps) .none kV1 dc1 pm1 an1 cd1 ct1), sl1⟩)
    (c1 : PySem.W.codeIn K cd1 "keeps" = true) (k1 : PySem.W.keepIn K (.ref a1) = true)
    (e2 : PySem.W.nsIn K mainGlobals "_law_pen" = some (some (.ref a2)))
    (l2 : K.lookup a2 = some ⟨oc2, od2, .func (PySem.W.fnOf "_law_pen" "_law_pen" (defArgs s_lpen) (defBody s_lpen) (defScope s_lpen) .none kV2 dc2 pm2 an2 cd2 ct2), sl2⟩)
    (c2 : PySem.W.codeIn K cd2 "_law_pen" = true) (k2 : PySem.W.keepIn K (.ref a2) = true)
    (e3 : PySem.W.nsIn K mainGlobals "_law_draw" = some (some (.ref a3)))
    (l3 : K.lookup a3 = some ⟨oc3, od3, .func (PySem.W.fnOf "_law_draw" "_law_draw" (defArgs s_ldraw) (defBody s_ldraw) (defScope s_ldraw) .none kV3 dc3 pm3 an3 cd3 ct3), sl3⟩)
    (c3 : PySem.W.codeIn K cd3 "_law_draw" = true) (k3 : PySem.W.keepIn K (.ref a3) = true)
    (e4 : PySem.W.nsIn K mainGlobals "_law_named" = some (some (.ref a4)))
    (l4 : K.lookup a4 = some ⟨oc4, od4, .func (PySem.W.fnOf "_law_named" "_law_named" (defArgs s_lnamed) (defBody s_lnamed) (defScope s_lnamed) .none kV4 dc4 pm4 an4 cd4 ct4), sl4⟩)
    (c4 : PySem.W.codeIn K cd4 "_law_named" = true) (k4 : PySem.W.keepIn K (.ref a4) = true)
    (e5 : PySem.W.nsIn K mainGlobals "_law_keeps" = some (some (.ref a5)))
    (l5 : K.lookup a5 = some ⟨oc5, od5, .func (PySem.W.fnOf "_law_keeps" "_law_keeps" (defArgs s_lkeeps) (defBody s_lkeeps) (defScope s_lkeeps) .none kV5 dc5 pm5 an5 cd5 ct5), sl5⟩)
    (c5 : PySem.W.codeIn K cd5 "_law_keeps" = true) (k5 : PySem.W.keepIn K (.ref a5) = true)
    (e6 : PySem.W.nsIn K mainGlobals "law" = some (some (.ref a6)))
    (l6 : K.lookup a6 = some ⟨oc6, od6, .func (PySem.W.fnOf "law" "law" (defArgs s_law) (defBody s_law) (defScope s_law) .none kV6 dc6 pm6 an6 cd6 ct6), sl6⟩)
    (c6 : PySem.W.codeIn K cd6 "law" = true) (k6 : PySem.W.keepIn K (.ref a6) = true)
    (z_abs : PySem.W.nsIn K mainGlobals "abs" = some none)
    (z_enumerate : PySem.W.nsIn K mainGlobals "enumerate" = some none)
    (z_len : PySem.W.nsIn K mainGlobals "len" = some none)
    (z_list : PySem.W.nsIn K mainGlobals "list" = some none)
    (z_range : PySem.W.nsIn K mainGlobals "range" = some none)
    (z_repr : PySem.W.nsIn K mainGlobals "repr" = some none)
    (z_tuple : PySem.W.nsIn K mainGlobals "tuple" = some none)
    : ∃ fd : FuncData, (∀ (s : Shared) (v : Value), BindsTo s fd ⟨[v], []⟩ [("_law_script", v)]) ∧ ∀ base : Heap, K.In base → base.Ns mainGlobals mg → FnG l.prog w K mg base CX0 3 fa fd ["_law_script"] (sp_law K) := by
  have e := hfa.symm.trans (PySem.W.mg_of X G e6)
  cases e
  have F0 := fun_mk (st := s_namesof) l0 c0 k0
  have b0 := F0.binds (ps := ["turns"]) fun _ _ _ _ _ _ us hl => match us, hl with | [_], _ => rfl
  have F1 := fun_mk (st := s_keeps) l1 c1 k1
  have b1 := F1.binds (ps := ["befores", "turns"]) fun _ _ _ _ _ _ us hl => match us, hl with | [_, _], _ => rfl
  have F2 := fun_mk (st := s_lpen) l2 c2 k2
  have b2 := F2.binds (ps := ["_law_script"]) fun _ _ _ _ _ _ us hl => match us, hl with | [_], _ => rfl
  have F3 := fun_mk (st := s_ldraw) l3 c3 k3
  have b3 := F3.binds (ps := ["_law_pen_here", "_law_many"]) fun _ _ _ _ _ _ us hl => match us, hl with | [_, _], _ => rfl
  have F4 := fun_mk (st := s_lnamed) l4 c4 k4
  have b4 := F4.binds (ps := ["_law_turns"]) fun _ _ _ _ _ _ us hl => match us, hl with | [_], _ => rfl
  have F5 := fun_mk (st := s_lkeeps) l5 c5 k5
  have b5 := F5.binds (ps := ["_law_befores", "_law_called"]) fun _ _ _ _ _ _ us hl => match us, hl with | [_, _], _ => rfl
  have F6 := fun_mk (st := s_law) l6 c6 k6
  have b6 := F6.binds (ps := ["_law_script"]) fun _ _ _ _ _ _ us hl => match us, hl with | [_], _ => rfl
  let f : Nat → Addr := fun i => match i with | 0 => a0 | 1 => a1 | 2 => a2 | 3 => a3 | 4 => a4 | 5 => a5 | 6 => fa | _ => a0
  let fd : Nat → FuncData := fun i => match i with | 0 => PySem.W.fnOf "names_of" "names_of" (defArgs s_namesof) (defBody s_namesof) (defScope s_namesof) .none kV0 dc0 pm0 an0 cd0 ct0 | 1 => PySem.W.fnOf "keeps" "keeps" (defArgs s_keeps) (defBody s_keeps) (defScope s_keeps) .none kV1 dc1 pm1 an1 cd1 ct1 | 2 => PySem.W.fnOf "_law_pen" "_law_pen" (defArgs s_lpen) (defBody s_lpen) (defScope s_lpen) .none kV2 dc2 pm2 an2 cd2 ct2 | 3 => PySem.W.fnOf "_law_draw" "_law_draw" (defArgs s_ldraw) (defBody s_ldraw) (defScope s_ldraw) .none kV3 dc3 pm3 an3 cd3 ct3 | 4 => PySem.W.fnOf "_law_named" "_law_named" (defArgs s_lnamed) (defBody s_lnamed) (defScope s_lnamed) .none kV4 dc4 pm4 an4 cd4 ct4 | 5 => PySem.W.fnOf "_law_keeps" "_law_keeps" (defArgs s_lkeeps) (defBody s_lkeeps) (defScope s_lkeeps) .none kV5 dc5 pm5 an5 cd5 ct5 | 6 => PySem.W.fnOf "law" "law" (defArgs s_law) (defBody s_law) (defScope s_law) .none kV6 dc6 pm6 an6 cd6 ct6 | _ => PySem.W.fnOf "names_of" "names_of" (defArgs s_namesof) (defBody s_namesof) (defScope s_namesof) .none kV0 dc0 pm0 an0 cd0 ct0
  have T : Txt K mg f fd := ⟨F0, PySem.W.mg_of X G e0, b0, F1, PySem.W.mg_of X G e1, b1, F2, PySem.W.mg_of X G e2, b2, F3, PySem.W.mg_of X G e3, b3, F4, PySem.W.mg_of X G e4, b4, F5, PySem.W.mg_of X G e5, b5, F6, PySem.W.mg_of X G e6, b6, PySem.W.mg_none_of X G z_abs, PySem.W.mg_none_of X G z_enumerate, PySem.W.mg_none_of X G z_len, PySem.W.mg_none_of X G z_list, PySem.W.mg_none_of X G z_range, PySem.W.mg_none_of X G z_repr, PySem.W.mg_none_of X G z_tuple⟩
  exact ⟨fd 6, fun s v => .of_eq rfl, fun base _ _ => ok_law T⟩
end Kw
open PySem PySem.W PyProof.Rows
set_option maxRecDepth 100000 in
set_option maxHeartbeats 0 in
theorem PySem.Challenge.cw_replaytravel_k36_befores_kept_holds : PySem.Challenge.rw_replaytravel_k36_befores_kept.Holds := by
  w_on; o_law; k_head; (case hw => w_witness2)
  k_fill
  refine Kw.walkG (l := PySem.Challenge.rw_replaytravel_k36_befores_kept) (n := 63) (k := 3) (x := "_law_script") (C := fun _ => L2.CX0) (sp := fun w => Kw.sp_law _) rfl (by decide) rfl ⟨rfl, by decide, by decide⟩ (fun w h Y => PySem.W.kIn_of Y) ?F (fun _ _ a ns hl _ hS => ⟨a, ns, rfl, hS, hl, fun _ => rfl⟩) (fun _ _ _ _ _ h => h)
  case F =>
    intro w mg fa h KX G hmg
    refine' Kw.all_mk KX G hmg ?e0 ?l0 ?c0 ?k0 ?e1 ?l1 ?c1 ?k1 ?e2 ?l2 ?c2 ?k2 ?e3 ?l3 ?c3 ?k3 ?e4 ?l4 ?c4 ?k4 ?e5 ?l5 ?c5 ?k5 ?e6 ?l6 ?c6 ?k6 ?z_abs ?z_enumerate ?z_len ?z_list ?z_range ?z_repr ?z_tuple
    (case e0 => k_is)
    (case l0 => k_is)
    (case c0 => k_is)
    (case k0 => k_is)
    (case e1 => k_is)
    (case l1 => k_is)
    (case c1 => k_is)
    (case k1 => k_is)
    (case e2 => k_is)
    (case l2 => k_is)
    (case c2 => k_is)
    (case k2 => k_is)
    (case e3 => k_is)
    (case l3 => k_is)
    (case c3 => k_is)
    (case k3 => k_is)
    (case e4 => k_is)
    (case l4 => k_is)
    (case c4 => k_is)
    (case k4 => k_is)
    (case e5 => k_is)
    (case l5 => k_is)
    (case c5 => k_is)
    (case k5 => k_is)
    (case e6 => k_is)
    (case l6 => k_is)
    (case c6 => k_is)
    (case k6 => k_is)
    (case z_abs => k_is)
    (case z_enumerate => k_is)
    (case z_len => k_is)
    (case z_list => k_is)
    (case z_range => k_is)
    (case z_repr => k_is)
    (case z_tuple => k_is)

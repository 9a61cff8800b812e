import PyProof.Rows.All
import Wide.All
import OpenK.AllK
import Wide.FinOn
import PyProof.EqAt
import PyProof.EqKinds
import PyProof.TupleCall
import PyProof.ReprReads
import PyProof.ReprRoads
import HandS.ForMost
import PyProof.ReprLoop
import PyProof.P3Eq
import PyProof.FitsInt
import PyProof.ReprDict
import PyProof.StrLawsRepr
import HandS.IsInst
import HandS.Wide
import HandS.Evl
import HandS.TupAny
import HandS.TupSets
import HandS.Zip
import KE.GoesMore
import KE.GoesEnum
import PyProof.NeData
import PyProof.P3In
import PyProof.FactsAll.dict
import HandS.Flow
import HandS.TupLe
import HandS.Style
import PyProof.DictRoads
import PyProof.DictKinds
import KE.GoesNew
import HandS.Iter
import HandS.TryOnly
import HandS.Ends
import HandS.EndBits
import PySem.Challenge.RW_onorback_k12_contents_and_steps_judged
set_option Elab.async false
set_option linter.all false
set_option maxRecDepth 100000
set_option maxHeartbeats 2000000
set_option autoImplicit false
set_option maxHeartbeats 8000000
/-! A def whose promise holds wherever no repr is under way: what repr tells can be said then. -/
namespace On
open PySem PySem.Spec PyProof.Rows L2
section
variable {P : Program} {w : World} {K : PySem.W.Frag} {mg : Str → Option Value} {base : Heap} {k : Nat} {f : Addr} {fd : FuncData} {ps : List Str} {sp : Sp}
structure FnG (P : Program) (w : World) (K : PySem.W.Frag) (mg : Str → Option Value) (base : Heap) (k : Nat) (f : Addr) (fd : FuncData) (ps : List Str) (sp : Sp) : Prop where
  ln : ∀ vs H Q E, sp vs H Q E → vs.length = ps.length
  go : ∀ (A : Around) (outer : List Env) (s : Shared) (H : Hp) (args : Args) (us : List Value) (vs : List V) (Q : VK) (E : XK), A.guards = some [] → Room k A →
    Env0 P w K mg base A outer s H → BindsTo s fd args (ps.zip us) → Vals vs us → sp vs H Q E → codeAny (model P w) A (.call (.ref f) args) (CR CX0 outer P w H s Q E) s
theorem FnG.of (F : FnOk P w K mg base CX0 k f fd ps sp) : FnG P w K mg base k f fd ps sp := ⟨F.len, fun A outer s H args us vs Q E _ hr => F.run A outer s H args us vs Q E hr⟩
theorem FnG.up {j : Nat} (F : FnG P w K mg base j f fd ps sp) (h : j ≤ k) : FnG P w K mg base k f fd ps sp := ⟨F.ln, fun A outer s H args us vs Q E hg hr => F.go A outer s H args us vs Q E hg (hr.mono h)⟩

/-- the rule for a def of the text that is entered where no repr is under way -/
theorem okG {x qual : Str} {st : Stmt} {N : List Str} (F : Fun K x qual st f fd) (S : FnScope N ps (defScope st)) (ln : ∀ vs H Q E, sp vs H Q E → vs.length = ps.length)
    (hb : ∀ (cdv : Value) (A : Around) (outer : List Env) (s : Shared) (H : Hp) (vs : List V) (Q : VK) (E : XK), A.guards = some [] → Room k (A.deeper (envOfC qual (defScope st) s.heap.objs.size f cdv)) → sp vs H Q E →
      ∃ t, PSs (cxOf CX0 P w K mg base N qual (defScope st) f cdv A outer s H E).nox (defBody st) t ∧ t { nx := fun _ H' => Q .non H', rt := Q } (start N vs) H) : FnG P w K mg base (k + 1) f fd ps sp := by
  obtain ⟨oc, od, kV, doc, pm, an, cdv, ct, osl, efd, lk, hcd⟩ := F.ex
  subst efd
  refine ⟨ln, ?_⟩
  intro A outer s H args us vs Q E hg hr e0 hbi rv hq
  have inK : K.In s.heap := e0.mod.kin.keeps (fun b o e => (e0.bs b o e).1)
  have kinds : ∀ y ∈ ps.zip us, (defScope st).names.lookup y.1 = some .local ∨ ((defScope st).names.lookup y.1 = some .cell ∧ ((cellsFrom (s.heap.objs.size + 1) (defScope st).names []).lookup y.1).isSome = true) := by
    rintro ⟨n, v⟩ hy
    cases S.par n (List.of_mem_zip hy).1 with
    | inl z => exact .inl z
    | inr z => exact .inr ⟨z, PySem.W.cellsFrom_some _ _ _ (.inl z)⟩
  apply codeAny_call_function hr.depth (inK _ _ lk) rfl S.co S.gen rfl (PySem.W.codeRec_of inK hcd)
  apply hbi
  apply wpAny_newFunctionEnv_cells S.kind kinds
  intro env he s1 x
  subst he
  refine ⟨(e0.mod.nolimit.keeps fun b o e => (e0.bs b o e).1).keeps x.toInCall.keep, codeAny_func ?_⟩
  obtain ⟨t, ht, ht2⟩ := hb cdv A outer s H vs Q E hg (hr.deeper _) hq
  have I := inv_start (CX := CX0) (K := K) (mg := mg) (base := base) (E := E) S hr.hd e0 (ln _ _ _ _ hq) rv x
  apply wpAny_mono (ht.nox.run [] s1 (start N vs) H _ I ht2)
  · intro fl s' hs
    cases fl with
    | ret u =>
      obtain ⟨v, σ', H', J, r', q⟩ := hs
      exact ⟨v, H', J.os, J.bare, J.base, J.hok, r', q⟩
    | next =>
      obtain ⟨σ', H', J, q⟩ := hs
      exact ⟨V.non, H', J.os, J.bare, J.base, J.hok, rfl, q⟩
    | brk => exact hs.choose_spec.choose_spec.2.elim
    | cont => exact hs.choose_spec.choose_spec.2.elim
  · intro e s' z
    exact z
end
section
variable {X : Cx} {k : Nat} {f : Addr} {fd : FuncData} {ps : List Str} {sp : Sp} {x : Str} {p pos : Pos} {e : Expr} {es : List Expr} {t : TA}
theorem run_G {pins : List (Addr × Obj)} {σ : L2.St} {H : Hp} {s : Shared} {Q : VK} {us : List Value} {vs : List V} (F : FnG X.prog X.w X.K X.mg X.base k f fd ps sp) (hg : X.A.guards = some []) (hr : Room k X.A) (hb : Binds X.K fd ps [])
    (I : Inv X pins σ H s) (r : Vals vs us) (h : sp vs H Q E0) : wpAny (model X.prog X.w) X.A (call (.ref f) us) (EP X pins σ Q) X.xe s := by
  have hl : (us ++ []).length = ps.length := by
    rw [List.append_nil, ← r.length]
    exact F.ln _ _ _ _ h
  have bt := hb s us I.kIn hl
  rw [List.append_nil] at bt
  apply wpAny_call
  apply codeAny_mono (F.go X.A X.stack s H ⟨us, []⟩ us vs Q E0 hg hr I.env0 bt r h)
  intro res s' hq
  match res, hq with
  | .ok (.ret u), hq => exact I.after hq
/-- f(e, ..), f such a def -/
theorem pe_callG (F : FnG X.prog X.w X.K X.mg X.base k f fd ps sp) (hg : X.A.guards = some []) (hr : Room k X.A) (hx : Gl X x) (hm : X.mg x = some (.ref f)) (hk : PySem.W.keepIn X.K (.ref f) = true) (hb : Binds X.K fd ps [])
    (ha : PA X (e :: es) t) (hdb : (x == ("__debug__" : Str)) = false := by decide) (he : starEach (e :: es) X.env = (false, eval e X.env) :: starEach es X.env := by rfl) (hpl : (backTo pos (starEach es X.env)).any (·.1) = false := by rfl) :
    PE X (.Call (.Name x p) (e :: es) [] pos) (tCall sp [] E0 t) := by
  constructor
  intro pins s σ H Q I h
  apply wpAny_Call_Name_kw (ld_glob I hx hm ?_ hdb)
  apply PySem.W.callWith_K (h₀ := X.base) I.ok.mod.kin hk (thn (ha.run pos pins s σ H _ I h) ?_) he hpl
  rintro us s1 ⟨vs, H1, I1, r, q⟩
  refine ⟨I1.kIn, run_G F hg hr hb I1 r ?_⟩
  have q' : sp (vs ++ []) H1 Q E0 := q
  rwa [List.append_nil] at q'
end
end On

/-! Data of small ints, tuples and lists: how it lies in the heap, what == and repr tell of it, what becomes of it when the heap grows. -/
namespace On
open PySem PySem.Spec PyProof.Rows L2

/-! ### data that is small -/
mutual
/-- ints of at most six figures, truths, None; tuples and lists of such -/
def tame : PyData → Bool
  | .none => true
  | .bool _ => true
  | .int i => decide (i.natAbs < 1000000)
  | .str _ => false
  | .list xs => tames xs
  | .tuple xs => tames xs
  | .dict _ => false
def tames : List PyData → Bool
  | [] => true
  | x :: xs => tame x && tames xs
end
mutual
/-- no list in it -/
def tup : PyData → Bool
  | .list _ => false
  | .dict _ => false
  | .tuple xs => tups xs
  | .none => true
  | .bool _ => true
  | .int _ => true
  | .str _ => true
def tups : List PyData → Bool
  | [] => true
  | x :: xs => tup x && tups xs
end
mutual
/-- a bound of the length of its text -/
def wide : PyData → Nat
  | .list xs => 4 + wides xs
  | .tuple xs => 4 + wides xs
  | _ => 8
def wides : List PyData → Nat
  | [] => 0
  | x :: xs => wide x + 2 + wides xs
end
theorem tames_iff : ∀ {xs : List PyData}, tames xs = true ↔ ∀ d ∈ xs, tame d = true
  | [] => by simp [tames]
  | x :: xs => by
    rw [tames, Bool.and_eq_true, tames_iff (xs := xs)]
    simp
theorem tups_iff : ∀ {xs : List PyData}, tups xs = true ↔ ∀ d ∈ xs, tup d = true
  | [] => by simp [tups]
  | x :: xs => by
    rw [tups, Bool.and_eq_true, tups_iff (xs := xs)]
    simp
theorem wides_le {B : Nat} : ∀ {xs : List PyData}, (∀ d ∈ xs, wide d ≤ B) → wides xs ≤ xs.length * (B + 2)
  | [], _ => by simp [wides]
  | x :: xs, h => by
    have h1 := h x List.mem_cons_self
    have h2 := wides_le (B := B) (xs := xs) fun d hd => h d (List.mem_cons_of_mem _ hd)
    rw [wides, List.length_cons, Nat.succ_mul]
    omega
theorem depthAll_le {B : Nat} : ∀ {xs : List PyData}, (∀ d ∈ xs, d.depth ≤ B) → PyData.depthAll xs ≤ B
  | [], _ => by simp [PyData.depthAll]
  | x :: xs, h => by
    have h1 := h x List.mem_cons_self
    have h2 := depthAll_le (B := B) (xs := xs) fun d hd => h d (List.mem_cons_of_mem _ hd)
    rw [PyData.depthAll]
    omega
mutual
theorem tame_lay : ∀ d : PyData, tame d = true → d.canLay0 = true
  | .none, _ => by rw [PyData.canLay0]
  | .bool _, _ => by rw [PyData.canLay0]
  | .int _, _ => by rw [PyData.canLay0]
  | .str _, h => by rw [tame] at h; cases h
  | .list xs, h => by
    rw [tame] at h
    rw [PyData.canLay0]
    exact tames_lay xs h
  | .tuple xs, h => by
    rw [tame] at h
    rw [PyData.canLay0]
    exact tames_lay xs h
  | .dict _, h => by rw [tame] at h; cases h
theorem tames_lay : ∀ xs : List PyData, tames xs = true → PyData.canLayAll0 xs = true
  | [], _ => by rw [PyData.canLayAll0]
  | x :: xs, h => by
    rw [tames, Bool.and_eq_true] at h
    rw [PyData.canLayAll0, tame_lay x h.1, tames_lay xs h.2] <;> rfl
end
mutual
theorem tame_show : ∀ d : PyData, tame d = true → d.showable = true
  | .none, _ => by rw [PyData.showable]
  | .bool _, _ => by rw [PyData.showable]
  | .int i, h => by
    rw [tame] at h
    have h1 := of_decide_eq_true h
    rw [PyData.showable]
    refine decide_eq_true (Nat.lt_of_le_of_lt ?_ (by decide : 20 < 1920))
    by_cases z : i.natAbs = 0
    · rw [z]; decide
    · have h2 : i.natAbs < 2 ^ 20 := by omega
      exact Nat.le_of_lt ((Nat.log2_lt z).mpr h2)
  | .str _, h => by rw [tame] at h; cases h
  | .list xs, h => by
    rw [tame] at h
    rw [PyData.showable]
    exact tames_show xs h
  | .tuple xs, h => by
    rw [tame] at h
    rw [PyData.showable]
    exact tames_show xs h
  | .dict _, h => by rw [tame] at h; cases h
theorem tames_show : ∀ xs : List PyData, tames xs = true → PyData.showableAll xs = true
  | [], _ => by rw [PyData.showableAll]
  | x :: xs, h => by
    rw [tames, Bool.and_eq_true] at h
    rw [PyData.showableAll, tame_show x h.1, tames_show xs h.2] <;> rfl
end
/-! ### its text's length -/
theorem str_len_append (a b : Str) : (a ++ b).length = a.length + b.length := Str.length_append a b
def lens (ts : List Str) : Nat := (ts.map fun t => t.length + 2).sum
theorem lens_cons (t : Str) (ts : List Str) : lens (t :: ts) = t.length + 2 + lens ts := by simp [lens]
theorem from_len : ∀ (ts : List Str) (k : Nat) (acc : Str), (PySem.textFrom k acc ts).length ≤ acc.length + lens ts
  | [], k, acc => by rw [PySem.textFrom]; simp [lens]
  | t :: ts, k, acc => by
    rw [PySem.textFrom]
    refine Nat.le_trans (from_len ts (k + 1) _) ?_
    rw [lens_cons, str_len_append, str_len_append]
    have : (Str.ofString (if k > 0 then ", " else "" : String)).length ≤ 2 := by
      split
      · decide
      · decide
    omega
theorem list_len (ts : List Str) : (PySem.listText ts).length ≤ 2 + lens ts := by
  unfold PySem.listText
  rw [str_len_append]
  have h := from_len ts 0 "["
  have h1 : (Str.ofString "[").length = 1 := by decide
  have h2 : (Str.ofString "]").length = 1 := by decide
  omega
theorem join_len : ∀ ts : List Str, (Str.join ", " ts).length ≤ lens ts
  | [] => by simp [Str.join, Str.empty, Str.length]
  | [t] => by
    rw [Str.join, lens_cons]
    omega
  | t :: u :: ts => by
    have ih := join_len (u :: ts)
    rw [Str.join, lens_cons, str_len_append, str_len_append]
    · have h2 : (Str.ofString ", ").length = 2 := by decide
      omega
    · intro z
      cases z
theorem tuple_len (ts : List Str) : (PySem.tupleText ts).length ≤ 3 + lens ts := by
  unfold PySem.tupleText
  rw [str_len_append, str_len_append]
  have h := join_len ts
  have h1 : (Str.ofString "(").length = 1 := by decide
  have h2 : (Str.ofString (if ts.length == 1 then ",)" else ")" : String)).length ≤ 2 := by
    split
    · decide
    · decide
  omega
mutual
theorem tame_len : ∀ d : PyData, tame d = true → d.shown.length ≤ wide d
  | .none, _ => by
    rw [PyData.shown, wide]
    · decide
    all_goals (intro xs z; cases z)
  | .bool b, _ => by
    rw [PyData.shown, wide]
    · cases b <;> decide
    all_goals (intro xs z; cases z)
  | .int i, h => by
    rw [tame] at h
    have h1 := of_decide_eq_true h
    rw [PyData.shown, wide]
    · have q := PySem.int_text_length_le10 (a := i) (k := 6) (by decide) (by omega)
      show (Str.ofString (toString i)).length ≤ 8
      rw [PySem.ofString_length]
      omega
    all_goals (intro xs z; cases z)
  | .str _, h => by rw [tame] at h; cases h
  | .list xs, h => by
    rw [tame] at h
    rw [PyData.shown, wide]
    have q := list_len (PyData.shownAll xs)
    have q2 := tames_len xs h
    omega
  | .tuple xs, h => by
    rw [tame] at h
    rw [PyData.shown, wide]
    have q := tuple_len (PyData.shownAll xs)
    have q2 := tames_len xs h
    omega
  | .dict _, h => by rw [tame] at h; cases h
theorem tames_len : ∀ xs : List PyData, tames xs = true → lens (PyData.shownAll xs) ≤ wides xs
  | [], _ => by rw [PyData.shownAll]; simp [lens]
  | x :: xs, h => by
    rw [tames, Bool.and_eq_true] at h
    rw [PyData.shownAll, wides, lens_cons]
    have q := tame_len x h.1
    have q2 := tames_len xs h.2
    omega
end

/-! ### how it lies -/
section
variable {K : PySem.W.Frag} {H H' : Hp}
theorem dpAll_len : ∀ {vs : List V} {ds : List PyData}, DpAll K H vs ds → vs.length = ds.length
  | _, _, .nil => rfl
  | _, _, .cons _ t => congrArg (· + 1) (dpAll_len t)
theorem dpAll_at : ∀ {vs : List V} {ds : List PyData} {i : Nat} {d : PyData}, DpAll K H vs ds → ds[i]? = some d → ∃ v, vs[i]? = some v ∧ Dp K H v d
  | _, _, _, _, .nil, e => by simp at e
  | _, _, 0, _, .cons h _, e => by
    simp at e
    subst e
    exact ⟨_, rfl, h⟩
  | _, _, i + 1, d, .cons _ t, e => by
    obtain ⟨v, h1, h2⟩ := dpAll_at (i := i) (d := d) t (by simpa using e)
    exact ⟨v, by simpa using h1, h2⟩
theorem dpAll_vat : ∀ {vs : List V} {ds : List PyData} {i : Nat} {v : V}, DpAll K H vs ds → vs[i]? = some v → ∃ d, ds[i]? = some d ∧ Dp K H v d
  | _, _, _, _, .nil, e => by simp at e
  | _, _, 0, _, .cons h _, e => by
    simp at e
    subst e
    exact ⟨_, rfl, h⟩
  | _, _, i + 1, v, .cons _ t, e => by
    obtain ⟨d, h1, h2⟩ := dpAll_vat (i := i) (v := v) t (by simpa using e)
    exact ⟨d, by simpa using h1, h2⟩
theorem dpAll_app : ∀ {vs ws : List V} {ds es : List PyData}, DpAll K H vs ds → DpAll K H ws es → DpAll K H (vs ++ ws) (ds ++ es)
  | _, _, _, _, .nil, h => h
  | _, _, _, _, .cons a b, h => .cons a (dpAll_app b h)
theorem dpAll_take : ∀ (n : Nat) {vs : List V} {ds : List PyData}, DpAll K H vs ds → DpAll K H (vs.take n) (ds.take n)
  | 0, _, _, _ => .nil
  | _ + 1, _, _, .nil => .nil
  | n + 1, _, _, .cons a b => .cons a (dpAll_take n b)
theorem dpAll_drop : ∀ (n : Nat) {vs : List V} {ds : List PyData}, DpAll K H vs ds → DpAll K H (vs.drop n) (ds.drop n)
  | 0, _, _, h => h
  | _ + 1, _, _, .nil => .nil
  | n + 1, _, _, .cons _ b => dpAll_drop n b
theorem dpAll_ints : ∀ (ns : List Int), DpAll K H (ns.map V.int) (ns.map PyData.int)
  | [] => .nil
  | n :: ns => .cons (.int n) (dpAll_ints ns)
theorem dpAll_ints_inv : ∀ {ns : List Int} {vs : List V}, DpAll K H vs (ns.map PyData.int) → vs = ns.map V.int
  | [], _, .nil => rfl
  | n :: ns, _, .cons h t => by
    cases h
    rw [dpAll_ints_inv t] <;> rfl
theorem dp_tup {v : V} {ds : List PyData} (h : Dp K H v (.tuple ds)) : ∃ a xs, v = .ref a ∧ SqT K H a xs ∧ DpAll K H xs ds := by
  cases h with
  | tup h1 h2 => exact ⟨_, _, rfl, h1, h2⟩
theorem dp_int {v : V} {i : Int} (h : Dp K H v (.int i)) : v = .int i := by
  cases h
  rfl
/-- what keeps the tuples keeps data without lists -/
def TupKept (K : PySem.W.Frag) (H H' : Hp) : Prop := ∀ a xs, SqT K H a xs → SqT K H' a xs
mutual
theorem dp_keep (k : TupKept K H H') : ∀ (d : PyData) (v : V), tup d = true → Dp K H v d → Dp K H' v d
  | .none, _, _, h => by cases h; exact .non
  | .bool b, _, _, h => by cases h; exact .bl b
  | .int i, _, _, h => by cases h; exact .int i
  | .str x, _, _, h => by cases h; exact .str x
  | .list _, _, q, _ => by rw [tup] at q; cases q
  | .dict _, _, q, _ => by rw [tup] at q; cases q
  | .tuple ds, _, q, h => by
    rw [tup] at q
    cases h with
    | tup h1 h2 => exact .tup (k _ _ h1) (dpAll_keep k ds _ q h2)
theorem dpAll_keep (k : TupKept K H H') : ∀ (ds : List PyData) (vs : List V), tups ds = true → DpAll K H vs ds → DpAll K H' vs ds
  | [], _, _, h => by cases h; exact .nil
  | d :: ds, _, q, h => by
    rw [tups, Bool.and_eq_true] at q
    cases h with
    | cons h1 h2 => exact .cons (dp_keep k d _ q.1 h1) (dpAll_keep k ds _ q.2 h2)
end
mutual
theorem dp_same (k : Same H H') : ∀ (d : PyData) (v : V), Dp K H v d → Dp K H' v d
  | .none, _, h => by cases h; exact .non
  | .bool b, _, h => by cases h; exact .bl b
  | .int i, _, h => by cases h; exact .int i
  | .str x, _, h => by cases h; exact .str x
  | .list ds, _, h => by
    cases h with
    | lst h1 h2 => exact .lst (k.seq h1) (dpAll_same k ds _ h2)
  | .dict _, _, h => by cases h
  | .tuple ds, _, h => by
    cases h with
    | tup h1 h2 =>
      refine .tup ?_ (dpAll_same k ds _ h2)
      rcases h1 with (h1 | ⟨o, h1⟩) | h1
      · exact .inl (.inl (k _ _ h1))
      · exact .inl (.inr ⟨o, k _ _ h1⟩)
      · exact .inr h1
theorem dpAll_same (k : Same H H') : ∀ (ds : List PyData) (vs : List V), DpAll K H vs ds → DpAll K H' vs ds
  | [], _, h => by cases h; exact .nil
  | d :: ds, _, h => by
    cases h with
    | cons h1 h2 => exact .cons (dp_same k d _ h1) (dpAll_same k ds _ h2)
end
mutual
theorem dp_noDict : ∀ (d : PyData) (v : V), Dp K H v d → d.hasDict = false
  | .none, _, _ => by rw [PyData.hasDict]
  | .bool _, _, _ => by rw [PyData.hasDict]
  | .int _, _, _ => by rw [PyData.hasDict]
  | .str _, _, _ => by rw [PyData.hasDict]
  | .list ds, _, h => by
    cases h with
    | lst _ h2 =>
      rw [PyData.hasDict]
      exact dpAll_noDict ds _ h2
  | .tuple ds, _, h => by
    cases h with
    | tup _ h2 =>
      rw [PyData.hasDict]
      exact dpAll_noDict ds _ h2
  | .dict _, _, h => by cases h
theorem dpAll_noDict : ∀ (ds : List PyData) (vs : List V), DpAll K H vs ds → PyData.hasDictAll ds = false
  | [], _, _ => by rw [PyData.hasDictAll]
  | d :: ds, _, h => by
    cases h with
    | cons h1 h2 => rw [PyData.hasDictAll, dp_noDict d _ h1, dpAll_noDict ds _ h2] <;> rfl
end
/-- a list or a tuple whose items are data: changed tuples' heap -/
theorem tupKept_same (k : Same H H') : TupKept K H H' := fun a xs h => by
  rcases h with (h | ⟨o, h⟩) | h
  · exact .inl (.inl (k _ _ h))
  · exact .inl (.inr ⟨o, k _ _ h⟩)
  · exact .inr h
/-- all but what stands at b is as it was -/
def But (b : Addr) (H H' : Hp) : Prop := ∀ a o, a ≠ b → H a = some o → H' a = some o
theorem But.refl (b : Addr) (H : Hp) : But b H H := fun _ _ _ h => h
theorem But.trans {b : Addr} {H1 H2 : Hp} (h : But b H H1) (h' : But b H1 H2) : But b H H2 := fun a o n e => h' a o n (h a o n e)
theorem But.of_same {b : Addr} (h : Same H H') : But b H H' := fun a o _ e => h a o e
theorem But.tups {b : Addr} {xs : List V} (h : But b H H') (hb : H b = some (.lst xs)) : TupKept K H H' := fun a ys q => by
  rcases q with (q | ⟨o, q⟩) | q
  · exact .inl (.inl (h _ _ (fun z => by rw [z, hb] at q; cases q) q))
  · exact .inl (.inr ⟨o, h _ _ (fun z => by rw [z, hb] at q; cases q) q⟩)
  · exact .inr q
theorem same_upd {a : Addr} {o : HO} (h : H a = Option.none) : Same H (upd H a o) := fun b u e => by
  rw [upd_ne (ne_of_none e h)]
  exact e
end

/-! ### repr -/
section
variable {X : Cx}
def rReprD (K : PySem.W.Frag) : List V → Hp → VK → Prop := fun xs H Q => ∃ a d, xs = [V.ref a] ∧ Dp K H (.ref a) d ∧ d.showable = true ∧ d.depth ≤ 64 ∧ d.shown.length ≤ sizeLine ∧ Q (.str d.shown) H
theorem call_reprD (hg : X.A.guards = some []) (hu : X.A.units + 66 < cLine) : CallR X (.builtin "repr") (rReprD X.K) := by
  intro pins s σ H xs us Q I r h
  obtain ⟨a, d, rfl, hd, hs, h64, hz, q⟩ := h
  obtain rfl := Vals.ref1 r
  obtain ⟨as, rd⟩ := Dp.reads I d _ _ hd rfl
  refine repr_of_reads' rd hs (PyData.noDict_hsm (dp_noDict d _ hd)) hg (by omega) (fun _ _ e => e) (fun h' u tk hk => ?_) hz
  exact ⟨.str d.shown, H, I.kept (t' := tk) hk, ⟨u, rfl⟩, q⟩
end
/-- what == and repr want of data: small, not deep, not long -/
structure Fine (d : PyData) : Prop where
  tm : tame d = true
  dp : d.depth ≤ 60
  wd : wide d ≤ 100000
theorem Fine.shaped {d : PyData} (f : Fine d) : SeqAt.shaped d = true := by
  unfold SeqAt.shaped
  rw [tame_lay d f.tm, decide_eq_true (Nat.le_trans f.dp (by decide))] <;> rfl
theorem Fine.len {d : PyData} (f : Fine d) : d.shown.length ≤ sizeLine := by
  have h1 := tame_len d f.tm
  have h2 := f.wd
  rw [sizeLine_eq]
  omega
theorem Fine.eqv {d : PyData} (f : Fine d) : PyData.eqv d d = true := SeqAt.eqv_refl d (tame_lay d f.tm)
end On

/-! Any data: dicts with int and text keys too. How it lies; repr; its kind. -/
namespace On
open PySem PySem.Spec PyProof.Rows L2

def keyD : Key → PyData
  | .inl i => .int i
  | .inr x => .str x
def dictD : List Key → List PyData → PyData := fun ks ds => .dict ((ks.map keyD).zip ds)
mutual
/-- v is data d in the heap H -/
inductive Dq (K : PySem.W.Frag) (H : Hp) : V → PyData → Prop
  | non : Dq K H .non .none
  | bl (b : Bool) : Dq K H (.bl b) (.bool b)
  | int (i : Int) : Dq K H (.int i) (.int i)
  | str (x : Str) : Dq K H (.str x) (.str x)
  | lst {a : Addr} {xs : List V} {ds : List PyData} : H a = some (.lst xs) → a ≠ sysModules → DqAll K H xs ds → Dq K H (.ref a) (.list ds)
  | tup {a : Addr} {xs : List V} {ds : List PyData} : H a = some (.tup xs) → DqAll K H xs ds → Dq K H (.ref a) (.tuple ds)
  | dct {a : Addr} {kvs : List (Key × V)} {ds : List PyData} : H a = some (.dK kvs) → DqAll K H (kvs.map Prod.snd) ds → Dq K H (.ref a) (dictD (kvs.map Prod.fst) ds)
inductive DqAll (K : PySem.W.Frag) (H : Hp) : List V → List PyData → Prop
  | nil : DqAll K H [] []
  | cons {v : V} {vs : List V} {d : PyData} {ds : List PyData} : Dq K H v d → DqAll K H vs ds → DqAll K H (v :: vs) (d :: ds)
end
section
variable {K : PySem.W.Frag} {H H' : Hp}
theorem dqAll_len : ∀ {vs : List V} {ds : List PyData}, DqAll K H vs ds → vs.length = ds.length
  | _, _, .nil => rfl
  | _, _, .cons _ t => congrArg (· + 1) (dqAll_len t)
theorem dqAll_vat : ∀ {vs : List V} {ds : List PyData} {i : Nat} {v : V}, DqAll K H vs ds → vs[i]? = some v → ∃ d, ds[i]? = some d ∧ Dq K H v d
  | _, _, _, _, .nil, e => by simp at e
  | _, _, 0, _, .cons h _, e => by
    simp at e
    subst e
    exact ⟨_, rfl, h⟩
  | _, _, i + 1, v, .cons _ t, e => by
    obtain ⟨d, h1, h2⟩ := dqAll_vat (i := i) (v := v) t (by simpa using e)
    exact ⟨d, by simpa using h1, h2⟩
theorem dqAll_at : ∀ {vs : List V} {ds : List PyData} {i : Nat} {d : PyData}, DqAll K H vs ds → ds[i]? = some d → ∃ v, vs[i]? = some v ∧ Dq K H v d
  | _, _, _, _, .nil, e => by simp at e
  | _, _, 0, _, .cons h _, e => by
    simp at e
    subst e
    exact ⟨_, rfl, h⟩
  | _, _, i + 1, d, .cons _ t, e => by
    obtain ⟨v, h1, h2⟩ := dqAll_at (i := i) (d := d) t (by simpa using e)
    exact ⟨v, by simpa using h1, h2⟩
theorem dqAll_app : ∀ {vs ws : List V} {ds es : List PyData}, DqAll K H vs ds → DqAll K H ws es → DqAll K H (vs ++ ws) (ds ++ es)
  | _, _, _, _, .nil, h => h
  | _, _, _, _, .cons a b, h => .cons a (dqAll_app b h)
theorem dqAll_take : ∀ (n : Nat) {vs : List V} {ds : List PyData}, DqAll K H vs ds → DqAll K H (vs.take n) (ds.take n)
  | 0, _, _, _ => .nil
  | _ + 1, _, _, .nil => .nil
  | n + 1, _, _, .cons a b => .cons a (dqAll_take n b)
theorem dqAll_drop : ∀ (n : Nat) {vs : List V} {ds : List PyData}, DqAll K H vs ds → DqAll K H (vs.drop n) (ds.drop n)
  | 0, _, _, h => h
  | _ + 1, _, _, .nil => .nil
  | n + 1, _, _, .cons _ b => dqAll_drop n b
theorem dqAll_set : ∀ {vs : List V} {ds : List PyData} (i : Nat) {v : V} {d : PyData}, DqAll K H vs ds → Dq K H v d → DqAll K H (vs.set i v) (ds.set i d)
  | _, _, _, _, _, .nil, _ => .nil
  | _, _, 0, _, _, .cons _ b, h => .cons h b
  | _, _, i + 1, _, _, .cons a b, h => .cons a (dqAll_set i b h)
theorem dqAll_erase : ∀ {vs : List V} {ds : List PyData} (i : Nat), DqAll K H vs ds → DqAll K H (vs.eraseIdx i) (ds.eraseIdx i)
  | _, _, _, .nil => .nil
  | _, _, 0, .cons _ b => b
  | _, _, i + 1, .cons a b => .cons a (dqAll_erase i b)
theorem dqAll_ints : ∀ (ns : List Int), DqAll K H (ns.map V.int) (ns.map PyData.int)
  | [] => .nil
  | n :: ns => .cons (.int n) (dqAll_ints ns)
theorem dq_tup {v : V} {ds : List PyData} (h : Dq K H v (.tuple ds)) : ∃ a xs, v = .ref a ∧ H a = some (.tup xs) ∧ DqAll K H xs ds := by
  cases h with
  | tup h1 h2 => exact ⟨_, _, rfl, h1, h2⟩
theorem dq_lst {v : V} {ds : List PyData} (h : Dq K H v (.list ds)) : ∃ a xs, v = .ref a ∧ H a = some (.lst xs) ∧ a ≠ sysModules ∧ DqAll K H xs ds := by
  cases h with
  | lst h1 h2 h3 => exact ⟨_, _, rfl, h1, h2, h3⟩
theorem dq_int {v : V} {i : Int} (h : Dq K H v (.int i)) : v = .int i := by
  cases h
  rfl
theorem dq_bl {v : V} {i : Bool} (h : Dq K H v (.bool i)) : v = .bl i := by
  cases h
  rfl
mutual
theorem dq_same (k : Same H H') : ∀ {v : V} {d : PyData}, Dq K H v d → Dq K H' v d
  | _, _, .non => .non
  | _, _, .bl b => .bl b
  | _, _, .int i => .int i
  | _, _, .str x => .str x
  | _, _, .lst h1 h2 h3 => .lst (k _ _ h1) h2 (dqAll_same k h3)
  | _, _, .tup h1 h3 => .tup (k _ _ h1) (dqAll_same k h3)
  | _, _, .dct h1 h3 => .dct (k _ _ h1) (dqAll_same k h3)
theorem dqAll_same (k : Same H H') : ∀ {vs : List V} {ds : List PyData}, DqAll K H vs ds → DqAll K H' vs ds
  | _, _, .nil => .nil
  | _, _, .cons a b => .cons (dq_same k a) (dqAll_same k b)
end
end

/-! ### what the library's Reads says of it -/
section
variable {X : Cx} {pins : List (Addr × Obj)} {σ : L2.St} {H : Hp} {s : Shared}
theorem reads_keys {P : Program} {w : World} {h : Heap} : ∀ {es : List DictEntry} {vs : List (Key × Value)} {kvs : List (Key × V)}, Pairs (mixKind P w) es vs → KV kvs vs → ReadsAll h (es.map (·.key)) ((kvs.map Prod.fst).map keyD) []
  | _, _, _, .nil, .nil => .nil
  | _, _, _, .cons h1 h2 t, .cons r q => by
    have ih := reads_keys (h := h) t q
    have e1 := r.1
    rename_i e kv es kvs' p ps
    have key : Reads h e.key (keyD p.1) [] := by
      rw [e1]
      rcases keyIs_shape h1 with ⟨i, t, e2, e3⟩ | ⟨x, t, e2, e3⟩
      · rw [e2, e3]
        exact .int i t
      · rw [e2, e3]
        exact .str x t
    exact ReadsAll.cons (as := []) (bs := []) key ih
theorem pairs_vals {P : Program} {w : World} : ∀ {es : List DictEntry} {vs : List (Key × Value)} {kvs : List (Key × V)}, Pairs (mixKind P w) es vs → KV kvs vs → Vals (kvs.map Prod.snd) (es.map (·.val))
  | _, _, _, .nil, .nil => .nil
  | _, _, _, .cons h1 h2 t, .cons r q => by
    refine .cons ?_ (pairs_vals t q)
    show RelV _ (DictEntry.val _)
    rw [h2]
    exact r.2
theorem zip_fst : ∀ {ks : List PyData} {ds : List PyData}, ks.length = ds.length → (ks.zip ds).map (·.1) = ks
  | [], [], _ => rfl
  | k :: ks, d :: ds, h => by
    rw [List.zip_cons_cons, List.map_cons, zip_fst (by simpa using h)]
theorem zip_snd : ∀ {ks : List PyData} {ds : List PyData}, ks.length = ds.length → (ks.zip ds).map (·.2) = ds
  | [], [], _ => rfl
  | k :: ks, d :: ds, h => by
    rw [List.zip_cons_cons, List.map_cons, zip_snd (by simpa using h)]
mutual
theorem dq_reads (I : Inv X pins σ H s) : ∀ {v : V} {d : PyData} {u : Value}, Dq X.K H v d → RelV v u → ∃ as, Reads s.heap u d as ∧ sysModules ∉ as
  | _, _, _, .non, r => by
    cases r
    exact ⟨_, Reads.none, by simp⟩
  | _, _, _, .bl b, r => by
    cases r
    exact ⟨_, Reads.bool b, by simp⟩
  | _, _, _, .int i, r => by
    obtain ⟨t, rfl⟩ := r
    exact ⟨_, Reads.int i t, by simp⟩
  | _, _, _, .str x, r => by
    obtain ⟨t, rfl⟩ := r
    exact ⟨_, Reads.str x t, by simp⟩
  | _, _, _, .lst h1 h2 h3, r => by
    cases r
    obtain ⟨its, rv, ⟨o, n, ho, hc, _, hd⟩, _⟩ := I.list (SqL.of h1)
    obtain ⟨as, hr, hn⟩ := dqAll_reads I h3 rv
    refine ⟨_, Reads.list ho hc hd hr, fun z => ?_⟩
    rcases List.mem_cons.mp z with z | z
    · exact h2 z.symm
    · exact hn z
  | _, _, _, .tup h1 h3, r => by
    cases r
    obtain ⟨its, rv, ⟨o, ho, hc, n, hd⟩, _⟩ := I.tuple (SqT.of h1)
    obtain ⟨as, hr, hn⟩ := dqAll_reads I h3 rv
    exact ⟨_, Reads.tuple ho hc hd hr, hn⟩
  | _, _, _, @Dq.dct _ _ a kvs ds h1 h3, r => by
    cases r
    obtain ⟨_, hm, vs, kv, o, es, ep, ho, hx, hd, hk, hp, _⟩ := dk_of I.hok h1
    obtain ⟨as, hr, hn⟩ := dqAll_reads I h3 (pairs_vals hp kv)
    have hl : ((kvs.map Prod.fst).map keyD).length = ds.length := by
      rw [← dqAll_len h3, List.length_map, List.length_map, List.length_map]
    refine ⟨a :: [] ++ as, Reads.dict ho hx.1 hd ?_ ?_, ?_⟩
    · rw [zip_fst hl]
      exact reads_keys hp kv
    · rw [zip_snd hl]
      exact hr
    · intro z
      have z : sysModules ∈ a :: as := z
      rcases List.mem_cons.mp z with z | z
      · rw [← z] at hm
        exact absurd hm (by decide)
      · exact hn z
theorem dqAll_reads (I : Inv X pins σ H s) : ∀ {vs : List V} {ds : List PyData} {us : List Value}, DqAll X.K H vs ds → Vals vs us → ∃ as, ReadsAll s.heap us ds as ∧ sysModules ∉ as
  | _, _, _, .nil, .nil => ⟨_, ReadsAll.nil, by simp⟩
  | _, _, _, .cons a b, .cons r1 r2 => by
    obtain ⟨as, q1, n1⟩ := dq_reads I a r1
    obtain ⟨bs, q2, n2⟩ := dqAll_reads I b r2
    refine ⟨_, ReadsAll.cons q1 q2, fun z => ?_⟩
    rcases List.mem_append.mp z with z | z
    · exact n1 z
    · exact n2 z
end
end

mutual
theorem dp_of_dq' {K : PySem.W.Frag} {H : Hp} : ∀ {v : V} {d : PyData}, Dq K H v d → tame d = true → Dp K H v d
  | _, _, .non, _ => .non
  | _, _, .bl b, _ => .bl b
  | _, _, .int i, _ => .int i
  | _, _, .str x, h => by simp [tame] at h
  | _, _, .lst h1 h2 h3, h => .lst (SqL.of h1) (dpAll_of_dq' h3 (by simpa [tame] using h))
  | _, _, .tup h1 h3, h => .tup (SqT.of h1) (dpAll_of_dq' h3 (by simpa [tame] using h))
  | _, _, .dct h1 h3, h => by simp [dictD, tame] at h
theorem dpAll_of_dq' {K : PySem.W.Frag} {H : Hp} : ∀ {vs : List V} {ds : List PyData}, DqAll K H vs ds → tames ds = true → DpAll K H vs ds
  | _, _, .nil, _ => .nil
  | _, _, .cons a b, h => by
    rw [tames, Bool.and_eq_true] at h
    exact .cons (dp_of_dq' a h.1) (dpAll_of_dq' b h.2)
end
theorem dp_of_dq {K : PySem.W.Frag} {H : Hp} {v : V} {d : PyData} (h : tame d = true) (q : Dq K H v d) : Dp K H v d := dp_of_dq' q h
/-! ### repr of anything -/
section
variable {X : Cx}
def rReprQ (K : PySem.W.Frag) : List V → Hp → VK → Prop := fun xs H Q => ∃ x d, xs = [x] ∧ Dq K H x d ∧ d.showable = true ∧ d.depth ≤ 64 ∧ d.shown.length ≤ sizeLine ∧ Q (.str d.shown) H
theorem call_reprQ (hg : X.A.guards = some []) (hu : X.A.units + 66 < cLine) : CallR X (.builtin "repr") (rReprQ X.K) := by
  intro pins s σ H xs us Q I r h
  obtain ⟨x, d, rfl, hd, hs, h64, hz, q⟩ := h
  obtain ⟨u, rfl, ru⟩ := vals1 r
  obtain ⟨as, rd, hn⟩ := dq_reads I hd ru
  cases hd with
  | non =>
    cases ru
    exact PySem.P.repr_of_none ⟨.str _, H, I.tok _, ⟨_, rfl⟩, by simpa only [PyData.shown] using q⟩
  | bl b =>
    cases ru
    exact PySem.P.repr_of_bool ⟨.str _, H, I.tok _, ⟨_, rfl⟩, by simpa only [PyData.shown] using q⟩
  | int i =>
    obtain ⟨t, rfl⟩ := ru
    exact PySem.P.repr_of_int (by simpa [PyData.showable] using hs) ⟨.str _, H, I.tok _, ⟨_, rfl⟩, by simpa only [PyData.shown] using q⟩
  | str z =>
    obtain ⟨t, rfl⟩ := ru
    exact PySem.P.repr_of_str ⟨.str _, H, I.tok _, ⟨_, rfl⟩, by simpa only [PyData.shown] using q⟩ (by simpa only [PyData.shown] using hz)
  | lst h1 h2 h3 =>
    cases ru
    exact repr_of_reads' rd hs (fun _ => hn) hg (by omega) (fun _ _ e => e) (fun h' u tk hk => ⟨.str _, H, I.kept (t' := tk) hk, ⟨u, rfl⟩, q⟩) hz
  | tup h1 h3 =>
    cases ru
    exact repr_of_reads' rd hs (fun _ => hn) hg (by omega) (fun _ _ e => e) (fun h' u tk hk => ⟨.str _, H, I.kept (t' := tk) hk, ⟨u, rfl⟩, q⟩) hz
  | dct h1 h3 =>
    cases ru
    exact repr_of_reads' rd hs (fun _ => hn) hg (by omega) (fun _ _ e => e) (fun h' u tk hk => ⟨.str _, H, I.kept (t' := tk) hk, ⟨u, rfl⟩, q⟩) hz
end
end On

/-! How long the text of any data is. -/
namespace On
open PySem PySem.Spec PyProof.Rows L2
mutual
/-- what repr can show: ints of less than fifty figures, plain signs -/
def plainQ : PyData → Bool
  | .none => true
  | .bool _ => true
  | .int i => decide (i.natAbs < 10 ^ 50)
  | .str x => x.cps.toList.all fun c => decide (c < 128)
  | .list xs => plainQs xs
  | .tuple xs => plainQs xs
  | .dict kvs => plainQd kvs
def plainQs : List PyData → Bool
  | [] => true
  | x :: xs => plainQ x && plainQs xs
def plainQd : List (PyData × PyData) → Bool
  | [] => true
  | (k, v) :: r => plainQ k && (plainQ v && plainQd r)
end
mutual
/-- a bound of its text's length -/
def wq : PyData → Nat
  | .none => 8
  | .bool _ => 8
  | .int i => if i.natAbs < 1000000 then 8 else 60
  | .str x => 10 * x.length + 2
  | .list xs => 4 + wqs xs
  | .tuple xs => 4 + wqs xs
  | .dict kvs => 4 + wqd kvs
def wqs : List PyData → Nat
  | [] => 0
  | x :: xs => wq x + 2 + wqs xs
def wqd : List (PyData × PyData) → Nat
  | [] => 0
  | (k, v) :: r => wq k + wq v + 4 + wqd r
end
theorem plainQs_iff : ∀ {xs : List PyData}, plainQs xs = true ↔ ∀ d ∈ xs, plainQ d = true
  | [] => by simp [plainQs]
  | x :: xs => by
    rw [plainQs, Bool.and_eq_true, plainQs_iff (xs := xs)]
    simp
theorem wqs_mem : ∀ {xs : List PyData} {d : PyData}, d ∈ xs → wq d + 2 ≤ wqs xs
  | x :: xs, d, h => by
    rw [wqs]
    rcases List.mem_cons.mp h with rfl | h
    · omega
    · have := wqs_mem h
      omega
theorem wqs_len : ∀ (xs : List PyData), 2 * xs.length ≤ wqs xs
  | [] => by simp [wqs]
  | x :: xs => by
    have := wqs_len xs
    rw [wqs, List.length_cons]
    omega
theorem wqs_app : ∀ (xs ys : List PyData), wqs (xs ++ ys) = wqs xs + wqs ys
  | [], ys => by simp [wqs]
  | x :: xs, ys => by
    rw [List.cons_append, wqs, wqs, wqs_app xs ys]
    omega
theorem wqs_le {B : Nat} : ∀ {xs : List PyData}, (∀ d ∈ xs, wq d ≤ B) → wqs xs ≤ xs.length * (B + 2)
  | [], _ => by simp [wqs]
  | x :: xs, h => by
    have h1 := h x List.mem_cons_self
    have h2 := wqs_le (B := B) (xs := xs) fun d hd => h d (List.mem_cons_of_mem _ hd)
    rw [wqs, List.length_cons, Nat.succ_mul]
    omega
theorem int_show (i : Int) (h : i.natAbs < 10 ^ 50) : i.natAbs.log2 < 1920 := by
  by_cases z : i.natAbs = 0
  · rw [z]; decide
  · have h2 : i.natAbs < 2 ^ 200 := Nat.lt_trans h (by decide)
    have h3 := (Nat.log2_lt z).mpr h2
    omega
mutual
theorem plain_show : ∀ d : PyData, plainQ d = true → d.showable = true
  | .none, _ => by rw [PyData.showable]
  | .bool _, _ => by rw [PyData.showable]
  | .int i, h => by
    rw [plainQ] at h
    rw [PyData.showable]
    exact decide_eq_true (int_show i (of_decide_eq_true h))
  | .str _, _ => by rw [PyData.showable]
  | .list xs, h => by
    rw [plainQ] at h
    rw [PyData.showable]
    exact plains_show xs h
  | .tuple xs, h => by
    rw [plainQ] at h
    rw [PyData.showable]
    exact plains_show xs h
  | .dict kvs, h => by
    rw [plainQ] at h
    rw [PyData.showable]
    exact plaind_show kvs h
theorem plains_show : ∀ xs : List PyData, plainQs xs = true → PyData.showableAll xs = true
  | [], _ => by rw [PyData.showableAll]
  | x :: xs, h => by
    rw [plainQs, Bool.and_eq_true] at h
    rw [PyData.showableAll, plain_show x h.1, plains_show xs h.2] <;> rfl
theorem plaind_show : ∀ kvs : List (PyData × PyData), plainQd kvs = true → PyData.showableKv kvs = true
  | [], _ => by rw [PyData.showableKv]
  | (k, v) :: r, h => by
    rw [plainQd, Bool.and_eq_true, Bool.and_eq_true] at h
    rw [PyData.showableKv, plain_show k h.1, plain_show v h.2.1, plaind_show r h.2.2] <;> rfl
end
theorem dict_len (ps : List Str) : (PySem.dictText ps).length ≤ 2 + lens ps := by
  unfold PySem.dictText
  rw [str_len_append, str_len_append]
  have h := join_len ps
  have h1 : (Str.ofString "{").length = 1 := by decide
  have h2 : (Str.ofString "}").length = 1 := by decide
  omega
theorem int_len (i : Int) (h : i.natAbs < 10 ^ 50) : (Str.ofString (toString i)).length ≤ if i.natAbs < 1000000 then 8 else 60 := by
  rw [PySem.ofString_length]
  split
  · have q := PySem.int_text_length_le10 (a := i) (k := 6) (by decide) (by omega)
    omega
  · have q := PySem.int_text_length_le10 (a := i) (k := 50) (by decide) h
    omega
mutual
theorem plain_len : ∀ d : PyData, plainQ d = true → d.shown.length ≤ wq d
  | .none, _ => by
    rw [PyData.shown, wq]
    decide
  | .bool b, _ => by
    rw [PyData.shown, wq]
    cases b <;> decide
  | .int i, h => by
    rw [plainQ] at h
    rw [PyData.shown, wq]
    exact int_len i (of_decide_eq_true h)
  | .str x, h => by
    rw [plainQ] at h
    rw [PyData.shown, wq]
    refine StrLaws.reprText_len x fun c hc => ?_
    have z := of_decide_eq_true (List.all_eq_true.mp h c hc)
    exact Nat.lt_trans z (by decide)
  | .list xs, h => by
    rw [plainQ] at h
    rw [PyData.shown, wq]
    have q := list_len (PyData.shownAll xs)
    have q2 := plains_len xs h
    omega
  | .tuple xs, h => by
    rw [plainQ] at h
    rw [PyData.shown, wq]
    have q := tuple_len (PyData.shownAll xs)
    have q2 := plains_len xs h
    omega
  | .dict kvs, h => by
    rw [plainQ] at h
    rw [PyData.shown, wq]
    have q := dict_len (PyData.shownKv kvs)
    have q2 := plaind_len kvs h
    omega
theorem plains_len : ∀ xs : List PyData, plainQs xs = true → lens (PyData.shownAll xs) ≤ wqs xs
  | [], _ => by rw [PyData.shownAll]; simp [lens]
  | x :: xs, h => by
    rw [plainQs, Bool.and_eq_true] at h
    rw [PyData.shownAll, wqs, lens_cons]
    have q := plain_len x h.1
    have q2 := plains_len xs h.2
    omega
theorem plaind_len : ∀ kvs : List (PyData × PyData), plainQd kvs = true → lens (PyData.shownKv kvs) ≤ wqd kvs
  | [], _ => by rw [PyData.shownKv]; simp [lens]
  | (k, v) :: r, h => by
    rw [plainQd, Bool.and_eq_true, Bool.and_eq_true] at h
    rw [PyData.shownKv, wqd, lens_cons, str_len_append, str_len_append]
    have q1 := plain_len k h.1
    have q3 := plain_len v h.2.1
    have q2 := plaind_len r h.2.2
    have h2 : (Str.ofString ": ").length = 2 := by decide
    omega
end
/-- what repr wants -/
structure Show (d : PyData) : Prop where
  pl : plainQ d = true
  dp : d.depth ≤ 64
  wd : wq d ≤ 60000
theorem Show.len {d : PyData} (s : Show d) : d.shown.length ≤ sizeLine := by
  have h1 := plain_len d s.pl
  have h2 := s.wd
  rw [sizeLine_eq]
  omega
theorem Show.sh {d : PyData} (s : Show d) : d.showable = true := plain_show d s.pl
end On

/-! The bag that the laws draw from; a def of the text as its callers want it. -/
namespace On
open PySem PySem.Spec PyProof.Rows L2
/-- a def of the text, by its name -/
structure Df (K : PySem.W.Frag) (mg : Str → Option Value) (x : Str) (st : Stmt) (ps : List Str) (f : Addr) (fd : FuncData) : Prop where
  F : Fun K x x st f fd
  g : mg x = some (.ref f)
  b : Binds K fd ps []
/-- xs[i], i not below nought -/
def rIxN (K : PySem.W.Frag) : V → V → Hp → VK → Prop := fun x y H Q => ∃ (p : Addr) (xs : List V) (i : Nat) (v : V), x = .ref p ∧ y = .int (i : Int) ∧ SqL K H p xs ∧ xs[i]? = some v ∧ Q v H
theorem get_list {X : Cx} : PGet X (rIxN X.K) := by
  intro pins s σ H o i ov iv Q I ro ri h
  obtain ⟨p, xs, k, v, rfl, rfl, hq, he, q⟩ := h
  cases ro
  obtain ⟨t, rfl⟩ := ri
  obtain ⟨its, r, pl, hz⟩ := I.list hq
  obtain ⟨u, eu, ru⟩ := r.get he
  have hk := (List.getElem?_eq_some_iff.mp he).1
  have hn := line63
  exact wpAny_getItem_list pl.isList (by omega) (by omega) (by simpa using eu) ⟨v, H, I, ru, q⟩

/-- the bag at b: what is held, the stir, the place, the cells -/
def BagAt (H : Hp) (b l : Addr) : Prop := ∃ (p q r : Int) (cs : List Int), H b = some (.lst [.int p, .int q, .int r, .ref l]) ∧ H l = some (.lst (cs.map V.int)) ∧ cs.length ≤ 63
/-- sys.modules is held apart: no new thing stands there -/
def Sys (H : Hp) : Prop := ∃ φ : Obj × HO, H sysModules = some (.frz φ.1 φ.2)
structure Bag (H : Hp) (b l : Addr) : Prop where
  at_ : BagAt H b l
  sys : Sys H
/-- the heap but for what stands at b -/
def off (b : Addr) (H : Hp) : Hp := fun a => if a = b then Option.none else H a
theorem off_ne {b a : Addr} {H : Hp} (h : a ≠ b) : off b H a = H a := if_neg h
theorem off_at {b : Addr} {H : Hp} : off b H b = Option.none := if_pos rfl
theorem off_sub {b : Addr} {H : Hp} : Same (off b H) H := fun a o e => by
  by_cases h : a = b
  · rw [h, off_at] at e
    cases e
  · rwa [off_ne h] at e
theorem off_some {b a : Addr} {H : Hp} {o : HO} (e : off b H a = some o) : a ≠ b := fun z => by
  rw [z, off_at] at e
  cases e
theorem but_off {b : Addr} {H H' : Hp} (h : But b H H') : Same (off b H) (off b H') := fun a o e => by
  have n := off_some e
  rw [off_ne n] at e ⊢
  exact h a o n e
theorem bag_ne {H : Hp} {b l : Addr} {p q r : Int} {l' : Addr} {cs : List Int} (hb : H b = some (.lst [.int p, .int q, .int r, .ref l'])) (hl : H l = some (.lst (cs.map V.int))) : l ≠ b := fun z => by
  rw [z, hb] at hl
  have e := Option.some.inj hl
  injection e with e
  match cs, e with
  | [_, _, _, d], e => simp at e
theorem Bag.same {H H' : Hp} {b l : Addr} (h : Bag H b l) (k : Same H H') : Bag H' b l := by
  obtain ⟨⟨p, q, r, cs, h1, h2, h3⟩, φ, h4⟩ := h
  exact ⟨⟨p, q, r, cs, k _ _ h1, k _ _ h2, h3⟩, φ, k _ _ h4⟩
theorem Bag.put {H : Hp} {b l : Addr} (h : Bag H b l) (p' q' r' : Int) : Bag (upd H b (.lst [.int p', .int q', .int r', .ref l])) b l := by
  obtain ⟨⟨p, q, r, cs, h1, h2, h3⟩, φ, h4⟩ := h
  have n1 : l ≠ b := bag_ne h1 h2
  have n2 : sysModules ≠ b := fun z => by
    rw [z, h1] at h4
    cases h4
  exact ⟨⟨p', q', r', cs, upd_same, by rw [upd_ne n1]; exact h2, h3⟩, φ, by rw [upd_ne n2]; exact h4⟩
theorem Bag.ne_sys {H : Hp} {b l : Addr} (h : Bag H b l) {a : Addr} (n : H a = Option.none) : a ≠ sysModules := fun z => by
  obtain ⟨_, φ, h4⟩ := h
  rw [z, h4] at n
  cases n
theorem Bag.ne_new {H : Hp} {b l : Addr} (h : Bag H b l) {a : Addr} (n : H a = Option.none) : a ≠ b := fun z => by
  obtain ⟨⟨p, q, r, cs, h1, _⟩, _⟩ := h
  rw [z, h1] at n
  cases n
theorem Bag.ne_cells {H : Hp} {b l : Addr} (h : Bag H b l) {a : Addr} (n : H a = Option.none) : a ≠ l := fun z => by
  obtain ⟨⟨p, q, r, cs, h1, h2, _⟩, _⟩ := h
  rw [z, h2] at n
  cases n
/-- another list changes -/
theorem Bag.upd {H : Hp} {b l a : Addr} {o : HO} {xs : List V} (h : Bag H b l) (n1 : a ≠ b) (n2 : a ≠ l) (ha : H a = some (.lst xs)) : Bag (L2.upd H a o) b l := by
  obtain ⟨⟨p, q, r, cs, h1, h2, h3⟩, φ, h4⟩ := h
  have n3 : a ≠ sysModules := fun z => by
    rw [z, h4] at ha
    cases ha
  exact ⟨⟨p, q, r, cs, by rw [upd_ne (Ne.symm n1)]; exact h1, by rw [upd_ne (Ne.symm n2)]; exact h2, h3⟩, φ, by rw [upd_ne (Ne.symm n3)]; exact h4⟩
theorem but_put {H : Hp} {b : Addr} {o : HO} : But b H (upd H b o) := fun a u n e => by
  rw [upd_ne n]
  exact e
/-- _law_take(bag, n) -/
def spTake : Sp := fun vs H Q _ => ∃ (b c : Addr) (n : Int), vs = [.ref b, .int n] ∧ Bag H b c ∧ 0 < n ∧ n.natAbs.log2 < 9000 ∧
  ∀ (v : Int) (H' : Hp), 0 ≤ v → v < n → Bag H' b c → But b H H' → Q (.int v) H'
/-- _law_some(bag, things) -/
def spSome (K : PySem.W.Frag) : Sp := fun vs H Q _ => ∃ (b c l : Addr) (xs : List V), vs = [.ref b, .ref l] ∧ Bag H b c ∧ H l = some (.lst xs) ∧ l ≠ b ∧ 0 < xs.length ∧ xs.length < 1000000 ∧
  ∀ (v : V) (H' : Hp), v ∈ xs → Bag H' b c → But b H H' → Q v H'
/-- _law_alike(found, due): data that are the same -/
def spAlike (K : PySem.W.Frag) : Sp := fun vs H Q _ => ∃ (x y : V) (d : PyData), vs = [x, y] ∧ Dq K H x d ∧ Dq K H y d ∧ Fine d ∧ Q (.bl true) H
/-! ### readings one step open -/
section
variable {te : TE} {t : TA} {v : V} {D : Ends} {σ : L2.St} {H : Hp} {Q : List V → Hp → Prop} {R : VK} {g : TG} {tz : TS}
theorem to_ret (h : te σ H D.rt) : tRet te D σ H := h
theorem to_asg (h : te σ H fun x H1 => g x σ H1 D.nx) : tAsg te g D σ H := h
theorem to_qasg (h : te σ H fun x H1 => g x σ H1 (tz D)) : tSeq (tAsg te g) tz D σ H := h
theorem to_lst (h : t σ H fun xs H1 => xs.length ≤ sizeLine ∧ ∀ p, H1 p = Option.none → R (.ref p) (upd H1 p (.lst xs))) : tLst t σ H R := h
theorem to_tup (h : t σ H fun xs H1 => xs.length ≤ sizeLine ∧ ∀ p, H1 p = Option.none → R (.ref p) (upd H1 p (.tup xs))) : tTup t σ H R := h
theorem to_c (h : t σ H fun xs H2 => Q (v :: xs) H2) : tCons (tC v) t σ H Q := h
theorem to_cons (h : te σ H fun x H1 => t σ H1 fun xs H2 => Q (x :: xs) H2) : tCons te t σ H Q := h
theorem to_cb {r : List V → Hp → VK → Prop} (h : t σ H fun vs H1 => r vs H1 R) : tCB r t σ H R := h
theorem to_nil (h : Q [] H) : tNil σ H Q := h
end
end On

/-! The layer's rules with the written part named: so they stand within a comprehension too. -/
namespace On
open PySem PySem.Spec PyProof.Rows L2
section
variable (K : PySem.W.Frag) {X : Cx}
theorem kIxL (h : X.K = K := by rfl) : IxR X (rIxL K) := h ▸ ix_list
theorem kIxT (h : X.K = K := by rfl) : IxR X (rIxT K) := h ▸ ix_tup
theorem kIxS (h : X.K = K := by rfl) : IxR X (rIx K) := h ▸ ix_seq
theorem kSlL (h : X.K = K := by rfl) : SlR X (rSlL K) := h ▸ sl_list
theorem kSlT (h : X.K = K := by rfl) : SlR X (rSlA K) := h ▸ sl_tupA
theorem kGet (h : X.K = K := by rfl) : PGet X (rIxN K) := h ▸ get_list
def rLen (K : PySem.W.Frag) : List V → Hp → VK → Prop := fun xs H Q => ∃ p ys, xs = [V.ref p] ∧ (SqL K H p ys ∨ SqT K H p ys) ∧ Q (.int ys.length) H
theorem kLen (h : X.K = K := by rfl) : CallR X (.builtin "len") (On.rLen K) := h ▸ call_len_seq
def rListOf (K : PySem.W.Frag) : List V → Hp → VK → Prop := fun xs H Q => ∃ p ys, xs = [V.ref p] ∧ (SqL K H p ys ∨ SqT K H p ys) ∧ ∀ l, H l = Option.none → Q (.ref l) (upd H l (.lst ys))
theorem kList (h : X.K = K := by rfl) : CallR X (.type "list") (rListOf K) := h ▸ call_list_of
def rTupOf (K : PySem.W.Frag) : List V → Hp → VK → Prop := fun xs H Q => ∃ p ys, xs = [V.ref p] ∧ ((SqL K H p ys ∧ ∀ l, H l = Option.none → Q (.ref l) (upd H l (.tup ys))) ∨ (SqT K H p ys ∧ Q (.ref p) H))
theorem kTuple (h : X.K = K := by rfl) : CallR X (.type "tuple") (rTupOf K) := h ▸ call_tuple_of
theorem kIsi (h : X.K = K := by rfl) : CallR X (.builtin "isinstance") (rIsi K) := h ▸ call_isi
theorem kIsiT (h : X.K = K := by rfl) : CallR X (.builtin "isinstance") (rIsiT K) := h ▸ call_isiT
theorem kAll (hc : X.calm = true) (h : X.K = K := by rfl) : CallR X (.builtin "all") (rAll K) := h ▸ cr_all hc
theorem kAny (hc : X.calm = true) (h : X.K = K := by rfl) : CallR X (.builtin "any") (rAny K) := h ▸ cr_any hc
theorem kRepr (hg : X.A.guards = some []) (hu : X.A.units + 66 < cLine) (h : X.K = K := by rfl) : CallR X (.builtin "repr") (rReprQ K) := h ▸ call_reprQ hg hu
theorem kSortT {d : Nat} {B : Int} (hd : 1 ≤ d) (h : X.K = K := by rfl) : CallR X (.builtin "sorted") (rSortU K d B) := h ▸ cr_sortT hd
theorem kLtT (hu : X.A.units < cLine) (h : X.K = K := by rfl) : OpR X (compareOp .Lt) (rLtT K) := h ▸ op_ltT hu
theorem kIn (h : X.K = K := by rfl) : OpR X (compareOp .In) (rIn K false) := h ▸ op_in_seq
theorem kNotIn (h : X.K = K := by rfl) : OpR X (compareOp .NotIn) (rIn K true) := h ▸ op_notIn_seq
theorem kEqD (hu : X.A.units + 64 < cLine) (h : X.K = K := by rfl) : OpR X (compareOp .Eq) (rEqD K) := h ▸ op_eqD hu
theorem kCatA (h : X.K = K := by rfl) : OpR X (binaryOp .Add) (rCatA K) := h ▸ op_catA
theorem kPgT {es : List Expr} {k : Nat} {t : TGs} {n : Nat} {pos : Pos} (hp : PGs X es t) (hc : X.calm = true := by rfl) (h : X.K = K := by rfl)
    (hn : (assignEach es X.env).length = n := by rfl) (hst : (assignEach es X.env).findIdx? (·.1) = none := by rfl) : PG X (.Tuple es k pos) (gTup K n t) := h ▸ pg_tup hc hp hn hst
theorem kPiL {tg l : Expr} {tl : TE} (hl : PE X l tl) (h : X.K = K := by rfl) : PI X tg l (iList K tl) := h ▸ pi_list hl
theorem kPiT {tg l : Expr} {tl : TE} (hl : PE X l tl) (h : X.K = K := by rfl) : PI X tg l (iTup K tl) := h ▸ pi_tup hl
end
theorem un0 {k : Nat} {A : Around} (hr : Room k A) : A.units < cLine := hr.units0
theorem un64 {k : Nat} {A : Around} (hr : Room k A) : A.units + 64 < cLine := hr.units
theorem un66 {k : Nat} {A : Around} (hr : Room k A) : A.units + 66 < cLine := by
  have := hr.un
  omega
end On

/-! Defs that tell a truth of data: what kind a thing is, all(..) over a tuple and over a range. -/
namespace On
open PySem PySem.Spec PyProof.Rows L2

def kindOf : PyData → String
  | .none => "NoneType"
  | .bool _ => "bool"
  | .int _ => "int"
  | .str _ => "str"
  | .list _ => "list"
  | .tuple _ => "tuple"
  | .dict _ => "dict"
def isK (d : PyData) (T : String) : Bool := match kitB (kindOf d) T with
  | some b => b
  | Option.none => false
theorem tyx_of {K : PySem.W.Frag} {H : Hp} : ∀ {v : V} {d : PyData}, Dq K H v d → TyX K H v (.type (kindOf d))
  | _, _, .non => .base .non
  | _, _, .bl b => .base (.bl b)
  | _, _, .int i => .base (.int i)
  | _, _, .str x => .base (.str x)
  | _, _, .lst h1 _ _ => .base (.lst h1)
  | _, _, .tup h1 _ => .base (.tup h1)
  | _, _, .dct h1 _ => .base (.dK h1)
theorem kit_any (d : PyData) {T : String} (hT : T = "int" ∨ T = "bool" ∨ T = "tuple" ∨ T = "list") : kitB (kindOf d) T = some (isK d T) := by
  rcases hT with rfl | rfl | rfl | rfl <;> cases d <;> simp only [isK, kindOf] <;> decide +kernel
/-- int and no truth -/
def isInt : PyData → Bool
  | .int _ => true
  | _ => false
def isTuple : PyData → Bool
  | .tuple _ => true
  | _ => false
theorem isK_int (d : PyData) : (isK d "int" && !isK d "bool") = isInt d := by
  cases d <;> simp only [isK, kindOf, isInt] <;> decide +kernel
theorem isK_tuple (d : PyData) : isK d "tuple" = isTuple d := by
  cases d <;> simp only [isK, kindOf, isTuple] <;> decide +kernel
section
variable {K : PySem.W.Frag} {σ : L2.St} {H H' : Hp} {ta tb tc te tl : TE} {x : V} {d : PyData}
theorem rc_isi {T : String} {r : Bool} (h : Dq K H x d) (hT : kitB (kindOf d) T = some r) : Evl.RC (rIsi K) [x, .ty T] H (.bl r) := fun H1 e Q q =>
  ⟨x, .ty T, _, _, r, rfl, .ty T, tyx_of (dq_same e h), kit_ty hT, q H1 (Evl.Ex.refl H1)⟩
/-- isinstance(x, T) -/
theorem ev_isi {T : String} (hT : T = "int" ∨ T = "bool" ∨ T = "tuple" ∨ T = "list") (hx : Evl.Ev ta σ H x) (h : Dq K H x d) : Evl.Ev (tCB (rIsi K) (tCons ta (tCons (tC (.ty T)) tNil))) σ H (.bl (isK d T)) :=
  Evl.ev_cb (Evl.ea_cons hx (Evl.ea_cons Evl.ev_c Evl.ea_nil)) (rc_isi h (kit_any d hT))
/-- isinstance(x, int) and not isinstance(x, bool), as a value -/
theorem ev_isInt (hx : ∀ H1, Evl.Ex H H1 → Evl.Ev ta σ H1 x) (h : Dq K H x d) :
    Evl.Ev (tAndV (tCB (rIsi K) (tCons ta (tCons (tC (.ty "int")) tNil))) (tNotV (tCB (rIsi K) (tCons ta (tCons (tC (.ty "bool")) tNil))))) σ H (.bl (isInt d)) :=
  Evl.ev_is (Evl.ev_andV (ev_isi (by simp) (hx H (Evl.Ex.refl H)) h) fun _ => Evl.ev_notV (ev_isi (by simp) (hx H (Evl.Ex.refl H)) h)) (by rw [isK_int])
theorem ev_chain {le lt : Int → Int → Bool} {a b c : Int} (h1 : Evl.Ev ta σ H (.int a)) (h2 : Evl.Ev tb σ H (.int b)) (h3 : Evl.Ev tc σ H (.int c)) :
    Evl.Ev (tChain (rI0 fun i j => .bl (le i j)) (rI0 fun i j => .bl (lt i j)) ta tb tc) σ H (.bl (le a b && lt b c)) := fun H1 e Q q =>
  h1 H1 e _ fun H2 e2 => h2 H2 (e.trans e2) _ fun H3 e3 => ⟨a, b, rfl, rfl, le a b, rfl, by
    cases hle : le a b with
    | true =>
      rw [if_pos rfl]
      refine h3 H3 ((e.trans e2).trans e3) _ fun H4 e4 => ⟨b, c, rfl, rfl, ?_⟩
      have y := q H4 ((e2.trans e3).trans e4)
      rw [hle] at y
      exact y
    | false =>
      rw [if_neg Bool.false_ne_true]
      have y := q H3 (e2.trans e3)
      rw [hle] at y
      exact y⟩
theorem et_chain {le lt : Int → Int → Bool} {a b c : Int} (h1 : Evl.Ev ta σ H (.int a)) (h2 : Evl.Ev tb σ H (.int b)) (h3 : Evl.Ev tc σ H (.int c)) :
    Evl.EvT (tTest (tChain (rI0 fun i j => .bl (le i j)) (rI0 fun i j => .bl (lt i j)) ta tb tc)) σ H (le a b && lt b c) := Evl.et_test (ev_chain h1 h2 h3)
/-- len of a tuple -/
theorem rc_lenT {a : Addr} {xs : List V} (h : H a = some (.tup xs)) : Evl.RC (fun vs H Q => ∃ p ys, vs = [V.ref p] ∧ (SqL K H p ys ∨ SqT K H p ys) ∧ Q (.int ys.length) H) [.ref a] H (.int xs.length) := fun H1 e Q q =>
  ⟨a, xs, rfl, .inr (SqT.of (e _ _ h)), q H1 (Evl.Ex.refl H1)⟩
theorem rc_lenL {a : Addr} {xs : List V} (h : H a = some (.lst xs)) : Evl.RC (fun vs H Q => ∃ p ys, vs = [V.ref p] ∧ (SqL K H p ys ∨ SqT K H p ys) ∧ Q (.int ys.length) H) [.ref a] H (.int xs.length) := fun H1 e Q q =>
  ⟨a, xs, rfl, .inl (SqL.of (e _ _ h)), q H1 (Evl.Ex.refl H1)⟩
/-! ### all([t for x in tuple]), all([t for k in range(n)]) -/
theorem given_bl (n : Nat) (f : Nat → Bool) : Evl.given n (fun _ => true) (fun i => V.bl (f i)) = ((List.range n).map f).map V.bl := by
  unfold Evl.given
  rw [List.filter_eq_self.mpr (fun _ _ => rfl), List.map_map]
  rfl
theorem et_yes : Evl.EvT tYes σ H true := fun H1 _ _ q => q H1 (Evl.Ex.refl H1)
theorem el_lcT {a : Addr} {xs : List V} {j : Nat} {vs : List Nat} {t : TT} (f : Nat → Bool) (v : Nat → V) (h : Evl.Ev tl σ H (.ref a)) (hx : SqT K H a xs) (hz : xs.length ≤ 40000) (hw : ∀ x, wipe ((wipe σ vs).set j (some x)) vs = wipe σ vs)
    (ht : ∀ (i : Nat) (x : V) H1, Evl.Ex H H1 → xs[i]? = some x → Evl.EvT t ((wipe σ vs).set j (some x)) H1 (f i)) (he : ∀ (i : Nat) (x : V) H1, Evl.Ex H H1 → xs[i]? = some x → f i = true → Evl.Ev te ((wipe σ vs).set j (some x)) H1 (v i)) :
    Evl.EvL (tLc (iTup K tl) (gName j) t te vs) σ H (Evl.given xs.length f v) := by
  intro H0 e Q q
  refine h H0 e _ fun H1 e1 => ⟨a, rfl, ⟨xs, Evl.ex_t (e.trans e1) hx⟩, fun Dl hD => ?_⟩
  refine lc_tup (xs := xs) (Evl.Cw H1 f v Dl) ⟨hD, Evl.Ex.new hD, upd_same⟩ (fun i H' _ p => Evl.ex_t ((e.trans e1).trans p.2.1) hx) (fun i x H' hi p => ⟨hw x, ?_⟩) (fun H' p => q Dl H' (Evl.fresh_back e1 p.1) (e1.trans p.2.1) p.2.2)
  have hl := (List.getElem?_eq_some_iff.mp hi).1
  exact Evl.cw_turn p (by omega) (ht i x H1 (e.trans e1) hi) fun hf => he i x H1 (e.trans e1) hi hf
theorem all_id (n : Nat) (f : Nat → Bool) : ((List.range n).map f).all id = (List.range n).all f := by
  rw [List.all_map]
  rfl
theorem ev_allT {a : Addr} {xs : List V} {j : Nat} {vs : List Nat} (f : Nat → Bool) (h : Evl.Ev tl σ H (.ref a)) (hx : SqT K H a xs) (hz : xs.length ≤ 40000) (hw : ∀ x, wipe ((wipe σ vs).set j (some x)) vs = wipe σ vs)
    (he : ∀ (i : Nat) (x : V) H1, Evl.Ex H H1 → xs[i]? = some x → Evl.Ev te ((wipe σ vs).set j (some x)) H1 (.bl (f i))) :
    Evl.Ev (tCB (rAll K) (tCons (tLc (iTup K tl) (gName j) tYes te vs) tNil)) σ H (.bl ((List.range xs.length).all f)) := by
  intro H1 e Q q
  refine to_cb (to_cons ?_)
  refine el_lcT (fun _ => true) (fun i => .bl (f i)) h hx hz hw (fun i x H1 _ _ => et_yes) (fun i x H1 e1 hi _ => he i x H1 e1 hi) H1 e _ fun p H2 np e2 hp => ⟨p, (List.range xs.length).map f, rfl, ?_, ?_⟩
  · rw [given_bl] at hp
    exact SqL.of hp
  · rw [all_id]
    exact q H2 e2
theorem all_at (ds : List PyData) (g : PyData → Bool) : ((List.range ds.length).all fun i => g (ds.getD i .none)) = ds.all g := by
  apply Bool.eq_iff_iff.mpr
  simp only [List.all_eq_true, List.mem_range]
  constructor
  · intro h d hd
    obtain ⟨i, hi, e⟩ := List.mem_iff_getElem.mp hd
    have z := h i hi
    rw [List.getD_eq_getElem?_getD, List.getElem?_eq_getElem hi] at z
    rw [← e]
    exact z
  · intro h i hi
    rw [List.getD_eq_getElem?_getD, List.getElem?_eq_getElem hi]
    exact h _ (List.getElem_mem hi)
end
section
variable {K : PySem.W.Frag} {H : Hp} {vs : List V} {ds : List PyData}
theorem dq1 (h : DqAll K H vs ds) (hl : vs.length = 1) : ∃ x d, vs = [x] ∧ ds = [d] ∧ Dq K H x d := by
  match h, hl with
  | .cons a .nil, _ => exact ⟨_, _, rfl, rfl, a⟩
theorem dq2 (h : DqAll K H vs ds) (hl : vs.length = 2) : ∃ x d y e, vs = [x, y] ∧ ds = [d, e] ∧ Dq K H x d ∧ Dq K H y e := by
  match h, hl with
  | .cons a (.cons b .nil), _ => exact ⟨_, _, _, _, rfl, rfl, a, b⟩
theorem dq3 (h : DqAll K H vs ds) (hl : vs.length = 3) : ∃ x d y e z g, vs = [x, y, z] ∧ ds = [d, e, g] ∧ Dq K H x d ∧ Dq K H y e ∧ Dq K H z g := by
  match h, hl with
  | .cons a (.cons b (.cons c .nil)), _ => exact ⟨_, _, _, _, _, _, rfl, rfl, a, b, c⟩
end
theorem el_lcR {K : PySem.W.Frag} {σ : L2.St} {H : Hp} {te : TE} {t : TT} {ta' : TA} {j : Nat} {vs : List Nat} {n : Int} (f : Nat → Bool) (v : Nat → V) (h : Evl.EvA ta' σ H [.int n]) (hn : -10 ≤ n ∧ n ≤ 40000) (hw : ∀ x, wipe ((wipe σ vs).set j (some x)) vs = wipe σ vs)
    (ht : ∀ (i : Nat) H1, Evl.Ex H H1 → (i : Int) < n → Evl.EvT t ((wipe σ vs).set j (some (.int (i : Int)))) H1 (f i)) (he : ∀ (i : Nat) H1, Evl.Ex H H1 → (i : Int) < n → f i = true → Evl.Ev te ((wipe σ vs).set j (some (.int (i : Int)))) H1 (v i)) :
    Evl.EvL (tLc (iRng1 ta') (gName j) t te vs) σ H (Evl.given n.toNat f v) := by
  intro H0 e Q q
  refine h H0 e _ fun H1 e1 => ⟨n, rfl, by omega, by omega, fun Dl hD => ?_⟩
  refine lc_range (lo := 0) (n := n.toNat) (Evl.Cw H1 f v Dl) ⟨hD, Evl.Ex.new hD, upd_same⟩ (fun i H' hi p => ?_) (fun H' p => q Dl H' (Evl.fresh_back e1 p.1) (e1.trans p.2.1) p.2.2)
  have e0 : (0 : Int) + (i : Int) = (i : Int) := Int.zero_add _
  rw [e0]
  exact ⟨hw _, Evl.cw_turn p (by omega) (ht i H1 (e.trans e1) (by omega)) fun hf => he i H1 (e.trans e1) (by omega) hf⟩
section
variable {K : PySem.W.Frag} {σ : L2.St} {H H' : Hp} {ta tb tc te tl : TE} {x : V} {d : PyData}
theorem ev_allR {ta' : TA} {n : Int} {j : Nat} {vs : List Nat} (f : Nat → Bool) (h : Evl.EvA ta' σ H [.int n]) (hn : -10 ≤ n ∧ n ≤ 40000) (hw : ∀ x, wipe ((wipe σ vs).set j (some x)) vs = wipe σ vs)
    (he : ∀ (i : Nat) H1, Evl.Ex H H1 → (i : Int) < n → Evl.Ev te ((wipe σ vs).set j (some (.int (i : Int)))) H1 (.bl (f i))) :
    Evl.Ev (tCB (rAll K) (tCons (tLc (iRng1 ta') (gName j) tYes te vs) tNil)) σ H (.bl ((List.range n.toNat).all f)) := by
  intro H1 e Q q
  refine to_cb (to_cons ?_)
  refine el_lcR (K := K) (fun _ => true) (fun i => .bl (f i)) h hn hw (fun i H1 _ _ => et_yes) (fun i H1 e1 hi _ => he i H1 e1 hi) H1 e _ fun p H2 np e2 hp => ⟨p, (List.range n.toNat).map f, rfl, ?_, ?_⟩
  · rw [given_bl] at hp
    exact SqL.of hp
  · rw [all_id]
    exact q H2 e2
end
/-- a def that tells the truth f of its arguments' data -/
def spB (K : PySem.W.Frag) (n : Nat) (f : List PyData → Option Bool) : Sp := fun vs H Q _ => ∃ (ds : List PyData) (r : Bool), DqAll K H vs ds ∧ vs.length = n ∧ f ds = some r ∧ ∀ H', Same H H' → Q (.bl r) H'
theorem spv_B {K : PySem.W.Frag} {n : Nat} {f : List PyData → Option Bool} {vs : List V} {H : Hp} {ds : List PyData} {r : Bool} (h : DqAll K H vs ds) (hl : vs.length = n) (e : f ds = some r) : Evl.SpV (spB K n f) vs H (.bl r) := fun H1 e1 Q q E =>
  ⟨ds, r, dqAll_same e1 h, hl, e, fun H' s => q H' s⟩
end On

/-! Lists of pairs of ints: made, filtered by a comprehension. -/
namespace On
open PySem PySem.Spec PyProof.Rows L2
section
variable {K : PySem.W.Frag} {H H' : Hp}
mutual
theorem dq_keep (k : ∀ a xs, H a = some (.tup xs) → H' a = some (.tup xs)) : ∀ {v : V} {d : PyData}, Dq K H v d → tup d = true → Dq K H' v d
  | _, _, .non, _ => .non
  | _, _, .bl b, _ => .bl b
  | _, _, .int i, _ => .int i
  | _, _, .str x, _ => .str x
  | _, _, .lst h1 h2 h3, h => by simp [tup] at h
  | _, _, .tup h1 h3, h => .tup (k _ _ h1) (dqAll_keep k h3 (by simpa [tup] using h))
  | _, _, .dct h1 h3, h => by simp [dictD, tup] at h
theorem dqAll_keep (k : ∀ a xs, H a = some (.tup xs) → H' a = some (.tup xs)) : ∀ {vs : List V} {ds : List PyData}, DqAll K H vs ds → tups ds = true → DqAll K H' vs ds
  | _, _, .nil, _ => .nil
  | _, _, .cons a b, h => by
    rw [tups, Bool.and_eq_true] at h
    exact .cons (dq_keep k a h.1) (dqAll_keep k b h.2)
end
/-- a list changes: the tuples stay -/
theorem keep_lst {a : Addr} {xs ys : List V} (h : H a = some (.lst xs)) : ∀ b zs, H b = some (.tup zs) → upd H a (.lst ys) b = some (.tup zs) := fun b zs e => by
  rw [upd_ne (fun z => by rw [z, h] at e; cases e)]
  exact e
end
def pairD (p : Int × Int) : PyData := .tuple [.int p.1, .int p.2]
theorem pairD_tup (ps : List (Int × Int)) : tups (ps.map pairD) = true := by
  rw [tups_iff]
  intro d hd
  obtain ⟨p, _, rfl⟩ := List.mem_map.mp hd
  simp [pairD, tup, tups]
theorem dq_pair {K : PySem.W.Frag} {H : Hp} {v : V} {p : Int × Int} (h : Dq K H v (pairD p)) : ∃ a, v = .ref a ∧ H a = some (.tup [.int p.1, .int p.2]) := by
  obtain ⟨a, xs, rfl, h1, h2⟩ := dq_tup h
  match h2 with
  | .cons (.int _) (.cons (.int _) .nil) => exact ⟨a, rfl, h1⟩
theorem dq_mk {K : PySem.W.Frag} {H : Hp} {a : Addr} {v w : Int} (h : H a = some (.tup [.int v, .int w])) : Dq K H (.ref a) (pairD (v, w)) := .tup h (.cons (.int v) (.cons (.int w) .nil))
/-- a new list of data -/
def EvD (K : PySem.W.Frag) (te : TE) (σ : L2.St) (H : Hp) (ds : List PyData) : Prop := ∀ H1, Evl.Ex H H1 → ∀ Q : VK, (∀ p ys H2, H1 p = Option.none → Evl.Ex H1 H2 → H2 p = some (.lst ys) → DqAll K H2 ys ds → Q (.ref p) H2) → te σ H1 Q
section
variable {K : PySem.W.Frag} {σ : L2.St} {H : Hp}
/-- [(v, w) for v, w in pairs if test] -/
theorem ed_pairs {tl : TE} {tt : TT} {i j : Nat} {vs : List Nat} {a : Addr} {xs : List V} (ps : List (Int × Int)) (f : Int × Int → Bool) (h : ∀ H1, Evl.Ex H H1 → Evl.Ev tl σ H1 (.ref a)) (hx : H a = some (.lst xs)) (hd : DqAll K H xs (ps.map pairD)) (hz : ps.length ≤ 1000)
    (hw : ∀ x y, wipe (((wipe σ vs).set i (some x)).set j (some y)) vs = wipe σ vs)
    (hi : ∀ x y, (((wipe σ vs).set i (some x)).set j (some y))[i]? = some (some x)) (hj : ∀ x y, (((wipe σ vs).set i (some x)).set j (some y))[j]? = some (some y))
    (ht : ∀ (p : Int × Int) H1, p ∈ ps → Evl.Ex H H1 → Evl.EvT tt (((wipe σ vs).set i (some (.int p.1))).set j (some (.int p.2))) H1 (f p)) :
    EvD K (tLc (iList K tl) (gTup K 2 (gCons (gName i) (gCons (gName j) gNil))) tt (tTup (tCons (tVar i) (tCons (tVar j) tNil))) vs) σ H ((ps.filter f).map pairD) := by
  intro H0 e Q q
  have hlen : xs.length = ps.length := by rw [dqAll_len hd, List.length_map]
  refine h H0 e H0 (Evl.Ex.refl H0) _ fun H1 e1 => ⟨a, rfl, ⟨xs, SqL.of ((e.trans e1) _ _ hx)⟩, fun Dl hD => ?_⟩
  have e01 := e.trans e1
  refine lc_list (xs := xs) (fun n H' => Evl.Ex H1 H' ∧ ∃ ys, H' Dl = some (.lst ys) ∧ ys.length ≤ n ∧ DqAll K H' ys (((ps.take n).filter f).map pairD)) ⟨Evl.Ex.new hD, [], upd_same, Nat.le_refl _, .nil⟩
    (fun n H' _ p => SqL.of (p.1 _ _ (e01 _ _ hx))) (fun n x H' hx' p => ?_) (fun H' p => ?_)
  · obtain ⟨e2, ys, hys, hl, hds⟩ := p
    obtain ⟨d, hd', qd⟩ := dqAll_vat hd hx'
    rw [List.getElem?_map] at hd'
    obtain ⟨pp, hp, rfl⟩ : ∃ pp, ps[n]? = some pp ∧ pairD pp = d := by
      cases z : ps[n]? with
      | none =>
        rw [z] at hd'
        cases hd'
      | some pp =>
        rw [z] at hd'
        exact ⟨pp, rfl, Option.some.inj hd'⟩
    obtain ⟨c, rfl, hc⟩ := dq_pair qd
    have hn : n < ps.length := (List.getElem?_eq_some_iff.mp hp).1
    have htake : ps.take (n + 1) = ps.take n ++ [pp] := by
      rw [List.take_add_one, hp]
      rfl
    refine ⟨c, _, rfl, SqT.of (e2 _ _ (e01 _ _ hc)), rfl, _, _, rfl, _, _, rfl, rfl, ?_⟩
    refine ⟨hw _ _, ?_⟩
    refine ht pp H' (List.mem_of_getElem? hp) (e01.trans e2) H' (Evl.Ex.refl H') _ fun H3 e3 => ?_
    cases hf : f pp with
    | true =>
      rw [if_pos rfl]
      refine ⟨_, hi _ _, _, hj _ _, (by show 2 ≤ sizeLine; decide), fun p np => ?_⟩
      have npD : Dl ≠ p := ne_of_none (e3 _ _ hys) np
      have hys3 := e3 _ _ hys
      refine ⟨ys, (by rw [upd_ne npD]; exact hys3), (by rw [sizeLine_eq]; omega), ?_, ys ++ [.ref p], upd_same, by rw [List.length_append]; show _ + 1 ≤ _; omega, ?_⟩
      · intro b o eb
        have eb3 := e3 _ _ (e2 _ _ eb)
        rw [upd_ne (ne_of_none eb hD), upd_ne (ne_of_none eb3 np)]
        exact eb3
      · rw [htake, List.filter_append, List.map_append]
        have e5 : [pp].filter f = [pp] := by simp [hf]
        rw [e5]
        have hkp := keep_lst (H := upd H3 p (.tup [.int pp.1, .int pp.2])) (a := Dl) (xs := ys) (ys := ys ++ [.ref p]) (by rw [upd_ne npD]; exact hys3)
        refine dqAll_app (dqAll_keep hkp (dqAll_same (same_upd np) (dqAll_same e3 hds)) (pairD_tup _)) (.cons (dq_mk ?_) .nil)
        exact hkp _ _ upd_same
    | false =>
      rw [if_neg Bool.false_ne_true]
      refine ⟨e2.trans e3, ys, e3 _ _ hys, by omega, ?_⟩
      rw [htake, List.filter_append]
      have e5 : [pp].filter f = [] := by simp [hf]
      rw [e5, List.append_nil]
      exact dqAll_same e3 hds
  · obtain ⟨e2, ys, hys, hl, hds⟩ := p
    rw [hlen, List.take_length] at hds
    exact q Dl ys H' (Evl.fresh_back e1 hD) (e1.trans e2) hys hds
/-- [(v, w) for w in range(many) if test] -/
theorem ed_row {ta' : TA} {tt : TT} {iv j : Nat} {vs : List Nat} {many : Nat} {v : Int} (f : Nat → Bool) (h : ∀ H1, Evl.Ex H H1 → Evl.EvA ta' σ H1 [.int (many : Int)]) (hm : many ≤ 1000)
    (hw : ∀ x, wipe ((wipe σ vs).set j (some x)) vs = wipe σ vs) (hv : ∀ x, ((wipe σ vs).set j (some x))[iv]? = some (some (.int v))) (hj : ∀ x, ((wipe σ vs).set j (some x))[j]? = some (some x))
    (ht : ∀ (w : Nat) H1, w < many → Evl.Ex H H1 → Evl.EvT tt ((wipe σ vs).set j (some (.int (w : Int)))) H1 (f w)) :
    EvD K (tLc (iRng1 ta') (gName j) tt (tTup (tCons (tVar iv) (tCons (tVar j) tNil))) vs) σ H (((List.range many).filter f).map fun (w : Nat) => pairD (v, (w : Int))) := by
  intro H0 e Q q
  refine h H0 e H0 (Evl.Ex.refl H0) _ fun H1 e1 => ⟨_, rfl, by omega, by omega, fun Dl hD => ?_⟩
  have e01 := e.trans e1
  refine lc_range (lo := 0) (n := (many : Int).toNat) (fun n H' => Evl.Ex H1 H' ∧ ∃ ys, H' Dl = some (.lst ys) ∧ ys.length ≤ n ∧ DqAll K H' ys (((List.range n).filter f).map fun (w : Nat) => pairD (v, (w : Int)))) ⟨Evl.Ex.new hD, [], upd_same, Nat.le_refl _, .nil⟩
    (fun n H' hn p => ?_) (fun H' p => ?_)
  · obtain ⟨e2, ys, hys, hl, hds⟩ := p
    have hn' : n < many := by omega
    have e0 : (0 : Int) + (n : Int) = (n : Int) := Int.zero_add _
    rw [e0]
    refine ⟨hw _, ?_⟩
    refine ht n H' hn' (e01.trans e2) H' (Evl.Ex.refl H') _ fun H3 e3 => ?_
    have htup : ∀ l : List Nat, tups (l.map fun (w : Nat) => pairD (v, (w : Int))) = true := fun l => by
      rw [tups_iff]
      intro d hd
      obtain ⟨p, _, rfl⟩ := List.mem_map.mp hd
      simp [pairD, tup, tups]
    cases hf : f n with
    | true =>
      rw [if_pos rfl]
      refine ⟨_, hv _, _, hj _, (by show 2 ≤ sizeLine; decide), fun p np => ?_⟩
      have npD : Dl ≠ p := ne_of_none (e3 _ _ hys) np
      have hys3 := e3 _ _ hys
      refine ⟨ys, (by rw [upd_ne npD]; exact hys3), (by rw [sizeLine_eq]; omega), ?_, ys ++ [.ref p], upd_same, by rw [List.length_append]; show _ + 1 ≤ _; omega, ?_⟩
      · intro b o eb
        have eb3 := e3 _ _ (e2 _ _ eb)
        rw [upd_ne (ne_of_none eb hD), upd_ne (ne_of_none eb3 np)]
        exact eb3
      · rw [List.range_succ, List.filter_append, List.map_append]
        have e5 : [n].filter f = [n] := by simp [hf]
        rw [e5]
        have hkp := keep_lst (H := upd H3 p (.tup [.int v, .int (n : Int)])) (a := Dl) (xs := ys) (ys := ys ++ [.ref p]) (by rw [upd_ne npD]; exact hys3)
        refine dqAll_app (dqAll_keep hkp (dqAll_same (same_upd np) (dqAll_same e3 hds)) (htup _)) (.cons (dq_mk ?_) .nil)
        exact hkp _ _ upd_same
    | false =>
      rw [if_neg Bool.false_ne_true]
      refine ⟨e2.trans e3, ys, e3 _ _ hys, by omega, ?_⟩
      rw [List.range_succ, List.filter_append]
      have e5 : [n].filter f = [] := by simp [hf]
      rw [e5, List.append_nil]
      exact dqAll_same e3 hds
  · obtain ⟨e2, ys, hys, hl, hds⟩ := p
    have e3 : (many : Int).toNat = many := by omega
    rw [e3] at hds
    exact q Dl ys H' (Evl.fresh_back e1 hD) (e1.trans e2) hys hds
end
end On

/-! enumerate over a tuple. -/
namespace On
open PySem PySem.Spec PyProof.Rows L2
/-- enumerate(v): v's iterator, then the counter -/
theorem enum_new {v : Value} {o : Obj} {G : Heap → Prop} (B : Begins v o G) : Meets (Builtin.«enumerate.__new__» ⟨[.type "enumerate", v], []⟩) fun _ R s =>
    G s.heap ∧ R (.ok (.ret (.ref (s.heap.push o).objs.size)))
      { s with heap := (s.heap.push o).push { cls := .type "enumerate", data := .fields #[.none, .bool false, .ref s.heap.objs.size, rawInt 0, .none, .none] } } :=
  .of_wp fun P w A R s ⟨g, r⟩ => by
    cases s with
    | mk hp gs dr tk os =>
      have sb := sub_enumerate
      have start : ∀ {A' : Around} {E Q : Value → Shared → Prop}, Q (.ref hp.objs.size) ⟨hp.push o, gs, dr, tk, os⟩ → wpAny (model P w) A' (pyIter v) Q E ⟨hp, gs, dr, tk, os⟩ := fun q => B.iter P w _ _ ⟨hp, gs, dr, tk, os⟩ _ g q
      wp_walk using start
      refine wpAny_stack_any fun _ => wpAny_pure ?_
      split
      · rename_i c _ _ _ _ _
        cases (c == Value.type "enumerate") <;> (wp_walk using start; exact ⟨_, rfl, r⟩)
      · wp_walk using start
        exact ⟨_, rfl, r⟩
theorem enum_call {P : Program} {w : World} {A : Around} {E Q : Value → Shared → Prop} {s : Shared} {v : Value} {o : Obj} {G : Heap → Prop} (B : Begins v o G) (g : G s.heap)
    (q : ∀ h', IsEnum h' (s.heap.objs.size + 1) s.heap.objs.size 0 .none → h'.get? s.heap.objs.size = some o → (∀ b u, s.heap.get? b = some u → h'.get? b = some u) → Q (.ref (s.heap.objs.size + 1)) { s with heap := h' }) :
    wpAny (model P w) A (call (.type "enumerate") [v]) Q E s := by
  refine callType_new F.called_enumerate (by decide) (F.typeCall_enumerate_1 _) (F.newCall_enumerate_1 _) (fun x => F.args_object_init_2 x _) F.entry_enumerate_new (enum_new B) ⟨g, ?_⟩
  have z : (s.heap.push o).objs.size = s.heap.objs.size + 1 := Heap.size_push ..
  show _ ∧ _
  rw [z]
  have e : IsEnum ((s.heap.push o).push { cls := .type "enumerate", data := .fields #[.none, .bool false, .ref s.heap.objs.size, rawInt 0, .none, .none] }) (s.heap.objs.size + 1) s.heap.objs.size 0 .none := by
    have y := Heap.get?_push_size (s.heap.push o) (o := { cls := .type "enumerate", data := .fields #[.none, .bool false, .ref s.heap.objs.size, rawInt 0, .none, .none] }) rfl
    rwa [z] at y
  exact ⟨⟨_, e, rfl⟩, q _ e (Heap.get?_push_of_some _ (Heap.get?_push_size _ B.free)) fun b u x => Heap.get?_push_of_some _ (Heap.get?_push_of_some _ x)⟩
/-- the tuple at a, each item in a new pair with its place -/
def IteT (K : PySem.W.Frag) (a : Addr) : It where
  go i H := ∃ (xs : List V) (x : V), SqT K H a xs ∧ xs[i]? = some x
  yld i H v H' := ∃ T x, v = .ref T ∧ H T = Option.none ∧ H' = upd H T (.tup [.int (i : Nat), x]) ∧ ∀ xs, SqT K H a xs → xs[i]? = some x
  stop i H := ∃ xs : List V, SqT K H a xs ∧ xs.length = i
theorem tupIter_ne {h : Heap} {it a : Addr} {i : Nat} {items : Array Value} (p : h.IsTupleIter it a i) (q : h.IsTuple a items) : a ≠ it := by
  rintro rfl
  obtain ⟨o, e, c, _⟩ := p
  obtain ⟨u, e2, c2, _⟩ := q
  rw [e] at e2
  cases e2
  rw [c] at c2
  injection c2 with c3
  exact absurd c3 (by decide)
theorem turnT {P : Program} {w : World} {K : PySem.W.Frag} {elts : List Expr} {kk : Nat} {tpos : Pos} (a e it : Addr) :
    Turn P w K (.Tuple elts kk tpos) (IteT K a) [e, it] e (fun i h => (∃ old, IsEnum h e it ((i : Nat) : Int) old) ∧ h.IsTupleIter it a i ∧ e ≠ it) where
  mem := List.mem_cons_self
  obj := fun i h ⟨⟨old, he⟩, ⟨o, ho, _, hd⟩, _⟩ b hb => by
    rcases List.mem_cons.mp hb with z | z
    · subst z
      exact ⟨_, he, fun v q => nomatch q⟩
    · rw [List.mem_singleton] at z
      subst z
      refine ⟨o, ho, fun v q => ?_⟩
      rw [hd] at q
      cases q
  keep := fun i h h' ⟨⟨old, he⟩, hi, n⟩ k => ⟨⟨old, k e (by simp) _ he⟩, hi.at fun o q => k it (by simp) o q, n⟩
  item := by
    intro X hP hw hK hc i pins s σ H E I hf st hg
    subst hP hw hK
    obtain ⟨⟨old, he⟩, hit, n⟩ := st
    obtain ⟨xs, x, hq, hx⟩ := hg
    obtain ⟨its, rv, p, _⟩ := I.tuple hq
    obtain ⟨u, hu, ru⟩ := rv.get hx
    have pt : s.heap.IsTuple a its.toArray := p
    have D := Draws.tuple (prog := X.prog) (w := X.w) (A := X.A.in1) (I.ok.hd hc) it a (tupIter_ne hit pt) its.toArray
    have le : e < s.heap.objs.size := Heap.lt_size he
    have li : it < s.heap.objs.size := by
      obtain ⟨_, q, _⟩ := hit
      exact Heap.lt_size q
    have na : e ≠ a := by
      rintro rfl
      obtain ⟨o2, e2, c2, _⟩ := pt
      have e1 : s.heap.get? e = some _ := he
      rw [e1] at e2
      cases e2
      injection c2 with c3
      exact absurd c3 (by decide)
    have hlt : i < its.toArray.size := by
      have y := (List.getElem?_eq_some_iff.mp hu).1
      simpa using y
    refine wpAny_pyNext_enum_itemD D he ⟨hit, pt⟩ hlt n (by simp [n, na]) fun x' h' tk hP ho st' hT hz hk => ?_
    have ex : x' = u := by
      have y : its[i]? = some x' := by simpa using hP
      rw [hu] at y
      exact (Option.some.inj y).symm
    subst ex
    refine ⟨_, rfl, wpAny_letOwnedTupleGo_enum (s := { s with heap := h', toks := tk + 1 }) ho fun h2 he' sb => ?_⟩
    have hT2 : h2.get? s.heap.objs.size = some { cls := .type "tuple", data := .seq #[.int i tk, x'] } := (sb.2 _ (Nat.ne_of_gt le)).trans hT
    have new : ObjOk X.prog X.w (upd H s.heap.objs.size (.tup [.int (i : Nat), x])) h2 s.heap.objs.size (.tup [.int (i : Nat), x]) := ⟨by show 2 ≤ sizeLine; decide, [.int i tk, x'], .cons ⟨_, rfl⟩ (.cons ru .nil), ⟨_, hT2, rfl, _, rfl⟩⟩
    have I1 : Inv X pins σ (upd H s.heap.objs.size (.tup [.int (i : Nat), x])) { s with heap := h2, toks := tk + 1 } :=
      I.turnedNew (ch := [e, it]) (fun b o hb q => (sb.2 b fun z => hb (by simp [z])).trans (hk b o (fun z => hb (by simp [z])) (fun z => hb (by simp [z])) q)) hf (Nat.le_refl _) new
    refine ⟨.ref s.heap.objs.size, _, I1, rfl, ⟨_, x, rfl, I.hok.fresh (Nat.le_refl _), rfl, fun ys hy => ?_⟩, ⟨⟨x', ?_⟩, st'.1.at fun o q => (sb.2 it (Ne.symm n)).trans q, n⟩, fun b hb => ?_⟩
    · rw [I.tuple_inj hy hq]
      exact hx
    · have y : ((i + 1 : Nat) : Int) = (i : Int) + 1 := by omega
      rw [y]
      exact he'
    · have lb : b < s.heap.objs.size := by
        rcases List.mem_cons.mp hb with z | z
        · rw [z]
          exact le
        · rw [List.mem_singleton] at z
          rw [z]
          exact li
      rw [upd_ne (Nat.ne_of_lt lb)]
      exact (hf b hb).1
  done := by
    intro X hP hw hK hc i pins s σ H E I hf st hg
    subst hP hw hK
    obtain ⟨⟨old, he⟩, hit, n⟩ := st
    obtain ⟨xs, hq, hx⟩ := hg
    obtain ⟨its, rv, p, _⟩ := I.tuple hq
    have pt : s.heap.IsTuple a its.toArray := p
    have D := Draws.tuple (prog := X.prog) (w := X.w) (A := X.A.in1) (I.ok.hd hc) it a (tupIter_ne hit pt) its.toArray
    obtain ⟨f0, f1, f2, f3, f4, f5⟩ := hf it (by simp)
    have z : i = its.toArray.size := by
      rw [List.size_toArray, ← rv.length]
      exact hx.symm
    rw [z] at he hit
    exact wpAny_pyNext_enum_endD D he ⟨hit, pt⟩ fun h' eb => ⟨rfl, I.turned (t' := s.toks) (fun b o hb q => eb b o hb q) f0 f1 f3 f4 f5⟩
  self := fun A i s Q E ⟨⟨_, he⟩, _⟩ h => wpAny_pyIter_enum he h
/-- enumerate(tuple) -/
def iEnumT (K : PySem.W.Frag) (t : TA) : TI := fun σ H R => t σ H fun vs H1 => ∃ a xs, vs = [.ref a] ∧ SqT K H1 a xs ∧ R (IteT K a) H1
theorem pi_enumT {X : Cx} {e : Expr} {t : TA} {p pos tpos : Pos} {elts : List Expr} {kk : Nat} (hg : Gl X "enumerate") (hm : X.mg "enumerate" = Option.none) (ha : PA X [e] t) (hs : starEach [e] X.env = [(false, eval e X.env)] := by rfl) :
    PI X (.Tuple elts kk tpos) (.Call (.Name "enumerate" p) [e] [] pos) (iEnumT X.K t) := by
  constructor
  intro pins s σ H R I h
  apply Call_ (ld_blt I hg hm boot_enumerate (PyProof.Rows.callWith_type1 (thn (ha.run pos pins s σ H _ I h) ?_) hs rfl))
  rintro us s1 ⟨vs, H1, I1, r1, a, xs, rfl, hq, q⟩
  match us, r1 with
  | [_], .cons r .nil =>
    cases r
    obtain ⟨its, rv, pt, _⟩ := I1.tuple hq
    refine enum_call (begins_tuple a its.toArray) pt fun h' he hi hk => wpAny_pyIter_enum he ?_
    have I2 : Inv X pins σ H1 { s1 with heap := h' } := I1.kept (t' := s1.toks) hk
    refine ⟨s1.heap.objs.size + 1, [s1.heap.objs.size + 1, s1.heap.objs.size], _, _, H1, rfl, I2, turnT a (s1.heap.objs.size + 1) s1.heap.objs.size, ⟨⟨.none, he⟩, ⟨_, hi, rfl, rfl⟩, Nat.succ_ne_self _⟩, fun b hb => ?_, q⟩
    have le : s1.heap.objs.size ≤ b := by
      rcases List.mem_cons.mp hb with z | z
      · rw [z]
        exact Nat.le_add_right _ _
      · rw [List.mem_singleton] at z
        rw [z]
        exact Nat.le_refl _
    exact I1.fpOk le (I1.hok.fresh le)
/-- a loop over enumerate of a tuple that stays -/
theorem for_enumT {K : PySem.W.Frag} {a : Addr} {xs : List V} {g : TG} {tb : TS} {D : Ends} {σ : L2.St} {H : Hp} (Pv : Nat → L2.St → Hp → Prop) (h0 : Pv 0 σ H) (hl : ∀ i σ H, i ≤ xs.length → Pv i σ H → SqT K H a xs)
    (hs : ∀ i x σ H T, xs[i]? = some x → Pv i σ H → H T = Option.none → g (.ref T) σ (upd H T (.tup [.int (i : Nat), x])) fun σ2 H2 => tb { D with nx := Pv (i + 1), ct := Pv (i + 1), bk := D.nx } σ2 H2) (hd : ∀ σ H, Pv xs.length σ H → D.nx σ H) :
    ∃ W : Nat → Nat → L2.St → Hp → Prop, (∃ m, W 0 m σ H) ∧ ∀ i m σ H, W i m σ H →
      ((IteT K a).stop i H ∧ D.nx σ H) ∨ ((IteT K a).go i H ∧ ∃ N : L2.St → Hp → Prop, (∀ σ' H', N σ' H' → ∃ m', m' < m ∧ W (i + 1) m' σ' H') ∧ ∀ x H', (IteT K a).yld i H x H' → g x σ H' fun σ2 H2 => tb { D with nx := N, ct := N, bk := D.nx } σ2 H2) := by
  refine ⟨fun i m σ H => m = xs.length - i ∧ i ≤ xs.length ∧ Pv i σ H, ⟨xs.length, by simp, Nat.zero_le _, h0⟩, ?_⟩
  rintro i m σ H ⟨rfl, hi, p⟩
  have q := hl i σ H hi p
  by_cases lt : i < xs.length
  · refine .inr ⟨⟨xs, xs[i], q, by simp [lt]⟩, Pv (i + 1), fun σ' H' p' => ⟨xs.length - (i + 1), by omega, rfl, lt, p'⟩, ?_⟩
    rintro v H' ⟨T, x, rfl, nT, rfl, e⟩
    exact hs i x σ H T (e xs q) p nT
  · have z : xs.length = i := by omega
    exact .inl ⟨⟨xs, q, z⟩, hd σ H (z ▸ p)⟩
/-- x in a tuple or a list of data -/
def rInQ (K : PySem.W.Frag) : R2 := fun x y H Q => ∃ d ds, Dq K H x d ∧ (Dq K H y (.tuple ds) ∨ Dq K H y (.list ds)) ∧ PyData.canLayAll0 ds = true ∧ d.canLay0 = true ∧ d.depth ≤ 60 ∧ Q (.bl (ds.any fun z => PyData.eqv z d)) H
theorem op_inQ {X : Cx} (hu : X.A.units + 65 < cLine) : OpR X (compareOp .In) (rInQ X.K) := by
  intro pins s σ H x y v u Q I rx ry h
  obtain ⟨d, ds, hd, he, c1, c2, dp, q⟩ := h
  obtain ⟨as, r1, _⟩ := dq_reads I hd rx
  have room : X.A.units + 1 + min (PyData.depthAll ds) d.depth < cLine := by omega
  rcases he with he | he
  · obtain ⟨bs, r2, _⟩ := dq_reads I he ry
    exact SeqAt.in_tuple_reads r2 r1 c1 c2 room ⟨.bl _, H, I, rfl, q⟩
  · obtain ⟨bs, r2, _⟩ := dq_reads I he ry
    exact SeqAt.in_list_reads r2 r1 c1 c2 room ⟨.bl _, H, I, rfl, q⟩
section
variable {X : Cx} {K : PySem.W.Frag}
theorem kInQ (hu : X.A.units + 66 < cLine) (h : X.K = K := by rfl) : OpR X (compareOp .In) (rInQ K) := h ▸ op_inQ (by omega)
theorem kEnT {e : Expr} {t : TA} {p pos tpos : Pos} {elts : List Expr} {kk : Nat} (hg : Gl X "enumerate") (hm : X.mg "enumerate" = Option.none) (ha : PA X [e] t) (hs : starEach [e] X.env = [(false, eval e X.env)] := by rfl) (h : X.K = K := by rfl) :
    PI X (.Tuple elts kk tpos) (.Call (.Name "enumerate" p) [e] [] pos) (iEnumT K t) := h ▸ pi_enumT hg hm ha hs
theorem kZipA {e e2 : Expr} {t : TA} {p pos tpos : Pos} {elts : List Expr} {kk : Nat} (hg : Gl X "zip") (hm : X.mg "zip" = Option.none) (ha : PA X [e, e2] t)
    (hs : starEach [e, e2] X.env = (false, eval e X.env) :: starEach [e2] X.env := by rfl) (hp : (backTo pos (starEach [e2] X.env)).any (·.1) = false := by rfl) (h : X.K = K := by rfl) :
    PI X (.Tuple elts kk tpos) (.Call (.Name "zip" p) [e, e2] [] pos) (RZ.iZipA K t) := h ▸ RZ.pi_zipA hg hm ha hs hp
end
/-- a comprehension over zip of two tuples of one length -/
theorem lc_zipT {K : PySem.W.Frag} {a b : Addr} {xs ys : List V} {g : TG} {tt : TT} {te : TE} {vs : List Nat} {σ : L2.St} {H1 : Hp} {D : Addr} {Qd : Hp → Prop} (hxy : xs.length = ys.length) (Pv : Nat → Hp → Prop) (h0 : Pv 0 (upd H1 D (.lst []))) (hl : ∀ i H, i ≤ xs.length → Pv i H → SqT K H a xs ∧ SqT K H b ys)
    (hs : ∀ i x y H T, xs[i]? = some x → ys[i]? = some y → Pv i H → H T = Option.none → g (.ref T) (wipe σ vs) (upd H T (.tup [x, y])) fun σ2 H2 => wipe σ2 vs = wipe σ vs ∧ tt σ2 H2 fun b H3 =>
      if b = true then te σ2 H3 fun y H4 => ∃ acc, H4 D = some (.lst acc) ∧ acc.length < sizeLine ∧ Pv (i + 1) (upd H4 D (.lst (acc ++ [y]))) else Pv (i + 1) H3) (hd : ∀ H, Pv xs.length H → Qd H) :
    ∃ W : Nat → Nat → Hp → Prop, (∃ m, W 0 m (upd H1 D (.lst []))) ∧ ∀ i m H, W i m H →
      ((RZ.ItzT K a b).stop i H ∧ Qd H) ∨ ((RZ.ItzT K a b).go i H ∧ ∃ Nx : Hp → Prop, (∀ H', Nx H' → ∃ m', m' < m ∧ W (i + 1) m' H') ∧ ∀ x H', (RZ.ItzT K a b).yld i H x H' → g x (wipe σ vs) H' fun σ2 H2 => wipe σ2 vs = wipe σ vs ∧ tt σ2 H2 fun b H3 =>
        if b = true then te σ2 H3 fun y H4 => ∃ acc, H4 D = some (.lst acc) ∧ acc.length < sizeLine ∧ Nx (upd H4 D (.lst (acc ++ [y]))) else Nx H3) := by
  refine ⟨fun i m H => m = xs.length - i ∧ i ≤ xs.length ∧ Pv i H, ⟨xs.length, rfl, Nat.zero_le _, h0⟩, ?_⟩
  rintro i m H ⟨rfl, hi, p⟩
  obtain ⟨qx, qy⟩ := hl i H hi p
  by_cases lt : i < xs.length
  · have lt2 : i < ys.length := by omega
    have ex : xs[i]? = some xs[i] := List.getElem?_eq_getElem lt
    have ey : ys[i]? = some ys[i] := List.getElem?_eq_getElem lt2
    refine .inr ⟨⟨xs, ys, _, _, qx, qy, ex, ey⟩, Pv (i + 1), fun H' p' => ⟨xs.length - (i + 1), by omega, rfl, lt, p'⟩, ?_⟩
    rintro v H' ⟨T, x, y, rfl, nT, rfl, f1, f2⟩
    exact hs i x y H T (f1 xs qx) (f2 ys qy) p nT
  · have z : i = xs.length := by omega
    rw [z]
    exact .inl ⟨⟨xs, ys, qx, qy, .inl (Nat.le_refl _)⟩, hd H (z ▸ p)⟩
theorem yes_go {p q : Hp → Prop} {σ : L2.St} {H : Hp} (h : p H) : tYes σ H fun b H3 => if b = true then p H3 else q H3 := by
  unfold tYes
  simpa using h
/-- all([t for x, y in zip(tuple, tuple)]) -/
theorem ev_allZ {K : PySem.W.Frag} {σ : L2.St} {H : Hp} {te : TE} {ta : TA} {a b : Addr} {xs ys : List V} {i j : Nat} {vs : List Nat} (f : Nat → Bool) (h : ∀ H1, Evl.Ex H H1 → Evl.EvA ta σ H1 [.ref a, .ref b]) (hx : SqT K H a xs) (hy : SqT K H b ys) (hxy : xs.length = ys.length) (hz : xs.length ≤ 40000)
    (hw : ∀ x y, wipe (((wipe σ vs).set i (some x)).set j (some y)) vs = wipe σ vs)
    (he : ∀ (k : Nat) (x y : V) H1, Evl.Ex H H1 → xs[k]? = some x → ys[k]? = some y → Evl.Ev te (((wipe σ vs).set i (some x)).set j (some y)) H1 (.bl (f k))) :
    Evl.Ev (tCB (rAll K) (tCons (tLc (RZ.iZipA K ta) (gTup K 2 (gCons (gName i) (gCons (gName j) gNil))) tYes te vs) tNil)) σ H (.bl ((List.range xs.length).all f)) := by
  intro H0 e0 Q q
  refine to_cb (to_cons (h H0 e0 H0 (Evl.Ex.refl _) _ fun H1 e1 => ?_))
  have e01 := e0.trans e1
  refine ⟨a, b, xs, ys, rfl, .inr ⟨Evl.ex_t e01 hx, Evl.ex_t e01 hy, fun D hD => ?_⟩⟩
  refine lc_zipT (xs := xs) (ys := ys) hxy (fun n H' => Evl.Ex H1 H' ∧ H' D = some (.lst (((List.range n).map f).map V.bl))) ⟨Evl.Ex.new hD, upd_same⟩ (fun n H' _ p => ⟨Evl.ex_t (e01.trans p.1) hx, Evl.ex_t (e01.trans p.1) hy⟩) (fun n x y H' T hx' hy' p nT => ?_) (fun H' p => ?_)
  · obtain ⟨e2, hp⟩ := p
    have lt := (List.getElem?_eq_some_iff.mp hx').1
    have eT : Evl.Ex H' (upd H' T (.tup [x, y])) := Evl.Ex.new nT
    refine ⟨T, _, rfl, SqT.of upd_same, rfl, _, _, rfl, _, _, rfl, rfl, hw x y, ?_⟩
    refine yes_go ?_
    refine he n x y _ ((e01.trans e2).trans eT) hx' hy' _ (Evl.Ex.refl _) _ fun H3 e3 => ⟨_, e3 _ _ (eT _ _ hp), by rw [List.length_map, List.length_map, List.length_range, sizeLine_eq]; omega, ?_, ?_⟩
    · intro c o ec
      rw [upd_ne (ne_of_none ec hD)]
      exact e3 _ _ (eT _ _ (e2 _ _ ec))
    · rw [upd_same, List.range_succ, List.map_append, List.map_append]
      rfl
  · obtain ⟨e2, hp⟩ := p
    refine ⟨D, (List.range xs.length).map f, rfl, SqL.of hp, ?_⟩
    rw [all_id]
    exact q H' (e1.trans e2)
/-- a tuple, new or not -/
def EvP (te : TE) (σ : L2.St) (H : Hp) (xs : List V) : Prop := ∀ H1, Evl.Ex H H1 → ∀ Q : VK, (∀ p H2, Evl.Ex H1 H2 → H2 p = some (.tup xs) → Q (.ref p) H2) → te σ H1 Q
section
variable {K : PySem.W.Frag} {σ : L2.St} {H : Hp} {ta tb te : TE} {tl th : TO} {xs ys : List V}
theorem ep_of {a : Addr} (h : Evl.Ev te σ H (.ref a)) (ha : H a = some (.tup xs)) : EvP te σ H xs := fun H1 e Q q => h H1 e _ fun H2 e2 => q a H2 e2 ((e.trans e2) _ _ ha)
theorem ep_new (h : Evl.EvU te σ H xs) : EvP te σ H xs := fun H1 e Q q => h H1 e _ fun p H2 _ e2 hp => q p H2 e2 hp
theorem ep_cat (h1 : EvP ta σ H xs) (h2 : EvP tb σ H ys) (hz : xs.length + ys.length ≤ 100000) : EvP (tOp (rCatA K) ta tb) σ H (xs ++ ys) := fun H1 e Q q =>
  h1 H1 e _ fun p H2 e2 hp => h2 H2 (e.trans e2) _ fun p2 H3 e3 hp2 => ⟨p, p2, xs, ys, rfl, rfl, SqT.of (e3 _ _ hp), SqT.of hp2, by rw [sizeLine_eq]; omega,
    fun z => q p2 H3 (e2.trans e3) (by rw [z, List.nil_append]; exact hp2), fun _ z => q p H3 (e2.trans e3) (by rw [z, List.append_nil]; exact e3 _ _ hp), fun _ _ n nn => q n _ ((e2.trans e3).trans (Evl.Ex.new nn)) upd_same⟩
theorem ep_sl {lo hi : Option Int} (h : EvP te σ H xs) (h1 : ∀ H1, Evl.Ex H H1 → Evl.EvO tl σ H1 lo) (h2 : ∀ H1, Evl.Ex H H1 → Evl.EvO th σ H1 hi) : EvP (tSl (rSlA K) te tl th) σ H (cutV xs lo hi) := fun H1 e Q q =>
  h H1 e _ fun p H2 e2 hp => h1 H2 (e.trans e2) H2 (Evl.Ex.refl _) _ fun H3 e3 => h2 H3 ((e.trans e2).trans e3) H3 (Evl.Ex.refl _) _ fun H4 e4 => by
    have e24 := e3.trans e4
    refine ⟨p, xs, rfl, SqT.of (e24 _ _ hp), fun w => ?_, fun _ n nn => q n _ ((e2.trans e24).trans (Evl.Ex.new nn)) upd_same⟩
    refine q p H4 (e2.trans e24) ?_
    rw [show cutV xs lo hi = xs from ?_]
    · exact e24 _ _ hp
    · unfold cutV
      rw [w.1, w.2, List.drop_zero, Nat.sub_zero, List.take_length]
theorem cut_to (xs : List V) (i : Nat) (h : i ≤ xs.length) : cutV xs Option.none (some (i : Int)) = xs.take i := by
  unfold cutV
  rw [HT.sIx_nat]
  show (xs.drop 0).take (min i xs.length - 0) = _
  rw [List.drop_zero, Nat.sub_zero, Nat.min_eq_left h]
theorem cut_from (xs : List V) (i : Nat) (h : i ≤ xs.length) : cutV xs (some (i : Int)) Option.none = xs.drop i := by
  unfold cutV
  rw [HT.sIx_nat, Nat.min_eq_left h]
  show (xs.drop i).take (xs.length - i) = _
  rw [List.take_of_length_le (by rw [List.length_drop]; omega)]
theorem cut_set (xs : List V) (i : Nat) (w : V) (h : i < xs.length) : xs.take i ++ [w] ++ xs.drop (i + 1) = xs.set i w := by
  rw [List.set_eq_take_append_cons_drop, if_pos h, List.append_assoc]
  rfl
end
end On

/-! Du: defs read on data alone. What lies in the heap is said once, here; a def's body then is a relation between data. -/
namespace Du
open PySem PySem.Spec PyProof.Rows L2 On
mutual
/-- v is data d in the heap H -/
inductive Da (K : PySem.W.Frag) (H : Hp) : V → PyData → Prop
  | non : Da K H .non .none
  | bl (b : Bool) : Da K H (.bl b) (.bool b)
  | int (i : Int) : Da K H (.int i) (.int i)
  | str (x : Str) : Da K H (.str x) (.str x)
  | lst {a : Addr} {xs : List V} {ds : List PyData} : H a = some (.lst xs) → a ≠ sysModules → DaAll K H xs ds → Da K H (.ref a) (.list ds)
  | tup {a : Addr} {xs : List V} {ds : List PyData} : SqT K H a xs → DaAll K H xs ds → Da K H (.ref a) (.tuple ds)
  | dct {a : Addr} {kvs : List (Key × V)} {ds : List PyData} : H a = some (.dK kvs) → DaAll K H (kvs.map Prod.snd) ds → Da K H (.ref a) (dictD (kvs.map Prod.fst) ds)
inductive DaAll (K : PySem.W.Frag) (H : Hp) : List V → List PyData → Prop
  | nil : DaAll K H [] []
  | cons {v : V} {vs : List V} {d : PyData} {ds : List PyData} : Da K H v d → DaAll K H vs ds → DaAll K H (v :: vs) (d :: ds)
end
section
variable {K : PySem.W.Frag} {H H' : Hp}
theorem daAll_len : ∀ {vs : List V} {ds : List PyData}, DaAll K H vs ds → vs.length = ds.length
  | _, _, .nil => rfl
  | _, _, .cons _ t => congrArg (· + 1) (daAll_len t)
theorem daAll_vat : ∀ {vs : List V} {ds : List PyData} {i : Nat} {v : V}, DaAll K H vs ds → vs[i]? = some v → ∃ d, ds[i]? = some d ∧ Da K H v d
  | _, _, _, _, .nil, e => by simp at e
  | _, _, 0, _, .cons h _, e => by
    simp at e
    subst e
    exact ⟨_, rfl, h⟩
  | _, _, i + 1, v, .cons _ t, e => by
    obtain ⟨d, h1, h2⟩ := daAll_vat (i := i) (v := v) t (by simpa using e)
    exact ⟨d, by simpa using h1, h2⟩
theorem daAll_at : ∀ {vs : List V} {ds : List PyData} {i : Nat} {d : PyData}, DaAll K H vs ds → ds[i]? = some d → ∃ v, vs[i]? = some v ∧ Da K H v d
  | _, _, _, _, .nil, e => by simp at e
  | _, _, 0, _, .cons h _, e => by
    simp at e
    subst e
    exact ⟨_, rfl, h⟩
  | _, _, i + 1, d, .cons _ t, e => by
    obtain ⟨v, h1, h2⟩ := daAll_at (i := i) (d := d) t (by simpa using e)
    exact ⟨v, by simpa using h1, h2⟩
theorem daAll_app : ∀ {vs ws : List V} {ds es : List PyData}, DaAll K H vs ds → DaAll K H ws es → DaAll K H (vs ++ ws) (ds ++ es)
  | _, _, _, _, .nil, h => h
  | _, _, _, _, .cons a b, h => .cons a (daAll_app b h)
theorem daAll_take : ∀ (n : Nat) {vs : List V} {ds : List PyData}, DaAll K H vs ds → DaAll K H (vs.take n) (ds.take n)
  | 0, _, _, _ => .nil
  | _ + 1, _, _, .nil => .nil
  | n + 1, _, _, .cons a b => .cons a (daAll_take n b)
theorem daAll_drop : ∀ (n : Nat) {vs : List V} {ds : List PyData}, DaAll K H vs ds → DaAll K H (vs.drop n) (ds.drop n)
  | 0, _, _, h => h
  | _ + 1, _, _, .nil => .nil
  | n + 1, _, _, .cons _ b => daAll_drop n b
theorem daAll_set : ∀ {vs : List V} {ds : List PyData} (i : Nat) {v : V} {d : PyData}, DaAll K H vs ds → Da K H v d → DaAll K H (vs.set i v) (ds.set i d)
  | _, _, _, _, _, .nil, _ => .nil
  | _, _, 0, _, _, .cons _ b, h => .cons h b
  | _, _, i + 1, _, _, .cons a b, h => .cons a (daAll_set i b h)
theorem daAll_erase : ∀ {vs : List V} {ds : List PyData} (i : Nat), DaAll K H vs ds → DaAll K H (vs.eraseIdx i) (ds.eraseIdx i)
  | _, _, _, .nil => .nil
  | _, _, 0, .cons _ b => b
  | _, _, i + 1, .cons a b => .cons a (daAll_erase i b)
theorem daAll_ints : ∀ (ns : List Int), DaAll K H (ns.map V.int) (ns.map PyData.int)
  | [] => .nil
  | n :: ns => .cons (.int n) (daAll_ints ns)
theorem da_tup {v : V} {ds : List PyData} (h : Da K H v (.tuple ds)) : ∃ a xs, v = .ref a ∧ SqT K H a xs ∧ DaAll K H xs ds := by
  cases h with
  | tup h1 h2 => exact ⟨_, _, rfl, h1, h2⟩
theorem da_lst {v : V} {ds : List PyData} (h : Da K H v (.list ds)) : ∃ a xs, v = .ref a ∧ H a = some (.lst xs) ∧ a ≠ sysModules ∧ DaAll K H xs ds := by
  cases h with
  | lst h1 h2 h3 => exact ⟨_, _, rfl, h1, h2, h3⟩
theorem da_int {v : V} {i : Int} (h : Da K H v (.int i)) : v = .int i := by
  cases h
  rfl
theorem da_bl {v : V} {i : Bool} (h : Da K H v (.bool i)) : v = .bl i := by
  cases h
  rfl
mutual
theorem da_same (k : Same H H') : ∀ {v : V} {d : PyData}, Da K H v d → Da K H' v d
  | _, _, .non => .non
  | _, _, .bl b => .bl b
  | _, _, .int i => .int i
  | _, _, .str x => .str x
  | _, _, .lst h1 h2 h3 => .lst (k _ _ h1) h2 (daAll_same k h3)
  | _, _, .tup h1 h3 => .tup (Evl.ex_t k h1) (daAll_same k h3)
  | _, _, .dct h1 h3 => .dct (k _ _ h1) (daAll_same k h3)
theorem daAll_same (k : Same H H') : ∀ {vs : List V} {ds : List PyData}, DaAll K H vs ds → DaAll K H' vs ds
  | _, _, .nil => .nil
  | _, _, .cons a b => .cons (da_same k a) (daAll_same k b)
end
end

/-! ### what the library's Reads says of it -/
section
variable {X : Cx} {pins : List (Addr × Obj)} {σ : L2.St} {H : Hp} {s : Shared}
mutual
theorem da_reads (I : Inv X pins σ H s) : ∀ {v : V} {d : PyData} {u : Value}, Da X.K H v d → RelV v u → ∃ as, Reads s.heap u d as ∧ sysModules ∉ as
  | _, _, _, .non, r => by
    cases r
    exact ⟨_, Reads.none, by simp⟩
  | _, _, _, .bl b, r => by
    cases r
    exact ⟨_, Reads.bool b, by simp⟩
  | _, _, _, .int i, r => by
    obtain ⟨t, rfl⟩ := r
    exact ⟨_, Reads.int i t, by simp⟩
  | _, _, _, .str x, r => by
    obtain ⟨t, rfl⟩ := r
    exact ⟨_, Reads.str x t, by simp⟩
  | _, _, _, .lst h1 h2 h3, r => by
    cases r
    obtain ⟨its, rv, ⟨o, n, ho, hc, _, hd⟩, _⟩ := I.list (SqL.of h1)
    obtain ⟨as, hr, hn⟩ := daAll_reads I h3 rv
    refine ⟨_, Reads.list ho hc hd hr, fun z => ?_⟩
    rcases List.mem_cons.mp z with z | z
    · exact h2 z.symm
    · exact hn z
  | _, _, _, .tup h1 h3, r => by
    cases r
    obtain ⟨its, rv, ⟨o, ho, hc, n, hd⟩, _⟩ := I.tuple h1
    obtain ⟨as, hr, hn⟩ := daAll_reads I h3 rv
    exact ⟨_, Reads.tuple ho hc hd hr, hn⟩
  | _, _, _, @Da.dct _ _ a kvs ds h1 h3, r => by
    cases r
    obtain ⟨_, hm, vs, kv, o, es, ep, ho, hx, hd, hk, hp, _⟩ := dk_of I.hok h1
    obtain ⟨as, hr, hn⟩ := daAll_reads I h3 (pairs_vals hp kv)
    have hl : ((kvs.map Prod.fst).map keyD).length = ds.length := by
      rw [← daAll_len h3, List.length_map, List.length_map, List.length_map]
    refine ⟨a :: [] ++ as, Reads.dict ho hx.1 hd ?_ ?_, ?_⟩
    · rw [zip_fst hl]
      exact reads_keys hp kv
    · rw [zip_snd hl]
      exact hr
    · intro z
      have z : sysModules ∈ a :: as := z
      rcases List.mem_cons.mp z with z | z
      · rw [← z] at hm
        exact absurd hm (by decide)
      · exact hn z
theorem daAll_reads (I : Inv X pins σ H s) : ∀ {vs : List V} {ds : List PyData} {us : List Value}, DaAll X.K H vs ds → Vals vs us → ∃ as, ReadsAll s.heap us ds as ∧ sysModules ∉ as
  | _, _, _, .nil, .nil => ⟨_, ReadsAll.nil, by simp⟩
  | _, _, _, .cons a b, .cons r1 r2 => by
    obtain ⟨as, q1, n1⟩ := da_reads I a r1
    obtain ⟨bs, q2, n2⟩ := daAll_reads I b r2
    refine ⟨_, ReadsAll.cons q1 q2, fun z => ?_⟩
    rcases List.mem_append.mp z with z | z
    · exact n1 z
    · exact n2 z
end
end

/-! ### the heap without what may change -/
def offs (O : List Addr) (H : Hp) : Hp := fun a => if a ∈ O then Option.none else H a
section
variable {O O' : List Addr} {H H' : Hp} {a : Addr} {o : HO}
theorem offs_ne (h : a ∉ O) : offs O H a = H a := if_neg h
theorem offs_in (h : a ∈ O) : offs O H a = Option.none := if_pos h
theorem offs_some (e : offs O H a = some o) : a ∉ O ∧ H a = some o := by
  by_cases h : a ∈ O
  · rw [offs_in h] at e
    cases e
  · rw [offs_ne h] at e
    exact ⟨h, e⟩
theorem offs_sub : Same (offs O H) H := fun _ _ e => (offs_some e).2
theorem offs_same (h : ∀ a o, a ∉ O → H a = some o → H' a = some o) (hs : ∀ a, a ∈ O' → H a ≠ Option.none → a ∈ O) : Same (offs O H) (offs O' H') := fun a o e => by
  obtain ⟨n, e⟩ := offs_some e
  rw [offs_ne fun z => n (hs a z (by rw [e]; simp))]
  exact h a o n e
theorem offs_less (h : ∀ a, a ∈ O' → a ∈ O) : Same (offs O H) (offs O' H) := offs_same (fun _ _ _ e => e) fun a z _ => h a z
theorem offs_new {p : Addr} (n : H p = Option.none) (k : Same H H') : Same (offs O H) (offs (p :: O) H') := offs_same (fun a o _ e => k a o e) fun a z nn => by
  rcases List.mem_cons.mp z with z | z
  · rw [z] at nn
    exact absurd n nn
  · exact z
end
/-- what a def's body stands on: the heap at its entry, what may change there (the bag too), the bag, its cells -/
structure Bs where
  H0 : Hp
  O0 : List Addr
  b : List Addr
  l : Addr
/-- what is known of a name: nothing; data; a list of its own; the bag -/
inductive DV where
  | un
  | v (d : PyData)
  | own (ds : List PyData)
  | bag
/-- a value that is data, or a list of one's own -/
def Nq (K : PySem.W.Frag) (O : List Addr) (H : Hp) (v : V) (d : PyData) : Prop :=
  Da K (offs O H) v d ∨ ∃ a xs ds, v = .ref a ∧ d = .list ds ∧ a ≠ sysModules ∧ H a = some (.lst xs) ∧ DaAll K (offs O H) xs ds
def Nr (K : PySem.W.Frag) (c : Bs) (O : List Addr) (H : Hp) (v : V) (d : PyData) : Prop :=
  Da K (offs O H) v d ∨ ∃ a xs ds, v = .ref a ∧ d = .list ds ∧ a ≠ sysModules ∧ c.H0 a = Option.none ∧ H a = some (.lst xs) ∧ DaAll K (offs O H) xs ds
theorem Nr.nq {K : PySem.W.Frag} {c : Bs} {O : List Addr} {H : Hp} {v : V} {d : PyData} (h : Nr K c O H v d) : Nq K O H v d := by
  rcases h with h | ⟨a, xs, ds, h1, h2, h3, _, h4, h5⟩
  · exact .inl h
  · exact .inr ⟨a, xs, ds, h1, h2, h3, h4, h5⟩
theorem Nq.da {K : PySem.W.Frag} {O : List Addr} {H : Hp} {v : V} {d : PyData} (h : Nq K O H v d) : Da K H v d := by
  rcases h with h | ⟨a, xs, ds, rfl, rfl, h3, h4, h5⟩
  · exact da_same offs_sub h
  · exact .lst h4 h3 (daAll_same offs_sub h5)
def SlotR (K : PySem.W.Frag) (c : Bs) (O : List Addr) (H : Hp) : DV → Option (Option V) → Prop
  | .un, _ => True
  | .v d, s => ∃ x, s = some (some x) ∧ Da K (offs O H) x d
  | .own ds, s => ∃ a xs, s = some (some (.ref a)) ∧ a ∈ O ∧ c.H0 a = Option.none ∧ a ≠ sysModules ∧ H a = some (.lst xs) ∧ DaAll K (offs O H) xs ds
  | .bag, s => ∃ a, s = some (some (.ref a)) ∧ c.b = [a]
structure Rel (K : PySem.W.Frag) (c : Bs) (F : Hp) (env : List DV) (O : List Addr) (σ : L2.St) (H : Hp) : Prop where
  dom : ∀ a ∈ O, ∃ o, H a = some o
  sub : ∀ a ∈ c.O0, a ∈ O
  ent : ∀ a ∈ c.O0, ∃ o, c.H0 a = some o
  but : ∀ a o, a ∉ c.b → c.H0 a = some o → H a = some o
  bg : ∀ a ∈ c.b, a ∈ c.O0 ∧ Bag H a c.l ∧ c.l ∉ O
  sys : Sys H
  nsys : sysModules ∉ O
  fz : Same F (offs O H)
  sl : ∀ (i : Nat) (e : DV), env[i]? = some e → SlotR K c O H e (σ[i]?)
  ap : ∀ (i j : Nat) (ds es : List PyData) (a : Addr), i ≠ j → env[i]? = some (.own ds) → env[j]? = some (.own es) → σ[i]? = some (some (.ref a)) → σ[j]? ≠ some (some (.ref a))
  len : σ.length = env.length
/-- what an expression may do: lay new things, turn the bag -/
structure Gx (c : Bs) (H H' : Hp) : Prop where
  kp : ∀ a o, a ∉ c.b → H a = some o → H' a = some o
  bg : ∀ a ∈ c.b, Bag H' a c.l
section
variable {K : PySem.W.Frag} {c : Bs} {F : Hp} {env : List DV} {O : List Addr} {σ : L2.St} {H H' H1 H2 : Hp} {v : V} {d : PyData}
theorem Rel.refl (R : Rel K c F env O σ H) : Gx c H H := ⟨fun _ _ _ e => e, fun a h => (R.bg a h).2.1⟩
theorem Gx.trans (g : Gx c H H1) (g' : Gx c H1 H2) : Gx c H H2 := ⟨fun a o n e => g'.kp a o n (g.kp a o n e), g'.bg⟩
theorem Rel.same (R : Rel K c F env O σ H) (k : Same H H') : Gx c H H' := ⟨fun a o _ e => k a o e, fun a h => (R.bg a h).2.1.same k⟩
theorem Rel.bO (R : Rel K c F env O σ H) : ∀ a ∈ c.b, a ∈ O := fun a h => R.sub a (R.bg a h).1
theorem Rel.nb (R : Rel K c F env O σ H) {a : Addr} (n : a ∉ O) : a ∉ c.b := fun z => n (R.bO a z)
theorem Rel.go (R : Rel K c F env O σ H) (g : Gx c H H') : Same (offs O H) (offs O H') := offs_same (fun a o n e => g.kp a o (R.nb n) e) fun _ z _ => z
theorem Rel.n0 (R : Rel K c F env O σ H) {a : Addr} (h : c.H0 a = Option.none) : a ∉ c.O0 ∧ a ∉ c.b := by
  have h1 : a ∉ c.O0 := fun z => by
    obtain ⟨o, e⟩ := R.ent a z
    rw [h] at e
    cases e
  exact ⟨h1, fun z => h1 (R.bg a z).1⟩
theorem Rel.h0 (R : Rel K c F env O σ H) {a : Addr} (h : H a = Option.none) : c.H0 a = Option.none := by
  cases e : c.H0 a with
  | none => rfl
  | some o =>
    by_cases hb : a ∈ c.b
    · obtain ⟨o, e⟩ := R.dom a (R.bO a hb)
      rw [h] at e
      cases e
    · have e2 := R.but a o hb e
      rw [h] at e2
      cases e2
theorem Rel.gx (R : Rel K c F env O σ H) (g : Gx c H H') : Rel K c F env O σ H' where
  dom := fun a h => by
    by_cases hb : a ∈ c.b
    · obtain ⟨⟨p, q, r, cs, e, _⟩, _⟩ := g.bg a hb
      exact ⟨_, e⟩
    · obtain ⟨o, e⟩ := R.dom a h
      exact ⟨o, g.kp a o hb e⟩
  sub := R.sub
  ent := R.ent
  but := fun a o n e => g.kp a o n (R.but a o n e)
  bg := fun a h => ⟨(R.bg a h).1, g.bg a h, (R.bg a h).2.2⟩
  sys := by
    obtain ⟨φ, e⟩ := R.sys
    exact ⟨φ, g.kp _ _ (R.nb R.nsys) e⟩
  nsys := R.nsys
  fz := R.fz.trans (R.go g)
  sl := fun i e he => by
    have q := R.sl i e he
    cases e with
    | un => trivial
    | v d =>
      obtain ⟨x, h1, h2⟩ := q
      exact ⟨x, h1, da_same (R.go g) h2⟩
    | own ds =>
      obtain ⟨a, xs, h1, h2, h3, h5, h6, h7⟩ := q
      exact ⟨a, xs, h1, h2, h3, h5, g.kp _ _ (R.n0 h3).2 h6, daAll_same (R.go g) h7⟩
    | bag => exact q
  ap := R.ap
  len := R.len
theorem Nr.gx (h : Nr K c O H v d) (R : Rel K c F env O σ H) (g : Gx c H H') : Nr K c O H' v d := by
  rcases h with h | ⟨a, xs, ds, h1, h2, h3, h4, h6, h7⟩
  · exact .inl (da_same (R.go g) h)
  · exact .inr ⟨a, xs, ds, h1, h2, h3, h4, g.kp _ _ (R.n0 h4).2 h6, daAll_same (R.go g) h7⟩
theorem Rel.fzm {F' : Hp} (R : Rel K c F' env O σ H) (k : Same F F') : Rel K c F env O σ H := { R with fz := k.trans R.fz }
theorem Rel.fzn (R : Rel K c F env O σ H) : Rel K c (offs O H) env O σ H := { R with fz := fun _ _ e => e }
/-- a name is stored -/
theorem Rel.set (R : Rel K c F env O σ H) (i : Nat) {x : V} (h : Da K (offs O H) x d) : Rel K c F (env.set i (.v d)) O (σ.set i (some x)) H :=
  { R with
    sl := fun j e he => by
      by_cases hj : j = i
      · subst hj
        by_cases hl : j < env.length
        · rw [List.getElem?_set_self hl] at he
          cases he
          exact ⟨x, by rw [List.getElem?_set_self (by rw [R.len]; exact hl)], h⟩
        · rw [List.getElem?_eq_none (by rw [List.length_set]; omega)] at he
          cases he
      · rw [List.getElem?_set_ne (Ne.symm hj)] at he ⊢
        exact R.sl j e he
    ap := fun j k ds es a hjk h1 h2 h3 => by
      by_cases hj : j = i
      · subst hj
        by_cases hl : j < env.length
        · rw [List.getElem?_set_self hl] at h1
          cases h1
        · rw [List.getElem?_eq_none (by rw [List.length_set]; omega)] at h1
          cases h1
      · by_cases hk : k = i
        · subst hk
          by_cases hl : k < env.length
          · rw [List.getElem?_set_self hl] at h2
            cases h2
          · rw [List.getElem?_eq_none (by rw [List.length_set]; omega)] at h2
            cases h2
        · rw [List.getElem?_set_ne (Ne.symm hj)] at h1 h3
          rw [List.getElem?_set_ne (Ne.symm hk)] at h2 ⊢
          exact R.ap j k ds es a hjk h1 h2 h3
    len := by rw [List.length_set, List.length_set, R.len] }
/-- a new list of one's own is stored -/
theorem Rel.setL (R : Rel K c F env O σ H) (i : Nat) {p : Addr} {ys : List V} {ds : List PyData} (g : Gx c H H') (n : H p = Option.none) (e : H' p = some (.lst ys)) (hp : p ≠ sysModules) (h : DaAll K (offs (p :: O) H') ys ds) :
    Rel K c F (env.set i (.own ds)) (p :: O) (σ.set i (some (.ref p))) H' := by
  have R' := R.gx g
  have pO : p ∉ O := fun z => by
    obtain ⟨o, eo⟩ := R.dom p z
    rw [n] at eo
    cases eo
  have k : Same (offs O H) (offs (p :: O) H') := offs_same (fun a o n' e' => g.kp a o (R.nb n') e') fun a z nn => by
    rcases List.mem_cons.mp z with z | z
    · rw [z] at nn
      exact absurd n nn
    · exact z
  exact {
    dom := fun a h => by
      rcases List.mem_cons.mp h with z | z
      · rw [z]
        exact ⟨_, e⟩
      · exact R'.dom a z
    sub := fun a h => List.mem_cons_of_mem _ (R.sub a h)
    ent := R.ent
    but := R'.but
    bg := fun a h => ⟨(R.bg a h).1, g.bg a h, fun z => by
      rcases List.mem_cons.mp z with z | z
      · obtain ⟨⟨_, _, _, cs, _, e2, _⟩, _⟩ := (R.bg a h).2.1
        rw [z, n] at e2
        cases e2
      · exact (R.bg a h).2.2 z⟩
    sys := R'.sys
    nsys := fun z => by
      rcases List.mem_cons.mp z with z | z
      · exact hp z.symm
      · exact R.nsys z
    fz := R.fz.trans k
    sl := fun j e0 he => by
      by_cases hj : j = i
      · subst hj
        by_cases hl : j < env.length
        · rw [List.getElem?_set_self hl] at he
          cases he
          exact ⟨p, ys, by rw [List.getElem?_set_self (by rw [R.len]; exact hl)], List.mem_cons_self, R.h0 n, hp, e, h⟩
        · rw [List.getElem?_eq_none (by rw [List.length_set]; omega)] at he
          cases he
      · rw [List.getElem?_set_ne (Ne.symm hj)] at he ⊢
        have q := R.sl j e0 he
        cases e0 with
        | un => trivial
        | v d =>
          obtain ⟨x, h1, h2⟩ := q
          exact ⟨x, h1, da_same k h2⟩
        | own ds =>
          obtain ⟨a, xs, h1, h2, h3, h5, h6, h7⟩ := q
          exact ⟨a, xs, h1, List.mem_cons_of_mem _ h2, h3, h5, g.kp _ _ (R.n0 h3).2 h6, daAll_same k h7⟩
        | bag => exact q
    ap := fun j m ds es a hjk h1 h2 h3 => by
      by_cases hj : j = i
      · subst hj
        have hm : m ≠ j := fun z => hjk z.symm
        rw [List.getElem?_set_ne (Ne.symm hm)] at h2 ⊢
        intro z
        by_cases hl : j < σ.length
        · rw [List.getElem?_set_self hl] at h3
          cases h3
          obtain ⟨a', xs, q1, q2, _⟩ := R.sl m _ h2
          rw [z] at q1
          cases q1
          exact pO q2
        · rw [List.getElem?_eq_none (by rw [List.length_set]; omega)] at h3
          cases h3
      · rw [List.getElem?_set_ne (Ne.symm hj)] at h1 h3
        by_cases hm : m = i
        · subst hm
          intro z
          by_cases hl : m < σ.length
          · rw [List.getElem?_set_self hl] at z
            cases z
            obtain ⟨a', xs, q1, q2, _⟩ := R.sl j _ h1
            rw [h3] at q1
            cases q1
            exact pO q2
          · rw [List.getElem?_eq_none (by rw [List.length_set]; omega)] at z
            cases z
        · rw [List.getElem?_set_ne (Ne.symm hm)] at h2 ⊢
          exact R.ap j m ds es a hjk h1 h2 h3
    len := by rw [List.length_set, List.length_set, R.len] }
/-- a list of one's own changes -/
theorem Rel.mut (R : Rel K c F env O σ H) {i : Nat} {ds es : List PyData} {a : Addr} {ys : List V} (hi : env[i]? = some (.own ds)) (hs : σ[i]? = some (some (.ref a))) (h : DaAll K (offs O H) ys es) :
    Rel K c F (env.set i (.own es)) O σ (upd H a (.lst ys)) := by
  obtain ⟨a', xs, q1, q2, q3, q5, q6, q7⟩ := R.sl i _ hi
  have q4 := (R.n0 q3).2
  rw [hs] at q1
  cases q1
  have hl : i < env.length := (List.getElem?_eq_some_iff.mp hi).1
  have k : Same (offs O H) (offs O (upd H a (.lst ys))) := offs_same (fun b o n e => by
    rw [upd_ne (fun z => n (by rw [z]; exact q2))]
    exact e) fun _ z _ => z
  have ns : a ≠ sysModules := q5
  exact {
    dom := fun b hb => by
      by_cases z : b = a
      · exact ⟨.lst ys, by rw [z, upd_same]⟩
      · rw [upd_ne z]
        exact R.dom b hb
    sub := R.sub
    ent := R.ent
    but := fun b o n e => by
      by_cases z : b = a
      · rw [z, q3] at e
        cases e
      · rw [upd_ne z]
        exact R.but b o n e
    bg := fun b hb => ⟨(R.bg b hb).1, (R.bg b hb).2.1.upd (fun z => q4 (by rw [z]; exact hb)) (fun z => (R.bg b hb).2.2 (by rw [← z]; exact q2)) q6, (R.bg b hb).2.2⟩
    sys := by
      obtain ⟨φ, e⟩ := R.sys
      exact ⟨φ, by rw [upd_ne (Ne.symm ns)]; exact e⟩
    nsys := R.nsys
    fz := R.fz.trans k
    sl := fun j e0 he => by
      by_cases hj : j = i
      · subst hj
        rw [List.getElem?_set_self hl] at he
        cases he
        exact ⟨a, ys, hs, q2, q3, q5, upd_same, daAll_same k h⟩
      · rw [List.getElem?_set_ne (Ne.symm hj)] at he
        have q := R.sl j e0 he
        cases e0 with
        | un => trivial
        | v d =>
          obtain ⟨x, h1, h2⟩ := q
          exact ⟨x, h1, da_same k h2⟩
        | own ds' =>
          obtain ⟨b, zs, h1, h2, h3, h5, h6, h7⟩ := q
          have nba : b ≠ a := fun z => by
            rw [z] at h1
            exact R.ap i j _ _ a (Ne.symm hj) hi he hs h1
          exact ⟨b, zs, h1, h2, h3, h5, by rw [upd_ne nba]; exact h6, daAll_same k h7⟩
        | bag => exact q
    ap := fun j m ds' es' b hjm h1 h2 h3 => by
      have back : ∀ (j : Nat) (ds' : List PyData), (env.set i (.own es))[j]? = some (.own ds') → ∃ d2, env[j]? = some (.own d2) := fun j ds' e => by
        by_cases z : j = i
        · exact ⟨ds, by rw [z]; exact hi⟩
        · rw [List.getElem?_set_ne (Ne.symm z)] at e
          exact ⟨_, e⟩
      obtain ⟨_, g1⟩ := back j _ h1
      obtain ⟨_, g2⟩ := back m _ h2
      exact R.ap j m _ _ b hjm g1 g2 h3
    len := by rw [List.length_set, R.len] }
end
end Du

/-! Readings on data: expressions, tests, arguments, statements, loops, comprehensions. -/
namespace Du
open PySem PySem.Spec PyProof.Rows L2 On
/-- what an expression does on data: it comes to some value that the wish takes -/
abbrev ME := List DV → (PyData → Prop) → Prop
abbrev MT := List DV → (Bool → Prop) → Prop
abbrev MA := List DV → (List DV → Prop) → Prop
abbrev MI := List DV → (List PyData → Prop) → Prop
abbrev MG := PyData → List DV → (List DV → Prop) → Prop
abbrev MGs := List PyData → List DV → (List DV → Prop) → Prop
structure DE where
  nx : List DV → Prop
  rt : PyData → Prop
  bk : List DV → Prop := fun _ => False
  ct : List DV → Prop := fun _ => False
abbrev MS := List DV → DE → Prop
section
variable (K : PySem.W.Frag) (c : Bs)
def up (m : ME) : TE := fun σ H Q => ∃ F env O k, Rel K c F env O σ H ∧ m env k ∧ ∀ d x H', k d → Gx c H H' → Da K (offs O H') x d → Q x H'
def upN (m : ME) : TE := fun σ H Q => ∃ F env O k, Rel K c F env O σ H ∧ m env k ∧ ∀ d x H', k d → Gx c H H' → Nr K c O H' x d → Q x H'
/-- a new list -/
def upL (m : ME) : TE := fun σ H Q => ∃ F env O k, Rel K c F env O σ H ∧ m env k ∧ ∀ d p ys ds H', k d → d = .list ds → Gx c H H' → H p = Option.none → H' p = some (.lst ys) → p ≠ sysModules → DaAll K (offs (p :: O) H') ys ds → Q (.ref p) H'
def upT (m : MT) : TT := fun σ H Q => ∃ F env O k, Rel K c F env O σ H ∧ m env k ∧ ∀ b H', k b → Gx c H H' → Q b H'
def ArgR (O : List Addr) (H : Hp) (x : V) : DV → Prop
  | .v d => Da K (offs O H) x d
  | .bag => ∃ a, x = .ref a ∧ c.b = [a]
  | _ => False
def ArgN (O : List Addr) (H : Hp) (x : V) : DV → Prop
  | .v d => Nr K c O H x d
  | _ => False
def upA (m : MA) : TA := fun σ H Q => ∃ F env O k, Rel K c F env O σ H ∧ m env k ∧ ∀ as xs H', k as → Gx c H H' → Paired (ArgR K c O H') xs as → Q xs H'
def upAN (m : MA) : TA := fun σ H Q => ∃ F env O k, Rel K c F env O σ H ∧ m env k ∧ ∀ as xs H', k as → Gx c H H' → Paired (ArgN K c O H') xs as → Q xs H'
/-- what a loop goes over, as long as the things stay -/
def Walk (O : List Addr) (H : Hp) (J : It) (ds : List PyData) : Prop := ∀ O2 H2, (∀ a ∈ O2, ∃ o, H2 a = some o) → Same (offs O H) (offs O2 H2) →
  (∀ (i : Nat) d, ds[i]? = some d → J.go i H2 ∧ ∀ x H3, J.yld i H2 x H3 → Same H2 H3 ∧ Da K (offs O2 H3) x d) ∧ J.stop ds.length H2
def upI (m : MI) : TI := fun σ H R => ∃ F env O k, Rel K c F env O σ H ∧ m env k ∧ ∀ ds J H', k ds → Gx c H H' → Walk K O H' J ds → R J H'
def upG (ss : List Nat) (g : MG) : TG := fun x σ H Q => ∃ F env O d k, Rel K c F env O σ H ∧ Da K (offs O H) x d ∧ g d env k ∧ ∀ env' σ', k env' → Rel K c F env' O σ' H → (∀ j : Nat, j ∉ ss → σ'[j]? = σ[j]?) → σ'.length = σ.length → Q σ' H
def upGs (ss : List Nat) (g : MGs) : TGs := fun xs σ H Q => ∃ F env O ds k, Rel K c F env O σ H ∧ DaAll K (offs O H) xs ds ∧ g ds env k ∧ ∀ env' σ', k env' → Rel K c F env' O σ' H → (∀ j : Nat, j ∉ ss → σ'[j]? = σ[j]?) → σ'.length = σ.length → Q σ' H
structure RetR (x : V) (d : PyData) (H' : Hp) : Prop where
  but : ∀ a o, a ∉ c.b → c.H0 a = some o → H' a = some o
  bg : ∀ a ∈ c.b, Bag H' a c.l
  da : Da K (offs c.O0 H') x d
def upS (B : MS) : TS := fun D σ H => ∃ F env O DD, Rel K c F env O σ H ∧ B env DD ∧ (∀ env' O' σ' H', DD.nx env' → Rel K c F env' O' σ' H' → D.nx σ' H') ∧
  (∀ env' O' σ' H', DD.bk env' → Rel K c F env' O' σ' H' → D.bk σ' H') ∧ (∀ env' O' σ' H', DD.ct env' → Rel K c F env' O' σ' H' → D.ct σ' H') ∧ (∀ d x H', DD.rt d → RetR K c x d H' → D.rt x H')
end
/-! ### weaker readings -/
section
variable {X : Cx}
theorem pe_mono {e : Expr} {t t' : TE} (h : PE X e t) (w : ∀ σ H Q, t' σ H Q → t σ H Q) : PE X e t' := ⟨fun pins s σ H Q I q => h.run pins s σ H Q I (w _ _ _ q)⟩
theorem pt_mono {e : Expr} {t t' : TT} (h : PT X e t) (w : ∀ σ H Q, t' σ H Q → t σ H Q) : PT X e t' := ⟨fun pins s σ H Q I q => h.run pins s σ H Q I (w _ _ _ q)⟩
theorem pw_mono {e : Expr} {t t' : TT} (h : PW X e t) (w : ∀ σ H Q, t' σ H Q → t σ H Q) : PW X e t' := ⟨fun wh pins s σ H Q I q => h.run wh pins s σ H Q I (w _ _ _ q)⟩
theorem pa_mono {e : List Expr} {t t' : TA} (h : PA X e t) (w : ∀ σ H Q, t' σ H Q → t σ H Q) : PA X e t' := ⟨fun pos pins s σ H Q I q => h.run pos pins s σ H Q I (w _ _ _ q)⟩
theorem ps_mono {e : Stmt} {t t' : TS} (h : PS X e t) (w : ∀ D σ H, t' D σ H → t D σ H) : PS X e t' := ⟨fun pins s σ H D I q => h.run pins s σ H D I (w _ _ _ q)⟩
theorem pss_mono {e : List Stmt} {t t' : TS} (h : PSs X e t) (w : ∀ D σ H, t' D σ H → t D σ H) : PSs X e t' := ⟨fun pins s σ H D I q => h.run pins s σ H D I (w _ _ _ q)⟩
theorem pi_mono {a b : Expr} {t t' : TI} (h : PI X a b t) (w : ∀ σ H R, t' σ H R → t σ H R) : PI X a b t' := ⟨fun pins s σ H R I q => h.run pins s σ H R I (w _ _ _ q)⟩
theorem pg_mono {a : Expr} {t t' : TG} (h : PG X a t) (w : ∀ x σ H Q, t' x σ H Q → t x σ H Q) : PG X a t' := ⟨fun pins s σ H v u Q I r q => h.run pins s σ H v u Q I r (w _ _ _ _ q)⟩
theorem pgs_mono {a : List Expr} {t t' : TGs} (h : PGs X a t) (w : ∀ x σ H Q, t' x σ H Q → t x σ H Q) : PGs X a t' := ⟨fun pins s σ H v u Q I r q => h.run pins s σ H v u Q I r (w _ _ _ _ q)⟩
end
section
variable {K : PySem.W.Frag} {c : Bs} {X : Cx} {e : Expr}
theorem de_n {m : ME} (h : PE X e (up K c m)) : PE X e (upN K c m) := pe_mono h fun σ H Q ⟨F, env, O, k, R, hm, q⟩ => ⟨F, env, O, k, R, hm, fun d x H' kd g da => q d x H' kd g (.inl da)⟩
theorem de_l {m : ME} (h : PE X e (upL K c m)) : PE X e (up K c m) := pe_mono h fun σ H Q ⟨F, env, O, k, R, hm, q⟩ => ⟨F, env, O, k, R, hm, fun d p ys ds H' kd ed g n e hp da => by
  have pO : p ∉ O := fun z => by
    obtain ⟨o, eo⟩ := R.dom p z
    rw [n] at eo
    cases eo
  rw [ed] at kd
  exact q _ _ H' kd g (.lst (by rw [offs_ne pO]; exact e) hp (daAll_same (offs_less fun a z => List.mem_cons_of_mem _ z) da))⟩
theorem de_ln {m : ME} (h : PE X e (upL K c m)) : PE X e (upN K c m) := de_n (de_l h)
/-! ### names, constants -/
def mVar (i : Nat) : ME := fun env k => match env[i]? with
  | some (.v d) => k d
  | _ => False
def mVarN (i : Nat) : ME := fun env k => match env[i]? with
  | some (.v d) => k d
  | some (.own ds) => k (.list ds)
  | _ => False
def mC (d : PyData) : ME := fun _ k => k d
theorem de_var {i : Nat} (h : PE X e (tVar i)) : PE X e (up K c (mVar i)) := pe_mono h fun σ H Q ⟨F, env, O, k, R, hm, q⟩ => by
  unfold mVar at hm
  split at hm
  · rename_i d hd
    obtain ⟨x, h1, h2⟩ := R.sl i _ hd
    exact ⟨x, h1, q d x H hm R.refl h2⟩
  · exact hm.elim
theorem dn_var {i : Nat} (h : PE X e (tVar i)) : PE X e (upN K c (mVarN i)) := pe_mono h fun σ H Q ⟨F, env, O, k, R, hm, q⟩ => by
  unfold mVarN at hm
  split at hm
  · rename_i d hd
    obtain ⟨x, h1, h2⟩ := R.sl i _ hd
    exact ⟨x, h1, q d x H hm R.refl (.inl h2)⟩
  · rename_i ds hd
    obtain ⟨a, xs, h1, h2, h3, h5, h6, h7⟩ := R.sl i _ hd
    exact ⟨_, h1, q _ _ H hm R.refl (.inr ⟨a, xs, ds, rfl, rfl, h5, h3, h6, h7⟩)⟩
  · exact hm.elim
theorem de_c {v : V} {d : PyData} (h : PE X e (tC v)) (hv : ∀ H, Da K H v d) : PE X e (up K c (mC d)) := pe_mono h fun σ H Q ⟨F, env, O, k, R, hm, q⟩ => q d v H hm R.refl (hv _)
/-! ### operations -/
/-- a two-place operation on data: what it comes to is new -/
def OpD (K : PySem.W.Frag) (r : R2) (f : PyData → PyData → (PyData → Prop) → Prop) : Prop := ∀ O H x y d e k (Q : VK), (∀ a ∈ O, ∃ o, H a = some o) → Sys H → Nq K O H x d → Nq K O H y e → f d e k →
  (∀ z v H', k z → Same H H' → Da K (offs O H') v z → Q v H') → r x y H Q
def UnD (K : PySem.W.Frag) (r : V → Hp → VK → Prop) (f : PyData → (PyData → Prop) → Prop) : Prop := ∀ O H x d k (Q : VK), (∀ a ∈ O, ∃ o, H a = some o) → Sys H → Nq K O H x d → f d k →
  (∀ z v H', k z → Same H H' → Da K (offs O H') v z → Q v H') → r x H Q
def m2 (f : PyData → PyData → (PyData → Prop) → Prop) (ma mb : ME) : ME := fun env k => ma env fun d => mb env fun e => f d e k
def m1 (f : PyData → (PyData → Prop) → Prop) (ma : ME) : ME := fun env k => ma env fun d => f d k
theorem up_op {r : R2} {f : PyData → PyData → (PyData → Prop) → Prop} {ma mb : ME} (hf : OpD K r f) (σ : L2.St) (H : Hp) (Q : VK) (h : up K c (m2 f ma mb) σ H Q) : tOp r (upN K c ma) (upN K c mb) σ H Q := by
  obtain ⟨F, env, O, k, R, hm, q⟩ := h
  refine ⟨F, env, O, _, R, hm, fun d x H1 h1 g1 n1 => ⟨F, env, O, _, R.gx g1, h1, fun e y H2 h2 g2 n2 => ?_⟩⟩
  have R1 := R.gx g1
  have R2 := R1.gx g2
  exact hf O H2 x y d e k Q R2.dom R2.sys (n1.gx R1 g2).nq n2.nq h2 fun z v H' kz s da => q z v H' kz ((g1.trans g2).trans (R2.same s)) da
theorem up_un {r : V → Hp → VK → Prop} {f : PyData → (PyData → Prop) → Prop} {ma : ME} (hf : UnD K r f) (σ : L2.St) (H : Hp) (Q : VK) (h : up K c (m1 f ma) σ H Q) : tUn r (upN K c ma) σ H Q := by
  obtain ⟨F, env, O, k, R, hm, q⟩ := h
  refine ⟨F, env, O, _, R, hm, fun d x H1 h1 g1 n1 => ?_⟩
  have R1 := R.gx g1
  exact hf O H1 x d k Q R1.dom R1.sys n1.nq h1 fun z v H' kz s da => q z v H' kz (g1.trans (R1.same s)) da
variable {pos : Pos}
theorem de_op {op : Operator} {r : R2} {f : PyData → PyData → (PyData → Prop) → Prop} {a b : Expr} {ma mb : ME} (ho : OpR X (binaryOp op) r) (hf : OpD K r f) (ha : PE X a (upN K c ma)) (hb : PE X b (upN K c mb)) : PE X (.BinOp a op b pos) (up K c (m2 f ma mb)) :=
  pe_mono (pe_op ho ha hb) (up_op hf)
theorem de_un {op : UnaryOp} {r : V → Hp → VK → Prop} {f : PyData → (PyData → Prop) → Prop} {a : Expr} {ma : ME} (ho : UnR X (unaryOp op) r) (hf : UnD K r f) (ha : PE X a (upN K c ma)) : PE X (.UnaryOp op a pos) (up K c (m1 f ma)) :=
  pe_mono (pe_un ho ha) (up_un hf)
theorem de_cmp {op : CmpOp} {r : R2} {f : PyData → PyData → (PyData → Prop) → Prop} {a b : Expr} {ma mb : ME} (ho : OpR X (compareOp op) r) (hf : OpD K r f) (ha : PE X a (upN K c ma)) (hb : PE X b (upN K c mb)) (hm : behindInMarks op b = false) :
    PE X (.Compare a [op] [b] pos) (up K c (m2 f ma mb)) := pe_mono (pe_cmpR ho ha hb hm) (up_op hf)
/-- .. whose value is a truth, as a test -/
def mTst (m : ME) : MT := fun env k => m env fun d => match d with
  | .bool b => k b
  | _ => False
theorem up_tst {r : R2} {f : PyData → PyData → (PyData → Prop) → Prop} {ma mb : ME} (hf : OpD K r f) (σ : L2.St) (H : Hp) (Q : Bool → Hp → Prop) (h : upT K c (mTst (m2 f ma mb)) σ H Q) : tTest (tOp r (upN K c ma) (upN K c mb)) σ H Q := by
  obtain ⟨F, env, O, k, R, hm, q⟩ := h
  refine up_op hf σ H _ ⟨F, env, O, _, R, hm, fun d x H' kd g da => ?_⟩
  split at kd
  · cases da
    exact ⟨_, rfl, q _ _ kd g⟩
  · exact kd.elim
theorem dt_cmp {op : CmpOp} {r : R2} {f : PyData → PyData → (PyData → Prop) → Prop} {a b : Expr} {ma mb : ME} (ho : OpR X (compareOp op) r) (hf : OpD K r f) (ha : PE X a (upN K c ma)) (hb : PE X b (upN K c mb)) (hm : behindInMarks op b = false) :
    PT X (.Compare a [op] [b] pos) (upT K c (mTst (m2 f ma mb))) := pt_mono (pt_cmpR ho ha hb hm) (up_tst hf)
def mChain (f g : PyData → PyData → (PyData → Prop) → Prop) (ma mb mc : ME) : ME := fun env k => ma env fun d => mb env fun e => f d e fun z => match z with
  | .bool true => mc env fun w => g e w k
  | .bool false => k (.bool false)
  | _ => False
theorem up_chain {r r' : R2} {f g : PyData → PyData → (PyData → Prop) → Prop} {ma mb mc : ME} (hf : OpD K r f) (hg : OpD K r' g) (σ : L2.St) (H : Hp) (Q : VK) (h : up K c (mChain f g ma mb mc) σ H Q) :
    tChain r r' (upN K c ma) (upN K c mb) (upN K c mc) σ H Q := by
  obtain ⟨F, env, O, k, R, hm, q⟩ := h
  refine ⟨F, env, O, _, R, hm, fun d x H1 h1 g1 n1 => ⟨F, env, O, _, R.gx g1, h1, fun e y H2 h2 g2 n2 => ?_⟩⟩
  have R1 := R.gx g1
  have R2 := R1.gx g2
  refine hf O H2 x y d e _ _ R2.dom R2.sys (n1.gx R1 g2).nq n2.nq h2 fun z v H3 kz s da => ?_
  have g3 := R2.same s
  have R3 := R2.gx g3
  split at kz
  · cases da
    refine ⟨true, rfl, ?_⟩
    rw [if_pos rfl]
    refine ⟨F, env, O, _, R3, kz, fun w u H4 h4 g4 n4 => ?_⟩
    have R4 := R3.gx g4
    exact hg O H4 y u e w k Q R4.dom R4.sys ((n2.gx R2 g3).gx R3 g4).nq n4.nq h4 fun z v H' kz s da => q z v H' kz ((((g1.trans g2).trans g3).trans g4).trans (R4.same s)) da
  · cases da
    refine ⟨false, rfl, ?_⟩
    rw [if_neg Bool.false_ne_true]
    exact q _ _ _ kz ((g1.trans g2).trans g3) (.bl false)
  · exact kz.elim
theorem de_chain {op op' : CmpOp} {r r' : R2} {f g : PyData → PyData → (PyData → Prop) → Prop} {a b d : Expr} {ma mb mc : ME} (ho : OpR X (compareOp op) r) (hf : OpD K r f) (ho' : OpR X (compareOp op') r') (hg : OpD K r' g) (ha : PE X a (upN K c ma)) (hb : PE X b (upN K c mb)) (hc : PE X d (upN K c mc))
    (hm : lastMarks [op, op'] [b, d] = false := by with_unfolding_all rfl) : PE X (.Compare a [op, op'] [b, d] pos) (up K c (mChain f g ma mb mc)) := pe_mono (pe_chain ho ho' ha hb hc hm) (up_chain hf hg)
theorem dt_chain {op op' : CmpOp} {r r' : R2} {f g : PyData → PyData → (PyData → Prop) → Prop} {a b d : Expr} {ma mb mc : ME} (ho : OpR X (compareOp op) r) (hf : OpD K r f) (ho' : OpR X (compareOp op') r') (hg : OpD K r' g) (ha : PE X a (upN K c ma)) (hb : PE X b (upN K c mb)) (hc : PE X d (upN K c mc))
    (hm : lastMarks [op, op'] [b, d] = false := by with_unfolding_all rfl) : PT X (.Compare a [op, op'] [b, d] pos) (upT K c (mTst (mChain f g ma mb mc))) := pt_mono (pt_chain ho ho' ha hb hc hm) fun σ H Q h => by
  obtain ⟨F, env, O, k, R, hm, q⟩ := h
  refine up_chain hf hg σ H _ ⟨F, env, O, _, R, hm, fun d x H' kd g da => ?_⟩
  split at kd
  · cases da
    exact ⟨_, rfl, q _ _ kd g⟩
  · exact kd.elim
/-! ### tests -/
def mNot (m : MT) : MT := fun env k => m env fun b => k (!b)
def mAnd (m n : MT) : MT := fun env k => m env fun b => match b with
  | true => n env k
  | false => k false
def mOr (m n : MT) : MT := fun env k => m env fun b => match b with
  | true => k true
  | false => n env k
theorem dt_not {a : Expr} {m : MT} (h : PT X a (upT K c m)) : PT X (.UnaryOp .Not a pos) (upT K c (mNot m)) := pt_mono (pt_not h) fun σ H Q ⟨F, env, O, k, R, hm, q⟩ => ⟨F, env, O, _, R, hm, fun b H' kb g => q _ _ kb g⟩
theorem up_and {m n : MT} (σ : L2.St) (H : Hp) (Q : Bool → Hp → Prop) (h : upT K c (mAnd m n) σ H Q) : tAnd (upT K c m) (upT K c n) σ H Q := by
  obtain ⟨F, env, O, k, R, hm, q⟩ := h
  refine ⟨F, env, O, _, R, hm, fun b H' kb g => ?_⟩
  cases b with
  | true => exact ⟨F, env, O, _, R.gx g, kb, fun b H2 kb g2 => q b H2 kb (g.trans g2)⟩
  | false => exact q _ _ kb g
theorem up_or {m n : MT} (σ : L2.St) (H : Hp) (Q : Bool → Hp → Prop) (h : upT K c (mOr m n) σ H Q) : tOr (upT K c m) (upT K c n) σ H Q := by
  obtain ⟨F, env, O, k, R, hm, q⟩ := h
  refine ⟨F, env, O, _, R, hm, fun b H' kb g => ?_⟩
  cases b with
  | false => exact ⟨F, env, O, _, R.gx g, kb, fun b H2 kb g2 => q b H2 kb (g.trans g2)⟩
  | true => exact q _ _ kb g
variable {a b : Expr} {rest : List Expr}
theorem dw_and1 {m : MT} (h : PT X a (upT K c m)) : PW X (.BoolOp .And [a] pos) (upT K c m) := pw_and1 h
theorem dw_or1 {m : MT} (h : PT X a (upT K c m)) : PW X (.BoolOp .Or [a] pos) (upT K c m) := pw_or1 h
theorem dw_and {m n : MT} (h : PT X a (upT K c m)) (h2 : PW X (.BoolOp .And (b :: rest) pos) (upT K c n)) : PW X (.BoolOp .And (a :: b :: rest) pos) (upT K c (mAnd m n)) := pw_mono (pw_and h h2) up_and
theorem dw_or {m n : MT} (h : PT X a (upT K c m)) (h2 : PW X (.BoolOp .Or (b :: rest) pos) (upT K c n)) : PW X (.BoolOp .Or (a :: b :: rest) pos) (upT K c (mOr m n)) := pw_mono (pw_or h h2) up_or
/-! ### truths as values -/
def mAndV (m n : ME) : ME := fun env k => m env fun d => match d with
  | .bool true => n env k
  | .bool false => k (.bool false)
  | _ => False
def mOrV (m n : ME) : ME := fun env k => m env fun d => match d with
  | .bool true => k (.bool true)
  | .bool false => n env k
  | _ => False
def mNotV (m : ME) : ME := fun env k => m env fun d => match d with
  | .bool b => k (.bool (!b))
  | _ => False
theorem de_one {op : BoolOp} {m : ME} (h : PE X a (up K c m)) : PE X (.BoolOp op [a] pos) (up K c m) := pe_one h
theorem de_and {m n : ME} (h : PE X a (up K c m)) (h2 : PE X (.BoolOp .And (b :: rest) pos) (up K c n)) : PE X (.BoolOp .And (a :: b :: rest) pos) (up K c (mAndV m n)) := pe_mono (pe_and h h2) fun σ H Q ⟨F, env, O, k, R, hm, q⟩ => by
  refine ⟨F, env, O, _, R, hm, fun d x H' kd g da => ?_⟩
  split at kd
  · cases da
    exact ⟨true, rfl, F, env, O, _, R.gx g, kd, fun d x H2 kb g2 da => q d x H2 kb (g.trans g2) da⟩
  · cases da
    exact ⟨false, rfl, q _ _ _ kd g (.bl false)⟩
  · exact kd.elim
theorem de_or {m n : ME} (h : PE X a (up K c m)) (h2 : PE X (.BoolOp .Or (b :: rest) pos) (up K c n)) : PE X (.BoolOp .Or (a :: b :: rest) pos) (up K c (mOrV m n)) := pe_mono (pe_or h h2) fun σ H Q ⟨F, env, O, k, R, hm, q⟩ => by
  refine ⟨F, env, O, _, R, hm, fun d x H' kd g da => ?_⟩
  split at kd
  · cases da
    exact ⟨true, rfl, q _ _ _ kd g (.bl true)⟩
  · cases da
    exact ⟨false, rfl, F, env, O, _, R.gx g, kd, fun d x H2 kb g2 da => q d x H2 kb (g.trans g2) da⟩
  · exact kd.elim
/-- not e, as a value: e a test -/
def mNotT (m : MT) : ME := fun env k => m env fun b => k (.bool (!b))
def mIf (t : MT) (m n : ME) : ME := fun env k => t env fun b => match b with
  | true => m env k
  | false => n env k
theorem de_if {cn : Expr} {t : MT} {m n : ME} (hc : PT X cn (upT K c t)) (ha : PE X a (up K c m)) (hb : PE X b (up K c n)) : PE X (.IfExp cn a b pos) (up K c (mIf t m n)) := pe_mono (pe_ifExp hc ha hb) fun σ H Q ⟨F, env, O, k, R, hm, q⟩ => by
  refine ⟨F, env, O, _, R, hm, fun bb H' kb g => ?_⟩
  cases bb with
  | true => exact ⟨F, env, O, _, R.gx g, kb, fun d x H2 kb g2 da => q d x H2 kb (g.trans g2) da⟩
  | false => exact ⟨F, env, O, _, R.gx g, kb, fun d x H2 kb g2 da => q d x H2 kb (g.trans g2) da⟩
/-! ### arguments -/
def mNil : MA := fun _ k => k []
def mCons (m : ME) (ms : MA) : MA := fun env k => m env fun d => ms env fun as => k (.v d :: as)
def mBag (i : Nat) (ms : MA) : MA := fun env k => match env[i]? with
  | some .bag => ms env fun as => k (.bag :: as)
  | _ => False
theorem paired_gx {O : List Addr} {F : Hp} {env : List DV} {σ : L2.St} {H H' : Hp} (R : Rel K c F env O σ H) (g : Gx c H H') : ∀ {xs : List V} {as : List DV}, Paired (ArgR K c O H) xs as → Paired (ArgR K c O H') xs as
  | _, _, .nil => .nil
  | _, _, .cons r t => .cons (by
      rename_i x dv _ _
      cases dv with
      | v d => exact da_same (R.go g) r
      | bag => exact r
      | un => exact r
      | own _ => exact r) (paired_gx R g t)
variable {es : List Expr}
theorem da_nil : PA X [] (upA K c mNil) := pa_mono pa_nil fun σ H Q ⟨F, env, O, k, R, hm, q⟩ => q [] [] H hm R.refl .nil
theorem da_cons {m : ME} {ms : MA} (ha : PE X e (up K c m)) (hr : PA X es (upA K c ms)) (hs : starEach (e :: es) X.env = (false, eval e X.env) :: starEach es X.env := by rfl) : PA X (e :: es) (upA K c (mCons m ms)) :=
  pa_mono (pa_cons ha hr hs) fun σ H Q ⟨F, env, O, k, R, hm, q⟩ => ⟨F, env, O, _, R, hm, fun d x H1 kd g da => ⟨F, env, O, _, R.gx g, kd, fun as xs H2 ks g2 ps => q _ _ H2 ks (g.trans g2) (.cons (da_same ((R.gx g).go g2) da) ps)⟩⟩
theorem da_bag {i : Nat} {ms : MA} (ha : PE X e (tVar i)) (hr : PA X es (upA K c ms)) (hs : starEach (e :: es) X.env = (false, eval e X.env) :: starEach es X.env := by rfl) : PA X (e :: es) (upA K c (mBag i ms)) :=
  pa_mono (pa_cons ha hr hs) fun σ H Q ⟨F, env, O, k, R, hm, q⟩ => by
    unfold mBag at hm
    split at hm
    · rename_i hd
      obtain ⟨a, h1, h2⟩ := R.sl i _ hd
      exact ⟨_, h1, F, env, O, _, R, hm, fun as xs H2 ks g2 ps => q _ _ H2 ks g2 (.cons ⟨a, rfl, h2⟩ ps)⟩
    · exact hm.elim
theorem dan_nil : PA X [] (upAN K c mNil) := pa_mono pa_nil fun σ H Q ⟨F, env, O, k, R, hm, q⟩ => q [] [] H hm R.refl .nil
theorem dan_cons {m : ME} {ms : MA} (ha : PE X e (upN K c m)) (hr : PA X es (upAN K c ms)) (hs : starEach (e :: es) X.env = (false, eval e X.env) :: starEach es X.env := by rfl) : PA X (e :: es) (upAN K c (mCons m ms)) :=
  pa_mono (pa_cons ha hr hs) fun σ H Q ⟨F, env, O, k, R, hm, q⟩ => ⟨F, env, O, _, R, hm, fun d x H1 kd g da => ⟨F, env, O, _, R.gx g, kd, fun as xs H2 ks g2 ps => q _ _ H2 ks (g.trans g2) (.cons (da.gx (R.gx g) g2) ps)⟩⟩
/-- tuples, lists written out -/
def dataOf : List DV → Option (List PyData)
  | [] => some []
  | .v d :: r => (dataOf r).map (d :: ·)
  | _ :: _ => Option.none
def mTup (ms : MA) : ME := fun env k => ms env fun as => match dataOf as with
  | some ds => ds.length ≤ 100000 ∧ k (.tuple ds)
  | Option.none => False
def mLst (ms : MA) : ME := fun env k => ms env fun as => match dataOf as with
  | some ds => ds.length ≤ 100000 ∧ k (.list ds)
  | Option.none => False
theorem paired_data {O : List Addr} {H : Hp} : ∀ {xs : List V} {as : List DV} {ds : List PyData}, Paired (ArgR K c O H) xs as → dataOf as = some ds → DaAll K (offs O H) xs ds
  | _, _, _, .nil, e => by
    cases e
    exact .nil
  | _, _, _, .cons (b := dv) r t, e => by
    cases dv with
    | v d =>
      unfold dataOf at e
      obtain ⟨ds', e1, e2⟩ := Option.map_eq_some_iff.mp e
      subst e2
      exact .cons r (paired_data t e1)
    | _ => cases e
theorem de_tup {x1} {ms : MA} (h : PA X es (upA K c ms)) : PE X (.Tuple es x1 pos) (up K c (mTup ms)) := pe_mono (pe_tup h) fun σ H Q ⟨F, env, O, k, R, hm, q⟩ => by
  refine ⟨F, env, O, _, R, hm, fun as xs H' kd g ps => ?_⟩
  split at kd
  · rename_i ds hd
    have R' := R.gx g
    have da := paired_data ps hd
    have hl := daAll_len da
    refine ⟨Evl.sz_of (by omega), fun p np => ?_⟩
    have pO : p ∉ O := fun z => by
      obtain ⟨o, eo⟩ := R'.dom p z
      rw [np] at eo
      cases eo
    have s : Same H' (upd H' p (.tup xs)) := Evl.Ex.new np
    exact q _ _ _ kd.2 (g.trans (R'.same s)) (.tup (SqT.of (by rw [offs_ne pO]; exact upd_same)) (daAll_same (R'.go (R'.same s)) da))
  · exact kd.elim
theorem de_lst {ms : MA} (h : PA X es (upA K c ms)) : PE X (.List es pos) (upL K c (mLst ms)) := pe_mono (pe_lst h) fun σ H Q ⟨F, env, O, k, R, hm, q⟩ => by
  refine ⟨F, env, O, _, R, hm, fun as xs H' kd g ps => ?_⟩
  split at kd
  · rename_i ds hd
    have R' := R.gx g
    have da := paired_data ps hd
    have hl := daAll_len da
    refine ⟨Evl.sz_of (by omega), fun p np => ?_⟩
    have s : Same H' (upd H' p (.lst xs)) := Evl.Ex.new np
    have nH : H p = Option.none := by
      cases e : H p with
      | none => rfl
      | some o =>
        by_cases hb : p ∈ c.b
        · obtain ⟨o, eo⟩ := R'.dom p (R.bO p hb)
          rw [np] at eo
          cases eo
        · rw [g.kp p o hb e] at np
          cases np
    have nsys : p ≠ sysModules := fun z => by
      obtain ⟨φ, e⟩ := R'.sys
      rw [z, e] at np
      cases np
    exact q _ p xs ds _ kd.2 rfl (g.trans (R'.same s)) nH upd_same nsys (daAll_same (offs_new np s) da)
  · exact kd.elim
/-! ### calls -/
/-- a builtin, a type -/
def CallD (K : PySem.W.Frag) (r : List V → Hp → VK → Prop) (f : List PyData → (PyData → Prop) → Prop) : Prop := ∀ O H xs ds k (Q : VK), (∀ a ∈ O, ∃ o, H a = some o) → Sys H → Paired (Nq K O H) xs ds → f ds k →
  (∀ z v H', k z → Same H H' → Da K (offs O H') v z → Q v H') → r xs H Q
/-- .. that lays a new list -/
def CallL (K : PySem.W.Frag) (r : List V → Hp → VK → Prop) (f : List PyData → (PyData → Prop) → Prop) : Prop := ∀ O H xs ds k (Q : VK), (∀ a ∈ O, ∃ o, H a = some o) → Sys H → Paired (Nq K O H) xs ds → f ds k →
  (∀ z es p ys H', k z → z = .list es → Same H H' → H p = Option.none → H' p = some (.lst ys) → DaAll K (offs (p :: O) H') ys es → Q (.ref p) H') → r xs H Q
def mB (f : List PyData → (PyData → Prop) → Prop) (ms : MA) : ME := fun env k => ms env fun as => match dataOf as with
  | some ds => f ds k
  | Option.none => False
theorem paired_nq {O : List Addr} {H : Hp} : ∀ {xs : List V} {as : List DV} {ds : List PyData}, Paired (ArgN K c O H) xs as → dataOf as = some ds → Paired (Nq K O H) xs ds
  | _, _, _, .nil, e => by
    cases e
    exact .nil
  | _, _, _, .cons (b := dv) r t, e => by
    cases dv with
    | v d =>
      unfold dataOf at e
      obtain ⟨ds', e1, e2⟩ := Option.map_eq_some_iff.mp e
      subst e2
      exact .cons (Nr.nq r) (paired_nq t e1)
    | _ => cases e
theorem up_cb {r : List V → Hp → VK → Prop} {f : List PyData → (PyData → Prop) → Prop} {ms : MA} (hf : CallD K r f) (σ : L2.St) (H : Hp) (Q : VK) (h : up K c (mB f ms) σ H Q) : tCB r (upAN K c ms) σ H Q := by
  obtain ⟨F, env, O, k, R, hm, q⟩ := h
  refine ⟨F, env, O, _, R, hm, fun as xs H' kd g ps => ?_⟩
  split at kd
  · rename_i ds hd
    have R' := R.gx g
    exact hf O H' xs ds k Q R'.dom R'.sys (paired_nq ps hd) kd fun z v H2 kz s da => q z v H2 kz (g.trans (R'.same s)) da
  · exact kd.elim
theorem up_cbl {r : List V → Hp → VK → Prop} {f : List PyData → (PyData → Prop) → Prop} {ms : MA} (hf : CallL K r f) (σ : L2.St) (H : Hp) (Q : VK) (h : upL K c (mB f ms) σ H Q) : tCB r (upAN K c ms) σ H Q := by
  obtain ⟨F, env, O, k, R, hm, q⟩ := h
  refine ⟨F, env, O, _, R, hm, fun as xs H' kd g ps => ?_⟩
  split at kd
  · rename_i ds hd
    have R' := R.gx g
    refine hf O H' xs ds k Q R'.dom R'.sys (paired_nq ps hd) kd fun z es p ys H2 kz ez s np ep da => ?_
    have nH : H p = Option.none := by
      cases e : H p with
      | none => rfl
      | some o =>
        by_cases hb : p ∈ c.b
        · obtain ⟨o, eo⟩ := R'.dom p (R.bO p hb)
          rw [np] at eo
          cases eo
        · rw [g.kp p o hb e] at np
          cases np
    have nsys : p ≠ sysModules := fun z => by
      obtain ⟨φ, e⟩ := R'.sys
      rw [z, e] at np
      cases np
    exact q z p ys es H2 kz ez (g.trans (R'.same s)) nH ep nsys da
  · exact kd.elim
end
end Du

/-! Readings on data: statements, targets, loops, comprehensions, defs. -/
namespace Du
open PySem PySem.Spec PyProof.Rows L2 On
section
variable {K : PySem.W.Frag} {c : Bs} {X : Cx} {e : Expr} {pos : Pos} {st : Stmt} {rest : List Stmt}
/-! ### blocks -/
def dNext : MS := fun env D => D.nx env
def dSeq (a b : MS) : MS := fun env D => a env { D with nx := fun env' => b env' D }
def dRet (m : ME) : MS := fun env D => m env D.rt
def dRetN : MS := fun _ D => D.rt .none
def dIf (t : MT) (a b : MS) : MS := fun env D => t env fun x => match x with
  | true => a env D
  | false => b env D
def dDrop (m : ME) : MS := fun env D => m env fun _ => D.nx env
def dBrk : MS := fun env D => D.bk env
def dCnt : MS := fun env D => D.ct env
theorem dss_nil : PSs X [] (upS K c dNext) := pss_mono pss_nil fun D σ H ⟨F, env, O, DD, R, hb, h1, h2, h3, h4⟩ => h1 env O σ H hb R
theorem dss_cons {a b : MS} (h : PS X st (upS K c a)) (h' : PSs X rest (upS K c b)) : PSs X (st :: rest) (upS K c (dSeq a b)) := pss_mono (pss_cons h h') fun D σ H ⟨F, env, O, DD, R, hb, h1, h2, h3, h4⟩ =>
  ⟨F, env, O, _, R, hb, fun env' O' σ' H' n R' => ⟨F, env', O', DD, R', n, h1, h2, h3, h4⟩, h2, h3, h4⟩
theorem dss_one {a : MS} (h : PS X st (upS K c a)) : PSs X [st] (upS K c a) := pss_one h
theorem ds_pass : PS X (.Pass pos) (upS K c dNext) := ps_mono ps_pass fun D σ H ⟨F, env, O, DD, R, hb, h1, h2, h3, h4⟩ => h1 env O σ H hb R
theorem ds_break : PS X (.Break pos) (upS K c dBrk) := ps_mono ps_break fun D σ H ⟨F, env, O, DD, R, hb, h1, h2, h3, h4⟩ => h2 env O σ H hb R
theorem ds_cont : PS X (.Continue pos) (upS K c dCnt) := ps_mono ps_continue fun D σ H ⟨F, env, O, DD, R, hb, h1, h2, h3, h4⟩ => h3 env O σ H hb R
theorem retR {F : Hp} {env : List DV} {O : List Addr} {σ : L2.St} {H H' : Hp} {x : V} {d : PyData} (R : Rel K c F env O σ H) (g : Gx c H H') (h : Nr K c O H' x d) : RetR K c x d H' where
  but := (R.gx g).but
  bg := g.bg
  da := by
    rcases h with h | ⟨a, xs, ds, rfl, rfl, h3, h4, h6, h7⟩
    · exact da_same (offs_less fun a z => R.sub a z) h
    · exact .lst (by rw [offs_ne (R.n0 h4).1]; exact h6) h3 (daAll_same (offs_less fun a z => R.sub a z) h7)
theorem ds_ret {m : ME} (h : PE X e (upN K c m)) : PS X (.Return (some e) pos) (upS K c (dRet m)) := ps_mono (ps_ret h) fun D σ H ⟨F, env, O, DD, R, hb, h1, h2, h3, h4⟩ =>
  ⟨F, env, O, _, R, hb, fun d x H' kd g n => h4 d x H' kd (retR R g n)⟩
theorem ds_retN : PS X (.Return Option.none pos) (upS K c dRetN) := ps_mono ps_retN fun D σ H ⟨F, env, O, DD, R, hb, h1, h2, h3, h4⟩ => h4 .none _ H hb (retR R R.refl (.inl .non))
theorem ds_if {cn : Expr} {a b : List Stmt} {t : MT} {u v : MS} (hc : PT X cn (upT K c t)) (ha : PSs X a (upS K c u)) (hb : PSs X b (upS K c v)) : PS X (.If cn a b pos) (upS K c (dIf t u v)) := ps_mono (ps_if hc ha hb) fun D σ H ⟨F, env, O, DD, R, hb, h1, h2, h3, h4⟩ => by
  refine ⟨F, env, O, _, R, hb, fun b H' kb g => ?_⟩
  cases b with
  | true => exact ⟨F, env, O, DD, R.gx g, kb, h1, h2, h3, h4⟩
  | false => exact ⟨F, env, O, DD, R.gx g, kb, h1, h2, h3, h4⟩
theorem ds_expr {m : ME} (h : PE X e (upN K c m)) (hs : swapsWith e Option.none pos.line X.env = pure false := by rfl) : PS X (.Expr e pos) (upS K c (dDrop m)) := ps_mono (ps_expr h hs) fun D σ H ⟨F, env, O, DD, R, hb, h1, h2, h3, h4⟩ =>
  ⟨F, env, O, _, R, hb, fun d x H' kd g n => h1 env O σ H' kd (R.gx g)⟩
/-! ### targets, stores -/
def gNm (i : Nat) : MG := fun d env k => k (env.set i (.v d))
def gsNil : MGs := fun ds env k => match ds with
  | [] => k env
  | _ :: _ => False
def gsCons (g : MG) (gs : MGs) : MGs := fun ds env k => match ds with
  | [] => False
  | d :: r => g d env fun env' => gs r env' k
def gTp (n : Nat) (gs : MGs) : MG := fun d env k => match d with
  | .tuple ds => ds.length = n ∧ gs ds env k
  | _ => False
theorem set_frame {σ : L2.St} {i : Nat} {v : Option V} : (∀ j : Nat, j ∉ [i] → (σ.set i v)[j]? = σ[j]?) := fun j h => by
  rw [List.getElem?_set_ne (fun z => h (by rw [z]; simp))]
theorem dg_name {i : Nat} {tg : Expr} (h : PG X tg (gName i)) : PG X tg (upG K c [i] (gNm i)) := pg_mono h fun x σ H Q ⟨F, env, O, d, k, R, da, hg, q⟩ => q _ _ hg (R.set i da) set_frame (by rw [List.length_set])
theorem dgs_nil : PGs X [] (upGs K c [] gsNil) := pgs_mono pgs_nil fun xs σ H Q ⟨F, env, O, ds, k, R, da, hg, q⟩ => by
  unfold gsNil at hg
  split at hg
  · cases da
    exact ⟨rfl, q _ _ hg R (fun _ _ => rfl) rfl⟩
  · exact hg.elim
theorem dgs_cons {tg : Expr} {ts : List Expr} {s1 s2 : List Nat} {g : MG} {gs : MGs} (h1 : PG X tg (upG K c s1 g)) (h2 : PGs X ts (upGs K c s2 gs)) (hs : (assignEach (tg :: ts) X.env).map (·.2) = assign tg X.env :: (assignEach ts X.env).map (·.2) := by rfl) :
    PGs X (tg :: ts) (upGs K c (s1 ++ s2) (gsCons g gs)) := pgs_mono (pgs_cons h1 h2 hs) fun xs σ H Q ⟨F, env, O, ds, k, R, da, hg, q⟩ => by
  unfold gsCons at hg
  split at hg
  · exact hg.elim
  · cases da with
    | cons d1 d2 =>
      refine ⟨_, _, rfl, F, env, O, _, _, R, d1, hg, fun env' σ' k' R' f l => ⟨F, env', O, _, k, R', d2, k', fun env2 σ2 k2 R2 f2 l2 => q env2 σ2 k2 R2 (fun j hj => ?_) (l2.trans l)⟩⟩
      rw [f2 j fun z => hj (List.mem_append_right _ z), f j fun z => hj (List.mem_append_left _ z)]
theorem dg_tup {es : List Expr} {kk : Nat} {ss : List Nat} {gs : MGs} {n : Nat} (hc : X.calm = true) (hK : X.K = K) (h : PGs X es (upGs K c ss gs)) (hn : (assignEach es X.env).length = n := by rfl) (hst : (assignEach es X.env).findIdx? (·.1) = Option.none := by rfl) :
    PG X (.Tuple es kk pos) (upG K c ss (gTp n gs)) := by
  subst hK
  refine pg_mono (pg_tup hc h hn hst) fun x σ H Q ⟨F, env, O, d, k, R, da, hg, q⟩ => ?_
  unfold gTp at hg
  split at hg
  · obtain ⟨a, xs, rfl, h1, h2⟩ := da_tup da
    exact ⟨a, xs, rfl, Evl.ex_t offs_sub h1, (daAll_len h2).trans hg.1, F, env, O, _, k, R, h2, hg.2, q⟩
  · exact hg.elim
/-- target = e -/
def dAsg (m : ME) (g : MG) : MS := fun env D => m env fun d => g d env D.nx
theorem ds_set {i : Nat} {x : Str} {m : ME} {pos' : Pos} (hN : X.N.Nodup) (hi : X.N[i]? = some x) (hx : Loc X.env.scope x) (he : PE X e (up K c m)) (hs : swapsWith e (some (.Name x pos')) pos.line X.env = pure false := by rfl) (hf : X.fn x = true ∨ X.env.scope.names.lookup x = some .local := by first | exact .inl rfl | exact .inr rfl | assumption) :
    PS X (.Assign [.Name x pos'] e pos) (upS K c (dAsg m (gNm i))) := ps_mono (ps_set hN hi hx he hs hf) fun D σ H ⟨F, env, O, DD, R, hb, h1, h2, h3, h4⟩ => ⟨F, env, O, _, R, hb, fun d x H' kd g da => h1 _ O _ H' kd ((R.gx g).set i da)⟩
theorem ds_asg {tg : Expr} {m : ME} {ss : List Nat} {g : MG} (he : PE X e (up K c m)) (hg : PG X tg (upG K c ss g)) (hs : swapsWithSole [tg] e pos.line X.env = pure false := by rfl) (hw : swappedStores [tg] e X.env = pure Option.none := by rfl)
    (h1 : (assignEach [tg] X.env).map (·.2) = [assign tg X.env] := by rfl) : PS X (.Assign [tg] e pos) (upS K c (dAsg m g)) := ps_mono (ps_asg he hg hs hw h1) fun D σ H ⟨F, env, O, DD, R, hb, h1, h2, h3, h4⟩ =>
  ⟨F, env, O, _, R, hb, fun d x H' kd gx da => ⟨F, env, O, d, _, R.gx gx, da, kd, fun env' σ' k' R' _ _ => h1 env' O σ' H' k' R'⟩⟩
/-- name = a new list that is its own -/
def dAsgL (i : Nat) (m : ME) : MS := fun env D => m env fun d => match d with
  | .list ds => D.nx (env.set i (.own ds))
  | _ => False
theorem asgL {i : Nat} {m : ME} (D : Ends) (σ : L2.St) (H : Hp) (h : upS K c (dAsgL i m) D σ H) : tAsg (upL K c m) (gName i) D σ H := by
  obtain ⟨F, env, O, DD, R, hb, h1, h2, h3, h4⟩ := h
  refine ⟨F, env, O, _, R, hb, fun d p ys ds H' kd ed g n ep hp da => ?_⟩
  subst ed
  exact h1 _ _ _ H' kd (R.setL i g n ep hp da)
theorem ds_setL {i : Nat} {x : Str} {m : ME} {pos' : Pos} (hN : X.N.Nodup) (hi : X.N[i]? = some x) (hx : Loc X.env.scope x) (he : PE X e (upL K c m)) (hs : swapsWith e (some (.Name x pos')) pos.line X.env = pure false := by rfl) (hf : X.fn x = true ∨ X.env.scope.names.lookup x = some .local := by first | exact .inl rfl | exact .inr rfl | assumption) :
    PS X (.Assign [.Name x pos'] e pos) (upS K c (dAsgL i m)) := ps_mono (ps_set hN hi hx he hs hf) asgL
/-- a, b = x, y -/
def dPar (i j : Nat) (ms : MA) : MS := fun env D => ms env fun as => match as with
  | [.v d, .v e] => D.nx ((env.set i (.v d)).set j (.v e))
  | _ => False
theorem ds_par {i j : Nat} {x y : Str} {a b : Expr} {ms : MA} {px py pt : Pos} {kt k2 pt2} (hc : X.calm = true) (hN : X.N.Nodup) (hi : X.N[i]? = some x) (hj : X.N[j]? = some y) (hij : i ≠ j)
    (hx : X.env.scope.names.lookup x = some .local) (hy : X.env.scope.names.lookup y = some .local) (ha : PA X [a, b] (upA K c ms))
    (hw : swappedStores [.Tuple [.Name x px, .Name y py] kt pt] (.Tuple [a, b] k2 pt2) X.env = pure (some [x, y]))
    (hs : swapsWithSole [.Tuple [.Name x px, .Name y py] kt pt] (.Tuple [a, b] k2 pt2) pos.line X.env = pure false := by rfl) :
    PS X (.Assign [.Tuple [.Name x px, .Name y py] kt pt] (.Tuple [a, b] k2 pt2) pos) (upS K c (dPar i j ms)) := ps_mono (ps_par hc hN hi hj hij hx hy ha hw hs) fun D σ H ⟨F, env, O, DD, R, hb, h1, h2, h3, h4⟩ => by
  refine ⟨F, env, O, _, R, hb, fun as xs H' kd g ps => ?_⟩
  split at kd
  · match ps with
    | .cons (a := u) r1 (.cons (a := w) r2 .nil) => exact ⟨u, w, rfl, h1 _ O _ H' kd (((R.gx g).set i r1).set j r2)⟩
  · exact kd.elim
/-- name op= e, intsD -/
def dAug (i : Nat) (f : Int → Int → Int) (m : ME) : MS := fun env D => match env[i]? with
  | some (.v (.int a)) => m env fun d => match d with
    | .int b => D.nx (env.set i (.v (.int (f a b))))
    | _ => False
  | _ => False
theorem ds_aug {i : Nat} {x : Str} {m : ME} {op : Operator} {f : Int → Int → Int} {pos' : Pos} (hN : X.N.Nodup) (hi : X.N[i]? = some x) (hx : Loc X.env.scope x) (he : PE X e (up K c m)) (ho : PIp X op (ipI f)) (hf : X.fn x = true ∨ X.env.scope.names.lookup x = some .local := by first | exact .inl rfl | exact .inr rfl | assumption) :
    PS X (.AugAssign (.Name x pos') op e pos) (upS K c (dAug i f m)) := ps_mono (ps_aug hN hi hx he ho hf) fun D σ H ⟨F, env, O, DD, R, hb, h1, h2, h3, h4⟩ => by
  unfold dAug at hb
  split at hb
  · rename_i a hd
    obtain ⟨x, e1, da⟩ := R.sl i _ hd
    cases da
    refine ⟨_, e1, F, env, O, _, R, hb, fun d x H' kd g da => ?_⟩
    split at kd
    · cases da
      exact ⟨_, _, rfl, rfl, h1 _ O _ H' kd ((R.gx g).set i (.int _))⟩
    · exact kd.elim
  · exact hb.elim
/-! ### methods of lists of one's own -/
/-- x.append(e) -/
def dApp (i : Nat) (m : ME) : MS := fun env D => match env[i]? with
  | some (.own ds) => ds.length < 100000 ∧ m env fun d => D.nx (env.set i (.own (ds ++ [d])))
  | _ => False
theorem app_st {i : Nat} {m : ME} (D : Ends) (σ : L2.St) (H : Hp) (h : upS K c (dApp i m) D σ H) : tDrop (tBM K "list" rAppend (tVar i) (tCons (up K c m) tNil)) D σ H := by
  obtain ⟨F, env, O, DD, R, hb, h1, h2, h3, h4⟩ := h
  unfold dApp at hb
  split at hb
  · rename_i ds hd
    obtain ⟨a, xs, e1, q2, q3, q5, q6, q7⟩ := R.sl i _ hd
    refine ⟨_, e1, .inl ⟨rfl, xs, SqL.of q6⟩, F, env, O, _, R, hb.2, fun d x H' kd g da => ?_⟩
    have hl := daAll_len q7
    refine ⟨a, xs, x, rfl, rfl, g.kp _ _ (R.n0 q3).2 q6, Evl.sz_lt (by omega), ?_⟩
    have R' := R.gx g
    exact h1 _ O _ _ kd (R'.mut hd e1 (daAll_app (daAll_same (R.go g) q7) (.cons da .nil)))
  · exact hb.elim
theorem ds_app {i : Nat} {m : ME} (h : PS X st (tDrop (tBM K "list" rAppend (tVar i) (tCons (up K c m) tNil)))) : PS X st (upS K c (dApp i m)) := ps_mono h app_st
/-- x.extend(e), e another list -/
def dExt (i : Nat) (m : ME) : MS := fun env D => match env[i]? with
  | some (.own ds) => m env fun d => match d with
    | .list es => ds.length + es.length ≤ 100000 ∧ D.nx (env.set i (.own (ds ++ es)))
    | _ => False
  | _ => False
theorem ext_st {i : Nat} {m : ME} (D : Ends) (σ : L2.St) (H : Hp) (h : upS K c (dExt i m) D σ H) : tDrop (tBM K "list" rExtend (tVar i) (tCons (up K c m) tNil)) D σ H := by
  obtain ⟨F, env, O, DD, R, hb, h1, h2, h3, h4⟩ := h
  unfold dExt at hb
  split at hb
  · rename_i ds hd
    obtain ⟨a, xs, e1, q2, q3, q5, q6, q7⟩ := R.sl i _ hd
    refine ⟨_, e1, .inl ⟨rfl, xs, SqL.of q6⟩, F, env, O, _, R, hb, fun d x H' kd g da => ?_⟩
    split at kd
    · rename_i es
      obtain ⟨p, zs, rfl, f1, f2, f3⟩ := da_lst da
      have hl := daAll_len q7
      have hl2 := daAll_len f3
      have R' := R.gx g
      exact ⟨a, p, xs, zs, rfl, rfl, g.kp _ _ (R.n0 q3).2 q6, (offs_some f1).2, Evl.sz_of (by omega), h1 _ O _ _ kd.2 (R'.mut hd e1 (daAll_app (daAll_same (R.go g) q7) f3))⟩
    · exact kd.elim
  · exact hb.elim
theorem ds_ext {i : Nat} {m : ME} (h : PS X st (tDrop (tBM K "list" rExtend (tVar i) (tCons (up K c m) tNil)))) : PS X st (upS K c (dExt i m)) := ps_mono h ext_st
/-- x.insert(i, e) -/
def dIns (i : Nat) (m n : ME) : MS := fun env D => match env[i]? with
  | some (.own ds) => ds.length < 100000 ∧ m env fun d => match d with
    | .int j => (0 ≤ j ∧ j < 1000000) ∧ n env fun d => D.nx (env.set i (.own (ds.take j.toNat ++ [d] ++ ds.drop j.toNat)))
    | _ => False
  | _ => False
theorem ds_ins {i : Nat} {m n : ME} (h : PS X st (tDrop (tBM K "list" (fun x vs H Q => ∃ (l : Addr) (xs : List V) (i : Int) (y : V), x = .ref l ∧ vs = [.int i, y] ∧ H l = some (.lst xs) ∧ xs.length < sizeLine ∧ 0 ≤ i ∧ i < 2 ^ 63 ∧
    Q .non (upd H l (.lst (xs.take i.toNat ++ [y] ++ xs.drop i.toNat)))) (tVar i) (tCons (up K c m) (tCons (up K c n) tNil))))) : PS X st (upS K c (dIns i m n)) := ps_mono h fun D σ H h => by
  obtain ⟨F, env, O, DD, R, hb, h1, h2, h3, h4⟩ := h
  unfold dIns at hb
  split at hb
  · rename_i ds hd
    obtain ⟨a, xs, e1, q2, q3, q5, q6, q7⟩ := R.sl i _ hd
    refine ⟨_, e1, .inl ⟨rfl, xs, SqL.of q6⟩, F, env, O, _, R, hb.2, fun d x H1 kd g1 da => ?_⟩
    split at kd
    · cases da
      have R1 := R.gx g1
      refine ⟨F, env, O, _, R1, kd.2, fun d2 y H2 kd2 g2 da2 => ?_⟩
      have g := g1.trans g2
      have R2 := R1.gx g2
      have hl := daAll_len q7
      have q7' := daAll_same (R.go g) q7
      exact ⟨a, xs, _, y, rfl, rfl, g.kp _ _ (R.n0 q3).2 q6, Evl.sz_lt (by omega), kd.1.1, by omega, h1 _ O _ _ kd2 (R2.mut hd e1 (daAll_app (daAll_app (daAll_take _ q7') (.cons da2 .nil)) (daAll_drop _ q7')))⟩
    · exact kd.elim
  · exact hb.elim
/-- x.pop(i), dropped -/
def dPopAt (i : Nat) (m : ME) : MS := fun env D => match env[i]? with
  | some (.own ds) => m env fun d => match d with
    | .int j => (0 ≤ j ∧ j < ds.length ∧ ds.length ≤ 100000) ∧ D.nx (env.set i (.own (ds.eraseIdx j.toNat)))
    | _ => False
  | _ => False
theorem seqIx {n : Nat} {j : Int} (h : 0 ≤ j) (h2 : j < n) : seqIndex? j n = some j.toNat := by
  have e : ixN n j = some j.toNat := by
    unfold ixN
    rw [if_pos h, if_pos h2]
  exact (ixN_seq e).1
theorem ds_popAt {i : Nat} {m : ME} (h : PS X st (tDrop (tBM K "list" rPopAt (tVar i) (tCons (up K c m) tNil)))) : PS X st (upS K c (dPopAt i m)) := ps_mono h fun D σ H h => by
  obtain ⟨F, env, O, DD, R, hb, h1, h2, h3, h4⟩ := h
  unfold dPopAt at hb
  split at hb
  · rename_i ds hd
    obtain ⟨a, xs, e1, q2, q3, q5, q6, q7⟩ := R.sl i _ hd
    refine ⟨_, e1, .inl ⟨rfl, xs, SqL.of q6⟩, F, env, O, _, R, hb, fun d x H1 kd g1 da => ?_⟩
    split at kd
    · cases da
      rename_i j
      have R1 := R.gx g1
      have hl := daAll_len q7
      obtain ⟨⟨k1, k2, k3⟩, k4⟩ := kd
      have lt : j.toNat < xs.length := by omega
      exact ⟨a, xs, j, j.toNat, xs[j.toNat], rfl, rfl, g1.kp _ _ (R.n0 q3).2 q6, by omega, by omega, seqIx k1 (by omega), List.getElem?_eq_getElem lt, h1 _ O _ _ k4 (R1.mut hd e1 (daAll_erase _ (daAll_same (R.go g1) q7)))⟩
    · exact kd.elim
  · exact hb.elim
/-- x[i] = e -/
def dSetIx (i : Nat) (n m : ME) : MS := fun env D => m env fun d => match env[i]? with
  | some (.own ds) => n env fun z => match z with
    | .int j => (0 ≤ j ∧ j < ds.length) ∧ D.nx (env.set i (.own (ds.set j.toNat d)))
    | _ => False
  | _ => False
theorem ds_setIx {i : Nat} {n m : ME} (h : PS X st (tAsg (up K c m) (gSub (tVar i) (up K c n) rSetL))) : PS X st (upS K c (dSetIx i n m)) := ps_mono h fun D σ H h => by
  obtain ⟨F, env, O, DD, R, hb, h1, h2, h3, h4⟩ := h
  refine ⟨F, env, O, _, R, hb, fun d x H1 kd g1 da => ?_⟩
  have R1 := R.gx g1
  split at kd
  · rename_i ds hd
    obtain ⟨a, xs, e1, q2, q3, q5, q6, q7⟩ := R1.sl i _ hd
    refine ⟨_, e1, F, env, O, _, R1, kd, fun z y H2 kz g2 da2 => ?_⟩
    split at kz
    · cases da2
      rename_i j
      have R2 := R1.gx g2
      have hl := daAll_len q7
      obtain ⟨⟨k1, k2⟩, k4⟩ := kz
      refine ⟨a, xs, j, j.toNat, rfl, rfl, g2.kp _ _ (R1.n0 q3).2 q6, ?_, h1 _ O _ _ k4 (R2.mut hd e1 (daAll_set _ (daAll_same (R1.go g2) q7) (da_same (R1.go g2) da)))⟩
      unfold ixN
      rw [if_pos k1, if_pos (by omega)]
    · exact kz.elim
  · exact kd.elim
/-! ### loops -/
/-- the turns of a loop, one after the other -/
def dLoop (g : MG) (B : MS) (D : DE) : List PyData → List DV → Prop
  | [], env => D.nx env
  | d :: ds, env => g d env fun e1 => B e1 { nx := dLoop g B D ds, rt := D.rt, bk := D.nx, ct := dLoop g B D ds }
/-- .. by a word W of the turn and of what is known -/
def dLoopI (g : MG) (B : MS) (D : DE) (ds : List PyData) (env : List DV) : Prop := ∃ W : Nat → List DV → Prop, W 0 env ∧
  (∀ (i : Nat) d e, ds[i]? = some d → W i e → g d e fun e1 => B e1 { nx := W (i + 1), rt := D.rt, bk := D.nx, ct := W (i + 1) }) ∧ ∀ e, W ds.length e → D.nx e
theorem loopI_of {g : MG} {B : MS} {D : DE} {ds : List PyData} {env : List DV} (h : dLoop g B D ds env) : dLoopI g B D ds env := by
  refine ⟨fun i e => dLoop g B D (ds.drop i) e, h, fun i d e hd k => ?_, fun e k => ?_⟩
  · have lt := (List.getElem?_eq_some_iff.mp hd).1
    have ed : ds[i] = d := (List.getElem?_eq_some_iff.mp hd).2
    have k' : dLoop g B D (ds.drop i) e := k
    rw [List.drop_eq_getElem_cons lt, ed] at k'
    exact k'
  · have k' : dLoop g B D (ds.drop ds.length) e := k
    rw [List.drop_length] at k'
    exact k'
def dFor (mi : MI) (g : MG) (B : MS) : MS := fun env D => mi env fun ds => dLoopI g B D ds env
theorem ds_for {tg iter : Expr} {body : List Stmt} {mi : MI} {ss : List Nat} {g : MG} {B : MS} (hp : PassesOwn (model X.prog X.w) X.A X.env X.xe) (hc : X.calm = true) (hi : PI X tg iter (upI K c mi)) (hg : PG X tg (upG K c ss g)) (hb : PSs X body (upS K c B))
    (hs : ∀ x, foldedSetIterable iter X.env x = pure x := by intro _; rfl) : PS X (.For tg iter body [] pos) (upS K c (dFor mi g B)) := ps_mono (ps_for hp hc hi hg hb hs) fun D σ H ⟨F, env, O, DD, R, hm, h1, h2, h3, h4⟩ => by
  refine ⟨F, env, O, _, R, hm, fun ds J H1 kd gx W => ?_⟩
  have R1 := R.gx gx
  obtain ⟨V, v0, vs, vd⟩ := kd
  refine ⟨fun i m σ' H' => m = ds.length - i ∧ i ≤ ds.length ∧ ∃ env' O', Rel K c (offs O H1) env' O' σ' H' ∧ V i env', ⟨_, rfl, Nat.zero_le _, env, O, R1.fzn, v0⟩, ?_⟩
  rintro i m σ' H' ⟨rfl, hi', env', O', R', k'⟩
  obtain ⟨w1, w2⟩ := W O' H' R'.dom R'.fz
  by_cases lt : i < ds.length
  · obtain ⟨go, yl⟩ := w1 i ds[i] (List.getElem?_eq_getElem lt)
    refine .inr ⟨go, fun σ2 H2 => ∃ env2 O2, Rel K c (offs O H1) env2 O2 σ2 H2 ∧ V (i + 1) env2, fun σ2 H2 ⟨env2, O2, R2, k2⟩ => ⟨_, by omega, rfl, lt, env2, O2, R2, k2⟩, fun x H2 y => ?_⟩
    obtain ⟨s, da⟩ := yl x H2 y
    have R2 := R'.gx (R'.same s)
    refine ⟨_, env', O', _, _, R2, da, vs i _ env' (List.getElem?_eq_getElem lt) k', fun env3 σ3 k3 R3 _ _ => ⟨_, env3, O', _, R3, k3, fun env4 O4 σ4 H4 n R4 => ⟨env4, O4, R4, n⟩, fun env4 O4 σ4 H4 n R4 => h1 env4 O4 σ4 H4 n (R4.fzm R1.fz), fun env4 O4 σ4 H4 n R4 => ⟨env4, O4, R4, n⟩, h4⟩⟩
  · have z : i = ds.length := by omega
    subst z
    exact .inl ⟨w2, h1 env' O' σ' H' (vd env' k') (R'.fzm R1.fz)⟩
/-- while, by a word and a measure of what is known -/
def dWhile (t : MT) (B : MS) : MS := fun env D => ∃ W : Nat → List DV → Prop, (∃ m, W m env) ∧ ∀ m env, W m env → t env fun b => match b with
  | true => B env { nx := fun e => ∃ m', m' < m ∧ W m' e, rt := D.rt, bk := D.nx, ct := fun e => ∃ m', m' < m ∧ W m' e }
  | false => D.nx env
theorem ds_while {cn : Expr} {body : List Stmt} {t : MT} {B : MS} (hp : PassesOwn (model X.prog X.w) X.A X.env X.xe) (hc : PT X cn (upT K c t)) (hb : PSs X body (upS K c B)) : PS X (.While cn body [] pos) (upS K c (dWhile t B)) := ps_mono (ps_while hp hc hb) fun D σ H ⟨F, env, O, DD, R, hm, h1, h2, h3, h4⟩ => by
  obtain ⟨W, ⟨m0, w0⟩, turn⟩ := hm
  refine ⟨fun m σ' H' => ∃ env' O', Rel K c F env' O' σ' H' ∧ W m env', ⟨m0, env, O, R, w0⟩, ?_⟩
  rintro m σ' H' ⟨env', O', R', w⟩
  refine ⟨F, env', O', _, R', turn m env' w, fun b H2 kb g => ?_⟩
  have R2 := R'.gx g
  cases b with
  | true =>
    show ∃ N : L2.St → Hp → Prop, _ ∧ upS K c B _ σ' H2
    refine ⟨fun σ3 H3 => ∃ env3 O3, Rel K c F env3 O3 σ3 H3 ∧ ∃ m', m' < m ∧ W m' env3, fun σ3 H3 ⟨env3, O3, R3, m', lt, w3⟩ => ⟨m', lt, env3, O3, R3, w3⟩, F, env', O', _, R2, kb, fun env3 O3 σ3 H3 n R3 => ⟨env3, O3, R3, n⟩, h1, fun env3 O3 σ3 H3 n R3 => ⟨env3, O3, R3, n⟩, h4⟩
  | false =>
    show D.nx σ' H2
    exact h1 env' O' σ' H2 kb R2
/-! ### what a loop goes over -/
def miOf (m : ME) : MI := fun env k => m env fun d => match d with
  | .list ds => k ds
  | .tuple ds => k ds
  | _ => False
theorem walk_list {O : List Addr} {H : Hp} {a : Addr} {xs : List V} {ds : List PyData} (h : offs O H a = some (.lst xs)) (da : DaAll K (offs O H) xs ds) : Walk K O H (Itl K a) ds := fun O2 H2 _ s => by
  have e := (offs_some (s _ _ h)).2
  have da2 := daAll_same s da
  refine ⟨fun i d hd => ?_, xs, SqL.of e, Nat.le_of_eq (daAll_len da)⟩
  obtain ⟨v, hv, dv⟩ := daAll_at da2 hd
  exact ⟨⟨xs, v, SqL.of e, hv⟩, fun x H3 ⟨e3, y⟩ => by
    subst e3
    have z := y xs (SqL.of e)
    rw [hv] at z
    cases z
    exact ⟨Same.refl _, dv⟩⟩
theorem walk_tup {O : List Addr} {H : Hp} {a : Addr} {xs : List V} {ds : List PyData} (h : SqT K (offs O H) a xs) (da : DaAll K (offs O H) xs ds) : Walk K O H (Itt K a) ds := fun O2 H2 _ s => by
  have e : SqT K H2 a xs := Evl.ex_t offs_sub (Evl.ex_t s h)
  have da2 := daAll_same s da
  refine ⟨fun i d hd => ?_, xs, e, Nat.le_of_eq (daAll_len da)⟩
  obtain ⟨v, hv, dv⟩ := daAll_at da2 hd
  exact ⟨⟨xs, v, e, hv⟩, fun x H3 ⟨e3, y⟩ => by
    subst e3
    have z := y xs e
    rw [hv] at z
    cases z
    exact ⟨Same.refl _, dv⟩⟩
def miL (m : ME) : MI := fun env k => m env fun d => match d with
  | .list ds => k ds
  | _ => False
def miT (m : ME) : MI := fun env k => m env fun d => match d with
  | .tuple ds => k ds
  | _ => False
theorem di_list {tg l : Expr} {m : ME} (hK : X.K = K) (h : PE X l (up K c m)) : PI X tg l (upI K c (miL m)) := by
  subst hK
  refine pi_mono (pi_list h) fun σ H R ⟨F, env, O, k, RR, hm, q⟩ => ⟨F, env, O, _, RR, hm, fun d x H' kd g da => ?_⟩
  split at kd
  · obtain ⟨p, zs, rfl, f1, f2, f3⟩ := da_lst da
    exact ⟨p, rfl, ⟨zs, SqL.of (offs_some f1).2⟩, q _ _ H' kd g (walk_list f1 f3)⟩
  · exact kd.elim
theorem di_tup {tg l : Expr} {m : ME} (hK : X.K = K) (h : PE X l (up K c m)) : PI X tg l (upI K c (miT m)) := by
  subst hK
  refine pi_mono (pi_tup h) fun σ H R ⟨F, env, O, k, RR, hm, q⟩ => ⟨F, env, O, _, RR, hm, fun d x H' kd g da => ?_⟩
  split at kd
  · obtain ⟨p, zs, rfl, f1, f3⟩ := da_tup da
    exact ⟨p, rfl, ⟨zs, Evl.ex_t offs_sub f1⟩, q _ _ H' kd g (walk_tup f1 f3)⟩
  · exact kd.elim
def intsD (lo : Int) (n : Nat) : List PyData := (List.range n).map fun (i : Nat) => .int (lo + i)
theorem walk_rng {O : List Addr} {H : Hp} {lo : Int} {n : Nat} : Walk K O H (Itr lo n) (intsD lo n) := fun O2 H2 _ s => by
  have hl : (intsD lo n).length = n := by unfold intsD; rw [List.length_map, List.length_range]
  refine ⟨fun i d hd => ?_, by rw [hl]; exact Nat.le_refl n⟩
  have lt := (List.getElem?_eq_some_iff.mp hd).1
  rw [hl] at lt
  refine ⟨lt, fun x H3 ⟨e3, y⟩ => ?_⟩
  subst e3 y
  unfold intsD at hd
  rw [List.getElem?_map, List.getElem?_range lt] at hd
  cases hd
  exact ⟨Same.refl _, .int _⟩
def miR1 (ms : MA) : MI := fun env k => ms env fun as => match as with
  | [.v (.int j)] => (-1000000 ≤ j ∧ j ≤ 1000000) ∧ k (intsD 0 j.toNat)
  | _ => False
def miR2 (ms : MA) : MI := fun env k => ms env fun as => match as with
  | [.v (.int i), .v (.int j)] => (-1000000 ≤ i ∧ i ≤ 1000000 ∧ -1000000 ≤ j ∧ j ≤ 1000000) ∧ k (intsD i (j - i).toNat)
  | _ => False
theorem di_range1 {tg a : Expr} {ms : MA} {p pos : Pos} (hg : Gl X "range") (hm : X.mg "range" = Option.none) (ha : PA X [a] (upA K c ms)) (hs : starEach [a] X.env = [(false, eval a X.env)] := by rfl) : PI X tg (.Call (.Name "range" p) [a] [] pos) (upI K c (miR1 ms)) :=
  pi_mono (pi_range1 hg hm ha hs) fun σ H R ⟨F, env, O, k, RR, hm, q⟩ => ⟨F, env, O, _, RR, hm, fun as xs H' kd g ps => by
    split at kd
    · rename_i j
      cases ps with
      | cons r t =>
        cases t
        have r' : Da K (offs O H') _ (.int j) := r
        cases r'
        exact ⟨j, rfl, by omega, by omega, q _ _ H' kd.2 g walk_rng⟩
    · exact kd.elim⟩
theorem di_range2 {tg a b : Expr} {ms : MA} {p pos : Pos} (hg : Gl X "range") (hm : X.mg "range" = Option.none) (ha : PA X [a, b] (upA K c ms)) (hs : starEach [a, b] X.env = [(false, eval a X.env), (false, eval b X.env)] := by rfl) (hs2 : starEach [b] X.env = [(false, eval b X.env)] := by rfl) :
    PI X tg (.Call (.Name "range" p) [a, b] [] pos) (upI K c (miR2 ms)) := pi_mono (pi_range2 hg hm ha hs hs2) fun σ H R ⟨F, env, O, k, RR, hm, q⟩ => ⟨F, env, O, _, RR, hm, fun as xs H' kd g ps => by
    split at kd
    · rename_i i j
      cases ps with
      | cons r t =>
        cases t with
        | cons r2 t =>
          cases t
          have r' : Da K (offs O H') _ (.int i) := r
          have r2' : Da K (offs O H') _ (.int j) := r2
          cases r'
          cases r2'
          exact ⟨i, j, rfl, ⟨by omega, by omega, by omega, by omega⟩, q _ _ H' kd.2 g walk_rng⟩
    · exact kd.elim⟩
end
end Du

/-! Readings on data: comprehensions, calls, defs. -/
namespace Du
open PySem PySem.Spec PyProof.Rows L2 On
section
variable {K : PySem.W.Frag} {c : Bs} {X : Cx} {e : Expr} {pos : Pos} {st : Stmt} {rest : List Stmt}
/-! ### comprehensions -/
def wipeE (env : List DV) : List Nat → List DV
  | [] => env
  | v :: vs => (wipeE env vs).set v .un
section
variable {F : Hp} {env : List DV} {O : List Addr} {σ : L2.St} {H : Hp}
theorem Rel.un (R : Rel K c F env O σ H) (i : Nat) (x : Option V) : Rel K c F (env.set i .un) O (σ.set i x) H :=
  { R with
    sl := fun j e he => by
      by_cases hj : j = i
      · subst hj
        by_cases hl : j < env.length
        · rw [List.getElem?_set_self hl] at he
          cases he
          trivial
        · rw [List.getElem?_eq_none (by rw [List.length_set]; omega)] at he
          cases he
      · rw [List.getElem?_set_ne (Ne.symm hj)] at he ⊢
        exact R.sl j e he
    ap := fun j k ds es a hjk h1 h2 h3 => by
      by_cases hj : j = i
      · subst hj
        by_cases hl : j < env.length
        · rw [List.getElem?_set_self hl] at h1
          cases h1
        · rw [List.getElem?_eq_none (by rw [List.length_set]; omega)] at h1
          cases h1
      · by_cases hk : k = i
        · subst hk
          by_cases hl : k < env.length
          · rw [List.getElem?_set_self hl] at h2
            cases h2
          · rw [List.getElem?_eq_none (by rw [List.length_set]; omega)] at h2
            cases h2
        · rw [List.getElem?_set_ne (Ne.symm hj)] at h1 h3
          rw [List.getElem?_set_ne (Ne.symm hk)] at h2 ⊢
          exact R.ap j k ds es a hjk h1 h2 h3
    len := by rw [List.length_set, List.length_set, R.len] }
theorem Rel.wipe (R : Rel K c F env O σ H) : ∀ vs : List Nat, Rel K c F (wipeE env vs) O (L2.wipe σ vs) H
  | [] => R
  | v :: vs => (R.wipe vs).un v Option.none
/-- a thing that is made apart -/
theorem Rel.acc (R : Rel K c F env O σ H) {D : Addr} {o : HO} (n : H D = Option.none) : Rel K c F env (D :: O) σ (upd H D o) where
  dom := fun a h => by
    by_cases z : a = D
    · exact ⟨o, by rw [z, upd_same]⟩
    · rw [upd_ne z]
      exact R.dom a ((List.mem_cons.mp h).resolve_left z)
  sub := fun a h => List.mem_cons_of_mem _ (R.sub a h)
  ent := R.ent
  but := fun a u nb e => Evl.Ex.new n _ _ (R.but a u nb e)
  bg := fun a h => ⟨(R.bg a h).1, (R.bg a h).2.1.same (Evl.Ex.new n), fun z => by
    rcases List.mem_cons.mp z with z | z
    · obtain ⟨⟨_, _, _, cs, _, e2, _⟩, _⟩ := (R.bg a h).2.1
      rw [z, n] at e2
      cases e2
    · exact (R.bg a h).2.2 z⟩
  sys := by
    obtain ⟨φ, e⟩ := R.sys
    exact ⟨φ, Evl.Ex.new n _ _ e⟩
  nsys := fun z => by
    rcases List.mem_cons.mp z with z | z
    · obtain ⟨φ, e⟩ := R.sys
      rw [z, n] at e
      cases e
    · exact R.nsys z
  fz := R.fz.trans (offs_new n (Evl.Ex.new n))
  sl := fun j e he => by
    have k : Same (offs O H) (offs (D :: O) (upd H D o)) := offs_new n (Evl.Ex.new n)
    have q := R.sl j e he
    cases e with
    | un => trivial
    | v d =>
      obtain ⟨x, h1, h2⟩ := q
      exact ⟨x, h1, da_same k h2⟩
    | own ds =>
      obtain ⟨a, xs, h1, h2, h3, h5, h6, h7⟩ := q
      exact ⟨a, xs, h1, List.mem_cons_of_mem _ h2, h3, h5, Evl.Ex.new n _ _ h6, daAll_same k h7⟩
    | bag => exact q
  ap := R.ap
  len := R.len
theorem Rel.turn (R : Rel K c F env O σ H) {D : Addr} {o : HO} {xs : List V} (hO : D ∈ O) (hD : H D = some (.lst xs)) (n0 : c.H0 D = Option.none) (ho : ∀ (i : Nat) ds, env[i]? = some (.own ds) → σ[i]? ≠ some (some (.ref D))) : Rel K c F env O σ (upd H D o) where
  dom := fun a h => by
    by_cases z : a = D
    · exact ⟨o, by rw [z, upd_same]⟩
    · rw [upd_ne z]
      exact R.dom a h
  sub := R.sub
  ent := R.ent
  but := fun a u nb e => by
    rw [upd_ne (fun z => by rw [z, n0] at e; cases e)]
    exact R.but a u nb e
  bg := fun a h => ⟨(R.bg a h).1, (R.bg a h).2.1.upd (fun z => (R.n0 n0).2 (by rw [z]; exact h)) (fun z => (R.bg a h).2.2 (by rw [← z]; exact hO)) hD, (R.bg a h).2.2⟩
  sys := by
    obtain ⟨φ, e⟩ := R.sys
    refine ⟨φ, ?_⟩
    rw [upd_ne (fun z => R.nsys (by rw [z]; exact hO))]
    exact e
  nsys := R.nsys
  fz := R.fz.trans (offs_same (fun b u n e => by rw [upd_ne (fun z => n (by rw [z]; exact hO))]; exact e) fun _ z _ => z)
  sl := fun j e he => by
    have k : Same (offs O H) (offs O (upd H D o)) := offs_same (fun b u n e => by rw [upd_ne (fun z => n (by rw [z]; exact hO))]; exact e) fun _ z _ => z
    have q := R.sl j e he
    cases e with
    | un => trivial
    | v d =>
      obtain ⟨x, h1, h2⟩ := q
      exact ⟨x, h1, da_same k h2⟩
    | own ds =>
      obtain ⟨a, xs', h1, h2, h3, h5, h6, h7⟩ := q
      exact ⟨a, xs', h1, h2, h3, h5, by rw [upd_ne (fun z => ho j ds he (by rw [h1, z]))]; exact h6, daAll_same k h7⟩
    | bag => exact q
  ap := R.ap
  len := R.len
end
theorem wipe_get {σ : L2.St} : ∀ {vs : List Nat} {j : Nat}, (wipe σ vs)[j]? = if j ∈ vs then (if j < σ.length then some Option.none else Option.none) else σ[j]?
  | [], j => by simp [wipe]
  | v :: vs, j => by
    rw [wipe]
    by_cases h : j = v
    · subst h
      rw [if_pos List.mem_cons_self]
      by_cases hl : j < σ.length
      · rw [List.getElem?_set_self (by rw [wipe_length]; exact hl), if_pos hl]
      · rw [List.getElem?_eq_none (by rw [List.length_set, wipe_length]; omega), if_neg hl]
    · rw [List.getElem?_set_ne (Ne.symm h), wipe_get]
      by_cases hm : j ∈ vs
      · rw [if_pos hm, if_pos (List.mem_cons_of_mem _ hm)]
      · rw [if_neg hm, if_neg (fun z => (List.mem_cons.mp z).elim h hm)]
theorem wipe_same {σ σ2 : L2.St} {vs : List Nat} (h : ∀ j : Nat, j ∉ vs → σ2[j]? = (wipe σ vs)[j]?) (hl : σ2.length = (wipe σ vs).length) : wipe σ2 vs = wipe σ vs := by
  refine List.ext_getElem? fun j => ?_
  rw [wipe_get]
  rw [wipe_length] at hl
  by_cases hj : j ∈ vs
  · rw [if_pos hj, wipe_get, if_pos hj, hl]
  · rw [if_neg hj, h j hj]
def lcGo (g : MG) (mt : MT) (me : ME) (env : List DV) : List PyData → List PyData → (PyData → Prop) → Prop
  | acc, [], k => k (.list acc)
  | acc, d :: ds, k => g d env fun e1 => mt e1 fun b => match b with
    | true => acc.length < 100000 ∧ me e1 fun r => lcGo g mt me env (acc ++ [r]) ds k
    | false => lcGo g mt me env acc ds k
def mLc (mi : MI) (g : MG) (mt : MT) (me : ME) (vs : List Nat) : ME := fun env k => mi env fun ds => lcGo g mt me (wipeE env vs) [] ds k
def mYes : MT := fun _ k => k true
theorem dts_nil : PTs X [] (upT K c mYes) := ⟨fun pins s σ H Q I ⟨F, env, O, k, R, hm, q⟩ => pts_nil.run pins s σ H Q I (q _ _ hm R.refl)⟩
theorem dts_one {cn : Expr} {t : MT} (h : PT X cn (upT K c t)) : PTs X [cn] (upT K c t) := pts_one h
theorem up_lc {mi : MI} {ss : List Nat} {g : MG} {mt : MT} {me : ME} {vs : List Nat} (hss : ∀ j ∈ ss, j ∈ vs) (σ : L2.St) (H : Hp) (Q : VK) (h : upL K c (mLc mi g mt me vs) σ H Q) : tLc (upI K c mi) (upG K c ss g) (upT K c mt) (up K c me) vs σ H Q := by
  obtain ⟨F, env, O, k, R, hm, q⟩ := h
  refine ⟨F, env, O, _, R, hm, fun ds J H1 kd gx W D nD => ?_⟩
  have R1 := R.gx gx
  have nO : D ∉ O := fun z => by
    obtain ⟨o, eo⟩ := R1.dom D z
    rw [nD] at eo
    cases eo
  have n0 : c.H0 D = Option.none := R1.h0 nD
  have nb : D ∉ c.b := (R1.n0 n0).2
  have nsys : D ≠ sysModules := fun z => by
    obtain ⟨φ, e⟩ := R1.sys
    rw [← z, nD] at e
    cases e
  have nH : H D = Option.none := by
    cases e : H D with
    | none => rfl
    | some o =>
      have z := gx.kp D o nb e
      rw [nD] at z
      cases z
  have own1 : ∀ (i : Nat) ds, (wipeE env vs)[i]? = some (.own ds) → (wipe σ vs)[i]? ≠ some (some (.ref D)) := fun i ds hi z => by
    obtain ⟨a, xs, h1, h2, _⟩ := (R1.wipe vs).sl i _ hi
    rw [z] at h1
    cases h1
    exact nO h2
  refine ⟨fun i m H' => m = ds.length - i ∧ i ≤ ds.length ∧ ∃ acc ys, H' D = some (.lst ys) ∧ DaAll K (offs (D :: O) H') ys acc ∧ Rel K c F (wipeE env vs) (D :: O) (wipe σ vs) H' ∧ Gx c H1 H' ∧ Same (offs O H1) (offs (D :: O) H') ∧ lcGo g mt me (wipeE env vs) acc (ds.drop i) k,
    ⟨_, rfl, Nat.zero_le _, [], [], upd_same, .nil, (R1.wipe vs).acc nD, R1.same (Evl.Ex.new nD), offs_new nD (Evl.Ex.new nD), kd⟩, ?_⟩
  rintro i m H' ⟨rfl, hi, acc, ys, hy, da, R', g', s', k'⟩
  obtain ⟨w1, w2⟩ := W (D :: O) H' R'.dom s'
  by_cases lt : i < ds.length
  · obtain ⟨go, yl⟩ := w1 i ds[i] (List.getElem?_eq_getElem lt)
    rw [List.drop_eq_getElem_cons lt] at k'
    refine .inr ⟨go, fun H' => ∃ acc ys, H' D = some (.lst ys) ∧ DaAll K (offs (D :: O) H') ys acc ∧ Rel K c F (wipeE env vs) (D :: O) (wipe σ vs) H' ∧ Gx c H1 H' ∧ Same (offs O H1) (offs (D :: O) H') ∧ lcGo g mt me (wipeE env vs) acc (ds.drop (i + 1)) k,
      fun H2 hh => ⟨_, by omega, rfl, lt, hh⟩, fun x H2 y => ?_⟩
    obtain ⟨s, dx⟩ := yl x H2 y
    have g2 := R'.same s
    have R2 := R'.gx g2
    refine ⟨F, _, D :: O, _, _, R2, dx, k', fun e1 σ2 k2 R3 f l => ⟨wipe_same (fun j hj => f j fun z => hj (hss j z)) l, F, e1, D :: O, _, R3, k2, fun b H3 kb g3 => ?_⟩⟩
    have R4 := R3.gx g3
    cases b with
    | true =>
      show up K c me σ2 H3 _
      refine ⟨F, e1, D :: O, _, R4, kb.2, fun r v H4 kr g4 dv => ?_⟩
      have gg := (g2.trans g3).trans g4
      have hy4 := gg.kp _ _ nb hy
      have R5 := R'.gx gg
      have hl := daAll_len da
      have hlt : acc.length < 100000 := kb.1
      have k5 : Same (offs (D :: O) H4) (offs (D :: O) (upd H4 D (.lst (ys ++ [v])))) := offs_same (fun b u n e => by rw [upd_ne (fun z => n (by rw [z]; exact List.mem_cons_self))]; exact e) fun _ z _ => z
      have da4 := daAll_same (R'.go gg) da
      refine ⟨ys, hy4, Evl.sz_lt (by omega), acc ++ [r], ys ++ [v], upd_same, daAll_same k5 (daAll_app da4 (.cons dv .nil)), R5.turn List.mem_cons_self hy4 n0 own1, ⟨fun a o n e => ?_, fun a h => ?_⟩, ?_, kr⟩
      · rw [upd_ne (fun z => by rw [z, nD] at e; cases e)]
        exact gg.kp a o n (g'.kp a o n e)
      · exact ((R5.turn (o := .lst (ys ++ [v])) List.mem_cons_self hy4 n0 own1).bg a h).2.1
      · exact (s'.trans (R'.go gg)).trans k5
    | false =>
      have gg := g2.trans g3
      exact ⟨acc, ys, gg.kp _ _ nb hy, daAll_same (R'.go gg) da, R'.gx gg, g'.trans gg, s'.trans (R'.go gg), kb⟩
  · have z : i = ds.length := by omega
    subst z
    rw [List.drop_length] at k'
    exact .inl ⟨w2, q _ D ys acc H' k' rfl (gx.trans g') nH hy nsys da⟩
theorem de_lc {elt tg iter : Expr} {ifs : List Expr} {scope : Scope} {own : List (Str × Nat)} {mi : MI} {ss : List Nat} {g : MG} {mt : MT} {me : ME} (hc : X.calm = true) (hN : X.N.Nodup) (hi : PI X tg iter (upI K c mi)) (ok : BlkOk X.N X.env.scope scope own)
    (hg : ∀ (s : Shared) (H : Hp) (C : Addr) (cl : List (Str × Addr)) (fp : List Addr), PG (X.blk s H scope (compEnvC scope cl C X.env) fp) tg (upG K c ss g)) (ht : ∀ (s : Shared) (H : Hp) (C : Addr) (cl : List (Str × Addr)) (fp : List Addr), PTs (X.blk s H scope (compEnvC scope cl C X.env) fp) ifs (upT K c mt))
    (he : ∀ (s : Shared) (H : Hp) (C : Addr) (cl : List (Str × Addr)) (fp : List Addr), PE (X.blk s H scope (compEnvC scope cl C X.env) fp) elt (up K c me)) (hss : ∀ j ∈ ss, j ∈ own.map (·.2)) (hs : ∀ x, foldedSetIterable iter X.env x = pure x := by intro _; rfl) :
    PE X (.ListComp elt [⟨tg, iter, ifs, 0⟩] scope pos) (upL K c (mLc mi g mt me (own.map (·.2)))) := pe_mono (pe_lc hc hN hi ok hg ht he hs) (up_lc hss)
/-- name = [..] on one line -/
theorem ds_setLc {i : Nat} {y : Str} {py : Pos} {elt tg iter : Expr} {ifs : List Expr} {scope : Scope} {own : List (Str × Nat)} {spos : Pos} {mi : MI} {ss : List Nat} {g : MG} {mt : MT} {me : ME} (hc : X.calm = true) (hN : X.N.Nodup) (hy : X.N[i]? = some y) (hyl : X.env.scope.names.lookup y = some .local)
    (hsw : swapsWith (.ListComp elt [⟨tg, iter, ifs, 0⟩] scope pos) (some (.Name y py)) spos.line X.env = pure true) (hi : PI X tg iter (upI K c mi)) (ok : BlkOk X.N X.env.scope scope own)
    (hg : ∀ (s : Shared) (H : Hp) (C : Addr) (cl : List (Str × Addr)) (fp : List Addr), PG (X.blk s H scope (compEnvC scope cl C X.env) fp) tg (upG K c ss g)) (ht : ∀ (s : Shared) (H : Hp) (C : Addr) (cl : List (Str × Addr)) (fp : List Addr), PTs (X.blk s H scope (compEnvC scope cl C X.env) fp) ifs (upT K c mt))
    (he : ∀ (s : Shared) (H : Hp) (C : Addr) (cl : List (Str × Addr)) (fp : List Addr), PE (X.blk s H scope (compEnvC scope cl C X.env) fp) elt (up K c me)) (hss : ∀ j ∈ ss, j ∈ own.map (·.2)) (hs : ∀ x, foldedSetIterable iter X.env x = pure x := by intro _; rfl) :
    PS X (.Assign [.Name y py] (.ListComp elt [⟨tg, iter, ifs, 0⟩] scope pos) spos) (upS K c (dAsgL i (mLc mi g mt me (own.map (·.2))))) := ps_mono (ps_setLc hc hN hy hyl hsw hi ok hg ht he hs) fun D σ H h => by
  obtain ⟨F, env, O, DD, R, hb, h1, h2, h3, h4⟩ := h
  refine up_lc hss σ H _ ⟨F, env, O, _, R, hb, fun d p ys ds H' kd ed g n ep hp da => ?_⟩
  subst ed
  exact h1 _ _ _ H' kd (R.setL i g n ep hp da)
/-- .. held as data -/
theorem ds_setLcV {i : Nat} {y : Str} {py : Pos} {elt tg iter : Expr} {ifs : List Expr} {scope : Scope} {own : List (Str × Nat)} {spos : Pos} {mi : MI} {ss : List Nat} {g : MG} {mt : MT} {me : ME} (hc : X.calm = true) (hN : X.N.Nodup) (hy : X.N[i]? = some y) (hyl : X.env.scope.names.lookup y = some .local)
    (hsw : swapsWith (.ListComp elt [⟨tg, iter, ifs, 0⟩] scope pos) (some (.Name y py)) spos.line X.env = pure true) (hi : PI X tg iter (upI K c mi)) (ok : BlkOk X.N X.env.scope scope own)
    (hg : ∀ (s : Shared) (H : Hp) (C : Addr) (cl : List (Str × Addr)) (fp : List Addr), PG (X.blk s H scope (compEnvC scope cl C X.env) fp) tg (upG K c ss g)) (ht : ∀ (s : Shared) (H : Hp) (C : Addr) (cl : List (Str × Addr)) (fp : List Addr), PTs (X.blk s H scope (compEnvC scope cl C X.env) fp) ifs (upT K c mt))
    (he : ∀ (s : Shared) (H : Hp) (C : Addr) (cl : List (Str × Addr)) (fp : List Addr), PE (X.blk s H scope (compEnvC scope cl C X.env) fp) elt (up K c me)) (hss : ∀ j ∈ ss, j ∈ own.map (·.2)) (hs : ∀ x, foldedSetIterable iter X.env x = pure x := by intro _; rfl) :
    PS X (.Assign [.Name y py] (.ListComp elt [⟨tg, iter, ifs, 0⟩] scope pos) spos) (upS K c (dAsg (mLc mi g mt me (own.map (·.2))) (gNm i))) := ps_mono (ps_setLc hc hN hy hyl hsw hi ok hg ht he hs) fun D σ H h => by
  obtain ⟨F, env, O, DD, R, hb, h1, h2, h3, h4⟩ := h
  refine up_lc hss σ H _ ⟨F, env, O, _, R, hb, fun d p ys ds H' kd ed g n ep hp da => ?_⟩
  subst ed
  have pO : p ∉ O := fun z => by
    obtain ⟨o, eo⟩ := R.dom p z
    rw [n] at eo
    cases eo
  exact h1 _ O _ H' kd ((R.gx g).set i (.lst (by rw [offs_ne pO]; exact ep) hp (daAll_same (offs_less fun a z => List.mem_cons_of_mem _ z) da)))
/-! ### defs -/
def ArgB (K : PySem.W.Frag) (b : List Addr) (O : List Addr) (H : Hp) (x : V) : DV → Prop
  | .v d => Da K (offs O H) x d
  | .bag => ∃ a, x = .ref a ∧ b = [a]
  | _ => False
/-- a def of n parameters that does f on data -/
def spF (K : PySem.W.Frag) (n : Nat) (f : List DV → (PyData → Prop) → Prop) : Sp := fun vs H Q _ => ∃ (O b : List Addr) (l : Addr) (as : List DV) (k : PyData → Prop),
  (∀ a ∈ O, ∃ o, H a = some o) ∧ (∀ a ∈ b, a ∈ O ∧ Bag H a l ∧ l ∉ O) ∧ Sys H ∧ sysModules ∉ O ∧ Paired (ArgB K b O H) vs as ∧ as.length = n ∧ f as k ∧
  ∀ d x H', k d → (∀ a o, a ∉ b → H a = some o → H' a = some o) → (∀ a ∈ b, Bag H' a l) → Da K (offs O H') x d → Q x H'
def mCall (n : Nat) (f : List DV → (PyData → Prop) → Prop) (ms : MA) : ME := fun env k => ms env fun as => as.length = n ∧ f as k
theorem paired_argb {O : List Addr} {H : Hp} : ∀ {xs : List V} {as : List DV}, Paired (ArgR K c O H) xs as → Paired (ArgB K c.b O H) xs as
  | _, _, .nil => .nil
  | _, _, .cons (b := dv) r t => .cons (by
      cases dv with
      | v d => exact r
      | bag => exact r
      | _ => exact r) (paired_argb t)
theorem up_call {n : Nat} {f : List DV → (PyData → Prop) → Prop} {ms : MA} {E : XK} (σ : L2.St) (H : Hp) (Q : VK) (h : up K c (mCall n f ms) σ H Q) : tCall (spF K n f) [] E (upA K c ms) σ H Q := by
  obtain ⟨F, env, O, k, R, hm, q⟩ := h
  refine ⟨F, env, O, _, R, hm, fun as xs H' kd g ps => ?_⟩
  have R' := R.gx g
  refine ⟨O, c.b, c.l, as, k, R'.dom, fun a h => ⟨R'.bO a h, (R'.bg a h).2⟩, R'.sys, R'.nsys, by rw [List.append_nil]; exact paired_argb ps, kd.1, kd.2, fun d x H2 kx k1 k2 da => q d x H2 kx (g.trans ⟨k1, k2⟩) da⟩
theorem de_call {n : Nat} {f : List DV → (PyData → Prop) → Prop} {ms : MA} {E : XK} (h : PE X e (tCall (spF K n f) [] E (upA K c ms))) : PE X e (up K c (mCall n f ms)) := pe_mono h up_call
theorem paired_get {α β : Type} {R : α → β → Prop} : ∀ {xs : List α} {ys : List β} {i : Nat} {y : β}, Paired R xs ys → ys[i]? = some y → ∃ x, xs[i]? = some x ∧ R x y
  | _, _, _, _, .nil, e => by simp at e
  | _, _, 0, _, .cons r _, e => by
    simp at e
    subst e
    exact ⟨_, rfl, r⟩
  | _, _, i + 1, _, .cons _ t, e => by
    obtain ⟨x, h1, h2⟩ := paired_get (i := i) t (by simpa using e)
    exact ⟨x, by simpa using h1, h2⟩
def envOf (N : List Str) (as : List DV) : List DV := as ++ List.replicate (N.length - as.length) .un
theorem rel_start {N : List Str} {H : Hp} {O b : List Addr} {l : Addr} {vs : List V} {as : List DV} (h1 : ∀ a ∈ O, ∃ o, H a = some o) (h2 : ∀ a ∈ b, a ∈ O ∧ Bag H a l ∧ l ∉ O) (h3 : Sys H) (h4 : sysModules ∉ O) (h5 : Paired (ArgB K b O H) vs as) :
    Rel K ⟨H, O, b, l⟩ (offs O H) (envOf N as) O (L2.start N vs) H where
  dom := h1
  sub := fun _ h => h
  ent := h1
  but := fun _ _ _ e => e
  bg := h2
  sys := h3
  nsys := h4
  fz := fun _ _ e => e
  sl := fun i e he => by
    have hl := h5.length
    by_cases lt : i < as.length
    · unfold envOf at he
      rw [List.getElem?_append_left lt] at he
      obtain ⟨x, hx, r⟩ := paired_get h5 he
      have es : (L2.start N vs)[i]? = some (some x) := by
        unfold L2.start
        rw [List.getElem?_append_left (by rw [List.length_map]; omega), List.getElem?_map, hx]
        rfl
      cases e with
      | un => trivial
      | v d => exact ⟨x, es, r⟩
      | own ds => exact r.elim
      | bag =>
        obtain ⟨a, rfl, hb⟩ := r
        exact ⟨a, es, hb⟩
    · unfold envOf at he
      rw [List.getElem?_append_right (by omega)] at he
      rw [List.getElem?_replicate] at he
      split at he
      · cases he
        trivial
      · cases he
  ap := fun i j ds es a _ hi _ _ => by
    exfalso
    by_cases lt : i < as.length
    · unfold envOf at hi
      rw [List.getElem?_append_left lt] at hi
      obtain ⟨x, hx, r⟩ := paired_get h5 hi
      exact r
    · unfold envOf at hi
      rw [List.getElem?_append_right (by omega), List.getElem?_replicate] at hi
      split at hi
      · cases hi
      · cases hi
  len := by
    unfold L2.start envOf
    rw [List.length_append, List.length_append, List.length_map, List.length_replicate, List.length_replicate, h5.length]
/-- the rule for a def: its body B does f -/
theorem okD {P : Program} {w : World} {mg : Str → Option Value} {base : Heap} {k : Nat} {f : Addr} {fd : FuncData} {N ps : List Str} {x qual : Str} {st : Stmt} {m : List DV → (PyData → Prop) → Prop} {B : MS} (F : Fun K x qual st f fd) (S : FnScope N ps (defScope st))
    (hb : ∀ (c : Bs) (cdv : Value) (A : Around) (outer : List Env) (s : Shared) (H : Hp) (E : XK), A.guards = some [] → Room k (A.deeper (envOfC qual (defScope st) s.heap.objs.size f cdv)) →
      PSs (cxOf CX0 P w K mg base N qual (defScope st) f cdv A outer s H E).nox (defBody st) (upS K c B))
    (hm : ∀ as q, as.length = ps.length → m as q → B (envOf N as) { nx := fun _ => q .none, rt := q }) : FnG P w K mg base (k + 1) f fd ps (spF K ps.length m) := by
  refine okG F S (fun vs H Q E h => ?_) (fun cdv A' outer s H vs Q E hg hr h => ?_)
  · obtain ⟨O, b, l, as, q, _, _, _, _, h5, h6, _⟩ := h
    rw [h5.length, h6]
  · obtain ⟨O, b, l, as, q, h1, h2, h3, h4, h5, h6, h7, h8⟩ := h
    refine ⟨_, hb ⟨H, O, b, l⟩ cdv A' outer s H E hg hr, _, _, O, _, rel_start h1 h2 h3 h4 h5, hm as q h6 h7, ?_, ?_, ?_, ?_⟩
    · intro env' O' σ' H' n R
      exact h8 _ _ H' n R.but (fun a h => (R.bg a h).2.1) .non
    · exact fun _ _ _ _ z => z.elim
    · exact fun _ _ _ _ z => z.elim
    · intro d x H' kd r
      exact h8 d x H' kd r.but r.bg r.da
end
end Du

/-! == of data, one side of which is made of ints and tuples: the other may hold dicts. -/
namespace PySem.SeqAt
open AutoSeq1 (wpAny_loadPart')
open MeetsSeq
theorem dict_eq_declines_int (l : Addr) (es : Array DictEntry) (ep : Nat) (dd : Option Addr) (sl : Array (Option Value)) (b : Int) (u : Tok) :
    Meets (Builtin.«dict.__eq__» ⟨[.ref l, .int b u], []⟩) (fun _ R s => s.heap.get? l = some { cls := .type "dict", dict := dd, data := .dict es ep, slots := sl } ∧ R (.ok (.ret .notImplemented)) s) :=
  .of_wp fun prog w A R s h => by obtain ⟨hp, g, d, tk, os⟩ := s; obtain ⟨hl, h⟩ := h; have f1 := F.sub_int_dict; wp_walk using wpAny_loadPart' hl, wpAny_load hl; exact ⟨_, rfl, h⟩
theorem dict_eq_declines_tuple (l b : Addr) (es : Array DictEntry) (ep : Nat) (dd dd2 : Option Addr) (sl sl2 : Array (Option Value)) (items : Array Value) (n : Nat) :
    Meets (Builtin.«dict.__eq__» ⟨[.ref l, .ref b], []⟩) (fun _ R s => s.heap.get? l = some { cls := .type "dict", dict := dd, data := .dict es ep, slots := sl } ∧ s.heap.get? b = some { cls := .type "tuple", dict := dd2, data := .seq items n, slots := sl2 } ∧ R (.ok (.ret .notImplemented)) s) :=
  .of_wp fun prog w A R s h => by obtain ⟨hp, g, d, tk, os⟩ := s; obtain ⟨hl, hb, h⟩ := h; have f1 := F.sub_tuple_dict; wp_walk using wpAny_loadPart' hl, wpAny_loadPart' hb, wpAny_load hl, wpAny_load hb; exact ⟨_, rfl, h⟩
theorem tuple_eq_declines_dict (l b : Addr) (es : Array DictEntry) (ep : Nat) (dd dd2 : Option Addr) (sl sl2 : Array (Option Value)) (items : Array Value) (n : Nat) :
    Meets (Builtin.«tuple.__eq__» ⟨[.ref b, .ref l], []⟩) (fun _ R s => s.heap.get? l = some { cls := .type "dict", dict := dd, data := .dict es ep, slots := sl } ∧ s.heap.get? b = some { cls := .type "tuple", dict := dd2, data := .seq items n, slots := sl2 } ∧ R (.ok (.ret .notImplemented)) s) :=
  .of_wp fun prog w A R s h => by obtain ⟨hp, g, d, tk, os⟩ := s; obtain ⟨hl, hb, h⟩ := h; have f1 := F.sub_dict_tuple; wp_walk using wpAny_loadPart' hl, wpAny_loadPart' hb, wpAny_load hl, wpAny_load hb; exact ⟨_, rfl, h⟩
theorem int_eq_declines_dict (b : Int) (u : Tok) (l : Addr) (es : Array DictEntry) (ep : Nat) (dd : Option Addr) (sl : Array (Option Value)) :
    Meets (Builtin.«int.__eq__» ⟨[.int b u, .ref l], []⟩) (fun _ R s => s.heap.get? l = some { cls := .type "dict", dict := dd, data := .dict es ep, slots := sl } ∧ R (.ok (.ret .notImplemented)) s) :=
  .of_wp fun prog w A R s h => by obtain ⟨hp, g, d, tk, os⟩ := s; obtain ⟨hl, h⟩ := h; wp_walk using wpAny_loadPart' hl, wpAny_load hl; exact ⟨_, rfl, h⟩
/-- a dict -/
def IsD (h : Heap) (l : Addr) : Prop := ∃ o es n, h.get? l = some o ∧ o.cls = .type "dict" ∧ o.data = .dict es n
section
variable {A : Around} {s : Shared}
theorem RcAt.dict_int {l : Addr} (b : Int) (u : Tok) (hl : IsD s.heap l) (hu : A.units < cLine) : RcAt A s (.ref l) (.int b u) false := fun prog w E Q h => by
  obtain ⟨⟨cls, dd, data, sl⟩, es, n, ho, hc, hd⟩ := id hl
  simp only at hc hd
  subst hc hd
  exact rc_eq_decline_or (k := false) ⟨_, ho, rfl⟩ (typeIs_int s b u) (by decide) F.sub_int_dict F.slot_dict_eq F.slot_int_eq_refl
    (fun _ hq => call_meets F.slot_dict_eq ⟨_, ho, rfl⟩ F.entry_dict_eq (F.args_dict_eq_2 _ _) (dict_eq_declines_int l es n dd sl b u) ⟨ho, hq⟩)
    (fun _ hq => call_meets F.slot_int_eq_refl (typeIs_int s b u) F.entry_int_eq (F.args_int_eq_2 _ _) (int_eq_declines_dict b u l es n dd sl) ⟨ho, hq⟩)
    (fun _ hq => wpAny_of_eq (rfl : isSame (.ref l) (.int b u) = pure false) hq) (.inr hu) h
theorem EqAt.dict_int {l : Addr} (b : Int) (u : Tok) (hl : IsD s.heap l) (hu : A.units < cLine) : EqAt A s (.ref l) (.int b u) false := fun prog w E Q h => by
  unfold eqBool
  refine wpAny_holding ?_
  refine wpAny_ite_split (fun hab => absurd (eq_of_beq hab) nofun) (fun _ => ?_)
  exact wpAny_bind (RcAt.dict_int b u hl hu prog w E _ (wpAny_truthy_bool h))
theorem RcAt.int_dict {l : Addr} (b : Int) (u : Tok) (hl : IsD s.heap l) (hu : A.units < cLine) : RcAt A s (.int b u) (.ref l) false := fun prog w E Q h => by
  obtain ⟨⟨cls, dd, data, sl⟩, es, n, ho, hc, hd⟩ := id hl
  simp only at hc hd
  subst hc hd
  exact rc_eq_decline_or (k := false) (typeIs_int s b u) ⟨_, ho, rfl⟩ (by decide) F.sub_dict_int F.slot_int_eq F.slot_dict_eq_refl
    (fun _ hq => call_meets F.slot_int_eq (typeIs_int s b u) F.entry_int_eq (F.args_int_eq_2 _ _) (int_eq_declines_dict b u l es n dd sl) ⟨ho, hq⟩)
    (fun _ hq => call_meets F.slot_dict_eq_refl ⟨_, ho, rfl⟩ F.entry_dict_eq (F.args_dict_eq_2 _ _) (dict_eq_declines_int l es n dd sl b u) ⟨ho, hq⟩)
    (fun _ hq => wpAny_of_eq (rfl : isSame (.int b u) (.ref l) = pure false) hq) (.inr hu) h
theorem EqAt.int_dict {l : Addr} (b : Int) (u : Tok) (hl : IsD s.heap l) (hu : A.units < cLine) : EqAt A s (.int b u) (.ref l) false := fun prog w E Q h => by
  unfold eqBool
  refine wpAny_holding ?_
  refine wpAny_ite_split (fun hab => absurd (eq_of_beq hab) nofun) (fun _ => ?_)
  exact wpAny_bind (RcAt.int_dict b u hl hu prog w E _ (wpAny_truthy_bool h))
theorem ne_of_dict_tuple {l b : Addr} {items : Array Value} (hl : IsD s.heap l) (hb : s.heap.IsTuple b items) : l ≠ b := fun e => by
  subst e
  obtain ⟨o, _, _, ho, hc, _⟩ := hl
  obtain ⟨o2, ho2, hc2, _⟩ := hb
  rw [ho] at ho2
  cases ho2
  rw [hc] at hc2
  exact absurd hc2 (by simp)
theorem EqAt.dict_tuple {l b : Addr} {items : Array Value} (hl : IsD s.heap l) (hb : s.heap.IsTuple b items) (hu : A.units < cLine) : EqAt A s (.ref l) (.ref b) false := .of_refs (ne_of_dict_tuple hl hb) fun prog w E Q h => by
  have hne : l ≠ b := ne_of_dict_tuple hl hb
  obtain ⟨⟨cls, dd, data, sl⟩, es, n, ho, hc, hd⟩ := id hl
  obtain ⟨⟨cls2, dd2, data2, sl2⟩, ho2, hc2, n2, hd2⟩ := id hb
  simp only at hc hd hc2 hd2
  subst hc hd hc2 hd2
  exact (rc_eq_decline_or (k := false) ⟨_, ho, rfl⟩ ⟨_, ho2, rfl⟩ (by decide) F.sub_tuple_dict F.slot_dict_eq F.slot_tuple_eq_refl
    (fun _ hq => call_meets F.slot_dict_eq ⟨_, ho, rfl⟩ F.entry_dict_eq (F.args_dict_eq_2 _ _) (dict_eq_declines_tuple l b es n dd dd2 sl sl2 items n2) ⟨ho, ho2, hq⟩)
    (fun _ hq => call_meets F.slot_tuple_eq_refl ⟨_, ho2, rfl⟩ F.entry_tuple_eq (F.args_tuple_eq_2 _ _) (tuple_eq_declines_dict l b es n dd dd2 sl sl2 items n2) ⟨ho, ho2, hq⟩)
    (fun _ hq => wpAny_isSame_ref_other hne ho ho2 (by simp) hq) (.inr hu) h)
theorem EqAt.tuple_dict {l b : Addr} {items : Array Value} (hl : IsD s.heap l) (hb : s.heap.IsTuple b items) (hu : A.units < cLine) : EqAt A s (.ref b) (.ref l) false := .of_refs (ne_of_dict_tuple hl hb).symm fun prog w E Q h => by
  have hne : b ≠ l := (ne_of_dict_tuple hl hb).symm
  obtain ⟨⟨cls, dd, data, sl⟩, es, n, ho, hc, hd⟩ := id hl
  obtain ⟨⟨cls2, dd2, data2, sl2⟩, ho2, hc2, n2, hd2⟩ := id hb
  simp only at hc hd hc2 hd2
  subst hc hd hc2 hd2
  exact (rc_eq_decline_or (k := false) ⟨_, ho2, rfl⟩ ⟨_, ho, rfl⟩ (by decide) F.sub_dict_tuple F.slot_tuple_eq F.slot_dict_eq_refl
    (fun _ hq => call_meets F.slot_tuple_eq ⟨_, ho2, rfl⟩ F.entry_tuple_eq (F.args_tuple_eq_2 _ _) (tuple_eq_declines_dict l b es n dd dd2 sl sl2 items n2) ⟨ho, ho2, hq⟩)
    (fun _ hq => call_meets F.slot_dict_eq_refl ⟨_, ho, rfl⟩ F.entry_dict_eq (F.args_dict_eq_2 _ _) (dict_eq_declines_tuple l b es n dd dd2 sl sl2 items n2) ⟨ho, ho2, hq⟩)
    (fun _ hq => wpAny_isSame_ref_other' hne ho2 ho (by simp) hq) (.inr hu) h)
end
mutual
/-- made of ints and tuples -/
def ti : PyData → Bool
  | .int _ => true
  | .tuple xs => tis xs
  | _ => false
def tis : List PyData → Bool
  | [] => true
  | x :: xs => ti x && tis xs
end
mutual
theorem ti_lay : ∀ d : PyData, ti d = true → d.canLay0 = true
  | .int _, _ => by rw [PyData.canLay0]
  | .tuple xs, h => by
    rw [ti] at h
    rw [PyData.canLay0]
    exact tis_lay xs h
  | .none, h => by simp [ti] at h
  | .bool _, h => by simp [ti] at h
  | .str _, h => by simp [ti] at h
  | .list _, h => by simp [ti] at h
  | .dict _, h => by simp [ti] at h
theorem tis_lay : ∀ xs : List PyData, tis xs = true → PyData.canLayAll0 xs = true
  | [], _ => by rw [PyData.canLayAll0]
  | x :: xs, h => by
    rw [tis, Bool.and_eq_true] at h
    rw [PyData.canLayAll0, ti_lay x h.1, tis_lay xs h.2] <;> rfl
end
mutual
theorem eqTD : ∀ (da db : PyData) (A : Around) (s : Shared) (a b : Value) (as bs : List Addr), Reads s.heap a da as → Reads s.heap b db bs → ti da = true →
    A.units + min da.depth db.depth < cLine → EqAt A s a b (PyData.eqv da db)
  | .int x, _, A, s, _, _, _, _, ra, rb, _, hu => by
    cases ra with
    | int _ t =>
      cases rb with
      | none => exact EqAt.int_none x t
      | bool y => exact EqAt.int_bool x t y
      | int y u => exact EqAt.int_int x t y u
      | str y u => exact EqAt.int_str x t y u
      | list k1 k2 k3 k4 => exact EqAt.int_list x t ⟨_, k1, k2, _, k3⟩ (room_here hu)
      | tuple k1 k2 k3 k4 => exact EqAt.int_tuple x t ⟨_, k1, k2, _, k3⟩ (room_here hu)
      | dict k1 k2 k3 k4 k5 => exact EqAt.int_dict x t ⟨_, _, _, k1, k2, k3⟩ (room_here hu)
  | .tuple xs, db, A, s, _, _, _, _, ra, rb, ha, hu => by
    cases ra with
    | @tuple l o vs n _ as₁ h1 h2 h3 h4 =>
      have hl : s.heap.IsTuple l vs := ⟨_, h1, h2, _, h3⟩
      cases rb with
      | none => exact EqAt.tuple_none hl (room_here hu)
      | bool y => exact EqAt.tuple_bool y hl (room_here hu)
      | int y u => exact EqAt.tuple_int y u hl (room_here hu)
      | str y u => exact EqAt.tuple_str y u hl (room_here hu)
      | list k1 k2 k3 k4 => exact EqAt.tuple_list hl ⟨_, k1, k2, _, k3⟩ (room_here hu)
      | dict k1 k2 k3 k4 k5 => exact EqAt.tuple_dict ⟨_, _, _, k1, k2, k3⟩ hl (room_here hu)
      | @tuple l' o' vs' n' ys bs₁ k1 k2 k3 k4 =>
        have hl' : s.heap.IsTuple l' vs' := ⟨_, k1, k2, _, k3⟩
        have n1 : vs.size = xs.length := by simpa using ReadsAll.length _ _ _ h4
        have n2 : vs'.size = ys.length := by simpa using ReadsAll.length _ _ _ k4
        have ht : tis xs = true := by simpa [ti] using ha
        show EqAt A s (.ref l) (.ref l') (PyData.eqvAll xs ys)
        by_cases hll : l = l'
        · subst hll
          have e : PyData.tuple xs = PyData.tuple ys := Reads.unique (.tuple xs) (.tuple ys) _ _ _ (ti_lay _ ha) (.tuple h1 h2 h3 h4) (.tuple k1 k2 k3 k4)
          injection e with e
          subst e
          rw [eqvAll_refl xs (tis_lay _ ht)]
          exact EqAt.same _
        · rw [← eqvAll_eq xs ys, ← n1, ← n2]
          refine EqAt.of_refs hll (RcAt.tuples hl hl' (room_here hu) fun j j1 j2 => ?_)
          have := eqTDs xs ys A.in1 s vs.toList vs'.toList _ _ h4 k4 ht (room_in hu) j (by simpa using j1) (by simpa using j2)
          simpa using this
  | .none, _, _, _, _, _, _, _, _, _, h, _ => by simp [ti] at h
  | .bool _, _, _, _, _, _, _, _, _, _, h, _ => by simp [ti] at h
  | .str _, _, _, _, _, _, _, _, _, _, h, _ => by simp [ti] at h
  | .list _, _, _, _, _, _, _, _, _, _, h, _ => by simp [ti] at h
  | .dict _, _, _, _, _, _, _, _, _, _, h, _ => by simp [ti] at h
theorem eqTDs : ∀ (xs ys : List PyData) (A : Around) (s : Shared) (vs ws : List Value) (as bs : List Addr), ReadsAll s.heap vs xs as → ReadsAll s.heap ws ys bs → tis xs = true →
    A.units + min (PyData.depthAll xs) (PyData.depthAll ys) < cLine → ∀ j (h1 : j < vs.length) (h2 : j < ws.length), EqAt A s vs[j] ws[j] (pairEq xs ys j)
  | [], _, _, _, _, _, _, _, ra, _, _, _, j, h1, _ => by cases ra; exact absurd h1 (Nat.not_lt_zero _)
  | _ :: _, [], _, _, _, _, _, _, _, rb, _, _, j, _, h2 => by cases rb; exact absurd h2 (Nat.not_lt_zero _)
  | x :: xs, y :: ys, A, s, _, _, _, _, ra, rb, ha, hu, j, h1, h2 => by
    have ha' : ti x = true ∧ tis xs = true := by simpa [tis] using ha
    cases ra with
    | cons r rs =>
      cases rb with
      | cons r' rs' =>
        cases j with
        | zero => exact eqTD x y A s _ _ _ _ r r' ha'.1 (room_head hu)
        | succ j => exact eqTDs xs ys A s _ _ _ _ rs rs' ha'.2 (room_tail hu) j (Nat.lt_of_succ_lt_succ h1) (Nat.lt_of_succ_lt_succ h2)
end
mutual
theorem eqDT : ∀ (da db : PyData) (A : Around) (s : Shared) (a b : Value) (as bs : List Addr), Reads s.heap a da as → Reads s.heap b db bs → ti db = true →
    A.units + min da.depth db.depth < cLine → EqAt A s a b (PyData.eqv da db)
  | _, .int x, A, s, _, _, _, _, rb, ra, _, hu => by
    cases ra with
    | int _ t =>
      cases rb with
      | none => exact EqAt.none_int x t
      | bool y => exact EqAt.bool_int y x t
      | int y u => exact EqAt.int_int y u x t
      | str y u => exact EqAt.str_int y u x t
      | list k1 k2 k3 k4 => exact EqAt.list_int x t ⟨_, k1, k2, _, k3⟩ (room_here hu)
      | tuple k1 k2 k3 k4 => exact EqAt.tuple_int x t ⟨_, k1, k2, _, k3⟩ (room_here hu)
      | dict k1 k2 k3 k4 k5 => exact EqAt.dict_int x t ⟨_, _, _, k1, k2, k3⟩ (room_here hu)
  | db, .tuple xs, A, s, _, _, _, _, rb, ra, ha, hu => by
    cases ra with
    | @tuple l o vs n _ as₁ h1 h2 h3 h4 =>
      have hl : s.heap.IsTuple l vs := ⟨_, h1, h2, _, h3⟩
      cases rb with
      | none => exact EqAt.none_tuple hl (room_here hu)
      | bool y => exact EqAt.bool_tuple y hl (room_here hu)
      | int y u => exact EqAt.int_tuple y u hl (room_here hu)
      | str y u => exact EqAt.str_tuple y u hl (room_here hu)
      | list k1 k2 k3 k4 => exact EqAt.list_tuple ⟨_, k1, k2, _, k3⟩ hl (room_here hu)
      | dict k1 k2 k3 k4 k5 => exact EqAt.dict_tuple ⟨_, _, _, k1, k2, k3⟩ hl (room_here hu)
      | @tuple l' o' vs' n' ys bs₁ k1 k2 k3 k4 =>
        have hl' : s.heap.IsTuple l' vs' := ⟨_, k1, k2, _, k3⟩
        have n1 : vs.size = xs.length := by simpa using ReadsAll.length _ _ _ h4
        have n2 : vs'.size = ys.length := by simpa using ReadsAll.length _ _ _ k4
        have ht : tis xs = true := by simpa [ti] using ha
        show EqAt A s (.ref l') (.ref l) (PyData.eqvAll ys xs)
        by_cases hll : l = l'
        · subst hll
          have e : PyData.tuple xs = PyData.tuple ys := Reads.unique (.tuple xs) (.tuple ys) _ _ _ (ti_lay _ ha) (.tuple h1 h2 h3 h4) (.tuple k1 k2 k3 k4)
          injection e with e
          subst e
          rw [eqvAll_refl xs (tis_lay _ ht)]
          exact EqAt.same _
        · rw [← eqvAll_eq ys xs, ← n1, ← n2]
          refine EqAt.of_refs (Ne.symm hll) (RcAt.tuples hl' hl (room_here hu) fun j j1 j2 => ?_)
          have := eqDTs ys xs A.in1 s vs'.toList vs.toList _ _ k4 h4 ht (room_in hu) j (by simpa using j1) (by simpa using j2)
          simpa using this
  | _, .none, _, _, _, _, _, _, _, _, h, _ => by simp [ti] at h
  | _, .bool _, _, _, _, _, _, _, _, _, h, _ => by simp [ti] at h
  | _, .str _, _, _, _, _, _, _, _, _, h, _ => by simp [ti] at h
  | _, .list _, _, _, _, _, _, _, _, _, h, _ => by simp [ti] at h
  | _, .dict _, _, _, _, _, _, _, _, _, h, _ => by simp [ti] at h
theorem eqDTs : ∀ (xs ys : List PyData) (A : Around) (s : Shared) (vs ws : List Value) (as bs : List Addr), ReadsAll s.heap vs xs as → ReadsAll s.heap ws ys bs → tis ys = true →
    A.units + min (PyData.depthAll xs) (PyData.depthAll ys) < cLine → ∀ j (h1 : j < vs.length) (h2 : j < ws.length), EqAt A s vs[j] ws[j] (pairEq xs ys j)
  | [], _, _, _, _, _, _, _, ra, _, _, _, j, h1, _ => by cases ra; exact absurd h1 (Nat.not_lt_zero _)
  | _ :: _, [], _, _, _, _, _, _, _, rb, _, _, j, _, h2 => by cases rb; exact absurd h2 (Nat.not_lt_zero _)
  | x :: xs, y :: ys, A, s, _, _, _, _, ra, rb, ha, hu, j, h1, h2 => by
    have ha' : ti y = true ∧ tis ys = true := by simpa [tis] using ha
    cases ra with
    | cons r rs =>
      cases rb with
      | cons r' rs' =>
        cases j with
        | zero => exact eqDT x y A s _ _ _ _ r r' ha'.1 (room_head hu)
        | succ j => exact eqDTs xs ys A s _ _ _ _ rs rs' ha'.2 (room_tail hu) j (Nat.lt_of_succ_lt_succ h1) (Nat.lt_of_succ_lt_succ h2)
end
end PySem.SeqAt

/-! The operations on data. -/
namespace Du
open PySem PySem.Spec PyProof.Rows L2 On
abbrev F2 := PyData → PyData → (PyData → Prop) → Prop
section
variable {K : PySem.W.Frag} {c : Bs} {X : Cx} {e : Expr} {pos : Pos}
theorem opOr {f : Value → Value → Sem Value} {r r' : R2} (h : OpR X f r) (h' : OpR X f r') : OpR X f (fun x y H Q => r x y H Q ∨ r' x y H Q) := fun pins s σ H x y v u Q I rx ry q => q.elim (h pins s σ H x y v u Q I rx ry) (h' pins s σ H x y v u Q I rx ry)
theorem nq_int {O : List Addr} {H : Hp} {x : V} {i : Int} (h : Nq K O H x (.int i)) : x = .int i := by
  rcases h with h | ⟨a, xs, ds, rfl, e, _⟩
  · exact da_int h
  · cases e
theorem nq_bl {O : List Addr} {H : Hp} {x : V} {i : Bool} (h : Nq K O H x (.bool i)) : x = .bl i := by
  rcases h with h | ⟨a, xs, ds, rfl, e, _⟩
  · exact da_bl h
  · cases e
theorem nq_str {O : List Addr} {H : Hp} {x : V} {i : Str} (h : Nq K O H x (.str i)) : x = .str i := by
  rcases h with h | ⟨a, xs, ds, rfl, e, _⟩
  · cases h
    rfl
  · cases e
theorem nq_non {O : List Addr} {H : Hp} {x : V} (h : Nq K O H x .none) : x = .non := by
  rcases h with h | ⟨a, xs, ds, rfl, e, _⟩
  · cases h
    rfl
  · cases e
theorem nq_lst {O : List Addr} {H : Hp} {x : V} {ds : List PyData} (h : Nq K O H x (.list ds)) : ∃ a xs, x = .ref a ∧ H a = some (.lst xs) ∧ a ≠ sysModules ∧ DaAll K (offs O H) xs ds := by
  rcases h with h | ⟨a, xs, ds', rfl, e, h1, h2, h3⟩
  · obtain ⟨a, xs, rfl, h1, h2, h3⟩ := da_lst h
    exact ⟨a, xs, rfl, (offs_some h1).2, h2, h3⟩
  · cases e
    exact ⟨a, xs, rfl, h2, h1, h3⟩
theorem nq_tup {O : List Addr} {H : Hp} {x : V} {ds : List PyData} (h : Nq K O H x (.tuple ds)) : ∃ a xs, x = .ref a ∧ SqT K H a xs ∧ SqT K (offs O H) a xs ∧ DaAll K (offs O H) xs ds := by
  rcases h with h | ⟨a, xs, ds', rfl, e, _⟩
  · obtain ⟨a, xs, rfl, h1, h3⟩ := da_tup h
    exact ⟨a, xs, rfl, Evl.ex_t offs_sub h1, h1, h3⟩
  · cases e
theorem new_tup {O : List Addr} {H : Hp} {p : Addr} {xs : List V} {ds : List PyData} (hd : ∀ a ∈ O, ∃ o, H a = some o) (n : H p = Option.none) (h : DaAll K (offs O H) xs ds) : Da K (offs O (upd H p (.tup xs))) (.ref p) (.tuple ds) := by
  have pO : p ∉ O := fun z => by
    obtain ⟨o, eo⟩ := hd p z
    rw [n] at eo
    cases eo
  exact .tup (SqT.of (by rw [offs_ne pO]; exact upd_same)) (daAll_same (offs_same (fun a o _ e => Evl.Ex.new n a o e) fun _ z _ => z) h)
theorem new_lst {O : List Addr} {H : Hp} {p : Addr} {xs : List V} {ds : List PyData} (hd : ∀ a ∈ O, ∃ o, H a = some o) (hs : Sys H) (n : H p = Option.none) (h : DaAll K (offs O H) xs ds) : Da K (offs O (upd H p (.lst xs))) (.ref p) (.list ds) := by
  have pO : p ∉ O := fun z => by
    obtain ⟨o, eo⟩ := hd p z
    rw [n] at eo
    cases eo
  refine .lst (by rw [offs_ne pO]; exact upd_same) (fun z => ?_) (daAll_same (offs_same (fun a o _ e => Evl.Ex.new n a o e) fun _ z _ => z) h)
  obtain ⟨φ, e⟩ := hs
  rw [← z, n] at e
  cases e
/-! ### + - * % // -/
def rAdd (K : PySem.W.Frag) : R2 := fun x y H Q => rI0 (fun i j => .int (i + j)) x y H Q ∨ (rCat x y H Q ∨ rCatA K x y H Q)
theorem op_addD (hK : X.K = K := by rfl) : OpR X (binaryOp .Add) (rAdd K) := opOr op_add (opOr op_cat (hK ▸ op_catA))
def fAdd : F2 := fun d e k => match d, e with
  | .int i, .int j => k (.int (i + j))
  | .list xs, .list ys => xs.length + ys.length ≤ 100000 ∧ k (.list (xs ++ ys))
  | .tuple xs, .tuple ys => xs.length + ys.length ≤ 100000 ∧ k (.tuple (xs ++ ys))
  | _, _ => False
theorem od_add : OpD K (rAdd K) fAdd := fun O H x y d e k Q hd hs nx ny hf q => by
  unfold fAdd at hf
  split at hf
  · cases nq_int nx
    cases nq_int ny
    exact .inl ⟨_, _, rfl, rfl, q _ _ H hf (Same.refl H) (.int _)⟩
  · obtain ⟨a, xs', rfl, h1, _, h3⟩ := nq_lst nx
    obtain ⟨b, ys', rfl, g1, _, g3⟩ := nq_lst ny
    have l1 := daAll_len h3
    have l2 := daAll_len g3
    exact .inr (.inl ⟨a, b, xs', ys', rfl, rfl, h1, g1, Evl.sz_of (by omega), fun p n => q _ _ _ hf.2 (Evl.Ex.new n) (new_lst hd hs n (daAll_app h3 g3))⟩)
  · obtain ⟨a, xs', rfl, h1, h2, h3⟩ := nq_tup nx
    obtain ⟨b, ys', rfl, g1, g2, g3⟩ := nq_tup ny
    have l1 := daAll_len h3
    have l2 := daAll_len g3
    refine .inr (.inr ⟨a, b, xs', ys', rfl, rfl, h1, g1, Evl.sz_of (by omega), fun e => ?_, fun _ e => ?_, fun _ _ p n => q _ _ _ hf.2 (Evl.Ex.new n) (new_tup hd n (daAll_app h3 g3))⟩)
    · subst e
      cases h3
      exact q _ _ H hf.2 (Same.refl H) (.tup g2 g3)
    · subst e
      cases g3
      exact q _ _ H hf.2 (Same.refl H) (by rw [List.append_nil]; exact .tup h2 h3)
  · exact hf.elim
def fI (C : Int → Int → Prop) (g : Int → Int → Int) : F2 := fun d e k => match d, e with
  | .int i, .int j => C i j ∧ k (.int (g i j))
  | _, _ => False
theorem od_I {C : Int → Int → Prop} {g : Int → Int → Int} : OpD K (rI C fun i j => .int (g i j)) (fI C g) := fun O H x y d e k Q hd hs nx ny hf q => by
  unfold fI at hf
  split at hf
  · cases nq_int nx
    cases nq_int ny
    exact ⟨_, _, rfl, rfl, hf.1, q _ _ H hf.2 (Same.refl H) (.int _)⟩
  · exact hf.elim
def fI0 (g : Int → Int → Int) : F2 := fun d e k => match d, e with
  | .int i, .int j => k (.int (g i j))
  | _, _ => False
theorem od_I0 {g : Int → Int → Int} : OpD K (rI0 fun i j => .int (g i j)) (fI0 g) := fun O H x y d e k Q hd hs nx ny hf q => by
  unfold fI0 at hf
  split at hf
  · cases nq_int nx
    cases nq_int ny
    exact ⟨_, _, rfl, rfl, q _ _ H hf (Same.refl H) (.int _)⟩
  · exact hf.elim
abbrev fSub : F2 := fI0 fun i j => i - j
abbrev fMod : F2 := fI (fun _ j => 0 < j) fun i j => i % j
abbrev fDiv : F2 := fI CDivW fun i j => i / j
abbrev fPow : F2 := fI CPow fun i j => i ^ j.toNat
/-- ints; a list some times -/
def rMulD : R2 := fun x y H Q => rI CMulW (fun i j => .int (i * j)) x y H Q ∨ rRep x y H Q
theorem op_mulD : OpR X (binaryOp .Mult) rMulD := opOr op_mulW op_rep
def fMul : F2 := fun d e k => match d, e with
  | .int i, .int j => CMulW i j ∧ k (.int (i * j))
  | .list xs, .int j => (-1000000 ≤ j ∧ j ≤ 1000000 ∧ xs.length * j.toNat ≤ 100000) ∧ k (.list (List.replicate j.toNat xs).flatten)
  | _, _ => False
theorem daAll_rep {H : Hp} {xs : List V} {ds : List PyData} (h : DaAll K H xs ds) : ∀ n : Nat, DaAll K H (List.replicate n xs).flatten (List.replicate n ds).flatten
  | 0 => .nil
  | n + 1 => by
    rw [List.replicate_succ, List.replicate_succ, List.flatten_cons, List.flatten_cons]
    exact daAll_app h (daAll_rep h n)
theorem od_mul : OpD K rMulD fMul := fun O H x y d e k Q hd hs nx ny hf q => by
  unfold fMul at hf
  split at hf
  · cases nq_int nx
    cases nq_int ny
    exact .inl ⟨_, _, rfl, rfl, hf.1, q _ _ H hf.2 (Same.refl H) (.int _)⟩
  · obtain ⟨a, xs', rfl, h1, _, h3⟩ := nq_lst nx
    cases nq_int ny
    have l1 := daAll_len h3
    obtain ⟨⟨k1, k2, k3⟩, k4⟩ := hf
    exact .inr ⟨a, _, xs', rfl, rfl, h1, by omega, by omega, Evl.sz_of (by rw [l1]; exact k3), fun p n => q _ _ _ k4 (Evl.Ex.new n) (new_lst hd hs n (daAll_rep h3 _))⟩
  · exact hf.elim
/-! ### comparisons of ints -/
def fB (g : Int → Int → Bool) : F2 := fun d e k => match d, e with
  | .int i, .int j => k (.bool (g i j))
  | _, _ => False
theorem od_B {g : Int → Int → Bool} : OpD K (rI0 fun i j => .bl (g i j)) (fB g) := fun O H x y d e k Q hd hs nx ny hf q => by
  unfold fB at hf
  split at hf
  · cases nq_int nx
    cases nq_int ny
    exact ⟨_, _, rfl, rfl, q _ _ H hf (Same.refl H) (.bl _)⟩
  · exact hf.elim
abbrev fLt : F2 := fB fun i j => decide (i < j)
abbrev fLe : F2 := fB fun i j => decide (i ≤ j)
abbrev fGt : F2 := fB fun i j => decide (j < i)
abbrev fGe : F2 := fB fun i j => decide (j ≤ i)
/-! ### == != in -/
/-- what can be held against each other -/
def okEq (d e : PyData) : Bool := ((d.canLay0 && e.canLay0) || (SeqAt.ti d || SeqAt.ti e)) && decide (min d.depth e.depth ≤ 60)
theorem okEq_at {A : Around} {s : Shared} {a b : Value} {as bs : List Addr} {d e : PyData} (hu : A.units + 60 < cLine) (h : okEq d e = true) (ra : Reads s.heap a d as) (rb : Reads s.heap b e bs) : SeqAt.EqAt A s a b (PyData.eqv d e) := by
  unfold okEq at h
  rw [Bool.and_eq_true, Bool.or_eq_true, Bool.or_eq_true, Bool.and_eq_true] at h
  have hd := of_decide_eq_true h.2
  rcases h.1 with h | h | h
  · exact SeqAt.eqAt_reads d e A s a b as bs ra rb h.1 h.2 (by omega)
  · exact SeqAt.eqTD d e A s a b as bs ra rb h (by omega)
  · exact SeqAt.eqDT d e A s a b as bs ra rb h (by omega)
def rEqQ (K : PySem.W.Frag) : R2 := fun x y H Q => ∃ d e, Da K H x d ∧ Da K H y e ∧ d.canLay0 = true ∧ e.canLay0 = true ∧ min d.depth e.depth ≤ 60 ∧ Q (.bl (PyData.eqv d e)) H
theorem op_eqQ (hu : X.A.units + 66 < cLine) (hK : X.K = K := by rfl) : OpR X (compareOp .Eq) (rEqQ K) := by
  subst hK
  intro pins s σ H x y v u Q I rx ry h
  obtain ⟨d, e, hd, he, c1, c2, dp, q⟩ := h
  obtain ⟨as, r1, _⟩ := da_reads I hd rx
  obtain ⟨bs, r2, _⟩ := da_reads I he ry
  exact SeqAt.compareEq_reads r1 r2 c1 c2 (by omega) ⟨.bl _, H, I, rfl, q⟩
def fEq : F2 := fun d e k => (d.canLay0 = true ∧ e.canLay0 = true ∧ min d.depth e.depth ≤ 60) ∧ k (.bool (PyData.eqv d e))
theorem od_eq : OpD K (rEqQ K) fEq := fun O H x y d e k Q hd hs nx ny hf q => ⟨d, e, nx.da, ny.da, hf.1.1, hf.1.2.1, hf.1.2.2, q _ _ H hf.2 (Same.refl H) (.bl _)⟩
/-- !=: data without dicts, or two tuples of which one is made of ints and tuples -/
def okNe : PyData → PyData → Bool
  | .tuple xs, .tuple ys => ((PyData.canLayAll0 xs && PyData.canLayAll0 ys) || (SeqAt.tis xs || SeqAt.tis ys)) && decide (min (PyData.tuple xs).depth (PyData.tuple ys).depth ≤ 60)
  | d, e => d.canLay0 && (e.canLay0 && decide (min d.depth e.depth ≤ 60))
def rNeQ (K : PySem.W.Frag) : R2 := fun x y H Q => ∃ d e, Da K H x d ∧ Da K H y e ∧ okNe d e = true ∧ Q (.bl (!PyData.eqv d e)) H
theorem op_neQ (hu : X.A.units + 66 < cLine) (hK : X.K = K := by rfl) : OpR X (compareOp .NotEq) (rNeQ K) := by
  subst hK
  intro pins s σ H x y v u Q I rx ry h
  obtain ⟨d, e, hd, he, ok, q⟩ := h
  obtain ⟨as, r1, _⟩ := da_reads I hd rx
  obtain ⟨bs, r2, _⟩ := da_reads I he ry
  unfold okNe at ok
  split at ok
  · rename_i xs ys
    rw [Bool.and_eq_true, Bool.or_eq_true, Bool.or_eq_true, Bool.and_eq_true] at ok
    have hdp := of_decide_eq_true ok.2
    have fin : wpAny (model X.prog X.w) X.A (compareOp .NotEq v u) (EP X pins σ Q) X.xe s := by
      cases r1 with
      | @tuple l o vs n _ _ h1 h2 h3 h4 =>
        cases r2 with
        | @tuple l' o' vs' n' _ _ k1 k2 k3 k4 =>
          have hl : s.heap.IsTuple l vs := ⟨_, h1, h2, _, h3⟩
          have hl' : s.heap.IsTuple l' vs' := ⟨_, k1, k2, _, k3⟩
          have n1 : vs.size = xs.length := by simpa using SeqAt.ReadsAll.length _ _ _ h4
          have n2 : vs'.size = ys.length := by simpa using SeqAt.ReadsAll.length _ _ _ k4
          have room : X.A.in1.units + min (PyData.depthAll xs) (PyData.depthAll ys) < cLine := by
            have e1 : (PyData.tuple xs).depth = PyData.depthAll xs + 1 := rfl
            have e2 : (PyData.tuple ys).depth = PyData.depthAll ys + 1 := rfl
            show X.A.units + 1 + _ < _
            omega
          have he : ∀ j (j1 : j < vs.size) (j2 : j < vs'.size), SeqAt.EqAt X.A.in1 s vs[j] vs'[j] (SeqAt.pairEq xs ys j) := fun j j1 j2 => by
            rcases ok.1 with ok | ok | ok
            · have := SeqAt.eqAt_readsAll xs ys X.A.in1 s vs.toList vs'.toList _ _ h4 k4 ok.1 ok.2 room j (by simpa using j1) (by simpa using j2)
              simpa using this
            · have := SeqAt.eqTDs xs ys X.A.in1 s vs.toList vs'.toList _ _ h4 k4 ok room j (by simpa using j1) (by simpa using j2)
              simpa using this
            · have := SeqAt.eqDTs xs ys X.A.in1 s vs.toList vs'.toList _ _ h4 k4 ok room j (by simpa using j1) (by simpa using j2)
              simpa using this
          have z := SeqAt.RcNeAt.tuples hl hl' (by omega) he
          rw [n1, n2, SeqAt.eqvAll_eq xs ys] at z
          exact z X.prog X.w X.xe _ ⟨.bl _, H, I, rfl, q⟩
    exact fin
  · rw [Bool.and_eq_true, Bool.and_eq_true] at ok
    have hdp := of_decide_eq_true ok.2.2
    exact SeqAt.neOverData X.prog X.w X.A X.xe s v u d e as bs _ r1 r2 ok.1 ok.2.1 (by omega) ⟨.bl _, H, I, rfl, q⟩
def fNe : F2 := fun d e k => okNe d e = true ∧ k (.bool (!PyData.eqv d e))
theorem od_ne : OpD K (rNeQ K) fNe := fun O H x y d e k Q hd hs nx ny hf q => ⟨d, e, nx.da, ny.da, hf.1, q _ _ H hf.2 (Same.refl H) (.bl _)⟩
def okIn (d : PyData) (ds : List PyData) : Bool := ((PyData.canLayAll0 ds && d.canLay0) || (SeqAt.tis ds || SeqAt.ti d)) && decide (d.depth ≤ 60 ∨ PyData.depthAll ds ≤ 60)
theorem tis_mem : ∀ {xs : List PyData} {d : PyData}, SeqAt.tis xs = true → d ∈ xs → SeqAt.ti d = true
  | x :: xs, d, h, m => by
    rw [SeqAt.tis, Bool.and_eq_true] at h
    rcases List.mem_cons.mp m with rfl | m
    · exact h.1
    · exact tis_mem h.2 m
theorem depth_mem : ∀ {xs : List PyData} {d : PyData}, d ∈ xs → d.depth ≤ PyData.depthAll xs
  | x :: xs, d, m => by
    rw [PyData.depthAll]
    rcases List.mem_cons.mp m with rfl | m
    · exact Nat.le_max_left _ _
    · exact Nat.le_trans (depth_mem m) (Nat.le_max_right _ _)
theorem readsAll_get {h : Heap} : ∀ {xs : List PyData} {vs : List Value} {as : List Addr} {i : Nat} {y : Value}, ReadsAll h vs xs as → vs[i]? = some y → ∃ d bs, xs[i]? = some d ∧ Reads h y d bs
  | _, _, _, _, _, .nil, e => by simp at e
  | _, _, _, 0, _, .cons r _, e => by
    simp at e
    subst e
    exact ⟨_, _, rfl, r⟩
  | _, _, _, i + 1, _, .cons _ t, e => by
    obtain ⟨d, bs, h1, h2⟩ := readsAll_get (i := i) t (by simpa using e)
    exact ⟨d, bs, by simpa using h1, h2⟩
mutual
theorem reads_eqv {h : Heap} : ∀ (d : PyData) {y : Value} {z1 z2 : PyData} {as bs : List Addr}, SeqAt.ti d = true → Reads h y z1 as → Reads h y z2 bs → PyData.eqv z1 d = PyData.eqv z2 d
  | .int i, y, z1, z2, _, _, _, r1, r2 => by
    cases r1 <;> cases r2 <;> simp [PyData.eqv]
  | .tuple ds, y, z1, z2, _, _, ht, r1, r2 => by
    have hts : SeqAt.tis ds = true := by simpa [SeqAt.ti] using ht
    cases r1 with
    | tuple h1 h2 h3 h4 =>
      cases r2 with
      | tuple k1 k2 k3 k4 =>
        rw [h1] at k1
        cases k1
        rw [h3] at k3
        cases k3
        show PyData.eqvAll _ ds = PyData.eqvAll _ ds
        exact reads_eqvs ds hts h4 k4
      | list k1 k2 k3 k4 =>
        rw [h1] at k1
        cases k1
        rw [h2] at k2
        exact absurd k2 (by simp)
      | dict k1 k2 k3 k4 k5 =>
        rw [h1] at k1
        cases k1
        rw [h2] at k2
        exact absurd k2 (by simp)
    | list h1 h2 h3 h4 =>
      cases r2 with
      | tuple k1 k2 k3 k4 =>
        rw [h1] at k1
        cases k1
        rw [h2] at k2
        exact absurd k2 (by simp)
      | _ => simp [PyData.eqv]
    | dict h1 h2 h3 h4 h5 =>
      cases r2 with
      | tuple k1 k2 k3 k4 =>
        rw [h1] at k1
        cases k1
        rw [h2] at k2
        exact absurd k2 (by simp)
      | _ => simp [PyData.eqv]
    | _ => cases r2 <;> simp [PyData.eqv]
  | .none, _, _, _, _, _, h, _, _ => by simp [SeqAt.ti] at h
  | .bool _, _, _, _, _, _, h, _, _ => by simp [SeqAt.ti] at h
  | .str _, _, _, _, _, _, h, _, _ => by simp [SeqAt.ti] at h
  | .list _, _, _, _, _, _, h, _, _ => by simp [SeqAt.ti] at h
  | .dict _, _, _, _, _, _, h, _, _ => by simp [SeqAt.ti] at h
theorem reads_eqvs {h : Heap} : ∀ (ds : List PyData) {ys : List Value} {zs ws : List PyData} {as bs : List Addr}, SeqAt.tis ds = true → ReadsAll h ys zs as → ReadsAll h ys ws bs → PyData.eqvAll zs ds = PyData.eqvAll ws ds
  | [], _, _, _, _, _, _, r1, r2 => by
    cases r1 with
    | nil =>
      cases r2
      rfl
    | cons a b =>
      cases r2
      simp [PyData.eqvAll]
  | d :: ds, _, _, _, _, _, h, r1, r2 => by
    rw [SeqAt.tis, Bool.and_eq_true] at h
    cases r1 with
    | nil =>
      cases r2
      rfl
    | cons a b =>
      cases r2 with
      | cons a' b' =>
        rw [PyData.eqvAll, PyData.eqvAll, reads_eqv d h.1 a a', reads_eqvs ds h.2 b b']
end
/-- what the items of a container answer when they are held against x -/
theorem items_at {A : Around} {s : Shared} {vs : Array Value} {xs : List PyData} {as bs : List Addr} {x : Value} {d : PyData} (rs : ReadsAll s.heap vs.toList xs as) (rx : Reads s.heap x d bs) (ok : okIn d xs = true) (hu : A.units + 62 < cLine) :
    ∃ e : Value → Bool, (∀ y, y ∈ vs → SeqAt.EqAt A.in1 s y x (e y)) ∧ vs.any e = xs.any fun y => PyData.eqv y d := by
  have at_ : ∀ (i : Nat) y, vs.toList[i]? = some y → ∃ z, xs[i]? = some z ∧ SeqAt.EqAt A.in1 s y x (PyData.eqv z d) := fun i y hy => by
    obtain ⟨z, cs, hz, rz⟩ := readsAll_get rs hy
    have hm := List.mem_of_getElem? hz
    unfold okIn at ok
    rw [Bool.and_eq_true, Bool.or_eq_true, Bool.or_eq_true, Bool.and_eq_true] at ok
    have hdp := of_decide_eq_true ok.2
    have dm := depth_mem hm
    have room : A.in1.units + min z.depth d.depth < cLine := by
      show A.units + 1 + _ < _
      omega
    refine ⟨z, hz, ?_⟩
    rcases ok.1 with ok | ok | ok
    · have hz0 : z.canLay0 = true := by
        have : ∀ {ys : List PyData}, PyData.canLayAll0 ys = true → ∀ z ∈ ys, z.canLay0 = true := fun {ys} => by
          induction ys with
          | nil => intro _ z h; cases h
          | cons y ys ih =>
            intro h z m
            rw [PyData.canLayAll0, Bool.and_eq_true] at h
            rcases List.mem_cons.mp m with rfl | m
            · exact h.1
            · exact ih h.2 z m
        exact this ok.1 z hm
      exact SeqAt.eqAt_reads z d A.in1 s y x _ _ rz rx hz0 ok.2 room
    · exact SeqAt.eqTD z d A.in1 s y x _ _ rz rx (tis_mem ok hm) room
    · exact SeqAt.eqDT z d A.in1 s y x _ _ rz rx ok room
  classical
  have uniq : ∀ (i j : Nat) (y : Value) z w, vs.toList[i]? = some y → vs.toList[j]? = some y → xs[i]? = some z → xs[j]? = some w → PyData.eqv z d = PyData.eqv w d := fun i j y z w h1 h2 h3 h4 => by
    obtain ⟨z', cs, hz, rz⟩ := readsAll_get rs h1
    obtain ⟨w', cs', hw, rw'⟩ := readsAll_get rs h2
    rw [h3] at hz
    rw [h4] at hw
    cases hz
    cases hw
    unfold okIn at ok
    rw [Bool.and_eq_true, Bool.or_eq_true, Bool.or_eq_true, Bool.and_eq_true] at ok
    rcases ok.1 with ok | ok | ok
    · have hz0 : z.canLay0 = true := by
        have : ∀ {ys : List PyData}, PyData.canLayAll0 ys = true → ∀ z ∈ ys, z.canLay0 = true := fun {ys} => by
          induction ys with
          | nil => intro _ z h; cases h
          | cons y ys ih =>
            intro h z m
            rw [PyData.canLayAll0, Bool.and_eq_true] at h
            rcases List.mem_cons.mp m with rfl | m
            · exact h.1
            · exact ih h.2 z m
        exact this ok.1 z (List.mem_of_getElem? h3)
      rw [SeqAt.Reads.unique z w _ _ _ hz0 rz rw']
    · rw [SeqAt.Reads.unique z w _ _ _ (SeqAt.ti_lay _ (tis_mem ok (List.mem_of_getElem? h3))) rz rw']
    · exact reads_eqv d ok rz rw'
  have hlen : vs.toList.length = xs.length := SeqAt.ReadsAll.length _ _ _ rs
  let e : Value → Bool := fun y => if hx : ∃ (i : Nat) (z : PyData), vs.toList[i]? = some y ∧ xs[i]? = some z then PyData.eqv hx.choose_spec.choose d else false
  have he : ∀ (i : Nat) y z, vs.toList[i]? = some y → xs[i]? = some z → e y = PyData.eqv z d := fun i y z hy hz => by
    have hx : ∃ (i : Nat) (z : PyData), vs.toList[i]? = some y ∧ xs[i]? = some z := ⟨i, z, hy, hz⟩
    show (if hx : ∃ (i : Nat) (z : PyData), vs.toList[i]? = some y ∧ xs[i]? = some z then PyData.eqv hx.choose_spec.choose d else false) = _
    rw [dif_pos hx]
    exact uniq _ i y _ z hx.choose_spec.choose_spec.1 hy hx.choose_spec.choose_spec.2 hz
  refine ⟨e, fun y hy => ?_, ?_⟩
  · obtain ⟨i, hi, hv⟩ := List.mem_iff_getElem.mp (show y ∈ vs.toList by simpa using hy)
    have hy' : vs.toList[i]? = some y := by rw [List.getElem?_eq_getElem hi, hv]
    obtain ⟨z, hz, q⟩ := at_ i y hy'
    rw [he i y z hy' hz]
    exact q
  · rw [← Array.any_toList]
    apply Bool.eq_iff_iff.mpr
    rw [List.any_eq_true, List.any_eq_true]
    constructor
    · rintro ⟨y, hy, hq⟩
      obtain ⟨i, hi, hv⟩ := List.mem_iff_getElem.mp hy
      have hy' : vs.toList[i]? = some y := by rw [List.getElem?_eq_getElem hi, hv]
      obtain ⟨z, hz, _⟩ := at_ i y hy'
      exact ⟨z, List.mem_of_getElem? hz, by rw [← he i y z hy' hz]; exact hq⟩
    · rintro ⟨z, hz, hq⟩
      obtain ⟨i, hi, hv⟩ := List.mem_iff_getElem.mp hz
      have hi' : i < vs.toList.length := by omega
      have hy' : vs.toList[i]? = some vs.toList[i] := List.getElem?_eq_getElem hi'
      have hz' : xs[i]? = some z := by rw [List.getElem?_eq_getElem hi, hv]
      exact ⟨vs.toList[i], List.getElem_mem hi', by rw [he i _ z hy' hz']; exact hq⟩
end
end Du

namespace PySem.SeqAt
open AutoSeq1 (wpAny_loadPart')
open MeetsSeq
theorem int_le_bool_int (a : Bool) (b : Int) (u : Tok) : Gives (Builtin.«int.__le__» ⟨[.bool a, .int b u], []⟩) (.val (Value.bool (decide ((if a = true then (1 : Int) else 0) ≤ b)))) :=
  .of_wp fun M A E s Q h => by obtain ⟨hp, g, d, tk, os⟩ := s; wp_walk; exact ⟨_, rfl, h⟩
theorem int_ge_bool_int (a : Bool) (b : Int) (u : Tok) : Gives (Builtin.«int.__ge__» ⟨[.bool a, .int b u], []⟩) (.val (Value.bool (decide ((if a = true then (1 : Int) else 0) ≥ b)))) :=
  .of_wp fun M A E s Q h => by obtain ⟨hp, g, d, tk, os⟩ := s; wp_walk; exact ⟨_, rfl, h⟩
theorem int_ge_bool_bool (a b : Bool) : Gives (Builtin.«int.__ge__» ⟨[.bool a, .bool b], []⟩) (.val (Value.bool (decide ((if a = true then (1 : Int) else 0) ≥ (if b = true then (1 : Int) else 0))))) :=
  .of_wp fun M A E s Q h => by obtain ⟨hp, g, d, tk, os⟩ := s; wp_walk; exact ⟨_, rfl, h⟩
end PySem.SeqAt
/-! The operations on data: in, order, is, places, slices, truth, builtins. -/
namespace Du
open PySem PySem.Spec PyProof.Rows L2 On
section
variable {K : PySem.W.Frag} {c : Bs} {X : Cx} {e a b : Expr} {pos : Pos}
def rInG (K : PySem.W.Frag) (neg : Bool) : R2 := fun x y H Q => ∃ d ds, Da K H x d ∧ (Da K H y (.tuple ds) ∨ Da K H y (.list ds)) ∧ okIn d ds = true ∧ Q (.bl (neg != ds.any fun z => PyData.eqv z d)) H
theorem op_inG (hu : X.A.units + 66 < cLine) (hK : X.K = K := by rfl) : OpR X (compareOp .In) (rInG K false) := by
  subst hK
  intro pins s σ H x y v u Q I rx ry h
  obtain ⟨d, ds, hd, he, ok, q⟩ := h
  obtain ⟨as, r1, _⟩ := da_reads I hd rx
  rcases he with he | he
  · obtain ⟨bs, r2, _⟩ := da_reads I he ry
    cases r2 with
    | tuple h1 h2 h3 h4 =>
      obtain ⟨e, e1, e2⟩ := items_at (A := X.A) h4 r1 ok (by omega)
      refine SeqAt.in_tupleAt e ⟨_, h1, h2, _, h3⟩ e1 ⟨.bl _, H, I, rfl, ?_⟩
      rw [e2]
      simpa using q
  · obtain ⟨bs, r2, _⟩ := da_reads I he ry
    cases r2 with
    | list h1 h2 h3 h4 =>
      obtain ⟨e, e1, e2⟩ := items_at (A := X.A) h4 r1 ok (by omega)
      refine SeqAt.in_listAt e ⟨_, h1, h2, _, h3⟩ e1 ⟨.bl _, H, I, rfl, ?_⟩
      rw [e2]
      simpa using q
theorem op_notInG (hu : X.A.units + 66 < cLine) (hK : X.K = K := by rfl) : OpR X (compareOp .NotIn) (rInG K true) := by
  subst hK
  intro pins s σ H x y v u Q I rx ry h
  obtain ⟨d, ds, hd, he, ok, q⟩ := h
  obtain ⟨as, r1, _⟩ := da_reads I hd rx
  rcases he with he | he
  · obtain ⟨bs, r2, _⟩ := da_reads I he ry
    cases r2 with
    | tuple h1 h2 h3 h4 =>
      obtain ⟨e, e1, e2⟩ := items_at (A := X.A) h4 r1 ok (by omega)
      refine SeqAt.notIn_tupleAt e ⟨_, h1, h2, _, h3⟩ e1 ⟨.bl _, H, I, rfl, ?_⟩
      rw [e2]
      simpa using q
  · obtain ⟨bs, r2, _⟩ := da_reads I he ry
    cases r2 with
    | list h1 h2 h3 h4 =>
      obtain ⟨e, e1, e2⟩ := items_at (A := X.A) h4 r1 ok (by omega)
      refine SeqAt.notIn_listAt e ⟨_, h1, h2, _, h3⟩ e1 ⟨.bl _, H, I, rfl, ?_⟩
      rw [e2]
      simpa using q
def fIn (neg : Bool) : F2 := fun d e k => match e with
  | .tuple ds => okIn d ds = true ∧ k (.bool (neg != ds.any fun z => PyData.eqv z d))
  | .list ds => okIn d ds = true ∧ k (.bool (neg != ds.any fun z => PyData.eqv z d))
  | _ => False
theorem od_in {neg : Bool} : OpD K (rInG K neg) (fIn neg) := fun O H x y d e k Q hd hs nx ny hf q => by
  unfold fIn at hf
  split at hf
  · exact ⟨d, _, nx.da, .inl ny.da, hf.1, q _ _ H hf.2 (Same.refl H) (.bl _)⟩
  · exact ⟨d, _, nx.da, .inr ny.da, hf.1, q _ _ H hf.2 (Same.refl H) (.bl _)⟩
  · exact hf.elim
/-! ### order of tuples of ints and truths -/
def numD : PyData → Option Int
  | .int i => some i
  | .bool b => some (if b then 1 else 0)
  | _ => Option.none
/-- d >= e, where it can be asked -/
def geNum (d e : PyData) : Option Bool := match numD d, numD e with
  | some i, some j => some (decide (j ≤ i))
  | _, _ => Option.none
def geAll : List PyData → List PyData → Option Bool
  | _, [] => some true
  | [], _ :: _ => some false
  | x :: xs, y :: ys => if PyData.eqv x y = true then geAll xs ys else geNum x y
def numsD (xs : List PyData) : Bool := xs.all fun d => (numD d).isSome
theorem ge_num {A : Around} {s : Shared} {a b : Value} {as bs : List Addr} {d e : PyData} {r : Bool} (ra : Reads s.heap a d as) (rb : Reads s.heap b e bs) (h : geNum d e = some r) : Ob.RcOp .GtE A s a b r := by
  cases ra with
  | int i t =>
    cases rb with
    | int j u =>
      have h' : some (decide (j ≤ i)) = some r := h
      cases h'
      exact Ob.RcOp.ge_int i j t u
    | bool y =>
      have h' : some (decide ((if y = true then (1 : Int) else 0) ≤ i)) = some r := h
      cases h'
      intro prog w E Q h
      exact SeqAt.rc_sub_first_or (typeIs_int s i t) rfl (by decide) F.sub_bool_int F.slot_bool_le_refl
        (call_gives F.slot_bool_le_refl rfl F.entry_int_le (F.args_int_le_2 _ _) (SeqAt.int_le_bool_int y i t) ⟨nofun, h⟩) (.inl rfl)
    | _ => cases h
  | bool x =>
    cases rb with
    | int j u =>
      have h' : some (decide (j ≤ (if x = true then (1 : Int) else 0))) = some r := h
      cases h'
      intro prog w E Q h
      exact SeqAt.rc_left_or rfl (typeIs_int s j u) (by decide) F.sub_int_bool F.slot_bool_ge
        (call_gives F.slot_bool_ge rfl F.entry_int_ge (F.args_int_ge_2 _ _) (SeqAt.int_ge_bool_int x j u) ⟨nofun, h⟩) (.inl rfl)
    | bool y =>
      have h' : some (decide ((if y = true then (1 : Int) else 0) ≤ (if x = true then (1 : Int) else 0))) = some r := h
      cases h'
      intro prog w E Q h
      exact richCompare_gives (T := "bool") rfl rfl F.slot_bool_ge F.entry_int_ge (F.args_int_ge_2 _ _) (SeqAt.int_ge_bool_bool x y) (fun x => nomatch x) h
    | _ => cases h
  | _ => cases h
theorem lexAt_geAll : ∀ (xs ys pre pre2 : List PyData) (r : Bool), pre.length = pre2.length → geAll xs ys = some r →
    Ob.lexAt (SeqAt.pairEq (pre ++ xs) (pre2 ++ ys)) (fun j => (geNum ((pre ++ xs).getD j .none) ((pre2 ++ ys).getD j .none)).getD false) (decide ((pre ++ xs).length ≥ (pre2 ++ ys).length)) pre.length (min xs.length ys.length) = r
  | xs, [], pre, pre2, r, hl, h => by
    have h' : some true = some r := by
      cases xs <;> exact h
    cases h'
    rw [List.length_nil, Nat.min_zero, Ob.lexAt_zero]
    simp [hl]
  | [], y :: ys, pre, pre2, r, hl, h => by
    have h' : some false = some r := h
    cases h'
    rw [List.length_nil, Nat.zero_min, Ob.lexAt_zero]
    simp [hl]
  | x :: xs, y :: ys, pre, pre2, r, hl, h => by
    have e1 : min (x :: xs).length (y :: ys).length = min xs.length ys.length + 1 := by simp only [List.length_cons]; omega
    have g1 : (pre ++ x :: xs).getD pre.length .none = x := by simp
    have g2 : (pre2 ++ y :: ys).getD pre.length .none = y := by rw [hl]; simp
    rw [e1, Ob.lexAt_succ]
    have ep : SeqAt.pairEq (pre ++ x :: xs) (pre2 ++ y :: ys) pre.length = PyData.eqv x y := by
      show PyData.eqv _ _ = _
      rw [g1, g2]
    rw [ep]
    have h' : (if PyData.eqv x y = true then geAll xs ys else geNum x y) = some r := h
    by_cases hq : PyData.eqv x y = true
    · rw [if_pos hq] at h' ⊢
      have ih := lexAt_geAll xs ys (pre ++ [x]) (pre2 ++ [y]) r (by simp [hl]) h'
      simpa using ih
    · rw [if_neg hq] at h' ⊢
      show (geNum ((pre ++ x :: xs).getD pre.length .none) ((pre2 ++ y :: ys).getD pre.length .none)).getD false = r
      rw [g1, g2, h']
      rfl
/-- >= of ints, of tuples of ints and truths -/
def geD (d e : PyData) : Option Bool := match d, e with
  | .int i, .int j => some (decide (j ≤ i))
  | .tuple xs, .tuple ys => if numsD xs && numsD ys then geAll xs ys else Option.none
  | _, _ => Option.none
theorem nums_lay : ∀ {xs : List PyData}, numsD xs = true → PyData.canLayAll0 xs = true ∧ PyData.depthAll xs ≤ 1
  | [], _ => ⟨by rw [PyData.canLayAll0], by rw [PyData.depthAll]; exact Nat.zero_le _⟩
  | x :: xs, h => by
    rw [numsD, List.all_cons, Bool.and_eq_true] at h
    have ih := nums_lay (xs := xs) h.2
    have hx : x.canLay0 = true ∧ x.depth ≤ 1 := by
      cases x with
      | int i => exact ⟨by rw [PyData.canLay0], by simp [PyData.depth]⟩
      | bool i => exact ⟨by rw [PyData.canLay0], by simp [PyData.depth]⟩
      | _ => simp [numD] at h
    refine ⟨by rw [PyData.canLayAll0, hx.1, ih.1] <;> rfl, ?_⟩
    rw [PyData.depthAll]
    exact Nat.max_le.mpr ⟨hx.2, ih.2⟩
def rGeD (K : PySem.W.Frag) : R2 := fun x y H Q => ∃ d e r, Da K H x d ∧ Da K H y e ∧ geD d e = some r ∧ Q (.bl r) H
theorem geNum_some {x y : PyData} (hx : (numD x).isSome = true) (hy : (numD y).isSome = true) : ∃ r, geNum x y = some r := by
  unfold geNum
  cases h1 : numD x with
  | none => rw [h1] at hx; cases hx
  | some i =>
    cases h2 : numD y with
    | none => rw [h2] at hy; cases hy
    | some j => exact ⟨_, rfl⟩
theorem op_geD (hu : X.A.units + 66 < cLine) (hK : X.K = K := by rfl) : OpR X (compareOp .GtE) (rGeD K) := by
  subst hK
  intro pins s σ H x y v u Q I rx ry h
  obtain ⟨d, e, r, hd, he, ok, q⟩ := h
  obtain ⟨as, r1, _⟩ := da_reads I hd rx
  obtain ⟨bs, r2, _⟩ := da_reads I he ry
  unfold geD at ok
  split at ok
  · cases ok
    cases r1
    cases r2
    exact Ob.RcOp.ge_int _ _ _ _ X.prog X.w X.xe _ ⟨.bl _, H, I, rfl, q⟩
  · rename_i xs ys
    split at ok
    · rename_i hn
      rw [Bool.and_eq_true] at hn
      cases r1 with
      | @tuple l o vs n _ _ h1 h2 h3 h4 =>
        cases r2 with
        | @tuple l' o' vs' n' _ _ k1 k2 k3 k4 =>
          have hl : s.heap.IsTuple l vs := ⟨_, h1, h2, _, h3⟩
          have hl' : s.heap.IsTuple l' vs' := ⟨_, k1, k2, _, k3⟩
          have n1 : vs.size = xs.length := by simpa using SeqAt.ReadsAll.length _ _ _ h4
          have n2 : vs'.size = ys.length := by simpa using SeqAt.ReadsAll.length _ _ _ k4
          have l1 := nums_lay hn.1
          have l2 := nums_lay hn.2
          have room : X.A.in1.units + min (PyData.depthAll xs) (PyData.depthAll ys) < cLine := by
            show X.A.units + 1 + _ < _
            omega
          have z := Ob.RcOp.tuples_ge (A := X.A) (e := SeqAt.pairEq xs ys) (r := fun j => (geNum (xs.getD j .none) (ys.getD j .none)).getD false) hl hl' (by omega) (fun j j1 j2 => by
            have := SeqAt.eqAt_readsAll xs ys X.A.in1 s vs.toList vs'.toList _ _ h4 k4 l1.1 l2.1 room j (by simpa using j1) (by simpa using j2)
            simpa using this) (fun j j1 j2 _ => by
            have e1 : vs.toList[j]? = some vs[j] := by simp [j1]
            have e2 : vs'.toList[j]? = some vs'[j] := by simp [j2]
            obtain ⟨dx, cs, hx, rx'⟩ := readsAll_get h4 e1
            obtain ⟨dy, cs', hy, ry'⟩ := readsAll_get k4 e2
            have p1 : (numD dx).isSome = true := List.all_eq_true.mp hn.1 dx (List.mem_of_getElem? hx)
            have p2 : (numD dy).isSome = true := List.all_eq_true.mp hn.2 dy (List.mem_of_getElem? hy)
            obtain ⟨r, hr⟩ := geNum_some p1 p2
            have g := ge_num (A := X.A.in1) rx' ry' hr
            show Ob.RcOp .GtE X.A.in1 s vs[j] vs'[j] ((geNum (xs.getD j .none) (ys.getD j .none)).getD false)
            rw [List.getD_eq_getElem?_getD, List.getD_eq_getElem?_getD, hx, hy]
            show Ob.RcOp .GtE X.A.in1 s vs[j] vs'[j] ((geNum dx dy).getD false)
            rw [hr]
            exact g)
          have el := lexAt_geAll xs ys [] [] r rfl ok
          rw [List.nil_append, List.nil_append, List.length_nil] at el
          rw [n1, n2, el] at z
          exact z X.prog X.w X.xe _ ⟨.bl _, H, I, rfl, q⟩
    · cases ok
  · cases ok
def fGeD : F2 := fun d e k => match geD d e with
  | some r => k (.bool r)
  | Option.none => False
theorem od_geD : OpD K (rGeD K) fGeD := fun O H x y d e k Q hd hs nx ny hf q => by
  unfold fGeD at hf
  split at hf
  · rename_i r hr
    exact ⟨d, e, r, nx.da, ny.da, hr, q _ _ H hf (Same.refl H) (.bl _)⟩
  · exact hf.elim
/-! ### is -/
theorem is_bool_gen {M : Model} {A : Around} {E : Value → Shared → Prop} {s : Shared} {v : Value} {b : Bool} {Q : Value → Shared → Prop} (hv : ∀ n, v ≠ .builtin n) (h : Q (.bool (v == .bool b)) s) : wpAny M A (compareOp .Is v (.bool b)) Q E s := by
  cases v <;> first | exact wpAny_pure h | exact absurd rfl (hv _)
theorem isnot_bool_gen {M : Model} {A : Around} {E : Value → Shared → Prop} {s : Shared} {v : Value} {b : Bool} {Q : Value → Shared → Prop} (hv : ∀ n, v ≠ .builtin n) (h : Q (.bool (!(v == .bool b))) s) : wpAny M A (compareOp .IsNot v (.bool b)) Q E s := by
  cases v <;> first | exact wpAny_pure h | exact absurd rfl (hv _)
def isB (b : Bool) : V → Bool
  | .bl a => a == b
  | _ => false
theorem rel_isB {x : V} {v : Value} {b : Bool} (r : RelV x v) : (v == Value.bool b) = isB b x ∧ ∀ n, v ≠ .builtin n := by
  cases x with
  | non => cases r; exact ⟨rfl, fun _ => nofun⟩
  | bl a =>
    cases r
    refine ⟨?_, fun _ => nofun⟩
    show (Value.bool a == Value.bool b) = (a == b)
    by_cases e : a = b
    · subst e
      rw [beq_self_eq_true, beq_self_eq_true]
    · rw [beq_eq_false_iff_ne.mpr (fun z => e (Value.bool.inj z)), beq_eq_false_iff_ne.mpr e]
  | int _ => obtain ⟨t, rfl⟩ := r; exact ⟨rfl, fun _ => nofun⟩
  | str _ => obtain ⟨t, rfl⟩ := r; exact ⟨rfl, fun _ => nofun⟩
  | byt _ => obtain ⟨t, rfl⟩ := r; exact ⟨rfl, fun _ => nofun⟩
  | flt _ => obtain ⟨t, rfl⟩ := r; exact ⟨rfl, fun _ => nofun⟩
  | ref _ => cases r; exact ⟨rfl, fun _ => nofun⟩
  | ty _ => cases r; exact ⟨rfl, fun _ => nofun⟩
def rIsG (neg : Bool) : R2 := fun x y H Q => ∃ b, y = .bl b ∧ Q (.bl (neg != isB b x)) H
theorem op_isG : OpR X (compareOp .Is) (rIsG false) := by
  intro pins s σ H x y v u Q I rx ry h
  obtain ⟨b, rfl, q⟩ := h
  cases (show u = Value.bool b from ry)
  refine is_bool_gen (rel_isB rx (b := b)).2 ⟨.bl _, H, I, rfl, ?_⟩
  rw [(rel_isB rx).1]
  simpa using q
theorem op_isNotG : OpR X (compareOp .IsNot) (rIsG true) := by
  intro pins s σ H x y v u Q I rx ry h
  obtain ⟨b, rfl, q⟩ := h
  cases (show u = Value.bool b from ry)
  refine isnot_bool_gen (rel_isB rx (b := b)).2 ⟨.bl _, H, I, rfl, ?_⟩
  rw [(rel_isB rx).1]
  simpa using q
def isBd (b : Bool) : PyData → Bool
  | .bool a => a == b
  | _ => false
def fIs (neg : Bool) : F2 := fun d e k => match e with
  | .bool b => k (.bool (neg != isBd b d))
  | _ => False
theorem isB_d {O : List Addr} {H : Hp} {x : V} {d : PyData} {b : Bool} (h : Nq K O H x d) : isB b x = isBd b d := by
  have h := h.da
  cases h <;> rfl
theorem od_is {neg : Bool} : OpD K (rIsG neg) (fIs neg) := fun O H x y d e k Q hd hs nx ny hf q => by
  unfold fIs at hf
  split at hf
  · cases nq_bl ny
    exact ⟨_, rfl, by rw [isB_d nx]; exact q _ _ H hf (Same.refl H) (.bl _)⟩
  · exact hf.elim
/-- is None -/
def isNd : PyData → Bool
  | .none => true
  | _ => false
def fIsN (neg : Bool) : F2 := fun d e k => match e with
  | .none => k (.bool (neg != isNd d))
  | _ => False
theorem isN_d {O : List Addr} {H : Hp} {x : V} {d : PyData} (h : Nq K O H x d) : decide (x = .non) = isNd d := by
  have h := h.da
  cases h <;> rfl
theorem od_isN : OpD K (fun x y H Q => y = .non ∧ Q (.bl (decide (x = .non))) H) (fIsN false) := fun O H x y d e k Q hd hs nx ny hf q => by
  unfold fIsN at hf
  split at hf
  · exact ⟨nq_non ny, by rw [isN_d nx]; exact q _ _ H (by simpa using hf) (Same.refl H) (.bl _)⟩
  · exact hf.elim
theorem od_isNotN : OpD K (fun x y H Q => y = .non ∧ Q (.bl (!decide (x = .non))) H) (fIsN true) := fun O H x y d e k Q hd hs nx ny hf q => by
  unfold fIsN at hf
  split at hf
  · exact ⟨nq_non ny, by rw [isN_d nx]; exact q _ _ H (by simpa using hf) (Same.refl H) (.bl _)⟩
  · exact hf.elim
def fNeg : PyData → (PyData → Prop) → Prop := fun d k => match d with
  | .int i => k (.int (-i))
  | _ => False
theorem od_neg : UnD K (rU fun i => .int (-i)) fNeg := fun O H x d k Q hd hs nx hf q => by
  unfold fNeg at hf
  split at hf
  · cases nq_int nx
    exact ⟨_, rfl, q _ _ H hf (Same.refl H) (.int _)⟩
  · exact hf.elim
/-! ### places, slices -/
def fIx : F2 := fun d e k => match d, e with
  | .list ds, .int i => match atI ds i with
    | some z => k z
    | Option.none => False
  | .tuple ds, .int i => match atI ds i with
    | some z => k z
    | Option.none => False
  | _, _ => False
theorem atI_all {H : Hp} {xs : List V} {ds : List PyData} {i : Int} {z : PyData} (h : DaAll K H xs ds) (e : atI ds i = some z) : ∃ x, atI xs i = some x ∧ Da K H x z := by
  unfold atI at e ⊢
  rw [daAll_len h]
  cases hj : ixN ds.length i with
  | none => rw [hj] at e; cases e
  | some j =>
    rw [hj] at e
    exact daAll_at h e
theorem od_ix : OpD K (rIx K) fIx := fun O H x y d e k Q hd hs nx ny hf q => by
  unfold fIx at hf
  split at hf
  · cases nq_int ny
    obtain ⟨a, xs, rfl, h1, _, h3⟩ := nq_lst nx
    split at hf
    · rename_i z hz
      obtain ⟨v, hv, dv⟩ := atI_all h3 hz
      exact .inl ⟨a, xs, _, v, rfl, rfl, SqL.of h1, hv, q _ _ H hf (Same.refl H) dv⟩
    · exact hf.elim
  · cases nq_int ny
    obtain ⟨a, xs, rfl, h1, _, h3⟩ := nq_tup nx
    split at hf
    · rename_i z hz
      obtain ⟨v, hv, dv⟩ := atI_all h3 hz
      exact .inr (.inl ⟨a, xs, _, v, rfl, rfl, h1, hv, q _ _ H hf (Same.refl H) dv⟩)
    · exact hf.elim
  · exact hf.elim
theorem de_ix {ma mb : ME} (hr : IxR X (rIx K)) (ha : PE X a (upN K c ma)) (hb : PE X b (upN K c mb)) (hs : PlainIx b) : PE X (.Subscript a b pos) (up K c (m2 fIx ma mb)) := pe_mono (pe_ix hr ha hb hs) (up_op od_ix)
abbrev MO := List DV → (Option Int → Prop) → Prop
def upO (K : PySem.W.Frag) (c : Bs) (m : MO) : TO := fun σ H Q => ∃ F env O k, Rel K c F env O σ H ∧ m env k ∧ ∀ o H', k o → Gx c H H' → Q o H'
def mNoP : MO := fun _ k => k Option.none
def mPart (m : ME) : MO := fun env k => m env fun d => match d with
  | .int i => k (some i)
  | _ => False
theorem po_mono {o : Option Expr} {t t' : TO} (h : PO X o t) (w : ∀ σ H Q, t' σ H Q → t σ H Q) : PO X o t' := ⟨fun pins s σ H Q I q => h.run pins s σ H Q I (w _ _ _ q)⟩
theorem do_none : PO X Option.none (upO K c mNoP) := po_mono po_none fun σ H Q ⟨F, env, O, k, R, hm, q⟩ => q _ H hm R.refl
theorem do_some {m : ME} (h : PE X e (upN K c m)) : PO X (some e) (upO K c (mPart m)) := po_mono (po_some h) fun σ H Q ⟨F, env, O, k, R, hm, q⟩ => ⟨F, env, O, _, R, hm, fun d x H' kd g n => by
  split at kd
  · cases nq_int n.nq
    exact ⟨_, rfl, q _ H' kd g⟩
  · exact kd.elim⟩
def cutD (ds : List PyData) (lo hi : Option Int) : List PyData := (ds.drop (HT.sIx ds.length 0 lo)).take (HT.sIx ds.length ds.length hi - HT.sIx ds.length 0 lo)
theorem cut_all {H : Hp} {xs : List V} {ds : List PyData} {lo hi : Option Int} (h : DaAll K H xs ds) : DaAll K H (cutV xs lo hi) (cutD ds lo hi) := by
  unfold cutV cutD
  rw [daAll_len h]
  exact daAll_take _ (daAll_drop _ h)
def mSl (m : ME) (l h : MO) : ME := fun env k => m env fun d => l env fun lo => h env fun hi => match d with
  | .list ds => k (.list (cutD ds lo hi))
  | .tuple ds => k (.tuple (cutD ds lo hi))
  | _ => False
def mSlL (m : ME) (l h : MO) : ME := fun env k => m env fun d => l env fun lo => h env fun hi => match d with
  | .list ds => k (.list (cutD ds lo hi))
  | _ => False
def mSlT (m : ME) (l h : MO) : ME := fun env k => m env fun d => l env fun lo => h env fun hi => match d with
  | .tuple ds => k (.tuple (cutD ds lo hi))
  | _ => False
variable {lo hi : Option Expr} {p2 : Pos}
theorem de_slL {m : ME} {l h : MO} (hr : SlR X (rSlL K)) (he : PE X e (upN K c m)) (hl : PO X lo (upO K c l)) (hu : PO X hi (upO K c h)) : PE X (.Subscript e (.Slice lo hi Option.none p2) pos) (upL K c (mSlL m l h)) := pe_mono (pe_slice hr he hl hu) fun σ H Q ⟨F, env, O, k, R, hm, q⟩ => by
  refine ⟨F, env, O, _, R, hm, fun d x H1 kd g1 n => ⟨F, env, O, _, R.gx g1, kd, fun lo H2 k2 g2 => ⟨F, env, O, _, (R.gx g1).gx g2, k2, fun hi H3 k3 g3 => ?_⟩⟩⟩
  have R1 := R.gx g1
  have R2 := R1.gx g2
  have R3 := R2.gx g3
  split at k3
  · have n3 := ((n.gx R1 g2).gx R2 g3).nq
    obtain ⟨a, xs, rfl, h1, _, h3⟩ := nq_lst n3
    refine ⟨a, xs, rfl, SqL.of h1, fun p np => ?_⟩
    have g := (g1.trans g2).trans g3
    have s : Same H3 (upd H3 p (.lst (cutV xs lo hi))) := Evl.Ex.new np
    have nH : H p = Option.none := by
      cases e : H p with
      | none => rfl
      | some o =>
        by_cases hb : p ∈ c.b
        · obtain ⟨o, eo⟩ := R3.dom p (R.bO p hb)
          rw [np] at eo
          cases eo
        · rw [g.kp p o hb e] at np
          cases np
    have nsys : p ≠ sysModules := fun z => by
      obtain ⟨φ, e⟩ := R3.sys
      rw [← z, np] at e
      cases e
    exact q _ p _ _ _ k3 rfl (g.trans (R3.same s)) nH upd_same nsys (daAll_same (offs_new np s) (cut_all h3))
  · exact k3.elim
theorem de_slT {m : ME} {l h : MO} (hr : SlR X (rSlA K)) (he : PE X e (upN K c m)) (hl : PO X lo (upO K c l)) (hu : PO X hi (upO K c h)) : PE X (.Subscript e (.Slice lo hi Option.none p2) pos) (up K c (mSlT m l h)) := pe_mono (pe_slice hr he hl hu) fun σ H Q ⟨F, env, O, k, R, hm, q⟩ => by
  refine ⟨F, env, O, _, R, hm, fun d x H1 kd g1 n => ⟨F, env, O, _, R.gx g1, kd, fun lo H2 k2 g2 => ⟨F, env, O, _, (R.gx g1).gx g2, k2, fun hi H3 k3 g3 => ?_⟩⟩⟩
  have R1 := R.gx g1
  have R2 := R1.gx g2
  have R3 := R2.gx g3
  split at k3
  · have n3 := ((n.gx R1 g2).gx R2 g3).nq
    obtain ⟨a, xs, rfl, h1, h2, h3⟩ := nq_tup n3
    have g := (g1.trans g2).trans g3
    refine ⟨a, xs, rfl, h1, fun w => ?_, fun _ p np => ?_⟩
    · refine q _ _ H3 k3 g ?_
      have e : ∀ ds : List PyData, DaAll K (offs O H3) xs ds → cutD ds lo hi = ds := fun ds hds => by
        unfold cutD
        rw [← daAll_len hds, w.1, w.2, List.drop_zero, Nat.sub_zero, daAll_len hds, List.take_length]
      rw [e _ h3]
      exact .tup h2 h3
    · exact q _ _ _ k3 (g.trans (R3.same (Evl.Ex.new np))) (new_tup R3.dom np (cut_all h3))
  · exact k3.elim
/-! ### truth -/
def truD : PyData → Option Bool
  | .none => some false
  | .bool b => some b
  | .int i => some (i != 0)
  | .str x => if x.length ≤ 100000 then some ((x.length : Int) != 0) else Option.none
  | .list ds => some (!ds.isEmpty)
  | .tuple ds => some (!ds.isEmpty)
  | .dict _ => Option.none
theorem truV_of {O : List Addr} {H : Hp} {x : V} {d : PyData} {b : Bool} (h : Nq K O H x d) (e : truD d = some b) : TruV K x H b := by
  cases d with
  | none => cases nq_non h; cases e; rfl
  | bool _ => cases nq_bl h; cases e; rfl
  | int _ => cases nq_int h; cases e; rfl
  | str y =>
    cases nq_str h
    have e' : (if y.length ≤ 100000 then some ((y.length : Int) != 0) else Option.none) = some b := e
    split at e'
    · cases e'
      exact ⟨Evl.sz_of (by assumption), rfl⟩
    · cases e'
  | list ds =>
    obtain ⟨a, xs, rfl, h1, _, h3⟩ := nq_lst h
    cases e
    refine .inl ⟨xs, SqL.of h1, ?_⟩
    cases h3 <;> rfl
  | tuple ds =>
    obtain ⟨a, xs, rfl, h1, _, h3⟩ := nq_tup h
    cases e
    refine .inr (.inl ⟨xs, h1, ?_⟩)
    cases h3 <;> rfl
  | dict _ => cases e
def mTru (m : ME) : MT := fun env k => m env fun d => match truD d with
  | some b => k b
  | Option.none => False
theorem dt_val {m : ME} (hK : X.K = K) (h : PE X a (upN K c m)) (he : ∀ whole, isTrue a X.env whole = (do let v ← whole; standAt a.pos; holding [v] (truthy v)) := by intro _; rfl) : PT X a (upT K c (mTru m)) := by
  subst hK
  refine pt_mono (pt_truth h he) fun σ H Q ⟨F, env, O, k, R, hm, q⟩ => ⟨F, env, O, _, R, hm, fun d x H' kd g n => ?_⟩
  split at kd
  · rename_i b hb
    exact ⟨b, truV_of n.nq hb, q _ _ kd g⟩
  · exact kd.elim
def mNotD (m : ME) : ME := fun env k => m env fun d => match truD d with
  | some b => k (.bool (!b))
  | Option.none => False
theorem de_not {m : ME} (hK : X.K = K) (h : PE X a (upN K c m)) : PE X (.UnaryOp .Not a pos) (up K c (mNotD m)) := by
  subst hK
  refine pe_mono (pe_notT h) fun σ H Q ⟨F, env, O, k, R, hm, q⟩ => ⟨F, env, O, _, R, hm, fun d x H' kd g n => ?_⟩
  split at kd
  · rename_i b hb
    exact ⟨b, truV_of n.nq hb, q _ _ _ kd g (.bl _)⟩
  · exact kd.elim
end
end Du

/-! Builtins on data; enumerate, zip; two comprehensions in one. -/
namespace Du
open PySem PySem.Spec PyProof.Rows L2 On
abbrev FL := List PyData → (PyData → Prop) → Prop
section
variable {K : PySem.W.Frag} {c : Bs} {X : Cx} {e a b : Expr} {pos : Pos}
theorem pq1 {O : List Addr} {H : Hp} {xs : List V} {d : PyData} (h : Paired (Nq K O H) xs [d]) : ∃ x, xs = [x] ∧ Nq K O H x d := by
  cases h with
  | cons r t =>
    cases t
    exact ⟨_, rfl, r⟩
theorem pq2 {O : List Addr} {H : Hp} {xs : List V} {d e : PyData} (h : Paired (Nq K O H) xs [d, e]) : ∃ x y, xs = [x, y] ∧ Nq K O H x d ∧ Nq K O H y e := by
  cases h with
  | cons r t =>
    cases t with
    | cons r2 t =>
      cases t
      exact ⟨_, _, rfl, r, r2⟩
def fLen : FL := fun as k => match as with
  | [.list ds] => k (.int ds.length)
  | [.tuple ds] => k (.int ds.length)
  | _ => False
theorem cd_len : CallD K (On.rLen K) fLen := fun O H xs ds k Q hd hs ps hf q => by
  unfold fLen at hf
  split at hf
  · obtain ⟨x, rfl, n⟩ := pq1 ps
    obtain ⟨a, ys, rfl, h1, _, h3⟩ := nq_lst n
    exact ⟨a, ys, rfl, .inl (SqL.of h1), by rw [daAll_len h3]; exact q _ _ H hf (Same.refl H) (.int _)⟩
  · obtain ⟨x, rfl, n⟩ := pq1 ps
    obtain ⟨a, ys, rfl, h1, _, h3⟩ := nq_tup n
    exact ⟨a, ys, rfl, .inr h1, by rw [daAll_len h3]; exact q _ _ H hf (Same.refl H) (.int _)⟩
  · exact hf.elim
def fAbs : FL := fun as k => match as with
  | [.int i] => k (.int (if i < 0 then -i else i))
  | _ => False
theorem cd_abs : CallD K (fun xs H Q => ∃ i, xs = [.int i] ∧ Q (.int (if i < 0 then -i else i)) H) fAbs := fun O H xs ds k Q hd hs ps hf q => by
  unfold fAbs at hf
  split at hf
  · obtain ⟨x, rfl, n⟩ := pq1 ps
    cases nq_int n
    exact ⟨_, rfl, q _ _ H hf (Same.refl H) (.int _)⟩
  · exact hf.elim
def fInt : FL := fun as k => match as with
  | [.int i] => k (.int i)
  | [.bool b] => k (.int (if b then 1 else 0))
  | _ => False
theorem cd_int : CallD K (fun xs H Q => (∃ i, xs = [.int i] ∧ Q (.int i) H) ∨ ∃ k, xs = [.bl k] ∧ Q (.int (if k then 1 else 0)) H) fInt := fun O H xs ds k Q hd hs ps hf q => by
  unfold fInt at hf
  split at hf
  · obtain ⟨x, rfl, n⟩ := pq1 ps
    cases nq_int n
    exact .inl ⟨_, rfl, q _ _ H hf (Same.refl H) (.int _)⟩
  · obtain ⟨x, rfl, n⟩ := pq1 ps
    cases nq_bl n
    exact .inr ⟨_, rfl, q _ _ H hf (Same.refl H) (.int _)⟩
  · exact hf.elim
def fMin2 : FL := fun as k => match as with
  | [.int i, .int j] => k (.int (if j < i then j else i))
  | _ => False
theorem cd_min2 : CallD K (fun xs H Q => ∃ i j, xs = [.int i, .int j] ∧ Q (.int (if j < i then j else i)) H) fMin2 := fun O H xs ds k Q hd hs ps hf q => by
  unfold fMin2 at hf
  split at hf
  · obtain ⟨x, y, rfl, n1, n2⟩ := pq2 ps
    cases nq_int n1
    cases nq_int n2
    exact ⟨_, _, rfl, q _ _ H hf (Same.refl H) (.int _)⟩
  · exact hf.elim
def fTuple : FL := fun as k => match as with
  | [.list ds] => k (.tuple ds)
  | [.tuple ds] => k (.tuple ds)
  | _ => False
theorem cd_tuple : CallD K (rTupOf K) fTuple := fun O H xs ds k Q hd hs ps hf q => by
  unfold fTuple at hf
  split at hf
  · obtain ⟨x, rfl, n⟩ := pq1 ps
    obtain ⟨a, ys, rfl, h1, _, h3⟩ := nq_lst n
    exact ⟨a, ys, rfl, .inl ⟨SqL.of h1, fun p np => q _ _ _ hf (Evl.Ex.new np) (new_tup hd np h3)⟩⟩
  · obtain ⟨x, rfl, n⟩ := pq1 ps
    obtain ⟨a, ys, rfl, h1, h2, h3⟩ := nq_tup n
    exact ⟨a, ys, rfl, .inr ⟨h1, q _ _ H hf (Same.refl H) (.tup h2 h3)⟩⟩
  · exact hf.elim
def fList : FL := fun as k => match as with
  | [.list ds] => k (.list ds)
  | [.tuple ds] => k (.list ds)
  | _ => False
theorem cl_list : CallL K (rListOf K) fList := fun O H xs ds k Q hd hs ps hf q => by
  unfold fList at hf
  split at hf
  · obtain ⟨x, rfl, n⟩ := pq1 ps
    obtain ⟨a, ys, rfl, h1, _, h3⟩ := nq_lst n
    exact ⟨a, ys, rfl, .inl (SqL.of h1), fun p np => q _ _ p _ _ hf rfl (Evl.Ex.new np) np upd_same (daAll_same (offs_new np (Evl.Ex.new np)) h3)⟩
  · obtain ⟨x, rfl, n⟩ := pq1 ps
    obtain ⟨a, ys, rfl, h1, h2, h3⟩ := nq_tup n
    exact ⟨a, ys, rfl, .inr h1, fun p np => q _ _ p _ _ hf rfl (Evl.Ex.new np) np upd_same (daAll_same (offs_new np (Evl.Ex.new np)) h3)⟩
  · exact hf.elim
def boolsOf : List PyData → Option (List Bool)
  | [] => some []
  | .bool b :: r => (boolsOf r).map (b :: ·)
  | _ :: _ => Option.none
theorem bools_of {H : Hp} : ∀ {xs : List V} {ds : List PyData} {bs : List Bool}, DaAll K H xs ds → boolsOf ds = some bs → xs = bs.map V.bl
  | _, _, _, .nil, e => by
    cases e
    rfl
  | _, _, _, .cons (d := d) h t, e => by
    cases d with
    | bool b =>
      unfold boolsOf at e
      obtain ⟨r, e1, e2⟩ := Option.map_eq_some_iff.mp e
      subst e2
      rw [da_bl h, bools_of t e1] <;> rfl
    | _ => cases e
def fAll : FL := fun as k => match as with
  | [.list ds] => match boolsOf ds with
    | some bs => k (.bool (bs.all id))
    | Option.none => False
  | _ => False
def fAny : FL := fun as k => match as with
  | [.list ds] => match boolsOf ds with
    | some bs => k (.bool (bs.any id))
    | Option.none => False
  | _ => False
theorem cd_all : CallD K (rAll K) fAll := fun O H xs ds k Q hd hs ps hf q => by
  unfold fAll at hf
  split at hf
  · split at hf
    · rename_i bs hb
      obtain ⟨x, rfl, n⟩ := pq1 ps
      obtain ⟨a, ys, rfl, h1, _, h3⟩ := nq_lst n
      exact ⟨a, bs, rfl, by rw [← bools_of h3 hb]; exact SqL.of h1, q _ _ H hf (Same.refl H) (.bl _)⟩
    · exact hf.elim
  · exact hf.elim
theorem cd_any : CallD K (rAny K) fAny := fun O H xs ds k Q hd hs ps hf q => by
  unfold fAny at hf
  split at hf
  · split at hf
    · rename_i bs hb
      obtain ⟨x, rfl, n⟩ := pq1 ps
      obtain ⟨a, ys, rfl, h1, _, h3⟩ := nq_lst n
      exact ⟨a, bs, rfl, by rw [← bools_of h3 hb]; exact SqL.of h1, q _ _ H hf (Same.refl H) (.bl _)⟩
    · exact hf.elim
  · exact hf.elim
/-! ### isinstance -/
def tyN (T : String) : Bool := T == "int" || (T == "bool" || (T == "tuple" || T == "list"))
theorem tyN_or {T : String} (h : tyN T = true) : T = "int" ∨ T = "bool" ∨ T = "tuple" ∨ T = "list" := by
  unfold tyN at h
  simpa using h
theorem tyx_sqT {H : Hp} {p : Addr} {xs : List V} (h : SqT K H p xs) : TyX K H (.ref p) (.type "tuple") := by
  rcases h with (h | ⟨o, h⟩) | ⟨o, its, n, h, hc, _⟩
  · exact .base (.tup h)
  · exact .fTuple h
  · exact .kTuple h hc
theorem tyx_da {H : Hp} {v : V} {d : PyData} (h : Da K H v d) : TyX K H v (.type (kindOf d)) := by
  cases h with
  | non => exact .base .non
  | bl b => exact .base (.bl b)
  | int i => exact .base (.int i)
  | str x => exact .base (.str x)
  | lst h1 _ _ => exact .base (.lst h1)
  | tup h1 _ => exact tyx_sqT h1
  | dct h1 _ => exact .base (.dK h1)
def mIsi (T : String) (m : ME) : ME := fun env k => m env fun d => tyN T = true ∧ k (.bool (isK d T))
theorem up_isi {T : String} {m : ME} (σ : L2.St) (H : Hp) (Q : VK) (h : up K c (mIsi T m) σ H Q) : tCB (rIsi K) (tCons (upN K c m) (tCons (tC (.ty T)) tNil)) σ H Q := by
  obtain ⟨F, env, O, k, R, hm, q⟩ := h
  exact ⟨F, env, O, _, R, hm, fun d x H' kd g n => ⟨x, .ty T, _, _, _, rfl, .ty T, tyx_da n.nq.da, kit_ty (kit_any d (tyN_or kd.1)), q _ _ H' kd.2 g (.bl _)⟩⟩
theorem de_isi {T : String} {m : ME} (h : PE X e (tCB (rIsi K) (tCons (upN K c m) (tCons (tC (.ty T)) tNil)))) : PE X e (up K c (mIsi T m)) := pe_mono h up_isi
/-- isinstance(x, (T, U)) -/
def mIsi2 (T U : String) (m : ME) : ME := fun env k => m env fun d => (tyN T = true ∧ tyN U = true) ∧ k (.bool (isK d T || isK d U))
theorem de_isi2 {T U : String} {m : ME} (h : PE X e (tCB (rIsiT K) (tCons (upN K c m) (tCons (tTup (tCons (tC (.ty T)) (tCons (tC (.ty U)) tNil))) tNil)))) : PE X e (up K c (mIsi2 T U m)) := pe_mono h fun σ H Q ⟨F, env, O, k, R, hm, q⟩ =>
  ⟨F, env, O, _, R, hm, fun d x H' kd g n => ⟨by show 2 ≤ sizeLine; decide, fun p np => by
    have s : Same H' (upd H' p (.tup [V.ty T, V.ty U])) := Evl.Ex.new np
    refine ⟨x, p, _, _, [Value.type T, Value.type U], isK d T || isK d U, rfl, upd_same, .cons (.ty T) (.cons (.ty U) .nil), tyx_da (da_same s n.nq.da), ?_, q _ _ _ kd.2 (g.trans ((R.gx g).same s)) (.bl _)⟩
    refine kitAny_cons (kit_ty (kit_any d (tyN_or kd.1.1))) (fun e => ?_) (fun e => by rw [e, Bool.true_or])
    rw [e, Bool.false_or]
    refine kitAny_cons (kit_ty (kit_any d (tyN_or kd.1.2))) (fun e => ?_) (fun e => e)
    rw [e]
    rfl⟩⟩
/-! ### repr -/
def okShow (d : PyData) : Bool := d.showable && (decide (d.depth ≤ 64) && decide (d.shown.length ≤ 16000000))
def fRepr : FL := fun as k => match as with
  | [d] => (d.showable = true ∧ d.depth ≤ 64 ∧ d.shown.length ≤ sizeLine) ∧ k (.str d.shown)
  | _ => False
def rReprA (K : PySem.W.Frag) : List V → Hp → VK → Prop := fun xs H Q => ∃ x d, xs = [x] ∧ Da K H x d ∧ d.showable = true ∧ d.depth ≤ 64 ∧ d.shown.length ≤ sizeLine ∧ Q (.str d.shown) H
theorem call_reprA (hg : X.A.guards = some []) (hu : X.A.units + 66 < cLine) (hK : X.K = K := by rfl) : CallR X (.builtin "repr") (rReprA K) := by
  subst hK
  intro pins s σ H xs us Q I r h
  obtain ⟨x, d, rfl, hd, hs, h64, hz, q⟩ := h
  obtain ⟨u, rfl, ru⟩ := vals1 r
  obtain ⟨as, rd, hn⟩ := da_reads I hd ru
  cases hd with
  | non =>
    cases ru
    exact PySem.P.repr_of_none ⟨.str _, H, I.tok _, ⟨_, rfl⟩, by simpa only [PyData.shown] using q⟩
  | bl b =>
    cases ru
    exact PySem.P.repr_of_bool ⟨.str _, H, I.tok _, ⟨_, rfl⟩, by simpa only [PyData.shown] using q⟩
  | int i =>
    obtain ⟨t, rfl⟩ := ru
    exact PySem.P.repr_of_int (by simpa [PyData.showable] using hs) ⟨.str _, H, I.tok _, ⟨_, rfl⟩, by simpa only [PyData.shown] using q⟩
  | str z =>
    obtain ⟨t, rfl⟩ := ru
    exact PySem.P.repr_of_str ⟨.str _, H, I.tok _, ⟨_, rfl⟩, by simpa only [PyData.shown] using q⟩ (by simpa only [PyData.shown] using hz)
  | lst h1 h2 h3 =>
    cases ru
    exact repr_of_reads' rd hs (fun _ => hn) hg (by omega) (fun _ _ e => e) (fun h' u tk hk => ⟨.str _, H, I.kept (t' := tk) hk, ⟨u, rfl⟩, q⟩) hz
  | tup h1 h3 =>
    cases ru
    exact repr_of_reads' rd hs (fun _ => hn) hg (by omega) (fun _ _ e => e) (fun h' u tk hk => ⟨.str _, H, I.kept (t' := tk) hk, ⟨u, rfl⟩, q⟩) hz
  | dct h1 h3 =>
    cases ru
    exact repr_of_reads' rd hs (fun _ => hn) hg (by omega) (fun _ _ e => e) (fun h' u tk hk => ⟨.str _, H, I.kept (t' := tk) hk, ⟨u, rfl⟩, q⟩) hz
theorem cd_repr : CallD K (rReprA K) fRepr := fun O H xs ds k Q hd hs ps hf q => by
  unfold fRepr at hf
  split at hf
  · obtain ⟨x, rfl, n⟩ := pq1 ps
    exact ⟨x, _, rfl, n.da, hf.1.1, hf.1.2.1, hf.1.2.2, q _ _ H hf.2 (Same.refl H) (.str _)⟩
  · exact hf.elim
/-! ### calls of builtins, of types -/
variable {es : List Expr}
theorem de_b {r : List V → Hp → VK → Prop} {f : FL} {ms : MA} (hf : CallD K r f) (h : PE X e (tCB r (upAN K c ms))) : PE X e (up K c (mB f ms)) := pe_mono h (up_cb hf)
theorem de_bl {r : List V → Hp → VK → Prop} {f : FL} {ms : MA} (hf : CallL K r f) (h : PE X e (tCB r (upAN K c ms))) : PE X e (upL K c (mB f ms)) := pe_mono h (up_cbl hf)
/-! ### enumerate, zip over tuples -/
def enumD (ds : List PyData) : List PyData := ds.zipIdx.map fun p => .tuple [.int (p.2 : Int), p.1]
theorem enum_get {ds : List PyData} {i : Nat} {d : PyData} (h : (enumD ds)[i]? = some d) : ∃ x, ds[i]? = some x ∧ d = .tuple [.int (i : Int), x] := by
  unfold enumD at h
  rw [List.getElem?_map, List.getElem?_zipIdx] at h
  cases hx : ds[i]? with
  | none => rw [hx] at h; cases h
  | some x =>
    rw [hx] at h
    refine ⟨x, rfl, ?_⟩
    simpa using h.symm
def miEn (ms : MA) : MI := fun env k => ms env fun as => match as with
  | [.v (.tuple ds)] => k (enumD ds)
  | _ => False
theorem walk_enum {O : List Addr} {H : Hp} {a : Addr} {xs : List V} {ds : List PyData} (h : SqT K (offs O H) a xs) (da : DaAll K (offs O H) xs ds) : Walk K O H (IteT K a) (enumD ds) := fun O2 H2 hd s => by
  have e : SqT K H2 a xs := Evl.ex_t offs_sub (Evl.ex_t s h)
  have da2 := daAll_same s da
  have hl : (enumD ds).length = xs.length := by
    unfold enumD
    rw [List.length_map, List.length_zipIdx, daAll_len da]
  refine ⟨fun i d hdd => ?_, xs, e, hl.symm⟩
  obtain ⟨x, hx, rfl⟩ := enum_get hdd
  obtain ⟨v, hv, dv⟩ := daAll_at da2 hx
  refine ⟨⟨xs, v, e, hv⟩, fun y H3 ⟨T, z, ey, nT, eH, ez⟩ => ?_⟩
  have zv : z = v := by
    have q := ez xs e
    rw [hv] at q
    exact (Option.some.inj q).symm
  subst ey eH zv
  exact ⟨Evl.Ex.new nT, new_tup hd nT (.cons (.int _) (.cons dv .nil))⟩
theorem di_enum {tg : Expr} {ms : MA} (hK : X.K = K) (h : ∀ {t : TA}, PA X es t → PI X tg e (iEnumT X.K t)) (ha : PA X es (upA K c ms)) : PI X tg e (upI K c (miEn ms)) := by
  subst hK
  refine pi_mono (h ha) fun σ H R ⟨F, env, O, k, RR, hm, q⟩ => ⟨F, env, O, _, RR, hm, fun as xs H' kd g ps => ?_⟩
  split at kd
  · rename_i ds
    cases ps with
    | cons r t =>
      cases t
      have r' : Da X.K (offs O H') _ (.tuple ds) := r
      obtain ⟨p, zs, rfl, f1, f3⟩ := da_tup r'
      exact ⟨p, zs, rfl, Evl.ex_t offs_sub f1, q _ _ H' kd g (walk_enum f1 f3)⟩
  · exact kd.elim
end
end Du

/-! A dict of the module's top with int keys; the bag as data; what comprehensions and loops come to. -/
namespace Du
open PySem PySem.Spec PyProof.Rows L2 On
section
variable {K : PySem.W.Frag} {c : Bs} {X : Cx} {e a b i : Expr} {pos p : Pos}
/-- a dict of the written part: int keys, data -/
structure KInt (K : PySem.W.Frag) (d : Addr) (rows : Int → Option PyData) : Prop where
  at_ : ∃ es n, K.lookup d = some ⟨.type "dict", Option.none, .dict es n, #[]⟩ ∧ (∀ e ∈ es, ∃ i t, e.key = .int i t ∧ e.hash = hashInt i) ∧
    ∀ (i : Int) z, rows i = some z → ∃ u, findBy Value.isInt es i = some u ∧ ∃ x, RelV x u ∧ ∀ H, Da K H x z
def rIxKI (K : PySem.W.Frag) : R2 := fun x y H Q => ∃ p i z rows, x = .ref p ∧ y = .int i ∧ KInt K p rows ∧ rows i = some z ∧ ∀ v, (∀ H, Da K H v z) → Q v H
theorem ix_kint (hK : X.K = K := by rfl) : IxR X (rIxKI K) := by
  subst hK
  intro value slice pins s σ H x y v u Q I rx ry h hs
  obtain ⟨p, i, z, rows, rfl, rfl, ⟨es, n, hl, hk, hr⟩, hz, q⟩ := h
  obtain rfl : v = Value.ref p := rx
  obtain ⟨t, rfl⟩ := ry
  obtain ⟨u0, hu, x0, r0, d0⟩ := hr i z hz
  have hm : s.heap.MapOf (intKind X.prog X.w) p (fun k => findBy Value.isInt es k) := ⟨_, es, n, I.kIn _ _ hl, ⟨rfl, rfl, rfl⟩, rfl, fun e he => by
    obtain ⟨j, t, e1, e2⟩ := hk e he
    exact ⟨j, by rw [e1]; show Value.isInt j (.int j t) = true; simp [Value.isInt], e2⟩, fun _ => rfl⟩
  exact tail_any hm.typeIs PySem.F.slot_dict_getitem.lookup (wpAny_getItem_of (knd := intKind X.prog X.w) (k := i) (by show Value.isInt i (.int i t) = true; simp [Value.isInt]) hm hu ⟨x0, H, I.tok _, r0, q x0 d0⟩) hs
def mRow (rows : Int → Option PyData) (m : ME) : ME := fun env k => m env fun d => match d with
  | .int i => match rows i with
    | some z => k z
    | Option.none => False
  | _ => False
theorem de_kint {x : Str} {d : Addr} {rows : Int → Option PyData} {m : ME} (hK : X.K = K) (hx : Gl X x) (hm : X.mg x = some (.ref d)) (hk : KInt K d rows) (hi : PE X i (upN K c m)) (hs : PlainIx i) (hd : (x == ("__debug__" : Str)) = false := by decide) :
    PE X (.Subscript (.Name x p) i pos) (up K c (mRow rows m)) := by
  subst hK
  refine pe_mono (pe_ix ix_kint (pe_glob (v := .ref d) hx hm rfl hd) hi hs) fun σ H Q ⟨F, env, O, k, R, hm, q⟩ => ?_
  refine ⟨F, env, O, _, R, hm, fun z y H' kd g n => ?_⟩
  split at kd
  · cases nq_int n.nq
    split at kd
    · rename_i z' hz
      exact ⟨d, _, z', rows, rfl, rfl, hk, hz, fun v hv => q _ _ H' kd g (hv _)⟩
    · exact kd.elim
  · exact kd.elim
end
/-! ### < of tuples of ints -/
section
variable {K : PySem.W.Frag}
def intsOf : List PyData → Option (List Int)
  | [] => some []
  | .int i :: r => (intsOf r).map (i :: ·)
  | _ :: _ => Option.none
theorem ints_of {H : Hp} : ∀ {xs : List V} {ds : List PyData} {ns : List Int}, DaAll K H xs ds → intsOf ds = some ns → xs = ns.map V.int
  | _, _, _, .nil, e => by
    cases e
    rfl
  | _, _, _, .cons (d := d) h t, e => by
    cases d with
    | int b =>
      unfold intsOf at e
      obtain ⟨r, e1, e2⟩ := Option.map_eq_some_iff.mp e
      subst e2
      rw [da_int h, ints_of t e1] <;> rfl
    | _ => cases e
def fLtT : F2 := fun d e k => match d, e with
  | .tuple xs, .tuple ys => match intsOf xs, intsOf ys with
    | some ns, some ms => k (.bool (HT.lexLt ns ms))
    | _, _ => False
  | _, _ => False
theorem od_ltT : OpD K (rLtT K) fLtT := fun O H x y d e k Q hd hs nx ny hf q => by
  unfold fLtT at hf
  split at hf
  · split at hf
    · rename_i ns ms h1 h2
      obtain ⟨a, xs, rfl, g1, _, g3⟩ := nq_tup nx
      obtain ⟨b, ys, rfl, k1, _, k3⟩ := nq_tup ny
      rw [ints_of g3 h1] at g1
      rw [ints_of k3 h2] at k1
      exact ⟨a, b, ns, ms, rfl, rfl, g1, k1, q _ _ H hf (Same.refl H) (.bl _)⟩
    · exact hf.elim
  · exact hf.elim
end
/-! ### what comprehensions come to -/
section
variable {g : MG} {mt : MT} {me : ME} {env : List DV}
/-- each turn is told by P, V -/
theorem lc_pure (E : PyData → List DV) (P : PyData → Bool) (V : PyData → PyData) : ∀ (ds acc : List PyData) (k : PyData → Prop), acc.length + ds.length ≤ 100000 → (∀ d ∈ ds, ∀ k', k' (E d) → g d env k') →
    (∀ d ∈ ds, ∀ k', k' (P d) → mt (E d) k') → (∀ d ∈ ds, P d = true → ∀ k', k' (V d) → me (E d) k') → k (.list (acc ++ (ds.filter P).map V)) → lcGo g mt me env acc ds k
  | [], acc, k, _, _, _, _, h => by
    have h' : k (.list (acc ++ [])) := h
    rw [List.append_nil] at h'
    exact h'
  | d :: ds, acc, k, hl, hg, ht, he, h => by
    rw [List.length_cons] at hl
    refine hg d List.mem_cons_self _ (ht d List.mem_cons_self _ ?_)
    cases hp : P d with
    | true =>
      refine ⟨by omega, he d List.mem_cons_self hp _ ?_⟩
      refine lc_pure E P V ds _ k (by rw [List.length_append, List.length_singleton]; omega) (fun d hd => hg d (List.mem_cons_of_mem _ hd)) (fun d hd => ht d (List.mem_cons_of_mem _ hd)) (fun d hd => he d (List.mem_cons_of_mem _ hd)) ?_
      rw [List.filter_cons, if_pos hp, List.map_cons] at h
      rw [List.append_assoc]
      exact h
    | false =>
      refine lc_pure E P V ds _ k (by omega) (fun d hd => hg d (List.mem_cons_of_mem _ hd)) (fun d hd => ht d (List.mem_cons_of_mem _ hd)) (fun d hd => he d (List.mem_cons_of_mem _ hd)) ?_
      rw [List.filter_cons, if_neg (by rw [hp]; decide)] at h
      exact h
theorem mLc_pure {mi : MI} {vs : List Nat} {q : PyData → Prop} (ds : List PyData) (E : PyData → List DV) (P : PyData → Bool) (V : PyData → PyData) (hm : ∀ k', k' ds → mi env k') (hl : ds.length ≤ 100000) (hg : ∀ d ∈ ds, ∀ k', k' (E d) → g d (wipeE env vs) k')
    (ht : ∀ d ∈ ds, ∀ k', k' (P d) → mt (E d) k') (he : ∀ d ∈ ds, P d = true → ∀ k', k' (V d) → me (E d) k') (h : q (.list ((ds.filter P).map V))) : mLc mi g mt me vs env q := by
  refine hm _ (lc_pure E P V ds [] _ (by simpa using hl) hg ht he ?_)
  rw [List.nil_append]
  exact h
theorem not_lc {mi : MI} {vs : List Nat} {q : PyData → Prop} (ds : List PyData) (E : PyData → List DV) (P : PyData → Bool) (V : PyData → PyData) (hm : ∀ k', k' ds → mi env k') (hl : ds.length ≤ 100000) (hg : ∀ d ∈ ds, ∀ k', k' (E d) → g d (wipeE env vs) k')
    (ht : ∀ d ∈ ds, ∀ k', k' (P d) → mt (E d) k') (he : ∀ d ∈ ds, P d = true → ∀ k', k' (V d) → me (E d) k') (h : q (.bool (ds.filter P).isEmpty)) : mNotD (mLc mi g mt me vs) env q := by
  refine hm _ (lc_pure E P V ds [] _ (by simpa using hl) hg ht he ?_)
  show q (.bool (!(!(([] : List PyData) ++ (ds.filter P).map V).isEmpty)))
  rw [List.nil_append, Bool.not_not]
  have e : ((ds.filter P).map V).isEmpty = (ds.filter P).isEmpty := by cases ds.filter P <;> rfl
  rw [e]
  exact h
theorem tru_lc {mi : MI} {vs : List Nat} {q : Bool → Prop} (ds : List PyData) (E : PyData → List DV) (P : PyData → Bool) (V : PyData → PyData) (hm : ∀ k', k' ds → mi env k') (hl : ds.length ≤ 100000) (hg : ∀ d ∈ ds, ∀ k', k' (E d) → g d (wipeE env vs) k')
    (ht : ∀ d ∈ ds, ∀ k', k' (P d) → mt (E d) k') (he : ∀ d ∈ ds, P d = true → ∀ k', k' (V d) → me (E d) k') (h : q (!(ds.filter P).isEmpty)) : mTru (mLc mi g mt me vs) env q := by
  refine hm _ (lc_pure E P V ds [] _ (by simpa using hl) hg ht he ?_)
  show q (!(([] : List PyData) ++ (ds.filter P).map V).isEmpty)
  rw [List.nil_append]
  have e : ((ds.filter P).map V).isEmpty = (ds.filter P).isEmpty := by cases ds.filter P <;> rfl
  rw [e]
  exact h
theorem filter_none {ds : List PyData} {P : PyData → Bool} : (ds.filter P).isEmpty = ds.all fun d => !P d := by
  induction ds with
  | nil => rfl
  | cons d ds ih =>
    rw [List.filter_cons, List.all_cons]
    cases P d with
    | true => rfl
    | false =>
      rw [if_neg Bool.false_ne_true]
      exact ih
/-- no test, each turn comes to something that R takes -/
theorem lc_any (E : PyData → List DV) (R : PyData → PyData → Prop) : ∀ (ds acc : List PyData) (k : PyData → Prop), acc.length + ds.length ≤ 100000 → (∀ d ∈ ds, ∀ k', k' (E d) → g d env k') →
    (∀ d ∈ ds, ∀ k' : Bool → Prop, k' true → mt (E d) k') → (∀ d ∈ ds, ∀ k' : PyData → Prop, (∀ r, R d r → k' r) → me (E d) k') → (∀ rs, Paired R ds rs → k (.list (acc ++ rs))) → lcGo g mt me env acc ds k
  | [], acc, k, _, _, _, _, h => by
    have h' : k (.list (acc ++ [])) := h [] .nil
    rw [List.append_nil] at h'
    exact h'
  | d :: ds, acc, k, hl, hg, ht, he, h => by
    rw [List.length_cons] at hl
    refine hg d List.mem_cons_self _ (ht d List.mem_cons_self _ ⟨by omega, he d List.mem_cons_self _ fun r hr => ?_⟩)
    refine lc_any E R ds _ k (by rw [List.length_append, List.length_singleton]; omega) (fun d hd => hg d (List.mem_cons_of_mem _ hd)) (fun d hd => ht d (List.mem_cons_of_mem _ hd)) (fun d hd => he d (List.mem_cons_of_mem _ hd)) fun rs hrs => ?_
    rw [List.append_assoc]
    exact h (r :: rs) (.cons hr hrs)
end
theorem okNe_int (i j : Int) : okNe (.int i) (.int j) = true := by
  show ((PyData.int i).canLay0 && ((PyData.int j).canLay0 && decide (min (PyData.int i).depth (PyData.int j).depth ≤ 60))) = true
  rw [PyData.canLay0, PyData.canLay0]
  simp [PyData.depth]
theorem okEq_int (i j : Int) : (PyData.int i).canLay0 = true ∧ (PyData.int j).canLay0 = true ∧ min (PyData.int i).depth (PyData.int j).depth ≤ 60 := ⟨by rw [PyData.canLay0], by rw [PyData.canLay0], by simp [PyData.depth]⟩
theorem eqv_int (i j : Int) : PyData.eqv (.int i) (.int j) = decide (i = j) := by
  show (i == j) = _
  rw [Bool.beq_eq_decide_eq]
/-- a pair of ints -/
def duo (p : Int × Int) : PyData := .tuple [.int p.1, .int p.2]
theorem mem_ints {lo : Int} {n : Nat} {d : PyData} (h : d ∈ intsD lo n) : ∃ i : Nat, i < n ∧ d = .int (lo + i) := by
  unfold intsD at h
  obtain ⟨i, hi, e⟩ := List.mem_map.mp h
  exact ⟨i, List.mem_range.mp hi, e.symm⟩
theorem ints_len (lo : Int) (n : Nat) : (intsD lo n).length = n := by
  unfold intsD
  rw [List.length_map, List.length_range]
theorem gd_at {α : Type} {xs : List α} {i : Nat} {d : α} (h : i < xs.length) : xs.getD i d = xs[i] := by
  rw [List.getD_eq_getElem?_getD, List.getElem?_eq_getElem h]
  rfl
theorem atI_gd {xs : List PyData} {i : Nat} (h : i < xs.length) : atI xs (i : Int) = some (xs.getD i .none) := by
  rw [gd_at h]
  exact atI_nat (List.getElem?_eq_getElem h)
theorem atI_gd1 {xs : List PyData} {i : Nat} (h : i + 1 < xs.length) : atI xs ((i : Int) + 1) = some (xs.getD (i + 1) .none) := atI_gd (i := i + 1) h
theorem bools_map (f : PyData → Bool) : ∀ ds : List PyData, boolsOf (ds.map fun d => .bool (f d)) = some (ds.map f)
  | [] => rfl
  | d :: ds => by
    show (boolsOf (ds.map fun d => .bool (f d))).map (f d :: ·) = _
    rw [bools_map f ds]
    rfl
theorem map_id' (ds : List PyData) : ds.map id = ds := by simp
/-! ### the bag -/
section
variable {P : Program} {w : World} {K : PySem.W.Frag} {mg : Str → Option Value} {base : Heap} {k : Nat} {f : Addr} {fd : FuncData} {ps : List Str}
theorem FnG.imp {sp sp' : Sp} (F : FnG P w K mg base k f fd ps sp) (h : ∀ vs H Q E, sp' vs H Q E → sp vs H Q E) : FnG P w K mg base k f fd ps sp' := ⟨fun vs H Q E q => F.ln vs H Q E (h _ _ _ _ q), fun A outer s H args us vs Q E hg hr e0 hb rv hq => F.go A outer s H args us vs Q E hg hr e0 hb rv (h _ _ _ _ hq)⟩
/-- a draw -/
def mTake : List DV → (PyData → Prop) → Prop := fun as k => match as with
  | [.bag, .v (.int n)] => (0 < n ∧ n.natAbs.log2 < 9000) ∧ ∀ v : Int, 0 ≤ v → v < n → k (.int v)
  | _ => False
theorem take_of (F : FnG P w K mg base k f fd ps spTake) : FnG P w K mg base k f fd ps (spF K 2 mTake) := FnG.imp F fun vs H Q E ⟨O, b, l, as, q, h1, h2, h3, h4, h5, h6, h7, h8⟩ => by
  unfold mTake at h7
  split at h7
  · rename_i n
    cases h5 with
    | cons r t =>
      cases t with
      | cons r2 t =>
        cases t
        obtain ⟨a, rfl, hb⟩ := r
        have r2' : Da K (offs O H) _ (.int n) := r2
        cases r2'
        refine ⟨a, l, n, rfl, (h2 a (by rw [hb]; simp)).2.1, h7.1.1, h7.1.2, fun v H' v0 v1 B k => h8 _ _ H' (h7.2 v v0 v1) (fun c o nc e => k c o (fun z => nc (by rw [hb, z]; simp)) e) (fun c hc => ?_) (.int v)⟩
        rw [hb, List.mem_singleton] at hc
        rw [hc]
        exact B
  · exact h7.elim
end
end Du

/-! zip of two, of three tuples; comprehensions of two walks. -/
namespace Du
open PySem PySem.Spec PyProof.Rows L2 On
/-! ### zip of three tuples -/
def Itz3 (K : PySem.W.Frag) (a b c : Addr) : It :=
  ⟨fun i H => ∃ (xs ys us : List V) (x y u : V), (SqT K H a xs ∧ SqT K H b ys ∧ SqT K H c us) ∧ xs[i]? = some x ∧ ys[i]? = some y ∧ us[i]? = some u,
    fun i H v H' => ∃ T x y u, v = .ref T ∧ H T = Option.none ∧ H' = upd H T (.tup [x, y, u]) ∧ (∀ xs, SqT K H a xs → xs[i]? = some x) ∧ (∀ ys, SqT K H b ys → ys[i]? = some y) ∧ ∀ us, SqT K H c us → us[i]? = some u,
    fun i H => ∃ xs ys us : List V, (SqT K H a xs ∧ SqT K H b ys ∧ SqT K H c us) ∧ i = min (min xs.length ys.length) us.length⟩
section
variable {P : Program} {w : World} {K : PySem.W.Frag} {elts : List Expr} {kk : Nat} {tpos : Pos} {a b c z TI TO i1 i2 i3 : Addr}
/-- the cells of the zip at turn i -/
def Zip3At (a b c z TI TO i1 i2 i3 : Addr) (i : Nat) (h : Heap) : Prop :=
  IsZip h z TI TO .none ∧ IsTupOf3 h TI (.ref i1) (.ref i2) (.ref i3) ∧ (∃ a1 a2 a3, IsTupOf3 h TO a1 a2 a3) ∧ h.IsTupleIter i1 a i ∧ h.IsTupleIter i2 b i ∧ h.IsTupleIter i3 c i
theorem turn_zip3 (S : ZipSep3 z TI TO i1 i2 i3 [i1, a] [i2, b] [i3, c]) (na : a ≠ i1) (nb : b ≠ i2) (nc : c ≠ i3) : Turn P w K (.Tuple elts kk tpos) (Itz3 K a b c) [z, TI, TO, i1, i2, i3] z (Zip3At a b c z TI TO i1 i2 i3) where
  mem := by simp
  obj := fun i h st d hd => by
    obtain ⟨hz, hTI, ⟨x, y, u, hTO⟩, ⟨o1, e1, _, d1⟩, ⟨o2, e2, _, d2⟩, ⟨o3, e3, _, d3⟩⟩ := st
    simp only [List.mem_cons, List.not_mem_nil, or_false] at hd
    rcases hd with rfl | rfl | rfl | rfl | rfl | rfl
    · exact ⟨_, hz, fun v q => nomatch q⟩
    · exact ⟨_, hTI, fun v q => nomatch q⟩
    · exact ⟨_, hTO, fun v q => nomatch q⟩
    · exact ⟨o1, e1, fun v q => by rw [d1] at q; cases q⟩
    · exact ⟨o2, e2, fun v q => by rw [d2] at q; cases q⟩
    · exact ⟨o3, e3, fun v q => by rw [d3] at q; cases q⟩
  keep := fun i h h' st k => by
    obtain ⟨hz, hTI, ⟨x, y, u, hTO⟩, h1, h2, h3⟩ := st
    exact ⟨k z (by simp) _ hz, k TI (by simp) _ hTI, ⟨x, y, u, k TO (by simp) _ hTO⟩, h1.at fun o q => k i1 (by simp) o q, h2.at fun o q => k i2 (by simp) o q, h3.at fun o q => k i3 (by simp) o q⟩
  item := by
    intro X hP hw hK hc i pins s σ H E I hf st hg
    subst hP hw hK
    obtain ⟨hz, hTI, hTO, h1, h2, h3⟩ := st
    obtain ⟨xs, ys, us, x, y, u, ⟨qx, qy, qu⟩, hx, hy, hu⟩ := hg
    obtain ⟨its1, r1, p1, _⟩ := I.tuple qx
    obtain ⟨its2, r2, p2, _⟩ := I.tuple qy
    obtain ⟨its3, r3, p3, _⟩ := I.tuple qu
    obtain ⟨x1, hx1, rx⟩ := r1.get hx
    obtain ⟨y1, hy1, ry⟩ := r2.get hy
    obtain ⟨u1, hu1, ru⟩ := r3.get hu
    have hd : X.A.in1.handled = none := show X.A.handled = none from I.ok.hd hc
    have G := GoesN.zip3 (w := X.w) (elts := elts) (x1 := kk) (pos := tpos) S (Draws.tuple (prog := X.prog) (w := X.w) (A := X.A.in1) hd i1 a na its1.toArray) (Draws.tuple hd i2 b nb its2.toArray) (Draws.tuple hd i3 c nc its3.toArray)
    have li1 := (List.getElem?_eq_some_iff.mp hx1).1
    have li2 := (List.getElem?_eq_some_iff.mp hy1).1
    have li3 := (List.getElem?_eq_some_iff.mp hu1).1
    refine G.goes i s (fun v s2 => ∃ x' H', Inv X pins σ H' s2 ∧ RelV x' v ∧ (Itz3 X.K a b c).yld i H x' H' ∧ Zip3At a b c z TI TO i1 i2 i3 (i + 1) s2.heap ∧ ∀ d ∈ [z, TI, TO, i1, i2, i3], H' d = none) E (by simp; omega) ⟨hz, hTI, hTO, ⟨h1, p1⟩, ⟨h2, p2⟩, ⟨h3, p3⟩⟩ fun v h' tk hY st' hk htk => ?_
    obtain ⟨T, x2, y2, u2, rfl, hT, ex, ey, eu, hIT⟩ := hY
    have ex' : x1 = x2 := by
      have e : its1[i]? = some x2 := by simpa using ex
      rw [hx1] at e
      exact Option.some.inj e
    have ey' : y1 = y2 := by
      have e : its2[i]? = some y2 := by simpa using ey
      rw [hy1] at e
      exact Option.some.inj e
    have eu' : u1 = u2 := by
      have e : its3[i]? = some u2 := by simpa using eu
      rw [hu1] at e
      exact Option.some.inj e
    subst ex' ey' eu'
    obtain ⟨z', TI', TO', ⟨g1, _⟩, ⟨g2, _⟩, ⟨g3, _⟩⟩ := st'
    have new : ObjOk X.prog X.w (upd H T (.tup [x, y, u])) h' T (.tup [x, y, u]) := ⟨by show 3 ≤ sizeLine; decide, [x1, y1, u1], .cons rx (.cons ry (.cons ru .nil)), hIT⟩
    have I1 : Inv X pins σ (upd H T (.tup [x, y, u])) { s with heap := h', toks := tk } :=
      I.turnedNew (t' := tk) (ch := [z, TI, TO, i1, i2, i3]) (fun d o hb q => hk d o (fun q' => hb (by
        simp only [List.mem_cons, List.not_mem_nil, or_false] at q' ⊢
        rcases q' with q' | q' | q' | q' | q' <;> simp [q'])) q) hf hT new
    refine ⟨.ref T, _, I1, rfl, ⟨T, x, y, u, rfl, I.hok.fresh hT, rfl, fun l hl => by rw [I.tuple_inj hl qx]; exact hx, fun l hl => by rw [I.tuple_inj hl qy]; exact hy, fun l hl => by rw [I.tuple_inj hl qu]; exact hu⟩, ⟨z', TI', TO', g1, g2, g3⟩, fun d hd' => ?_⟩
    have lt : d < s.heap.objs.size := by
      simp only [List.mem_cons, List.not_mem_nil, or_false] at hd'
      obtain ⟨_, _, _, hTO⟩ := hTO
      rcases hd' with rfl | rfl | rfl | rfl | rfl | rfl
      · exact Heap.lt_size hz
      · exact Heap.lt_size hTI
      · exact Heap.lt_size hTO
      · obtain ⟨_, e, _⟩ := h1; exact Heap.lt_size e
      · obtain ⟨_, e, _⟩ := h2; exact Heap.lt_size e
      · obtain ⟨_, e, _⟩ := h3; exact Heap.lt_size e
    rw [upd_ne (Nat.ne_of_lt (Nat.lt_of_lt_of_le lt hT))]
    exact (hf d hd').1
  done := by
    intro X hP hw hK hc i pins s σ H E I hf st hg
    subst hP hw hK
    obtain ⟨hz, hTI, hTO, h1, h2, h3⟩ := st
    obtain ⟨xs, ys, us, ⟨qx, qy, qu⟩, hi⟩ := hg
    obtain ⟨its1, r1, p1, _⟩ := I.tuple qx
    obtain ⟨its2, r2, p2, _⟩ := I.tuple qy
    obtain ⟨its3, r3, p3, _⟩ := I.tuple qu
    have hd : X.A.in1.handled = none := show X.A.handled = none from I.ok.hd hc
    have G := GoesN.zip3 (w := X.w) (elts := elts) (x1 := kk) (pos := tpos) S (Draws.tuple (prog := X.prog) (w := X.w) (A := X.A.in1) hd i1 a na its1.toArray) (Draws.tuple hd i2 b nb its2.toArray) (Draws.tuple hd i3 c nc its3.toArray)
    have e1 := r1.length
    have e2 := r2.length
    have e3 := r3.length
    have hi' : i = min (min its1.toArray.size its2.toArray.size) its3.toArray.size := by
      simp only [List.size_toArray]
      omega
    rw [hi'] at h1 h2 h3
    exact G.stops s (fun s1 => Inv X pins σ H s1) E ⟨hz, hTI, hTO, ⟨h1, p1⟩, ⟨h2, p2⟩, ⟨h3, p3⟩⟩ fun h' tk hk htk => I.turnedL (t' := tk) (ch := [z, TI, TO, i1, i2, i3]) (fun d o hb q => hk d o (fun q' => hb (by
      simp only [List.mem_cons, List.not_mem_nil, or_false] at q' ⊢
      rcases q' with q' | q' | q' | q' | q' <;> simp [q'])) q) hf
  self := fun A i s Q E st h => wpAny_pyIter_zip st.1 h
end
theorem ne3 {N a b c : Nat} (la : a < N) (lb : b < N) (lc : c < N) : a ≠ N ∧ b ≠ N + 1 ∧ c ≠ N + 2 := ⟨by omega, by omega, by omega⟩
theorem ge3 {N d : Nat} (h : d ∈ [N + 5, N + 3, N + 4, N, N + 1, N + 2]) : N ≤ d := by
  simp only [List.mem_cons, List.not_mem_nil, or_false] at h
  omega
def iZip3 (K : PySem.W.Frag) (ta : TA) : TI := fun σ H R => ta σ H fun vs H1 => ∃ a b c xs ys us, vs = [.ref a, .ref b, .ref c] ∧ (SqT K H1 a xs ∧ SqT K H1 b ys ∧ SqT K H1 c us) ∧ R (Itz3 K a b c) H1
theorem in1 {a N : Nat} (h : a < N) : ∀ d ∈ [a], d < N := fun d hd => by
  rw [List.mem_singleton] at hd
  rw [hd]
  exact h
theorem pi_zip3 {X : Cx} {e e2 e3 : Expr} {ta : TA} {p pos tpos : Pos} {elts : List Expr} {kk : Nat} (hg : Gl X "zip") (hm : X.mg "zip" = none) (ha : PA X [e, e2, e3] ta)
    (hs : starEach [e, e2, e3] X.env = (false, eval e X.env) :: starEach [e2, e3] X.env := by rfl) (hpl : (backTo pos (starEach [e2, e3] X.env)).any (·.1) = false := by rfl) :
    PI X (.Tuple elts kk tpos) (.Call (.Name "zip" p) [e, e2, e3] [] pos) (iZip3 X.K ta) := by
  refine ⟨fun pins s σ H R I h => ?_⟩
  refine Call_ (ld_blt I hg hm PyProof.Rows.boot_zip (PyProof.Rows.callWith_type1 (thn (ha.run pos pins s σ H _ I h) fun us s1 ⟨vs, H1, I1, r1, q1⟩ => ?_) hs hpl))
  obtain ⟨a, b, c, xs, ys, us, ex, ⟨qx, qy, qu⟩, q⟩ := q1
  subst ex
  cases r1 with
  | cons r rr =>
    cases rr with
    | cons r' rr =>
      cases rr with
      | cons r'' rr =>
        cases rr
        cases r
        cases r'
        cases r''
        obtain ⟨its1, v1, p1, _⟩ := I1.tuple qx
        obtain ⟨its2, v2, p2, _⟩ := I1.tuple qy
        obtain ⟨its3, v3, p3, _⟩ := I1.tuple qu
        have la : a < s1.heap.objs.size := by obtain ⟨_, e, _⟩ := id p1; exact Heap.lt_size e
        have lb : b < s1.heap.objs.size := by obtain ⟨_, e, _⟩ := id p2; exact Heap.lt_size e
        have lc : c < s1.heap.objs.size := by obtain ⟨_, e, _⟩ := id p3; exact Heap.lt_size e
        have n3 := ne3 la lb lc
        have S := zip_sep3 (N := s1.heap.objs.size) (fp1 := [a]) (fp2 := [b]) (fp3 := [c]) (in1 la) (in1 lb) (in1 lc)
        have T3 : Turn X.prog X.w X.K (.Tuple elts kk tpos) (Itz3 X.K a b c) _ _ _ := turn_zip3 S n3.1 n3.2.1 n3.2.2
        have fr : ∀ d ∈ [s1.heap.objs.size + 5, s1.heap.objs.size + 3, s1.heap.objs.size + 4, s1.heap.objs.size, s1.heap.objs.size + 1, s1.heap.objs.size + 2], FpOk X pins H1 d := fun d hd => I1.fpOk (ge3 hd) (I1.hok.fresh (ge3 hd))
        refine zip_begins3 (s := s1) (begins_tuple a its1.toArray) (begins_tuple b its2.toArray) (begins_tuple c its3.toArray) (show s1.heap.IsTuple a its1.toArray from p1) (show s1.heap.IsTuple b its2.toArray from p2) (show s1.heap.IsTuple c its3.toArray from p3) ?_
        intro h' hz hTI hTO g1 g2 g3 hsz hk
        refine wpAny_pyIter_zip hz ?_
        have I2 : Inv X pins σ H1 { s1 with heap := h' } := I1.kept (t' := s1.toks) hk
        have st : Zip3At a b c (s1.heap.objs.size + 5) (s1.heap.objs.size + 3) (s1.heap.objs.size + 4) s1.heap.objs.size (s1.heap.objs.size + 1) (s1.heap.objs.size + 2) 0 h' := ⟨hz, hTI, ⟨_, _, _, hTO⟩, ⟨_, g1, rfl, rfl⟩, ⟨_, g2, rfl, rfl⟩, ⟨_, g3, rfl, rfl⟩⟩
        exact ⟨_, _, _, _, H1, rfl, I2, T3, st, fr, q⟩
/-! ### on data -/
section
variable {K : PySem.W.Frag} {c : Bs} {X : Cx} {es : List Expr} {e : Expr}
def zipD : List PyData → List PyData → List PyData
  | x :: xs, y :: ys => .tuple [x, y] :: zipD xs ys
  | _, _ => []
def zipD3 : List PyData → List PyData → List PyData → List PyData
  | x :: xs, y :: ys, u :: us => .tuple [x, y, u] :: zipD3 xs ys us
  | _, _, _ => []
theorem zipD_len : ∀ {xs ys : List PyData}, (zipD xs ys).length = min xs.length ys.length
  | [], ys => by cases ys <;> simp [zipD]
  | _ :: _, [] => by simp [zipD]
  | _ :: xs, _ :: ys => by
    have := @zipD_len xs ys
    simp [zipD]
    omega
theorem zipD_get : ∀ {xs ys : List PyData} {i : Nat} {d : PyData}, (zipD xs ys)[i]? = some d → ∃ x y, xs[i]? = some x ∧ ys[i]? = some y ∧ d = .tuple [x, y]
  | [], ys, i, d, h => by cases ys <;> simp [zipD] at h
  | _ :: _, [], i, d, h => by simp [zipD] at h
  | x :: xs, y :: ys, 0, d, h => by
    simp [zipD] at h
    exact ⟨x, y, rfl, rfl, h.symm⟩
  | x :: xs, y :: ys, i + 1, d, h => by
    simp [zipD] at h
    obtain ⟨x', y', h1, h2, h3⟩ := zipD_get h
    exact ⟨x', y', by simpa using h1, by simpa using h2, h3⟩
theorem zipD3_len : ∀ {xs ys us : List PyData}, (zipD3 xs ys us).length = min (min xs.length ys.length) us.length
  | [], ys, us => by cases ys <;> cases us <;> simp [zipD3]
  | _ :: _, [], us => by cases us <;> simp [zipD3]
  | _ :: _, _ :: _, [] => by simp [zipD3]
  | _ :: xs, _ :: ys, _ :: us => by
    have := @zipD3_len xs ys us
    simp [zipD3]
    omega
theorem zipD3_get : ∀ {xs ys us : List PyData} {i : Nat} {d : PyData}, (zipD3 xs ys us)[i]? = some d → ∃ x y u, xs[i]? = some x ∧ ys[i]? = some y ∧ us[i]? = some u ∧ d = .tuple [x, y, u]
  | [], ys, us, i, d, h => by cases ys <;> cases us <;> simp [zipD3] at h
  | _ :: _, [], us, i, d, h => by cases us <;> simp [zipD3] at h
  | _ :: _, _ :: _, [], i, d, h => by simp [zipD3] at h
  | x :: xs, y :: ys, u :: us, 0, d, h => by
    simp [zipD3] at h
    exact ⟨x, y, u, rfl, rfl, rfl, h.symm⟩
  | x :: xs, y :: ys, u :: us, i + 1, d, h => by
    simp [zipD3] at h
    obtain ⟨x', y', u', h1, h2, h3, h4⟩ := zipD3_get h
    exact ⟨x', y', u', by simpa using h1, by simpa using h2, by simpa using h3, h4⟩
def miZip (ms : MA) : MI := fun env k => ms env fun as => match as with
  | [.v (.tuple xs), .v (.tuple ys)] => k (zipD xs ys)
  | _ => False
def miZip3 (ms : MA) : MI := fun env k => ms env fun as => match as with
  | [.v (.tuple xs), .v (.tuple ys), .v (.tuple us)] => k (zipD3 xs ys us)
  | _ => False
theorem some_eq {α : Type} {a b : α} {o : Option α} (h1 : o = some a) (h2 : o = some b) : a = b := Option.some.inj (h1.symm.trans h2)
theorem walk_zip {O : List Addr} {H : Hp} {a b : Addr} {vs ws : List V} {xs ys : List PyData} (h1 : SqT K (offs O H) a vs) (h2 : SqT K (offs O H) b ws) (d1 : DaAll K (offs O H) vs xs) (d2 : DaAll K (offs O H) ws ys) : Walk K O H (RZ.ItzT K a b) (zipD xs ys) := fun O2 H2 hd s => by
  have e1 : SqT K H2 a vs := Evl.ex_t offs_sub (Evl.ex_t s h1)
  have e2 : SqT K H2 b ws := Evl.ex_t offs_sub (Evl.ex_t s h2)
  have l1 := daAll_len d1
  have l2 := daAll_len d2
  refine ⟨fun i d hdd => ?_, vs, ws, e1, e2, by rw [zipD_len, l1, l2]; omega⟩
  obtain ⟨x, y, hx, hy, rfl⟩ := zipD_get hdd
  obtain ⟨v, hv, dv⟩ := daAll_at (daAll_same s d1) hx
  obtain ⟨w, hw, dw⟩ := daAll_at (daAll_same s d2) hy
  refine ⟨⟨vs, ws, v, w, e1, e2, hv, hw⟩, fun g H3 ⟨T, x', y', eg, nT, eH, q1, q2⟩ => ?_⟩
  have z1 := some_eq (q1 _ e1) hv
  have z2 := some_eq (q2 _ e2) hw
  subst eg eH z1 z2
  exact ⟨Evl.Ex.new nT, new_tup hd nT (.cons dv (.cons dw .nil))⟩
theorem walk_zip3 {O : List Addr} {H : Hp} {a b g : Addr} {vs ws ts : List V} {xs ys us : List PyData} (h1 : SqT K (offs O H) a vs) (h2 : SqT K (offs O H) b ws) (h3 : SqT K (offs O H) g ts) (d1 : DaAll K (offs O H) vs xs) (d2 : DaAll K (offs O H) ws ys) (d3 : DaAll K (offs O H) ts us) : Walk K O H (Itz3 K a b g) (zipD3 xs ys us) := fun O2 H2 hd s => by
  have e1 : SqT K H2 a vs := Evl.ex_t offs_sub (Evl.ex_t s h1)
  have e2 : SqT K H2 b ws := Evl.ex_t offs_sub (Evl.ex_t s h2)
  have e3 : SqT K H2 g ts := Evl.ex_t offs_sub (Evl.ex_t s h3)
  have l1 := daAll_len d1
  have l2 := daAll_len d2
  have l3 := daAll_len d3
  refine ⟨fun i d hdd => ?_, vs, ws, ts, ⟨e1, e2, e3⟩, by rw [zipD3_len, l1, l2, l3]⟩
  obtain ⟨x, y, u, hx, hy, hu, rfl⟩ := zipD3_get hdd
  obtain ⟨v, hv, dv⟩ := daAll_at (daAll_same s d1) hx
  obtain ⟨w, hw, dw⟩ := daAll_at (daAll_same s d2) hy
  obtain ⟨t, ht, dt⟩ := daAll_at (daAll_same s d3) hu
  refine ⟨⟨vs, ws, ts, v, w, t, ⟨e1, e2, e3⟩, hv, hw, ht⟩, fun g' H3 ⟨T, x', y', u', eg, nT, eH, q1, q2, q3⟩ => ?_⟩
  have z1 := some_eq (q1 _ e1) hv
  have z2 := some_eq (q2 _ e2) hw
  have z3 := some_eq (q3 _ e3) ht
  subst eg eH z1 z2 z3
  exact ⟨Evl.Ex.new nT, new_tup hd nT (.cons dv (.cons dw (.cons dt .nil)))⟩
theorem di_zip {tg : Expr} {ms : MA} (hK : X.K = K) (h : ∀ {t : TA}, PA X es t → PI X tg e (RZ.iZipA X.K t)) (ha : PA X es (upA K c ms)) : PI X tg e (upI K c (miZip ms)) := by
  subst hK
  refine pi_mono (h ha) fun σ H R ⟨F, env, O, k, RR, hm, q⟩ => ⟨F, env, O, _, RR, hm, fun as xs H' kd g ps => ?_⟩
  split at kd
  · cases ps with
    | cons r t =>
      cases t with
      | cons r2 t =>
        cases t
        obtain ⟨p, zs, rfl, f1, f3⟩ := da_tup (show Da X.K (offs O H') _ (.tuple _) from r)
        obtain ⟨p2, zs2, rfl, g1, g3⟩ := da_tup (show Da X.K (offs O H') _ (.tuple _) from r2)
        exact ⟨p, p2, zs, zs2, rfl, .inr ⟨Evl.ex_t offs_sub f1, Evl.ex_t offs_sub g1, q _ _ H' kd g (walk_zip f1 g1 f3 g3)⟩⟩
  · exact kd.elim
theorem di_zip3 {tg : Expr} {ms : MA} (hK : X.K = K) (h : ∀ {t : TA}, PA X es t → PI X tg e (iZip3 X.K t)) (ha : PA X es (upA K c ms)) : PI X tg e (upI K c (miZip3 ms)) := by
  subst hK
  refine pi_mono (h ha) fun σ H R ⟨F, env, O, k, RR, hm, q⟩ => ⟨F, env, O, _, RR, hm, fun as xs H' kd g ps => ?_⟩
  split at kd
  · cases ps with
    | cons r t =>
      cases t with
      | cons r2 t =>
        cases t with
        | cons r3 t =>
          cases t
          obtain ⟨p, zs, rfl, f1, f3⟩ := da_tup (show Da X.K (offs O H') _ (.tuple _) from r)
          obtain ⟨p2, zs2, rfl, g1, g3⟩ := da_tup (show Da X.K (offs O H') _ (.tuple _) from r2)
          obtain ⟨p3, zs3, rfl, j1, j3⟩ := da_tup (show Da X.K (offs O H') _ (.tuple _) from r3)
          exact ⟨p, p2, p3, zs, zs2, zs3, rfl, ⟨Evl.ex_t offs_sub f1, Evl.ex_t offs_sub g1, Evl.ex_t offs_sub j1⟩, q _ _ H' kd g (walk_zip3 f1 g1 j1 f3 g3 j3)⟩
  · exact kd.elim
end
end Du

/-! comprehensions of two walks, one within the other. -/
namespace Du
open PySem PySem.Spec PyProof.Rows L2 On
section
variable {K : PySem.W.Frag} {c : Bs} {X : Cx} {e : Expr} {pos : Pos}
/-- no list of one's own among the names -/
def noOwn (env : List DV) : Bool := env.all fun e => match e with
  | .own _ => false
  | _ => true
theorem noOwn_at {env : List DV} (h : noOwn env = true) {i : Nat} {ds : List PyData} (e : env[i]? = some (.own ds)) : False := by
  have z := List.all_eq_true.mp h _ (List.mem_of_getElem? e)
  cases z
theorem noOwn_wipe {env : List DV} (h : noOwn env = true) : ∀ vs : List Nat, noOwn (wipeE env vs) = true
  | [] => h
  | v :: vs => by
    have ih := noOwn_wipe h vs
    refine List.all_eq_true.mpr fun x hx => ?_
    rcases List.mem_or_eq_of_mem_set hx with h' | rfl
    · exact List.all_eq_true.mp ih x h'
    · rfl
def lcIn (g : MG) (mt : MT) (me : ME) (env : List DV) : List PyData → List PyData → (List PyData → Prop) → Prop
  | acc, [], k => k acc
  | acc, d :: ds, k => g d env fun e1 => mt e1 fun b => match b with
    | true => acc.length < 100000 ∧ me e1 fun r => lcIn g mt me env (acc ++ [r]) ds k
    | false => lcIn g mt me env acc ds k
def lcGo2 (g : MG) (mt : MT) (mi1 : MI) (g1 : MG) (mt1 : MT) (me : ME) (vs1 : List Nat) (env : List DV) : List PyData → List PyData → (PyData → Prop) → Prop
  | acc, [], k => k (.list acc)
  | acc, d :: ds, k => g d env fun e1 => mt e1 fun b => match b with
    | true => noOwn e1 = true ∧ mi1 e1 fun ds1 => lcIn g1 mt1 me (wipeE e1 vs1) acc ds1 fun acc' => lcGo2 g mt mi1 g1 mt1 me vs1 env acc' ds k
    | false => lcGo2 g mt mi1 g1 mt1 me vs1 env acc ds k
def mLc2 (mi : MI) (g : MG) (mt : MT) (mi1 : MI) (g1 : MG) (mt1 : MT) (me : ME) (vs vs1 : List Nat) : ME := fun env k => mi env fun ds => lcGo2 g mt mi1 g1 mt1 me vs1 (wipeE env vs) [] ds k
theorem up_lc2 {mi mi1 : MI} {ss ss1 : List Nat} {g g1 : MG} {mt mt1 : MT} {me : ME} {vs vs1 : List Nat} (hss : ∀ j ∈ ss, j ∈ vs) (hss1 : ∀ j ∈ ss1, j ∈ vs1) (σ : L2.St) (H : Hp) (Q : VK) (h : upL K c (mLc2 mi g mt mi1 g1 mt1 me vs vs1) σ H Q) :
    tLc2 (upI K c mi) (upG K c ss g) (upT K c mt) (upI K c mi1) (upG K c ss1 g1) (upT K c mt1) (up K c me) vs vs1 σ H Q := by
  obtain ⟨F, env, O, k, R, hm, q⟩ := h
  refine ⟨F, env, O, _, R, hm, fun ds J H1 kd gx W D nD => ?_⟩
  have R1 := R.gx gx
  have nO : D ∉ O := fun z => by
    obtain ⟨o, eo⟩ := R1.dom D z
    rw [nD] at eo
    cases eo
  have n0 : c.H0 D = Option.none := R1.h0 nD
  have nb : D ∉ c.b := (R1.n0 n0).2
  have nsys : D ≠ sysModules := fun z => by
    obtain ⟨φ, e⟩ := R1.sys
    rw [← z, nD] at e
    cases e
  have nH : H D = Option.none := by
    cases e : H D with
    | none => rfl
    | some o =>
      have z := gx.kp D o nb e
      rw [nD] at z
      cases z
  have own1 : ∀ (i : Nat) ds, (wipeE env vs)[i]? = some (.own ds) → (wipe σ vs)[i]? ≠ some (some (.ref D)) := fun i ds hi z => by
    obtain ⟨a, xs, h1, h2, _⟩ := (R1.wipe vs).sl i _ hi
    rw [z] at h1
    cases h1
    exact nO h2
  refine ⟨fun i m H' => m = ds.length - i ∧ i ≤ ds.length ∧ ∃ acc ys, H' D = some (.lst ys) ∧ DaAll K (offs (D :: O) H') ys acc ∧ Rel K c F (wipeE env vs) (D :: O) (wipe σ vs) H' ∧ Gx c H1 H' ∧ Same (offs O H1) (offs (D :: O) H') ∧ lcGo2 g mt mi1 g1 mt1 me vs1 (wipeE env vs) acc (ds.drop i) k,
    ⟨_, rfl, Nat.zero_le _, [], [], upd_same, .nil, (R1.wipe vs).acc nD, R1.same (Evl.Ex.new nD), offs_new nD (Evl.Ex.new nD), kd⟩, ?_⟩
  rintro i m H' ⟨rfl, hi, acc, ys, hy, da, R', g', s', k'⟩
  obtain ⟨w1, w2⟩ := W (D :: O) H' R'.dom s'
  by_cases lt : i < ds.length
  · obtain ⟨go, yl⟩ := w1 i ds[i] (List.getElem?_eq_getElem lt)
    rw [List.drop_eq_getElem_cons lt] at k'
    refine .inr ⟨go, fun H' => ∃ acc ys, H' D = some (.lst ys) ∧ DaAll K (offs (D :: O) H') ys acc ∧ Rel K c F (wipeE env vs) (D :: O) (wipe σ vs) H' ∧ Gx c H1 H' ∧ Same (offs O H1) (offs (D :: O) H') ∧ lcGo2 g mt mi1 g1 mt1 me vs1 (wipeE env vs) acc (ds.drop (i + 1)) k,
      fun H2 hh => ⟨_, by omega, rfl, lt, hh⟩, fun x H2 y => ?_⟩
    obtain ⟨s, dx⟩ := yl x H2 y
    have g2 := R'.same s
    have R2 := R'.gx g2
    refine ⟨F, _, D :: O, _, _, R2, dx, k', fun e1 σ2 k2 R3 f l => ⟨wipe_same (fun j hj => f j fun z => hj (hss j z)) l, F, e1, D :: O, _, R3, k2, fun b H3 kb g3 => ?_⟩⟩
    have R4 := R3.gx g3
    have g23 := g2.trans g3
    cases b with
    | false => exact ⟨acc, ys, g23.kp _ _ nb hy, daAll_same (R'.go g23) da, R'.gx g23, g'.trans g23, s'.trans (R'.go g23), kb⟩
    | true =>
      obtain ⟨hno, kb⟩ := kb
      show upI K c mi1 σ2 H3 _
      refine ⟨F, e1, D :: O, _, R4, kb, fun ds1 J1 H4 kd1 gx4 W1 => ?_⟩
      have g24 := g23.trans gx4
      have R5 := (R4.gx gx4).wipe vs1
      have own2 : ∀ (i : Nat) ds, (wipeE e1 vs1)[i]? = some (.own ds) → (wipe σ2 vs1)[i]? ≠ some (some (.ref D)) := fun i ds hi _ => noOwn_at (noOwn_wipe hno vs1) hi
      refine ⟨fun j m H' => m = ds1.length - j ∧ j ≤ ds1.length ∧ ∃ acc ys, H' D = some (.lst ys) ∧ DaAll K (offs (D :: O) H') ys acc ∧ Rel K c F (wipeE env vs) (D :: O) (wipe σ vs) H' ∧ Rel K c F (wipeE e1 vs1) (D :: O) (wipe σ2 vs1) H' ∧ Gx c H1 H' ∧ Same (offs O H1) (offs (D :: O) H') ∧ Same (offs (D :: O) H4) (offs (D :: O) H') ∧
          lcIn g1 mt1 me (wipeE e1 vs1) acc (ds1.drop j) (fun acc' => lcGo2 g mt mi1 g1 mt1 me vs1 (wipeE env vs) acc' (ds.drop (i + 1)) k),
        ⟨_, rfl, Nat.zero_le _, acc, ys, g24.kp _ _ nb hy, daAll_same (R'.go g24) da, R'.gx g24, R5, g'.trans g24, s'.trans (R'.go g24), Evl.Ex.refl _, kd1⟩, ?_⟩
      rintro j m1 H' ⟨rfl, hj, acc, ys, hy, da, Ra, Rb, ga, sa, sb, kk⟩
      obtain ⟨u1, u2⟩ := W1 (D :: O) H' Ra.dom sb
      by_cases lt1 : j < ds1.length
      · obtain ⟨go1, yl1⟩ := u1 j ds1[j] (List.getElem?_eq_getElem lt1)
        rw [List.drop_eq_getElem_cons lt1] at kk
        refine .inr ⟨go1, fun H' => ∃ acc ys, H' D = some (.lst ys) ∧ DaAll K (offs (D :: O) H') ys acc ∧ Rel K c F (wipeE env vs) (D :: O) (wipe σ vs) H' ∧ Rel K c F (wipeE e1 vs1) (D :: O) (wipe σ2 vs1) H' ∧ Gx c H1 H' ∧ Same (offs O H1) (offs (D :: O) H') ∧ Same (offs (D :: O) H4) (offs (D :: O) H') ∧
            lcIn g1 mt1 me (wipeE e1 vs1) acc (ds1.drop (j + 1)) (fun acc' => lcGo2 g mt mi1 g1 mt1 me vs1 (wipeE env vs) acc' (ds.drop (i + 1)) k),
          fun H2 hh => ⟨_, by omega, rfl, lt1, hh⟩, fun x H5 y1 => ?_⟩
        obtain ⟨s5, dx5⟩ := yl1 x H5 y1
        have g5 := Rb.same s5
        have R6 := Rb.gx g5
        refine ⟨F, _, D :: O, _, _, R6, dx5, kk, fun e2 σ3 k3 R7 f l => ⟨wipe_same (fun j hj => f j fun z => hj (hss1 j z)) l, F, e2, D :: O, _, R7, k3, fun b H6 kb g6 => ?_⟩⟩
        have R8 := R7.gx g6
        have g56 := g5.trans g6
        cases b with
        | false => exact ⟨acc, ys, g56.kp _ _ nb hy, daAll_same (Ra.go g56) da, Ra.gx g56, Rb.gx g56, ga.trans g56, sa.trans (Ra.go g56), sb.trans (Ra.go g56), kb⟩
        | true =>
          show up K c me σ3 H6 _
          refine ⟨F, e2, D :: O, _, R8, kb.2, fun r v H7 kr g7 dv => ?_⟩
          have gg := g56.trans g7
          have hy7 := gg.kp _ _ nb hy
          have R9 := Ra.gx gg
          have R10 := Rb.gx gg
          have hl := daAll_len da
          have hlt : acc.length < 100000 := kb.1
          have k5 : Same (offs (D :: O) H7) (offs (D :: O) (upd H7 D (.lst (ys ++ [v])))) := offs_same (fun b u n e => by rw [upd_ne (fun z => n (by rw [z]; exact List.mem_cons_self))]; exact e) fun _ z _ => z
          have da7 := daAll_same (Ra.go gg) da
          refine ⟨ys, hy7, Evl.sz_lt (by omega), acc ++ [r], ys ++ [v], upd_same, daAll_same k5 (daAll_app da7 (.cons dv .nil)), R9.turn List.mem_cons_self hy7 n0 own1, R10.turn List.mem_cons_self hy7 n0 own2, ⟨fun a o n e => ?_, fun a h => ?_⟩, ?_, ?_, kr⟩
          · rw [upd_ne (fun z => by rw [z, nD] at e; cases e)]
            exact gg.kp a o n (ga.kp a o n e)
          · exact ((R9.turn (o := .lst (ys ++ [v])) List.mem_cons_self hy7 n0 own1).bg a h).2.1
          · exact (sa.trans (Ra.go gg)).trans k5
          · exact (sb.trans (Ra.go gg)).trans k5
      · have z : j = ds1.length := by omega
        subst z
        rw [List.drop_length] at kk
        exact .inl ⟨u2, acc, ys, hy, da, Ra, ga, sa, kk⟩
  · have z : i = ds.length := by omega
    subst z
    rw [List.drop_length] at k'
    exact .inl ⟨w2, q _ D ys acc H' k' rfl (gx.trans g') nH hy nsys da⟩
theorem ds_setLc2V {i : Nat} {y : Str} {py : Pos} {elt tg iter tg1 iter1 : Expr} {ifs ifs1 : List Expr} {scope : Scope} {own : List (Str × Nat)} {vs1 : List Nat} {spos : Pos} {mi mi1 : MI} {ss ss1 : List Nat} {g g1 : MG} {mt mt1 : MT} {me : ME} (hc : X.calm = true) (hN : X.N.Nodup) (hy : X.N[i]? = some y) (hyl : X.env.scope.names.lookup y = some .local)
    (hsw : swapsWith (.ListComp elt [⟨tg, iter, ifs, 0⟩, ⟨tg1, iter1, ifs1, 0⟩] scope pos) (some (.Name y py)) spos.line X.env = pure true) (hi : PI X tg iter (upI K c mi)) (ok : BlkOk X.N X.env.scope scope own) (hv : ∀ i ∈ vs1, i ∈ own.map (·.2))
    (hg : ∀ (s : Shared) (H : Hp) (C : Addr) (cl : List (Str × Addr)) (fp : List Addr), PG (X.blk s H scope (compEnvC scope cl C X.env) fp) tg (upG K c ss g)) (ht : ∀ (s : Shared) (H : Hp) (C : Addr) (cl : List (Str × Addr)) (fp : List Addr), PTs (X.blk s H scope (compEnvC scope cl C X.env) fp) ifs (upT K c mt))
    (hi1 : ∀ (s : Shared) (H : Hp) (C : Addr) (cl : List (Str × Addr)) (fp : List Addr), PI (X.blk s H scope (compEnvC scope cl C X.env) fp) tg1 iter1 (upI K c mi1))
    (hg1 : ∀ (s : Shared) (H : Hp) (C : Addr) (cl : List (Str × Addr)) (fp : List Addr), PG (X.blk s H scope (compEnvC scope cl C X.env) fp) tg1 (upG K c ss1 g1)) (ht1 : ∀ (s : Shared) (H : Hp) (C : Addr) (cl : List (Str × Addr)) (fp : List Addr), PTs (X.blk s H scope (compEnvC scope cl C X.env) fp) ifs1 (upT K c mt1))
    (he : ∀ (s : Shared) (H : Hp) (C : Addr) (cl : List (Str × Addr)) (fp : List Addr), PE (X.blk s H scope (compEnvC scope cl C X.env) fp) elt (up K c me)) (hss : ∀ j ∈ ss, j ∈ own.map (·.2)) (hss1 : ∀ j ∈ ss1, j ∈ vs1) (hs : ∀ x, foldedSetIterable iter X.env x = pure x := by intro _; rfl) (hs1 : ∀ env x, foldedSetIterable iter1 env x = pure x := by intro _ _; rfl) :
    PS X (.Assign [.Name y py] (.ListComp elt [⟨tg, iter, ifs, 0⟩, ⟨tg1, iter1, ifs1, 0⟩] scope pos) spos) (upS K c (dAsg (mLc2 mi g mt mi1 g1 mt1 me (own.map (·.2)) vs1) (gNm i))) := ps_mono (ps_setLc2 hc hN hy hyl hsw hi ok hv hg ht hi1 hg1 ht1 he hs hs1) fun D σ H h => by
  obtain ⟨F, env, O, DD, R, hb, h1, h2, h3, h4⟩ := h
  refine up_lc2 hss hss1 σ H _ ⟨F, env, O, _, R, hb, fun d p ys ds H' kd ed g n ep hp da => ?_⟩
  subst ed
  have pO : p ∉ O := fun z => by
    obtain ⟨o, eo⟩ := R.dom p z
    rw [n] at eo
    cases eo
  exact h1 _ O _ H' kd ((R.gx g).set i (.lst (by rw [offs_ne pO]; exact ep) hp (daAll_same (offs_less fun a z => List.mem_cons_of_mem _ z) da)))
/-- a walk within, each of its turns told -/
theorem in_pure {g : MG} {mt : MT} {me : ME} {env : List DV} (E : PyData → List DV) (P : PyData → Bool) (V : PyData → PyData) : ∀ (ds acc : List PyData) (k : List PyData → Prop), acc.length + ds.length ≤ 100000 → (∀ d ∈ ds, ∀ k', k' (E d) → g d env k') →
    (∀ d ∈ ds, ∀ k', k' (P d) → mt (E d) k') → (∀ d ∈ ds, P d = true → ∀ k', k' (V d) → me (E d) k') → k (acc ++ (ds.filter P).map V) → lcIn g mt me env acc ds k
  | [], acc, k, _, _, _, _, h => by
    have h' : k (acc ++ []) := h
    rw [List.append_nil] at h'
    exact h'
  | d :: ds, acc, k, hl, hg, ht, he, h => by
    rw [List.length_cons] at hl
    refine hg d List.mem_cons_self _ (ht d List.mem_cons_self _ ?_)
    cases hp : P d with
    | true =>
      refine ⟨by omega, he d List.mem_cons_self hp _ ?_⟩
      refine in_pure E P V ds _ k (by rw [List.length_append, List.length_singleton]; omega) (fun d hd => hg d (List.mem_cons_of_mem _ hd)) (fun d hd => ht d (List.mem_cons_of_mem _ hd)) (fun d hd => he d (List.mem_cons_of_mem _ hd)) ?_
      rw [List.filter_cons, if_pos hp, List.map_cons] at h
      rw [List.append_assoc]
      exact h
    | false =>
      refine in_pure E P V ds _ k (by omega) (fun d hd => hg d (List.mem_cons_of_mem _ hd)) (fun d hd => ht d (List.mem_cons_of_mem _ hd)) (fun d hd => he d (List.mem_cons_of_mem _ hd)) ?_
      rw [List.filter_cons, if_neg (by rw [hp]; decide)] at h
      exact h
end
end Du

namespace K12
open PySem PySem.Spec PyProof.Rows L2 On
def top (i : Nat) : Stmt := PySem.Challenge.pw_onorback_k12_contents_and_steps_judged.main.body.getD i (.Pass ⟨0, 0, 0, 0⟩)
abbrev ssteps_from : Stmt := top 1
abbrev s_with_value : Stmt := top 2
abbrev s_is_tuple_of : Stmt := top 4
abbrev sascends : Stmt := top 5
abbrev sis_content : Stmt := top 6
abbrev sis_step : Stmt := top 7
abbrev sleads : Stmt := top 8
abbrev sare_contents : Stmt := top 9
abbrev s_law_bag : Stmt := top 11
abbrev s_law_take : Stmt := top 12
abbrev s_law_some : Stmt := top 13
abbrev s_law_alike : Stmt := top 14
abbrev s_law_mixed : Stmt := top 15
abbrev s_law_place : Stmt := top 16
abbrev s_law_bench : Stmt := top 17
abbrev s_law_contents : Stmt := top 18
abbrev s_law_steps : Stmt := top 19
abbrev s_law_is_int : Stmt := top 20
abbrev s_law_is_content : Stmt := top 21
abbrev s_law_are_contents : Stmt := top 22
abbrev s_law_leads : Stmt := top 23
abbrev s_law_is_step : Stmt := top 24
abbrev s_law_odd : Stmt := top 25
abbrev s_law_bent : Stmt := top 26
abbrev s_law_flat : Stmt := top 27
abbrev slaw : Stmt := top 28
theorem sc_steps_from : FnScope ["bench", "content", "found", "place", "value", "v", "w"] ["bench", "content"] (defScope ssteps_from) := ⟨rfl, rfl, rfl, by decide +kernel, rfl, by decide +kernel, by decide +kernel⟩
theorem sc__with_value : FnScope ["content", "place", "value"] ["content", "place", "value"] (defScope s_with_value) := ⟨rfl, rfl, rfl, by decide +kernel, rfl, by decide +kernel, by decide +kernel⟩
theorem sc__is_tuple_of : FnScope ["thing", "many"] ["thing", "many"] (defScope s_is_tuple_of) := ⟨rfl, rfl, rfl, by decide +kernel, rfl, by decide +kernel, by decide +kernel⟩
theorem sc_ascends : FnScope ["items", "k"] ["items"] (defScope sascends) := ⟨rfl, rfl, rfl, by decide +kernel, rfl, by decide +kernel, by decide +kernel⟩
theorem sc_is_content : FnScope ["bench", "thing"] ["bench", "thing"] (defScope sis_content) := ⟨rfl, rfl, rfl, by decide +kernel, rfl, by decide +kernel, by decide +kernel⟩
theorem sc_is_step : FnScope ["bench", "thing"] ["bench", "thing"] (defScope sis_step) := ⟨rfl, rfl, rfl, by decide +kernel, rfl, by decide +kernel, by decide +kernel⟩
theorem sc_leads : FnScope ["bench", "one", "other", "moved", "v", "w", "place"] ["bench", "one", "other"] (defScope sleads) := ⟨rfl, rfl, rfl, by decide +kernel, rfl, by decide +kernel, by decide +kernel⟩
theorem sc_are_contents : FnScope ["bench", "thing", "wrong", "content", "value", "place"] ["bench", "thing"] (defScope sare_contents) := ⟨rfl, rfl, rfl, by decide +kernel, rfl, by decide +kernel, by decide +kernel⟩
theorem sc__law_bag : FnScope ["_law_script", "_law_cell"] ["_law_script"] (defScope s_law_bag) := ⟨rfl, rfl, rfl, by decide +kernel, rfl, by decide +kernel, by decide +kernel⟩
theorem sc__law_take : FnScope ["_law_bag_here", "_law_upto", "_law_cell", "_law_stirred", "_law_value", "_law_begin", "_law_second"] ["_law_bag_here", "_law_upto"] (defScope s_law_take) := ⟨rfl, rfl, rfl, by decide +kernel, rfl, by decide +kernel, by decide +kernel⟩
theorem sc__law_some : FnScope ["_law_bag_here", "_law_things"] ["_law_bag_here", "_law_things"] (defScope s_law_some) := ⟨rfl, rfl, rfl, by decide +kernel, rfl, by decide +kernel, by decide +kernel⟩
theorem sc__law_alike : FnScope ["_law_found", "_law_due"] ["_law_found", "_law_due"] (defScope s_law_alike) := ⟨rfl, rfl, rfl, by decide +kernel, rfl, by decide +kernel, by decide +kernel⟩
theorem sc__law_mixed : FnScope ["_law_bag_here", "_law_things", "_law_found", "_law_thing"] ["_law_bag_here", "_law_things"] (defScope s_law_mixed) := ⟨rfl, rfl, rfl, by decide +kernel, rfl, by decide +kernel, by decide +kernel⟩
theorem sc__law_place : FnScope ["_law_bag_here", "_law_most", "_law_many", "_law_way", "_law_every", "_law_v", "_law_w"] ["_law_bag_here", "_law_most"] (defScope s_law_place) := ⟨rfl, rfl, rfl, by decide +kernel, rfl, by decide +kernel, by decide +kernel⟩
theorem sc__law_bench : FnScope ["_law_bag_here", "_law_most", "_law_places", "_law_size", "_law_turn"] ["_law_bag_here", "_law_most"] (defScope s_law_bench) := ⟨rfl, rfl, rfl, by decide +kernel, rfl, by decide +kernel, by decide +kernel⟩
theorem sc__law_contents : FnScope ["_law_bench_here", "_law_found", "_law_place_here", "_law_content", "_law_value"] ["_law_bench_here"] (defScope s_law_contents) := ⟨rfl, rfl, rfl, by decide +kernel, rfl, by decide +kernel, by decide +kernel⟩
theorem sc__law_steps : FnScope ["_law_bench_here", "_law_content", "_law_found", "_law_k", "_law_v", "_law_w"] ["_law_bench_here", "_law_content"] (defScope s_law_steps) := ⟨rfl, rfl, rfl, by decide +kernel, rfl, by decide +kernel, by decide +kernel⟩
theorem sc__law_is_int : FnScope ["_law_thing", "_law_low", "_law_high"] ["_law_thing", "_law_low", "_law_high"] (defScope s_law_is_int) := ⟨rfl, rfl, rfl, by decide +kernel, rfl, by decide +kernel, by decide +kernel⟩
theorem sc__law_is_content : FnScope ["_law_bench_here", "_law_thing", "_law_value", "_law_place_here"] ["_law_bench_here", "_law_thing"] (defScope s_law_is_content) := ⟨rfl, rfl, rfl, by decide +kernel, rfl, by decide +kernel, by decide +kernel⟩
theorem sc__law_are_contents : FnScope ["_law_bench_here", "_law_thing", "_law_one"] ["_law_bench_here", "_law_thing"] (defScope s_law_are_contents) := ⟨rfl, rfl, rfl, by decide +kernel, rfl, by decide +kernel, by decide +kernel⟩
theorem sc__law_leads : FnScope ["_law_bench_here", "_law_one", "_law_other", "_law_places", "_law_k"] ["_law_bench_here", "_law_one", "_law_other"] (defScope s_law_leads) := ⟨rfl, rfl, rfl, by decide +kernel, rfl, by decide +kernel, by decide +kernel⟩
theorem sc__law_is_step : FnScope ["_law_bench_here", "_law_thing"] ["_law_bench_here", "_law_thing"] (defScope s_law_is_step) := ⟨rfl, rfl, rfl, by decide +kernel, rfl, by decide +kernel, by decide +kernel⟩
theorem sc__law_odd : FnScope ["_law_bag_here", "_law_some_here"] ["_law_bag_here"] (defScope s_law_odd) := ⟨rfl, rfl, rfl, by decide +kernel, rfl, by decide +kernel, by decide +kernel⟩
theorem sc__law_bent : FnScope ["_law_bag_here", "_law_thing", "_law_at", "_law_by", "_law_row", "_law_way"] ["_law_bag_here", "_law_thing"] (defScope s_law_bent) := ⟨rfl, rfl, rfl, by decide +kernel, rfl, by decide +kernel, by decide +kernel⟩
theorem sc__law_flat : FnScope ["_law_rows", "_law_found", "_law_row"] ["_law_rows"] (defScope s_law_flat) := ⟨rfl, rfl, rfl, by decide +kernel, rfl, by decide +kernel, by decide +kernel⟩
theorem sc_law : FnScope ["_law_script", "_law_bag_here", "_law_turn", "_law_benches", "_law_contents_here", "_law_one", "_law_pairs", "_law_things", "_law_thing", "_law_steps_here", "_law_to", "_law_bench_here", "_law_other", "_law_shown", "_law_some_here", "_law_told", "_law_due", "_law_k"] ["_law_script"] (defScope slaw) := ⟨rfl, rfl, rfl, by decide +kernel, rfl, by decide +kernel, by decide +kernel⟩
structure Ads where
  asteps_from : Addr
  dsteps_from : FuncData
  a_with_value : Addr
  d_with_value : FuncData
  a_is_tuple_of : Addr
  d_is_tuple_of : FuncData
  aascends : Addr
  dascends : FuncData
  ais_content : Addr
  dis_content : FuncData
  ais_step : Addr
  dis_step : FuncData
  aleads : Addr
  dleads : FuncData
  aare_contents : Addr
  dare_contents : FuncData
  a_law_bag : Addr
  d_law_bag : FuncData
  a_law_take : Addr
  d_law_take : FuncData
  a_law_some : Addr
  d_law_some : FuncData
  a_law_alike : Addr
  d_law_alike : FuncData
  a_law_mixed : Addr
  d_law_mixed : FuncData
  a_law_place : Addr
  d_law_place : FuncData
  a_law_bench : Addr
  d_law_bench : FuncData
  a_law_contents : Addr
  d_law_contents : FuncData
  a_law_steps : Addr
  d_law_steps : FuncData
  a_law_is_int : Addr
  d_law_is_int : FuncData
  a_law_is_content : Addr
  d_law_is_content : FuncData
  a_law_are_contents : Addr
  d_law_are_contents : FuncData
  a_law_leads : Addr
  d_law_leads : FuncData
  a_law_is_step : Addr
  d_law_is_step : FuncData
  a_law_odd : Addr
  d_law_odd : FuncData
  a_law_bent : Addr
  d_law_bent : FuncData
  a_law_flat : Addr
  d_law_flat : FuncData
  alaw : Addr
  dlaw : FuncData
structure NB (mg : Str → Option Value) : Prop where
  nb_abs : mg "abs" = none
  nb_all : mg "all" = none
  nb_bool : mg "bool" = none
  nb_enumerate : mg "enumerate" = none
  nb_int : mg "int" = none
  nb_isinstance : mg "isinstance" = none
  nb_len : mg "len" = none
  nb_list : mg "list" = none
  nb_min : mg "min" = none
  nb_range : mg "range" = none
  nb_repr : mg "repr" = none
  nb_sorted : mg "sorted" = none
  nb_tuple : mg "tuple" = none
  nb_zip : mg "zip" = none
structure Txt (K : PySem.W.Frag) (mg : Str → Option Value) (A : Ads) : Prop extends NB mg where
  steps_from : Df K mg "steps_from" ssteps_from ["bench", "content"] A.asteps_from A.dsteps_from
  _with_value : Df K mg "_with_value" s_with_value ["content", "place", "value"] A.a_with_value A.d_with_value
  _is_tuple_of : Df K mg "_is_tuple_of" s_is_tuple_of ["thing", "many"] A.a_is_tuple_of A.d_is_tuple_of
  ascends : Df K mg "ascends" sascends ["items"] A.aascends A.dascends
  is_content : Df K mg "is_content" sis_content ["bench", "thing"] A.ais_content A.dis_content
  is_step : Df K mg "is_step" sis_step ["bench", "thing"] A.ais_step A.dis_step
  leads : Df K mg "leads" sleads ["bench", "one", "other"] A.aleads A.dleads
  are_contents : Df K mg "are_contents" sare_contents ["bench", "thing"] A.aare_contents A.dare_contents
  _law_bag : Df K mg "_law_bag" s_law_bag ["_law_script"] A.a_law_bag A.d_law_bag
  _law_take : Df K mg "_law_take" s_law_take ["_law_bag_here", "_law_upto"] A.a_law_take A.d_law_take
  _law_some : Df K mg "_law_some" s_law_some ["_law_bag_here", "_law_things"] A.a_law_some A.d_law_some
  _law_alike : Df K mg "_law_alike" s_law_alike ["_law_found", "_law_due"] A.a_law_alike A.d_law_alike
  _law_mixed : Df K mg "_law_mixed" s_law_mixed ["_law_bag_here", "_law_things"] A.a_law_mixed A.d_law_mixed
  _law_place : Df K mg "_law_place" s_law_place ["_law_bag_here", "_law_most"] A.a_law_place A.d_law_place
  _law_bench : Df K mg "_law_bench" s_law_bench ["_law_bag_here", "_law_most"] A.a_law_bench A.d_law_bench
  _law_contents : Df K mg "_law_contents" s_law_contents ["_law_bench_here"] A.a_law_contents A.d_law_contents
  _law_steps : Df K mg "_law_steps" s_law_steps ["_law_bench_here", "_law_content"] A.a_law_steps A.d_law_steps
  _law_is_int : Df K mg "_law_is_int" s_law_is_int ["_law_thing", "_law_low", "_law_high"] A.a_law_is_int A.d_law_is_int
  _law_is_content : Df K mg "_law_is_content" s_law_is_content ["_law_bench_here", "_law_thing"] A.a_law_is_content A.d_law_is_content
  _law_are_contents : Df K mg "_law_are_contents" s_law_are_contents ["_law_bench_here", "_law_thing"] A.a_law_are_contents A.d_law_are_contents
  _law_leads : Df K mg "_law_leads" s_law_leads ["_law_bench_here", "_law_one", "_law_other"] A.a_law_leads A.d_law_leads
  _law_is_step : Df K mg "_law_is_step" s_law_is_step ["_law_bench_here", "_law_thing"] A.a_law_is_step A.d_law_is_step
  _law_odd : Df K mg "_law_odd" s_law_odd ["_law_bag_here"] A.a_law_odd A.d_law_odd
  _law_bent : Df K mg "_law_bent" s_law_bent ["_law_bag_here", "_law_thing"] A.a_law_bent A.d_law_bent
  _law_flat : Df K mg "_law_flat" s_law_flat ["_law_rows"] A.a_law_flat A.d_law_flat
  law : Df K mg "law" slaw ["_law_script"] A.alaw A.dlaw
theorem small_log {n : Int} (h0 : 0 < n) (h : n < 1000000) : n.natAbs.log2 < 9000 := by
  have h1 : n.natAbs ≠ 0 := by omega
  have h2 : n.natAbs < 2 ^ 20 := by omega
  have h3 := (Nat.log2_lt h1).mpr h2
  omega
def absAt (xs : List V) (i : Nat) : Int := match xs[i]? with
  | some (.int c) => if c < 0 then -c else c
  | _ => 0
theorem head_int (cs : List Int) (lo hi : Option Int) : ∃ c : Int, atI (cutV (cs.map V.int) lo hi ++ [V.int 0]) 0 = some (.int c) := by
  have e : cutV (cs.map V.int) lo hi = ((cs.drop (HT.sIx cs.length 0 lo)).take (HT.sIx cs.length cs.length hi - HT.sIx cs.length 0 lo)).map V.int := by
    unfold cutV
    rw [List.length_map, List.map_take, List.map_drop]
  rw [e]
  cases (cs.drop (HT.sIx cs.length 0 lo)).take (HT.sIx cs.length cs.length hi - HT.sIx cs.length 0 lo) with
  | nil => exact ⟨0, rfl⟩
  | cons c t => exact ⟨c, atI_nat (j := 0) rfl⟩
section
variable {P : Program} {w : World} {K : PySem.W.Frag} {mg : Str → Option Value} {base : Heap} {A : Ads}
theorem ok_take (T : Txt K mg A) : FnOk P w K mg base CX0 1 A.a_law_take A.d_law_take ["_law_bag_here", "_law_upto"] spTake := by
  refine T._law_take.F.ok sc__law_take (fun vs H Q E h => ?_) (fun cdv A' outer s H vs Q E hr h => ?_)
  · obtain ⟨b, c, n, rfl, _⟩ := h
    rfl
  · obtain ⟨b, l, n, rfl, B, hn, hn9, k⟩ := h
    refine ⟨_, (Evl.pss_cut (ps_if (pt_cmpR op_eq (pe_ix (kIxL K) (pv 0) pe_int (fun _ _ => rfl)) pe_int (nomark _)) (pss_cons (ps_set (i := 2) sc__law_take.nd rfl (by first | exact Or.inl rfl | exact Or.inr rfl) (pe_ix (kIxL K) (pe_op op_cat (pe_slice (kSlL K) (pe_ix (kIxL K) (pv 0) pe_int (fun _ _ => rfl)) (po_some (pe_ix (kIxL K) (pv 0) pe_int (fun _ _ => rfl))) po_none) (pe_lst (pa_cons pe_int pa_nil))) pe_int (fun _ _ => rfl)))
      (pss_cons (ps_augS (pv 0) pe_int (kGet K) pe_int ip_add set_list)
      (Evl.pss_cut (ps_if (pt_cmpR op_ge (pv 2) (pe_op op_pow pe_int pe_int) (nomark _)) (pss_one (ps_asg (pv 2) (pg_sub (pv 0) pe_int set_list))) pss_nil)
      (pss_cons (ps_set (i := 3) sc__law_take.nd rfl (by first | exact Or.inl rfl | exact Or.inr rfl) (pe_op op_add (pe_op op_add (pe_op op_mul (pe_ix (kIxL K) (pv 0) pe_int (fun _ _ => rfl)) pe_int) (pe_op op_mod (pe_callTy call_int1 (by rfl) T.nb_int (by decide +kernel) (pa_cons (pv 2) pa_nil)) pe_int)) (pe_op op_mul pe_int (pe_ix (kIxL K) (pv 0) pe_int (fun _ _ => rfl)))))
      (pss_one (ps_asg (pe_op op_mod (pe_callTy call_int1 (by rfl) T.nb_int (by decide +kernel) (pa_cons (pv 3) pa_nil)) pe_int) (pg_sub (pv 0) pe_int set_list))))))) pss_nil)
      (Evl.pss_cut (ps_if (pt_cmpR op_gt (pe_ix (kIxL K) (pv 0) pe_int (fun _ _ => rfl)) pe_int (nomark _)) (pss_cons (ps_set (i := 4) sc__law_take.nd rfl (by first | exact Or.inl rfl | exact Or.inr rfl) (pe_op op_mod (pe_callTy call_int1 (by rfl) T.nb_int (by decide +kernel) (pa_cons (pe_ix (kIxL K) (pv 0) pe_int (fun _ _ => rfl)) pa_nil)) (pv 1)))
      (pss_cons (ps_asg (pe_op op_fdivW (pe_callTy call_int1 (by rfl) T.nb_int (by decide +kernel) (pa_cons (pe_ix (kIxL K) (pv 0) pe_int (fun _ _ => rfl)) pa_nil)) (pv 1)) (pg_sub (pv 0) pe_int set_list))
      (pss_one (ps_ret (pv 4))))) pss_nil)
      (pss_cons (ps_set (i := 5) sc__law_take.nd rfl (by first | exact Or.inl rfl | exact Or.inr rfl) (pe_op op_mod (pe_callTy call_int1 (by rfl) T.nb_int (by decide +kernel) (pa_cons (pe_op op_mul (pe_op op_add (pe_ix (kIxL K) (pv 0) pe_int (fun _ _ => rfl)) pe_int) pe_int) pa_nil)) pe_int))
      (pss_cons (ps_set (i := 6) sc__law_take.nd rfl (by first | exact Or.inl rfl | exact Or.inr rfl) (pe_op op_mod (pe_callTy call_int1 (by rfl) T.nb_int (by decide +kernel) (pa_cons (pe_op op_mul (pe_op op_mod (pe_callTy call_int1 (by rfl) T.nb_int (by decide +kernel) (pa_cons (pe_op op_mul (pv 5) (pv 5)) pa_nil)) pe_int) pe_int) pa_nil)) pe_int))
      (pss_one (ps_ret (pe_op op_mod (pe_callTy call_int1 (by rfl) T.nb_int (by decide +kernel) (pa_cons (pe_op op_fdivW (pv 6) pe_int) pa_nil)) (pv 1)))))))), ?_⟩
    obtain ⟨⟨p, q, r, cs, h1, h2, h3⟩, hsys⟩ := id B
    refine ⟨fun σ' H' => ∃ c s, σ' = [some (.ref b), some (.int n), c, s, none, none, none] ∧ Bag H' b l ∧ But b H H', ?_, ?_⟩
    · -- if bag[0] == 0
      refine ⟨_, rfl, b, _, 0, _, rfl, rfl, SqL.of h1, rfl, rfl, _, rfl, ?_⟩
      refine ite2 (fun _ => ?_) (fun _ => ⟨_, _, rfl, B, But.refl _ _⟩)
      -- cell = (bag[3][bag[2]:] + [0])[0]
      obtain ⟨c, hc⟩ := head_int cs (some r) Option.none
      refine ⟨_, rfl, b, _, 3, _, rfl, rfl, SqL.of h1, rfl, _, rfl, b, _, 2, _, rfl, rfl, SqL.of h1, rfl, r, rfl, l, _, rfl, SqL.of h2, fun p1 n1 => ?_⟩
      refine ⟨(by decide), fun p2 n2 => ?_⟩
      refine ⟨p1, p2, _, _, rfl, rfl, (by rw [upd_ne (ne_of_none upd_same n2)]; exact upd_same), upd_same, ?_, fun p3 n3 => ?_⟩
      · have z := cutV_length (cs.map V.int) (some r) Option.none
        rw [List.length_map] at z
        rw [sizeLine_eq]
        show _ + 1 ≤ _
        omega
      have s1 := ((same_upd n1).trans (same_upd n2)).trans (same_upd (o := .lst (cutV (cs.map V.int) (some r) Option.none ++ [V.int 0])) n3)
      refine ⟨p3, _, 0, _, rfl, rfl, SqL.of upd_same, hc, ?_⟩
      generalize upd (upd (upd H p1 _) p2 _) p3 _ = H1 at s1 ⊢
      -- bag[2] += 1
      refine ⟨_, rfl, b, _, 2, _, rfl, rfl, SqL.of (s1 _ _ h1), rfl, r, 1, rfl, rfl, b, _, 2, 2, rfl, rfl, s1 _ _ h1, rfl, ?_⟩
      have B1 : Bag H1 b l := B.same s1
      have B2 := B1.put p q (r + 1)
      have k2 : But b H (upd H1 b (.lst [.int p, .int q, .int (r + 1), .ref l])) := (But.of_same s1).trans but_put
      show Evl.tCut _ _ _ _ (upd H1 b (.lst [.int p, .int q, .int (r + 1), .ref l]))
      generalize upd H1 b (.lst [.int p, .int q, .int (r + 1), .ref l]) = H2 at B2 k2 ⊢
      refine ⟨fun σ' H' => σ' = [some (.ref b), some (.int n), some (.int c), none, none, none, none] ∧ Bag H' b l ∧ But b H H', ?_, ?_⟩
      · -- if cell >= 10 ** 18: bag[0] = cell
        refine ⟨_, rfl, _, _, rfl, rfl, ⟨by decide, by decide, by decide⟩, _, _, rfl, rfl, _, rfl, ?_⟩
        refine ite2 (fun _ => ?_) (fun _ => ⟨rfl, B2, k2⟩)
        obtain ⟨⟨p', q', r', cs', g1, g2, g3⟩, _⟩ := id B2
        refine ⟨_, rfl, _, rfl, b, _, 0, 0, rfl, rfl, g1, rfl, rfl, B2.put _ _ _, k2.trans but_put⟩
      · rintro σ' H' ⟨rfl, B3, k3⟩
        obtain ⟨⟨p', q', r', cs', g1, g2, g3⟩, _⟩ := id B3
        -- stirred = .. ; bag[1] = ..
        refine ⟨_, rfl, b, _, 1, _, rfl, rfl, SqL.of g1, rfl, _, _, rfl, rfl, .inr ⟨by decide, by decide⟩, _, rfl, .inl ⟨_, rfl, _, _, rfl, rfl, (by show (0 : Int) < 2147483647; decide), ?_⟩⟩
        refine ⟨_, _, rfl, rfl, ?_⟩
        refine ⟨_, rfl, b, _, 2, _, rfl, rfl, SqL.of g1, rfl, _, _, rfl, rfl, .inl ⟨by decide, by decide⟩, _, _, rfl, rfl, ?_⟩
        refine ⟨_, rfl, .inl ⟨_, rfl, _, _, rfl, rfl, (by show (0 : Int) < 2147483647; decide), ?_⟩⟩
        exact ⟨_, rfl, b, _, 1, 1, rfl, rfl, g1, rfl, _, _, rfl, B3.put _ _ _, k3.trans but_put⟩
    · rintro σ' H' ⟨c, s, rfl, B1, k1⟩
      obtain ⟨⟨p, q, r, cs, h1, h2, h3⟩, _⟩ := id B1
      refine ⟨fun σ' H2 => σ' = [some (.ref b), some (.int n), c, s, none, none, none] ∧ H2 = H', ?_, ?_⟩
      · -- if bag[0] > 0
        refine ⟨_, rfl, b, _, 0, _, rfl, rfl, SqL.of h1, rfl, _, _, rfl, rfl, _, rfl, ?_⟩
        refine ite2 (fun _ => ?_) (fun _ => ⟨rfl, rfl⟩)
        refine ⟨_, rfl, b, _, 0, _, rfl, rfl, SqL.of h1, rfl, .inl ⟨_, rfl, _, rfl, _, _, rfl, rfl, hn, ?_⟩⟩
        refine ⟨_, rfl, b, _, 0, _, rfl, rfl, SqL.of h1, rfl, .inl ⟨_, rfl, _, rfl, _, _, rfl, rfl, ⟨hn, hn9⟩, ?_⟩⟩
        refine ⟨_, rfl, b, _, 0, 0, rfl, rfl, h1, rfl, _, rfl, ?_⟩
        exact k _ _ (Int.emod_nonneg _ (by omega)) (Int.emod_lt_of_pos _ hn) (B1.put _ _ _) (k1.trans but_put)
      · rintro σ2 H2 ⟨rfl, rfl⟩
        -- begin, second
        refine ⟨_, rfl, b, _, 1, _, rfl, rfl, SqL.of h1, rfl, _, _, rfl, rfl, _, _, rfl, rfl, .inr ⟨by decide, by decide⟩, .inl ⟨_, rfl, _, _, rfl, rfl, (by show (0 : Int) < 1000000007; decide), ?_⟩⟩
        have b0 : 0 ≤ (q + 1) * 39373 % 1000000007 := Int.emod_nonneg _ (by decide)
        have b1 : (q + 1) * 39373 % 1000000007 < 1000000007 := Int.emod_lt_of_pos _ (by decide)
        generalize (q + 1) * 39373 % 1000000007 = z at b0 b1 ⊢
        refine ⟨_, rfl, _, rfl, _, _, rfl, rfl, .inl ⟨by omega, by omega⟩, .inl ⟨_, rfl, _, _, rfl, rfl, (by show (0 : Int) < 998244353; decide), _, _, rfl, rfl, .inr ⟨by decide, by decide⟩, .inl ⟨_, rfl, _, _, rfl, rfl, (by show (0 : Int) < 998244353; decide), ?_⟩⟩⟩
        refine ⟨_, rfl, _, _, rfl, rfl, ⟨by decide, by decide⟩, .inl ⟨_, rfl, _, rfl, _, _, rfl, rfl, hn, ?_⟩⟩
        exact k _ _ (Int.emod_nonneg _ (by omega)) (Int.emod_lt_of_pos _ hn) B1 k1
theorem ok_some (T : Txt K mg A) (G_law_take : FnOk P w K mg base CX0 1 A.a_law_take A.d_law_take ["_law_bag_here", "_law_upto"] spTake) : FnOk P w K mg base CX0 2 A.a_law_some A.d_law_some ["_law_bag_here", "_law_things"] (spSome K) := by
  refine T._law_some.F.ok sc__law_some (fun vs H Q E h => ?_) (fun cdv A' outer s H vs Q E hr h => ?_)
  · obtain ⟨b, c, l, xs, rfl, _⟩ := h
    rfl
  · obtain ⟨b, c, l, xs, rfl, B, hl, hlb, hx, hz, k⟩ := h
    refine ⟨_, (pss_one (ps_ret (pe_ix (kIxL K) (pv 1) (pe_call G_law_take (hr.mono (by first | decide | omega)) rfl T._law_take.g T._law_take.F.kp T._law_take.b .nil pass0 (pa_cons (pv 0) (pa_cons (pe_callB (kLen K) (by rfl) T.nb_len PySem.boot_len (pa_cons (pv 1) pa_nil)) pa_nil))) (fun _ _ => rfl)))), ?_⟩
    refine ⟨_, rfl, _, rfl, _, rfl, l, _, rfl, .inl (SqL.of hl), b, c, _, rfl, B, by omega, small_log (by omega) (by omega), fun v H' h0 h1 B' k' => ?_⟩
    obtain ⟨i, rfl⟩ : ∃ i : Nat, v = (i : Int) := ⟨v.toNat, by omega⟩
    have hi : i < xs.length := by omega
    refine ⟨l, _, _, xs[i], rfl, rfl, SqL.of (k' _ _ hlb hl), atI_nat (List.getElem?_eq_getElem hi), ?_⟩
    exact k _ _ (List.getElem_mem hi) B' k'
/-- _law_bag(script) -/
def spBag (K : PySem.W.Frag) : Sp := fun vs H Q _ => ∃ (a : Addr) (ns : List Int), vs = [.ref a] ∧ SqL K H a (ns.map V.int) ∧ ns.length ≤ 63 ∧ Sys H ∧ ∀ (b c : Addr) (H' : Hp), H b = Option.none → Bag H' b c → Same H H' → Q (.ref b) H'
theorem ok_bag (T : Txt K mg A) : FnOk P w K mg base CX0 1 A.a_law_bag A.d_law_bag ["_law_script"] (spBag K) := by
  refine T._law_bag.F.ok sc__law_bag (fun vs H Q E h => ?_) (fun cdv A' outer s H vs Q E hr h => ?_)
  · obtain ⟨a, ns, rfl, _⟩ := h
    rfl
  · obtain ⟨a, ns, rfl, hs, h63, hsys, k⟩ := h
    refine ⟨_, (pss_one (ps_ret (pe_lst (pa_cons pe_int (pa_cons pe_int (pa_cons pe_int (pa_cons (pe_lc (own := [("_law_cell", 1)]) rfl sc__law_bag.nd (kPiL K (pe_slice (kSlL K) (pv 0) po_none (po_some pe_int))) (blkOk_by (N := ["_law_script", "_law_cell"]) (sc := defScope s_law_bag) (by decide +kernel)) (fun _ _ _ _ _ => (pg_name (i := 1) sc__law_bag.nd rfl (by first | exact Or.inl rfl | exact Or.inr rfl))) (fun _ _ _ _ _ => pts_nil) (fun _ _ _ _ _ => (pe_callB call_abs (by rfl) T.nb_abs (by decide +kernel) (pa_cons (pv 1) pa_nil)))) pa_nil))))))), ?_⟩
    have hz : (cutV (ns.map V.int) Option.none (some 63)).length ≤ 63 := by
      have z := cutV_length (ns.map V.int) Option.none (some 63)
      rw [List.length_map] at z
      omega
    have hi : ∀ x ∈ cutV (ns.map V.int) Option.none (some 63), ∃ c : Int, x = .int c := fun x hx => by
      have h1 : x ∈ ns.map V.int := List.mem_of_mem_drop (List.mem_of_mem_take hx)
      obtain ⟨c, _, e⟩ := List.mem_map.mp h1
      exact ⟨c, e.symm⟩
    generalize hxs : cutV (ns.map V.int) Option.none (some 63) = xs at hz hi
    refine to_ret (to_lst (to_c (to_c (to_c (to_cons ?_)))))
    refine Evl.el_lcNL (xs := xs) (fun _ => true) (fun i => .int (absAt xs i)) ?_ (by omega) ?_ ?_ ?_ H (Evl.Ex.refl H) _ (fun p H2 np e hp => ?_)
    · rw [← hxs]
      exact Evl.el_sl (Evl.ev_var rfl) Evl.eo_none (Evl.eo_some Evl.ev_c) hs
    · intro x
      rfl
    · intro i x H1 _ _ H2 _ Q' q
      exact q H2 (Evl.Ex.refl H2)
    · intro i x H1 _ hx _
      obtain ⟨c, rfl⟩ := hi x (List.mem_of_getElem? hx)
      refine Evl.ev_cb (Evl.ea_cons (Evl.ev_var rfl) Evl.ea_nil) (fun H2 _ Q' q => ⟨c, rfl, ?_⟩)
      have e2 : absAt xs i = if c < 0 then -c else c := by
        unfold absAt
        rw [hx]
      rw [← e2]
      exact q H2 (Evl.Ex.refl H2)
    · refine ⟨(by show 4 ≤ sizeLine; decide), fun b nb => ?_⟩
      have e3 : Evl.given xs.length (fun _ => true) (fun i => V.int (absAt xs i)) = ((List.range xs.length).map (absAt xs)).map V.int := by
        unfold Evl.given
        rw [List.filter_eq_self.mpr (fun _ _ => rfl), List.map_map]
        rfl
      rw [e3] at hp
      have npb : p ≠ b := ne_of_none hp nb
      have s2 : Same H (upd H2 b (.lst [V.int 0, V.int 1234567891, V.int 0, V.ref p])) := fun x o ex => by
        have y := e x o ex
        rw [upd_ne (ne_of_none y nb)]
        exact y
      obtain ⟨φ, hφ⟩ := hsys
      refine k b p _ ?_ ⟨⟨_, _, _, _, upd_same, by rw [upd_ne npb]; exact hp, by rw [List.length_map, List.length_range]; exact hz⟩, φ, s2 _ _ hφ⟩ s2
      cases hb : H b with
      | none => rfl
      | some o =>
        rw [e b o hb] at nb
        cases nb
theorem ok_alike (T : Txt K mg A) : FnG P w K mg base 1 A.a_law_alike A.d_law_alike ["_law_found", "_law_due"] (spAlike K) := by
  refine okG T._law_alike.F sc__law_alike (fun vs H Q E h => ?_) (fun cdv A' outer s H vs Q E hg hr h => ?_)
  · obtain ⟨x, y, d, rfl, _⟩ := h
    rfl
  · obtain ⟨x, y, d, rfl, dx, dy, fd, k⟩ := h
    refine ⟨_, (pss_one (ps_ret (pe_and (pe_cmpR (kEqD K (un64 hr)) (pv 0) (pv 1) (nomark _)) (pe_one (pe_cmpR op_eq (pe_callB (kRepr K hg (un66 hr)) (by rfl) T.nb_repr (by decide +kernel) (pa_cons (pv 0) pa_nil)) (pe_callB (kRepr K hg (un66 hr)) (by rfl) T.nb_repr (by decide +kernel) (pa_cons (pv 1) pa_nil)) (nomark _)))))), ?_⟩
    refine ⟨_, rfl, _, rfl, d, d, dp_of_dq fd.tm dx, dp_of_dq fd.tm dy, fd.shaped, fd.shaped, _, rfl, ?_⟩
    rw [fd.eqv]
    refine iteT ?_
    have h64 : d.depth ≤ 64 := Nat.le_trans fd.dp (by decide)
    refine ⟨_, rfl, x, d, rfl, dx, tame_show d fd.tm, h64, fd.len, _, rfl, y, d, rfl, dy, tame_show d fd.tm, h64, fd.len, rfl, ?_⟩
    rw [decide_eq_true rfl]
    exact k
end
end K12

namespace K12
open PySem PySem.Spec PyProof.Rows L2 On
/-! ### what is told -/
def isTup (n : Int) : PyData → Bool
  | .tuple xs => decide ((xs.length : Int) = n)
  | _ => false
def isBelow (n : Int) : PyData → Bool
  | .int i => decide (0 ≤ i) && decide (i < n)
  | _ => false
def inR (lo hi : Int) : PyData → Bool
  | .int i => decide (lo ≤ i) && decide (i ≤ hi)
  | _ => false
def sameInt : PyData → PyData → Bool
  | .int i, .int j => decide (i = j)
  | _, _ => false
def moveOk (m : Int) : PyData → Bool
  | .tuple [d, e] => isBelow m d && (isBelow m e && !sameInt d e)
  | _ => false
def pr : PyData → List Int
  | .tuple [.int v, .int w] => [v, w]
  | _ => []
def asc (ms : List PyData) : Bool := (List.range ((ms.length : Int) - 1).toNat).all fun k => HT.lexLt (pr (ms.getD k .none)) (pr (ms.getD (k + 1) .none))
def placeOk : PyData → Bool
  | .tuple [.int m, .tuple ms] => (decide (2 ≤ m) && decide (m ≤ 6)) && (ms.all (moveOk m) && asc ms)
  | _ => false
def benchOk : PyData → Bool
  | .tuple ds => decide (0 < ds.length) && ds.all placeOk
  | _ => false
def f1 (f : PyData → Bool) : List PyData → Option Bool
  | [d] => some (f d)
  | _ => Option.none
def fTup : List PyData → Option Bool
  | [d, .int n] => some (isTup n d)
  | _ => Option.none
def fBelow : List PyData → Option Bool
  | [d, .int n] => some (isBelow n d)
  | _ => Option.none
def fInR : List PyData → Option Bool
  | [d, .int lo, .int hi] => some (inR lo hi d)
  | _ => Option.none
def fMove : List PyData → Option Bool
  | [.int m, d] => some (moveOk m d)
  | _ => Option.none
def isPair : PyData → Bool
  | .tuple [.int _, .int _] => true
  | _ => false
def fAsc : List PyData → Option Bool
  | [.tuple ms] => if ms.all isPair = true ∧ ms.length ≤ 30000 then some (asc ms) else Option.none
  | _ => Option.none
section
variable {P : Program} {w : World} {K : PySem.W.Frag} {mg : Str → Option Value} {base : Heap} {A : Ads}
theorem ok_law_is_int (T : Txt K mg A) : FnOk P w K mg base CX0 1 A.a_law_is_int A.d_law_is_int ["_law_thing", "_law_low", "_law_high"] (spB K 3 fInR) := by
  refine T._law_is_int.F.ok sc__law_is_int (fun vs H Q E ⟨_, _, _, hl, _⟩ => hl) (fun cdv A' outer s H vs Q E hr h => ?_)
  obtain ⟨ds, r, hd, hl, he, k⟩ := h
  obtain ⟨x, d, y, e, z, g, rfl, rfl, dx, dy, dz⟩ := dq3 hd hl
  cases dy with
  | int lo =>
    cases dz with
    | int hi =>
      cases he
      refine ⟨_, (pss_one (ps_ret (pe_and (pe_callB (kIsi K) (by rfl) T.nb_isinstance (by decide +kernel) (pa_cons (pv 0) (pa_cons (pe_bltn (v := .ty "int") (u := .type "int") rfl (T.nb_int) (by decide +kernel) rfl) pa_nil))) (pe_and (pe_not (pe_callB (kIsi K) (by rfl) T.nb_isinstance (by decide +kernel) (pa_cons (pv 0) (pa_cons (pe_bltn (v := .ty "bool") (u := .type "bool") rfl (T.nb_bool) (by decide +kernel) rfl) pa_nil)))) (pe_one (pe_chain op_le op_le (pv 1) (pv 0) (pv 2))))))), ?_⟩
      have hk := isK_int d
      refine Evl.s_ret (Evl.ev_is (Evl.ev_andV (ev_isi (by simp) (Evl.ev_var rfl) dx) (b := !isK d "bool" && inR lo hi d) fun h1 => Evl.ev_andV (Evl.ev_notV (ev_isi (by simp) (Evl.ev_var rfl) dx)) fun h2 => ?_) ?_) k
      · rw [h1, h2] at hk
        cases dx with
        | int i =>
          refine ev_chain (a := lo) (b := i) (c := hi) ?_ ?_ ?_
          · exact Evl.ev_var rfl
          · exact Evl.ev_var rfl
          · exact Evl.ev_var rfl
        | _ => cases hk
      · rw [← Bool.and_assoc, hk]
        cases d <;> rfl
    | _ => cases he
  | _ => cases he
end
end K12

namespace K12
open PySem PySem.Spec PyProof.Rows L2 On
section
variable {P : Program} {w : World} {K : PySem.W.Frag} {mg : Str → Option Value} {base : Heap} {A : Ads}
/-- _law_flat(rows) -/
def spFlat : Sp := fun vs H Q _ => ∃ (a : Addr) (rs : List (Addr × List V)), vs = [.ref a] ∧ H a = some (.lst (rs.map fun r => V.ref r.1)) ∧ (∀ r ∈ rs, H r.1 = some (.lst r.2)) ∧ ((rs.map (·.2)).flatten).length ≤ 10000 ∧
  ∀ (p : Addr) (H' : Hp), H p = Option.none → Same H H' → H' p = some (.lst ((rs.map (·.2)).flatten)) → Q (.ref p) H'
theorem flat_take {rs : List (Addr × List V)} {i : Nat} {r : Addr × List V} (h : rs[i]? = some r) : ((rs.take (i + 1)).map (·.2)).flatten = ((rs.take i).map (·.2)).flatten ++ r.2 := by
  rw [List.take_add_one, h]
  simp
theorem flat_le (rs : List (Addr × List V)) (i : Nat) : (((rs.take i).map (·.2)).flatten).length ≤ ((rs.map (·.2)).flatten).length := by
  conv => rhs; rw [← List.take_append_drop i rs]
  rw [List.map_append, List.flatten_append, List.length_append]
  omega
theorem ok_flat (T : Txt K mg A) : FnOk P w K mg base CX0 1 A.a_law_flat A.d_law_flat ["_law_rows"] spFlat := by
  refine T._law_flat.F.ok sc__law_flat (fun vs H Q E h => ?_) (fun cdv A' outer s H vs Q E hr h => ?_)
  · obtain ⟨a, rs, rfl, _⟩ := h
    rfl
  · obtain ⟨a, rs, rfl, ha, hrs, hz, k⟩ := h
    refine ⟨_, (pss_cons (ps_set (i := 1) sc__law_flat.nd rfl (by first | exact Or.inl rfl | exact Or.inr rfl) (pe_lst pa_nil))
      (pss_cons (ps_for PassesOwn.never rfl (kPiL K (pv 0)) (pg_name (i := 2) sc__law_flat.nd rfl (by first | exact Or.inl rfl | exact Or.inr rfl)) (pss_one (ps_expr (pe_bm PySem.F.plainAttrs_list PySem.F.slot_list_extend PySem.F.type_list_extend mt_extend (pv 1) (pa_cons (pv 2) pa_nil)))))
      (pss_one (ps_ret (pv 1))))), ?_⟩
    refine ⟨(by decide), fun p np => ?_⟩
    show tSeq _ _ _ [some (V.ref a), some (V.ref p), none] (upd H p (.lst []))
    refine ⟨_, rfl, a, rfl, ⟨_, SqL.of (same_upd np _ _ ha)⟩, for_list (K := K) (a := a) (xs := rs.map fun r => V.ref r.1) (fun i σ H' => ∃ v, σ = [some (.ref a), some (.ref p), v] ∧ Same H H' ∧ H' p = some (.lst ((rs.take i).map (·.2)).flatten))
      ⟨none, rfl, same_upd np, upd_same⟩ (fun i σ H' _ ⟨_, _, s1, _⟩ => SqL.of (s1 _ _ ha)) ?_ ?_⟩
    · rintro i x σ H' hx ⟨v, rfl, s1, hp⟩
      rw [List.getElem?_map] at hx
      obtain ⟨r, hr', rfl⟩ : ∃ r, rs[i]? = some r ∧ V.ref r.1 = x := by
        cases z : rs[i]? with
        | none =>
          rw [z] at hx
          cases hx
        | some r =>
          rw [z] at hx
          exact ⟨r, rfl, Option.some.inj hx⟩
      refine ⟨_, rfl, .inl ⟨rfl, _, SqL.of hp⟩, _, rfl, p, r.1, _, _, rfl, rfl, hp, s1 _ _ (hrs r (List.mem_of_getElem? hr')), ?_, _, rfl, ?_, ?_⟩
      · have y := flat_le rs (i + 1)
        rw [flat_take hr', List.length_append] at y
        rw [sizeLine_eq]
        omega
      · intro b o e
        rw [upd_ne (ne_of_none e np)]
        exact s1 _ _ e
      · rw [upd_same, flat_take hr']
    · rintro σ H' ⟨v, rfl, s1, hp⟩
      rw [List.length_map, List.take_length] at hp
      exact ⟨_, rfl, k p H' np s1 hp⟩
/-- _law_mixed(bag, things) -/
def spMixed : Sp := fun vs H Q _ => ∃ (b c l : Addr) (xs : List V), vs = [.ref b, .ref l] ∧ Bag H b c ∧ H l = some (.lst xs) ∧ l ≠ b ∧ xs.length ≤ 1000 ∧
  ∀ (p : Addr) (ys : List V) (H' : Hp), ys.Perm xs → H p = Option.none → Bag H' b c → But b H H' → H' p = some (.lst ys) → Q (.ref p) H'
theorem ok_mixed (T : Txt K mg A) (G_law_take : FnOk P w K mg base CX0 1 A.a_law_take A.d_law_take ["_law_bag_here", "_law_upto"] spTake) : FnOk P w K mg base CX0 2 A.a_law_mixed A.d_law_mixed ["_law_bag_here", "_law_things"] spMixed := by
  refine T._law_mixed.F.ok sc__law_mixed (fun vs H Q E h => ?_) (fun cdv A' outer s H vs Q E hr h => ?_)
  · obtain ⟨b, c, l, xs, rfl, _⟩ := h
    rfl
  · obtain ⟨b, c, l, xs, rfl, B, hl, hlb, hz, k⟩ := h
    refine ⟨_, (pss_cons (ps_set (i := 2) sc__law_mixed.nd rfl (by first | exact Or.inl rfl | exact Or.inr rfl) (pe_lst pa_nil))
      (pss_cons (ps_for PassesOwn.never rfl (kPiL K (pv 1)) (pg_name (i := 3) sc__law_mixed.nd rfl (by first | exact Or.inl rfl | exact Or.inr rfl)) (pss_one (ps_expr (pe_bm PySem.F.plainAttrs_list PySem.F.slot_list_insert PySem.F.type_list_insert mt_insert (pv 2) (pa_cons (pe_call G_law_take (hr.mono (by first | decide | omega)) rfl T._law_take.g T._law_take.F.kp T._law_take.b .nil pass0 (pa_cons (pv 0) (pa_cons (pe_op op_add (pe_callB (kLen K) (by rfl) T.nb_len PySem.boot_len (pa_cons (pv 2) pa_nil)) pe_int) pa_nil))) (pa_cons (pv 3) pa_nil))))))
      (pss_one (ps_ret (pv 2))))), ?_⟩
    refine ⟨(by decide), fun p np => ?_⟩
    have npb : p ≠ b := B.ne_new np
    show tSeq _ _ _ [some (V.ref b), some (V.ref l), some (V.ref p), none] (upd H p (.lst []))
    refine ⟨_, rfl, l, rfl, ⟨_, SqL.of (same_upd np _ _ hl)⟩, for_list (K := K) (a := l) (xs := xs) (fun i σ H' => ∃ v ys, σ = [some (.ref b), some (.ref l), some (.ref p), v] ∧ Bag H' b c ∧ But b H H' ∧ ys.Perm (xs.take i) ∧ H' p = some (.lst ys))
      ⟨none, [], rfl, B.same (same_upd np), But.of_same (same_upd np), .nil, upd_same⟩ (fun i σ H' _ ⟨_, _, _, _, k1, _⟩ => SqL.of (k1 _ _ hlb hl)) ?_ ?_⟩
    · rintro i x σ H' hx ⟨v, ys, rfl, B1, k1, hp, hy⟩
      have hi := (List.getElem?_eq_some_iff.mp hx).1
      have hyl : ys.length ≤ i := by
        rw [hp.length_eq, List.length_take]
        omega
      refine ⟨_, rfl, .inl ⟨rfl, _, SqL.of hy⟩, _, rfl, _, rfl, p, _, rfl, .inl (SqL.of hy), _, _, rfl, rfl, b, c, _, rfl, B1, by omega, small_log (by omega) (by omega), fun u H2 u0 u1 B2 k2 => ?_⟩
      have hy2 := k2 _ _ npb hy
      refine ⟨_, rfl, p, ys, u, _, rfl, rfl, hy2, by rw [sizeLine_eq]; omega, u0, by omega, ?_⟩
      refine ⟨some x, _, rfl, ?_, ?_, ?_, upd_same⟩
      · exact B2.upd npb (B.ne_cells np) hy2
      · intro a o na ea
        rw [upd_ne (ne_of_none ea np)]
        exact k2 _ _ na (k1 _ _ na ea)
      · rw [List.take_add_one, hx]
        show (ys.take u.toNat ++ [x] ++ ys.drop u.toNat).Perm (xs.take i ++ [x])
        have e1 : (ys.take u.toNat ++ [x] ++ ys.drop u.toNat).Perm (ys.take u.toNat ++ ys.drop u.toNat ++ [x]) := by
          rw [List.append_assoc, List.append_assoc]
          exact List.Perm.append_left _ List.perm_append_comm
        rw [List.take_append_drop] at e1
        exact e1.trans (hp.append_right [x])
    · rintro σ H' ⟨v, ys, rfl, B1, k1, hp, hy⟩
      rw [List.take_length] at hp
      exact ⟨_, rfl, k p ys H' hp np B1 k1 hy⟩
end
end K12

namespace K12
open PySem PySem.Spec PyProof.Rows L2 On
/-! ### places -/
abbrev prD : Int × Int → PyData := On.pairD
def placeD (m : Nat) (ps : List (Int × Int)) : PyData := .tuple [.int (m : Int), .tuple (ps.map prD)]
def rowP (m v : Nat) : List (Int × Int) := ((List.range m).filter fun (w : Nat) => !decide (w = v)).map (fun (w : Nat) => (((v : Nat) : Int), ((w : Nat) : Int)))
def everyP (m : Nat) : List (Int × Int) := ((List.range m).map (rowP m)).flatten
def okP (m : Nat) (p : Int × Int) : Bool := decide (0 ≤ p.1) && decide (p.1 < m) && (decide (0 ≤ p.2) && decide (p.2 < m)) && !decide (p.1 = p.2)
theorem mem_every {m : Nat} {p : Int × Int} (h : p ∈ everyP m) : 0 ≤ p.1 ∧ p.1 < m ∧ 0 ≤ p.2 ∧ p.2 < m ∧ p.1 ≠ p.2 := by
  unfold everyP at h
  rw [List.mem_flatten] at h
  obtain ⟨l, hl, hp⟩ := h
  obtain ⟨v, hv, rfl⟩ := List.mem_map.mp hl
  unfold rowP at hp
  obtain ⟨w, hw, rfl⟩ := List.mem_map.mp hp
  obtain ⟨h1, h2⟩ := List.mem_filter.mp hw
  have h3 := List.mem_range.mp h1
  have h4 := List.mem_range.mp hv
  have h5 : ¬ w = v := by simpa using h2
  refine ⟨?_, ?_, ?_, ?_, ?_⟩ <;> simp only <;> omega
theorem moves_ok {m : Nat} {ps : List (Int × Int)} (h : ∀ p ∈ ps, p ∈ everyP m) : (ps.map prD).all (moveOk (m : Int)) = true := by
  rw [List.all_eq_true]
  intro d hd
  obtain ⟨p, hp, rfl⟩ := List.mem_map.mp hd
  obtain ⟨a1, a2, a3, a4, a5⟩ := mem_every (h p hp)
  show (isBelow (m : Int) (.int p.1) && (isBelow (m : Int) (.int p.2) && !sameInt (.int p.1) (.int p.2))) = true
  show ((decide (0 ≤ p.1) && decide (p.1 < m)) && ((decide (0 ≤ p.2) && decide (p.2 < m)) && !decide (p.1 = p.2))) = true
  rw [decide_eq_true a1, decide_eq_true a2, decide_eq_true a3, decide_eq_true a4, decide_eq_false a5] <;> rfl
def ltP (p q : Int × Int) : Prop := HT.lexLt [p.1, p.2] [q.1, q.2] = true
theorem asc_ok {ps : List (Int × Int)} (h : ps.Pairwise ltP) : asc (ps.map prD) = true := by
  unfold asc
  rw [List.all_eq_true]
  intro k hk
  have hk' := List.mem_range.mp hk
  rw [List.length_map] at hk'
  have h1 : k < ps.length := by omega
  have h2 : k + 1 < ps.length := by omega
  rw [List.getD_eq_getElem?_getD, List.getD_eq_getElem?_getD, List.getElem?_map, List.getElem?_map, List.getElem?_eq_getElem h1, List.getElem?_eq_getElem h2]
  exact List.pairwise_iff_getElem.mp h k (k + 1) h1 h2 (by omega)
theorem place_ok {m : Nat} {ps : List (Int × Int)} (h2 : 2 ≤ m) (h6 : m ≤ 6) (h : ∀ p ∈ ps, p ∈ everyP m) (ha : ps.Pairwise ltP) : placeOk (placeD m ps) = true := by
  show ((decide ((2 : Int) ≤ m) && decide ((m : Int) ≤ 6)) && ((ps.map prD).all (moveOk (m : Int)) && asc (ps.map prD))) = true
  rw [moves_ok h, asc_ok ha, decide_eq_true (by omega), decide_eq_true (by omega)] <;> rfl
instance (p q : Int × Int) : Decidable (ltP p q) := inferInstanceAs (Decidable (_ = true))
theorem every_asc {m : Nat} (h2 : 2 ≤ m) (h6 : m ≤ 6) : (everyP m).Pairwise ltP := by
  have : m = 2 ∨ m = 3 ∨ m = 4 ∨ m = 5 ∨ m = 6 := by omega
  rcases this with rfl | rfl | rfl | rfl | rfl <;> decide +kernel
theorem every_len {m : Nat} (h6 : m ≤ 6) : (everyP m).length ≤ 30 := by
  have : m = 0 ∨ m = 1 ∨ m = 2 ∨ m = 3 ∨ m = 4 ∨ m = 5 ∨ m = 6 := by omega
  rcases this with rfl | rfl | rfl | rfl | rfl | rfl | rfl <;> decide +kernel
theorem filter_ok {m : Nat} (h2 : 2 ≤ m) (h6 : m ≤ 6) (f : Int × Int → Bool) : placeOk (placeD m ((everyP m).filter f)) = true :=
  place_ok h2 h6 (fun p hp => (List.mem_filter.mp hp).1) ((every_asc h2 h6).filter f)
/-- by the order of codes, no two alike -/
theorem sorted_ok {m : Nat} {ps : List (Int × Int)} (h2 : 2 ≤ m) (h6 : m ≤ 6) (h : ∀ p ∈ ps, p ∈ everyP m) (nd : ps.Nodup) (hs : ps.Pairwise fun p q => TS.code 6 [p.1, p.2] ≤ TS.code 6 [q.1, q.2]) : placeOk (placeD m ps) = true := by
  refine place_ok h2 h6 h ?_
  have h3 := List.pairwise_and_iff.mpr ⟨hs, nd⟩
  refine List.Pairwise.imp_of_mem (fun {p q} hp hq hpq => ?_) h3
  obtain ⟨a1, a2, a3, a4, _⟩ := mem_every (h p hp)
  obtain ⟨b1, b2, b3, b4, _⟩ := mem_every (h q hq)
  obtain ⟨c1, c2⟩ := hpq
  have e1 : ∀ x y : Int, TS.code 6 [x, y] = x * 6 + y := fun x y => by
    show x * 6 ^ 1 + (y * 6 ^ 0 + 0) = x * 6 + y
    omega
  rw [e1, e1] at c1
  show (if p.1 = q.1 then (if p.2 = q.2 then HT.lexLt [] [] else decide (p.2 < q.2)) else decide (p.1 < q.1)) = true
  by_cases z1 : p.1 = q.1
  · rw [if_pos z1]
    by_cases z2 : p.2 = q.2
    · exact absurd (Prod.ext z1 z2) c2
    · rw [if_neg z2]
      exact decide_eq_true (by omega)
  · rw [if_neg z1]
    exact decide_eq_true (by omega)
section
variable {P : Program} {w : World} {K : PySem.W.Frag} {mg : Str → Option Value} {base : Heap} {A : Ads}
theorem to_yes {p q : Hp → Prop} {σ : L2.St} {H : Hp} (h : p H) : tYes σ H fun b H3 => if b = true then p H3 else q H3 := by
  show (if true = true then p H else q H)
  rw [if_pos rfl]
  exact h
theorem to_call {sp : Sp} {t : TA} {σ : L2.St} {H : Hp} {R : VK} (h : t σ H fun vs H1 => sp (vs ++ []) H1 R E0) : tCall sp [] E0 t σ H R := h
theorem to_nm {i : Nat} {x : V} {σ : L2.St} {σ' : L2.St} {H : Hp} {D : L2.St → Hp → Prop} (e : σ.set i (some x) = σ') (h : D σ' H) : gName i x σ H D := by
  subst e
  exact h
/-- what is kept of the rows -/
structure RowsAt (K : PySem.W.Frag) (H : Hp) (D : Addr) (rs : List (Addr × List V)) (ds : List PyData) : Prop where
  at_ : H D = some (.lst (rs.map fun r => V.ref r.1))
  row : ∀ r ∈ rs, H r.1 = some (.lst r.2) ∧ r.1 ≠ D
  dat : DqAll K H ((rs.map (·.2)).flatten) ds
theorem ev_rows {m : Nat} (m6 : m ≤ 6) {o0 o1 o3 o4 o5 o6 : Option V} {H : Hp} {Q : VK}
    (q : ∀ (D : Addr) (rs : List (Addr × List V)) (H' : Hp), H D = Option.none → Same H H' → RowsAt K H' D rs ((everyP m).map prD) → Q (.ref D) H') :
    tLc (iRng1 (tCons (tVar 2) tNil)) (gName 5) tYes (tLc (iRng1 (tCons (tVar 2) tNil)) (gName 6) (tTest (tOp rNe (tVar 6) (tVar 5))) (tTup (tCons (tVar 5) (tCons (tVar 6) tNil))) [6]) [5]
      [o0, o1, some (.int (m : Int)), o3, o4, o5, o6] H Q := by
  refine ⟨_, rfl, m, rfl, by omega, by omega, fun D hD => ?_⟩
  refine lc_range (lo := 0) (n := (m : Int).toNat) (fun n H' => Same H H' ∧ ∃ rs : List (Addr × List V), rs.length = n ∧ RowsAt K H' D rs ((((List.range n).map (rowP m)).flatten).map prD))
    ⟨Evl.Ex.new hD, [], rfl, ⟨upd_same, (fun _ hh => nomatch hh), DqAll.nil⟩⟩ (fun n H' hn p => ?_) (fun H' p => ?_)
  · obtain ⟨e2, rs, hl, h1, h2, h3⟩ := p
    have hn' : n < m := by omega
    have e0 : (0 : Int) + (n : Int) = (n : Int) := Int.zero_add _
    rw [e0]
    refine ⟨rfl, ?_⟩
    refine to_yes ?_
    refine ed_row (K := K) (iv := 5) (j := 6) (many := m) (v := (n : Int)) (fun w => !decide (w = n)) (H := H') (fun H1 e H2 e2 Q q => ⟨_, rfl, q H2 (Evl.Ex.refl _)⟩) (by omega) (fun x => rfl) (fun x => rfl) (fun x => rfl) (fun w H1 hw e H2 e2 Q q => ?_) H' (Evl.Ex.refl H') _ fun p ys H4 np e4 hys hds => ?_
    · refine ⟨_, rfl, _, rfl, rfl, _, rfl, ?_⟩
      have e5 : (!decide (V.int (w : Int) = V.int (n : Int))) = !decide (w = n) := by
        congr 1
        rw [decide_eq_decide]
        constructor
        · intro h
          injection h with h
          omega
        · rintro rfl
          rfl
      rw [e5]
      exact q H2 (Evl.Ex.refl _)
    · have npD : p ≠ D := ne_of_none h1 np |>.symm
      refine ⟨_, e4 _ _ h1, by rw [List.length_map, sizeLine_eq]; omega, ?_, rs ++ [(p, ys)], by rw [List.length_append, hl]; rfl, ?_, ?_, ?_⟩
      · intro a o ea
        rw [upd_ne (ne_of_none ea hD)]
        exact e4 _ _ (e2 _ _ ea)
      · rw [upd_same, List.map_append]
        rfl
      · intro r hr
        rw [List.mem_append] at hr
        rcases hr with hr | hr
        · obtain ⟨r1, r2⟩ := h2 r hr
          exact ⟨by rw [upd_ne r2]; exact e4 _ _ r1, r2⟩
        · rw [List.mem_singleton] at hr
          subst hr
          exact ⟨by rw [upd_ne npD]; exact hys, npD⟩
      · have hkp := keep_lst (H := H4) (a := D) (xs := rs.map fun r => V.ref r.1) (ys := (rs.map fun r => V.ref r.1) ++ [.ref p]) (e4 _ _ h1)
        rw [List.range_succ, List.map_append, List.map_append, List.flatten_append, List.flatten_append, List.map_append]
        have e6 : ((List.map (rowP m) [n]).flatten).map prD = ((List.range m).filter fun w => !decide (w = n)).map fun (w : Nat) => pairD ((n : Int), (w : Int)) := by
          simp only [List.map_cons, List.map_nil, List.flatten_cons, List.flatten_nil, List.append_nil, rowP, List.map_map]
          rfl
        rw [e6]
        have e7 : ((List.map (fun r : Addr × List V => r.2) [(p, ys)]).flatten) = ys := by simp
        rw [e7]
        refine dqAll_app (dqAll_keep hkp (dqAll_same e4 h3) (pairD_tup _)) (dqAll_keep hkp hds ?_)
        rw [tups_iff]
        intro d hd
        obtain ⟨p, _, rfl⟩ := List.mem_map.mp hd
        simp [On.pairD, tup, tups]
  · obtain ⟨e2, rs, hl, h⟩ := p
    have e3 : (m : Int).toNat = m := by omega
    rw [e3] at h
    exact q D rs H' hD e2 h
/-- the pair that stands at a value -/
def prOf (H : Hp) : V → Int × Int
  | .ref a => match H a with
    | some (.tup [.int p, .int q]) => (p, q)
    | _ => (0, 0)
  | _ => (0, 0)
def IsPr (H : Hp) (x : V) : Prop := ∃ a, x = .ref a ∧ H a = some (.tup [.int (prOf H x).1, .int (prOf H x).2])
theorem prOf_at {H : Hp} {a : Addr} {p q : Int} (h : H a = some (.tup [.int p, .int q])) : prOf H (.ref a) = (p, q) := by
  show (match H a with
    | some (.tup [.int p, .int q]) => (p, q)
    | _ => ((0 : Int), (0 : Int))) = (p, q)
  rw [h]
theorem prs_of {H : Hp} : ∀ {ps : List (Int × Int)} {xs : List V}, DqAll K H xs (ps.map prD) → xs.map (prOf H) = ps ∧ ∀ x ∈ xs, IsPr H x
  | [], [], _ => ⟨rfl, fun _ h => nomatch h⟩
  | p :: ps, x :: xs, .cons h1 h2 => by
    obtain ⟨e1, e2⟩ := prs_of h2
    obtain ⟨a, rfl, ha⟩ := dq_pair h1
    have e3 := prOf_at ha
    refine ⟨?_, ?_⟩
    · rw [List.map_cons, e1, e3]
    · intro x hx
      rcases List.mem_cons.mp hx with rfl | hx
      · exact ⟨a, rfl, by rw [e3]; exact ha⟩
      · exact e2 x hx
theorem prs_to {H H' : Hp} : ∀ {xs : List V}, (∀ x ∈ xs, IsPr H x) → (∀ a p q, H a = some (.tup [.int p, .int q]) → H' a = some (.tup [.int p, .int q])) → DqAll K H' xs ((xs.map (prOf H)).map prD)
  | [], _, _ => .nil
  | x :: xs, h, k => by
    obtain ⟨a, rfl, ha⟩ := h x (List.mem_cons_self ..)
    exact .cons (dq_mk (k _ _ _ ha)) (prs_to (fun y hy => h y (List.mem_cons_of_mem _ hy)) k)
theorem every_nd {m : Nat} (h2 : 2 ≤ m) (h6 : m ≤ 6) : (everyP m).Nodup := (every_asc h2 h6).imp fun {p q} h e => by
  subst e
  have : HT.lexLt [p.1, p.2] [p.1, p.2] = false := by
    show (if p.1 = p.1 then (if p.2 = p.2 then HT.lexLt [] [] else decide (p.2 < p.2)) else decide (p.1 < p.1)) = false
    rw [if_pos rfl, if_pos rfl]
    rfl
  unfold ltP at h
  rw [this] at h
  cases h
theorem cut_sub (xs : List V) (lo hi : Option Int) : (cutV xs lo hi).Sublist xs := (List.take_sublist _ _).trans (List.drop_sublist _ _)
/-- return (many, tuple(pairs)) -/
theorem ret_pairs {te : TE} {D : Ends} {σ : L2.St} {H : Hp} {m : Nat} {ps : List (Int × Int)} (hm : σ[2]? = some (some (.int (m : Int))))
    (hE : ∀ Q : VK, (∀ p ys H1, Same H H1 → H1 p = some (.lst ys) → DqAll K H1 ys (ps.map prD) → Q (.ref p) H1) → te σ H Q)
    (q : ∀ v H1, Same H H1 → Dq K H1 v (placeD m ps) → D.rt v H1) : tRet (tTup (tCons (tVar 2) (tCons (tCB (rTupOf K) (tCons te tNil)) tNil))) D σ H := by
  refine ⟨_, hm, ?_⟩
  refine to_cons (to_cb (to_cons (hE _ fun p ys H1 s1 hp hd => ?_)))
  refine ⟨p, ys, rfl, .inl ⟨SqL.of hp, fun l nl => ⟨(by show 2 ≤ sizeLine; decide), fun v nv => ?_⟩⟩⟩
  have s2 := same_upd (o := .tup ys) nl
  have s3 := same_upd (o := .tup [.int (m : Int), .ref l]) nv
  exact q _ _ ((s1.trans s2).trans s3) (.tup upd_same (.cons (.int _) (.cons (.tup (s3 _ _ upd_same) (dqAll_same (s2.trans s3) hd)) .nil)))
/-- _law_place(bag, 6) -/
def spPlace (K : PySem.W.Frag) : Sp := fun vs H Q _ => ∃ (b c : Addr) (n : Int), vs = [.ref b, .int n] ∧ 2 ≤ n ∧ n ≤ 6 ∧ Bag H b c ∧
  ∀ (m : Nat) (ps : List (Int × Int)) (v : V) (H' : Hp), placeOk (placeD m ps) = true → ps.length ≤ 30 → Bag H' b c → But b H H' → Dq K H' v (placeD m ps) → Q v H'
theorem ok_lplace (T : Txt K mg A) (G_law_take : FnOk P w K mg base CX0 1 A.a_law_take A.d_law_take ["_law_bag_here", "_law_upto"] spTake) (G_law_some : FnOk P w K mg base CX0 2 A.a_law_some A.d_law_some ["_law_bag_here", "_law_things"] (spSome K)) (G_law_flat : FnOk P w K mg base CX0 1 A.a_law_flat A.d_law_flat ["_law_rows"] spFlat) (G_law_mixed : FnOk P w K mg base CX0 2 A.a_law_mixed A.d_law_mixed ["_law_bag_here", "_law_things"] spMixed) : FnOk P w K mg base CX0 3 A.a_law_place A.d_law_place ["_law_bag_here", "_law_most"] (spPlace K) := by
  refine T._law_place.F.ok sc__law_place (fun vs H Q E h => ?_) (fun cdv A' outer s H vs Q E hr h => ?_)
  · obtain ⟨b, c, n, rfl, _⟩ := h
    rfl
  · obtain ⟨b, c, n, rfl, n2, n6, B, k⟩ := h
    refine ⟨_, (pss_cons (ps_set (i := 2) sc__law_place.nd rfl (by first | exact Or.inl rfl | exact Or.inr rfl) (pe_op op_add pe_int (pe_call G_law_take (hr.mono (by first | decide | omega)) rfl T._law_take.g T._law_take.F.kp T._law_take.b .nil pass0 (pa_cons (pv 0) (pa_cons (pe_op op_sub (pv 1) pe_int) pa_nil)))))
      (pss_cons (ps_set (i := 3) sc__law_place.nd rfl (by first | exact Or.inl rfl | exact Or.inr rfl) (pe_call G_law_some (hr.mono (by first | decide | omega)) rfl T._law_some.g T._law_some.F.kp T._law_some.b .nil pass0 (pa_cons (pv 0) (pa_cons (pe_lst (pa_cons pe_int (pa_cons pe_int (pa_cons pe_int (pa_cons pe_int (pa_cons pe_int (pa_cons pe_int (pa_cons pe_int (pa_cons pe_int (pa_cons pe_int (pa_cons pe_int (pa_cons pe_int pa_nil)))))))))))) pa_nil))))
      (pss_cons (ps_set (i := 4) sc__law_place.nd rfl (by first | exact Or.inl rfl | exact Or.inr rfl) (pe_call G_law_flat (hr.mono (by first | decide | omega)) rfl T._law_flat.g T._law_flat.F.kp T._law_flat.b .nil pass0 (pa_cons (pe_lc (own := [("_law_v", 5)]) rfl sc__law_place.nd (pi_range1 rfl T.nb_range (pa_cons (pv 2) pa_nil)) (blkOk_by (N := ["_law_bag_here", "_law_most", "_law_many", "_law_way", "_law_every", "_law_v", "_law_w"]) (sc := defScope s_law_place) (by decide +kernel)) (fun _ _ _ _ _ => (pg_name (i := 5) sc__law_place.nd rfl (by first | exact Or.inl rfl | exact Or.inr rfl))) (fun _ _ _ _ _ => pts_nil) (fun _ _ _ _ _ => (pe_lc (own := [("_law_w", 6)]) rfl sc__law_place.nd (pi_range1 rfl T.nb_range (pa_cons (pv 2) pa_nil)) (blkOk_by (by rfl)) (fun _ _ _ _ _ => (pg_name (i := 6) sc__law_place.nd rfl (by first | exact Or.inl rfl | exact Or.inr rfl))) (fun _ _ _ _ _ => (pts_one (pt_cmpR op_ne (pv 6) (pv 5) (nomark _)))) (fun _ _ _ _ _ => (pe_tup (pa_cons (pv 5) (pa_cons (pv 6) pa_nil))))))) pa_nil)))
      (pss_cons (ps_if (pt_cmpR op_lt (pv 3) pe_int (nomark _)) (pss_one (ps_ret (pe_tup (pa_cons (pv 2) (pa_cons (pe_callTy (kTuple K) (by rfl) T.nb_tuple (by decide +kernel) (pa_cons (pv 4) pa_nil)) pa_nil))))) pss_nil)
      (pss_cons (ps_if (PW.pt (pw_or (pt_cmpR op_lt (pv 3) pe_int (nomark _)) (pw_or1 (PW.pt (pw_and (pt_cmpR op_eq (pv 3) pe_int (nomark _)) (pw_and1 (pt_cmpR op_lt (pv 2) pe_int (nomark _)))))))) (pss_one (ps_ret (pe_tup (pa_cons (pv 2) (pa_cons (pe_callTy (kTuple K) (by rfl) T.nb_tuple (by decide +kernel) (pa_cons (pe_lc (own := [("_law_v", 5), ("_law_w", 6)]) rfl sc__law_place.nd (kPiL K (pv 4)) (blkOk_by (N := ["_law_bag_here", "_law_most", "_law_many", "_law_way", "_law_every", "_law_v", "_law_w"]) (sc := defScope s_law_place) (by decide +kernel)) (fun _ _ _ _ _ => (kPgT K (n := 2) (pgs_cons (pg_name (i := 5) sc__law_place.nd rfl (by first | exact Or.inl rfl | exact Or.inr rfl)) (pgs_cons (pg_name (i := 6) sc__law_place.nd rfl (by first | exact Or.inl rfl | exact Or.inr rfl)) pgs_nil)))) (fun _ _ _ _ _ => (pts_one (pt_cmpR (kIn K) (pe_op op_sub (pv 5) (pv 6)) (pe_tup (pa_cons pe_int (pa_cons (pe_un un_neg pe_int) pa_nil))) rfl))) (fun _ _ _ _ _ => (pe_tup (pa_cons (pv 5) (pa_cons (pv 6) pa_nil))))) pa_nil)) pa_nil))))) pss_nil)
      (pss_cons (ps_if (pt_cmpR op_eq (pv 3) pe_int (nomark _)) (pss_one (ps_ret (pe_tup (pa_cons (pv 2) (pa_cons (pe_callTy (kTuple K) (by rfl) T.nb_tuple (by decide +kernel) (pa_cons (pe_lc (own := [("_law_v", 5), ("_law_w", 6)]) rfl sc__law_place.nd (kPiL K (pv 4)) (blkOk_by (N := ["_law_bag_here", "_law_most", "_law_many", "_law_way", "_law_every", "_law_v", "_law_w"]) (sc := defScope s_law_place) (by decide +kernel)) (fun _ _ _ _ _ => (kPgT K (n := 2) (pgs_cons (pg_name (i := 5) sc__law_place.nd rfl (by first | exact Or.inl rfl | exact Or.inr rfl)) (pgs_cons (pg_name (i := 6) sc__law_place.nd rfl (by first | exact Or.inl rfl | exact Or.inr rfl)) pgs_nil)))) (fun _ _ _ _ _ => (pts_one (pt_cmpR (kIn K) (pe_op op_mod (pe_callTy call_int1 (by rfl) T.nb_int (by decide +kernel) (pa_cons (pe_op op_sub (pv 5) (pv 6)) pa_nil)) (pv 2)) (pe_tup (pa_cons pe_int (pa_cons (pe_op op_sub (pv 2) pe_int) pa_nil))) rfl))) (fun _ _ _ _ _ => (pe_tup (pa_cons (pv 5) (pa_cons (pv 6) pa_nil))))) pa_nil)) pa_nil))))) pss_nil)
      (pss_cons (ps_if (pt_cmpR (kIn K) (pv 3) (pe_tup (pa_cons pe_int (pa_cons pe_int pa_nil))) rfl) (pss_one (ps_ret (pe_tup (pa_cons (pv 2) (pa_cons (pe_callTy (kTuple K) (by rfl) T.nb_tuple (by decide +kernel) (pa_cons (pe_lc (own := [("_law_v", 5), ("_law_w", 6)]) rfl sc__law_place.nd (kPiL K (pv 4)) (blkOk_by (N := ["_law_bag_here", "_law_most", "_law_many", "_law_way", "_law_every", "_law_v", "_law_w"]) (sc := defScope s_law_place) (by decide +kernel)) (fun _ _ _ _ _ => (kPgT K (n := 2) (pgs_cons (pg_name (i := 5) sc__law_place.nd rfl (by first | exact Or.inl rfl | exact Or.inr rfl)) (pgs_cons (pg_name (i := 6) sc__law_place.nd rfl (by first | exact Or.inl rfl | exact Or.inr rfl)) pgs_nil)))) (fun _ _ _ _ _ => (pts_one (PW.pt (pw_and (pt_cmpR op_lt (pv 5) (pv 6) (nomark _)) (pw_and1 (PW.pt (pw_or (pt_cmpR op_eq (pv 3) pe_int (nomark _)) (pw_or1 (pt_cmpR op_eq (pv 6) (pe_op op_add (pv 5) pe_int) (nomark _)))))))))) (fun _ _ _ _ _ => (pe_tup (pa_cons (pv 5) (pa_cons (pv 6) pa_nil))))) pa_nil)) pa_nil))))) pss_nil)
      (pss_one (ps_ret (pe_tup (pa_cons (pv 2) (pa_cons (pe_callTy (kTuple K) (by rfl) T.nb_tuple (by decide +kernel) (pa_cons (pe_callB (kSortT K (d := 2) (B := 6) (by decide)) (by rfl) T.nb_sorted (by decide +kernel) (pa_cons (pe_slice (kSlL K) (pe_call G_law_mixed (hr.mono (by first | decide | omega)) rfl T._law_mixed.g T._law_mixed.F.kp T._law_mixed.b .nil pass0 (pa_cons (pv 0) (pa_cons (pv 4) pa_nil))) po_none (po_some (pe_call G_law_take (hr.mono (by first | decide | omega)) rfl T._law_take.g T._law_take.F.kp T._law_take.b .nil pass0 (pa_cons (pv 0) (pa_cons (pe_op op_add (pe_callB (kLen K) (by rfl) T.nb_len PySem.boot_len (pa_cons (pv 4) pa_nil)) pe_int) pa_nil))))) pa_nil)) pa_nil)) pa_nil)))))))))))), ?_⟩
    -- many = 2 + take(bag, most - 1)
    refine ⟨_, rfl, _, rfl, _, _, rfl, rfl, b, c, n - 1, rfl, B, by omega, small_log (by omega) (by omega), fun u H1 u0 u1 B1 k1 => ?_⟩
    refine ⟨_, _, rfl, rfl, ?_⟩
    obtain ⟨m, hm⟩ : ∃ m : Nat, (2 + u : Int) = (m : Int) := ⟨(2 + u).toNat, by omega⟩
    have m2 : 2 ≤ m := by omega
    have m6 : m ≤ 6 := by omega
    show tSeq _ _ _ [some (.ref b), some (.int n), some (.int (2 + u)), none, none, none, none] H1
    rw [hm]
    -- way
    refine ⟨_, rfl, by decide, fun p1 n1 => ⟨b, c, p1, _, rfl, B1.same (same_upd n1), upd_same, B1.ne_new n1, by decide, by decide, fun wy H2 hwy B2 k2 => ?_⟩⟩
    obtain ⟨way, rfl, hway⟩ : ∃ way : Int, wy = .int way ∧ way ∈ ([0, 2, 4, 5, 6, 7] : List Int) := by
      simp only [List.mem_cons, List.not_mem_nil, or_false] at hwy
      rcases hwy with h | h | h | h | h | h | h | h | h | h | h <;> exact ⟨_, h, by decide⟩
    refine to_nm (σ' := [some (.ref b), some (.int n), some (.int m), some (.int way), none, none, none]) rfl ?_
    dsimp only
    have k2' : But b H H2 := k1.trans ((But.of_same (same_upd n1)).trans k2)
    clear k2 B1 n1 k1
    -- every
    refine to_qasg (to_call (to_cons ?_))
    refine ev_rows (K := K) m6 fun D rs H3 nD s3 hR => ?_
    have B3 := B2.same s3
    have k3 : But b H H3 := k2'.trans (But.of_same s3)
    have hflen : ((rs.map (·.2)).flatten).length = (everyP m).length := by rw [dqAll_len hR.dat, List.length_map]
    have hel := every_len m6
    refine ⟨D, rs, rfl, hR.at_, fun r hr => (hR.row r hr).1, by omega, fun e H4 ne s4 he => ?_⟩
    have B4 := B3.same s4
    have k4 : But b H H4 := k3.trans (But.of_same s4)
    have hd4 := dqAll_same s4 hR.dat
    have neb : e ≠ b := B3.ne_new ne
    generalize ((rs.map (·.2)).flatten) = xs at he hd4 hflen
    clear hR B3 k3 k2' s4 s3 nD
    refine to_nm (σ' := [some (.ref b), some (.int n), some (.int m), some (.int way), some (.ref e), none, none]) rfl ?_
    refine Evl.q_when (b := decide (way < 2)) (Evl.et_test (Evl.ev_op (Evl.ev_var rfl) Evl.ev_c Evl.rv_I0)) (fun _ H5 e5 => ?_) (fun _ H5 e5 => ?_)
    · refine ret_pairs (K := K) (m := m) (ps := everyP m) rfl (fun Q q => ⟨_, rfl, q e xs H5 (Evl.Ex.refl _) (e5 _ _ he) (dqAll_same e5 hd4)⟩) fun v H6 s6 hv => ?_
      exact k m _ v H6 (place_ok m2 m6 (fun _ h => h) (every_asc m2 m6)) hel (B4.same (e5.trans s6)) (k4.trans (But.of_same (e5.trans s6))) hv
    have he := e5 _ _ he
    have hd4 := dqAll_same e5 hd4
    have B4 := B4.same e5
    have k4 := k4.trans (But.of_same e5)
    have FIN : ∀ f : Int × Int → Bool, ∀ v H6, Same H5 H6 → Dq K H6 v (placeD m ((everyP m).filter f)) → Q v H6 := fun f v H6 s6 hv =>
      k m _ v H6 (filter_ok m2 m6 f) (Nat.le_trans (List.length_filter_le _ _) hel) (B4.same s6) (k4.trans (But.of_same s6)) hv
    refine Evl.q_when (b := decide (way < 4) || (decide (V.int way = V.int 4) && decide ((m : Int) < 3))) (Evl.et_or (Evl.et_test (Evl.ev_op (Evl.ev_var rfl) Evl.ev_c Evl.rv_I0)) fun _ => Evl.et_and (Evl.et_test (Evl.ev_op (Evl.ev_var rfl) Evl.ev_c (Evl.rv_eq rfl))) fun _ => Evl.et_test (Evl.ev_op (Evl.ev_var rfl) Evl.ev_c Evl.rv_I0)) (fun _ H6 e6 => ?_) (fun _ H6 e6 => ?_)
    · exact ret_pairs (K := K) (m := m) rfl (fun Q q => ed_pairs (everyP m) (fun p => inV (.int (p.1 - p.2)) [.int 1, .int (-1)]) (fun H1 _ => Evl.ev_var rfl) (e6 _ _ he) (dqAll_same e6 hd4) (by omega) (fun _ _ => rfl) (fun _ _ => rfl) (fun _ _ => rfl)
        (fun p H1 _ _ => Evl.et_test (Evl.ev_inU (Evl.ev_op (Evl.ev_var rfl) (Evl.ev_var rfl) Evl.rv_I0) (Evl.eu_tup (Evl.ea_cons Evl.ev_c (Evl.ea_cons (Evl.ev_un Evl.ev_c Evl.ru_neg) Evl.ea_nil)) (by show 2 ≤ 100000; decide)) rfl rfl)) H6 (Evl.Ex.refl _) _ fun p ys H2 _ e2 hys hds => q p ys H2 e2 hys hds)
        fun v H7 s7 hv => FIN _ v H7 (e6.trans s7) hv
    refine Evl.q_when (b := decide (V.int way = V.int 4)) (Evl.et_test (Evl.ev_op (Evl.ev_var rfl) Evl.ev_c (Evl.rv_eq rfl))) (fun _ H7 e7 => ?_) (fun _ H7 e7 => ?_)
    · have e67 := e6.trans e7
      exact ret_pairs (K := K) (m := m) rfl (fun Q q => ed_pairs (everyP m) (fun p => inV (.int ((p.1 - p.2) % (m : Int))) [.int 1, .int ((m : Int) - 1)]) (fun H1 _ => Evl.ev_var rfl) (e67 _ _ he) (dqAll_same e67 hd4) (by omega) (fun _ _ => rfl) (fun _ _ => rfl) (fun _ _ => rfl)
        (fun p H1 _ _ => Evl.et_test (Evl.ev_inU (Evl.ev_op (Evl.ev_cb (Evl.ea_cons (Evl.ev_op (Evl.ev_var rfl) (Evl.ev_var rfl) Evl.rv_I0) Evl.ea_nil) (fun H1 _ Q q => .inl ⟨_, rfl, q H1 (Evl.Ex.refl _)⟩)) (Evl.ev_var rfl) (Evl.rv_I (by omega))) (Evl.eu_tup (Evl.ea_cons Evl.ev_c (Evl.ea_cons (Evl.ev_op (Evl.ev_var rfl) Evl.ev_c Evl.rv_I0) Evl.ea_nil)) (by show 2 ≤ 100000; decide)) rfl rfl)) H7 (Evl.Ex.refl _) _ fun p ys H2 _ e2 hys hds => q p ys H2 e2 hys hds)
        fun v H8 s8 hv => FIN _ v H8 (e67.trans s8) hv
    have e67 := e6.trans e7
    refine Evl.q_when (b := inV (.int way) [.int 5, .int 7]) (Evl.et_test (Evl.ev_inU (Evl.ev_var rfl) (Evl.eu_tup (Evl.ea_cons Evl.ev_c (Evl.ea_cons Evl.ev_c Evl.ea_nil)) (by show 2 ≤ 100000; decide)) rfl rfl)) (fun _ H8 e8 => ?_) (fun _ H8 e8 => ?_)
    · have e68 := e67.trans e8
      exact ret_pairs (K := K) (m := m) rfl (fun Q q => ed_pairs (everyP m) (fun p => decide (p.1 < p.2) && (decide (V.int way = V.int 5) || decide (V.int p.2 = V.int (p.1 + 1)))) (fun H1 _ => Evl.ev_var rfl) (e68 _ _ he) (dqAll_same e68 hd4) (by omega) (fun _ _ => rfl) (fun _ _ => rfl) (fun _ _ => rfl)
        (fun p H1 _ _ => Evl.et_and (Evl.et_test (Evl.ev_op (Evl.ev_var rfl) (Evl.ev_var rfl) Evl.rv_I0)) fun _ => Evl.et_or (Evl.et_test (Evl.ev_op (Evl.ev_var rfl) Evl.ev_c (Evl.rv_eq rfl))) fun _ => Evl.et_test (Evl.ev_op (Evl.ev_var rfl) (Evl.ev_op (Evl.ev_var rfl) Evl.ev_c Evl.rv_I0) (Evl.rv_eq rfl))) H8 (Evl.Ex.refl _) _ fun p ys H2 _ e2 hys hds => q p ys H2 e2 hys hds)
        fun v H9 s9 hv => FIN _ v H9 (e68.trans s9) hv
    have e68 := e67.trans e8
    -- sorted(mixed(bag, every)[:take(bag, len(every) + 1)])
    have he8 := e68 _ _ he
    have hd8 := dqAll_same e68 hd4
    have B8 := B4.same e68
    have k8 : But b H H8 := k4.trans (But.of_same e68)
    clear FIN
    obtain ⟨pr1, pr2⟩ := prs_of hd8
    refine to_ret (to_tup (to_cons ⟨_, rfl, to_cons (to_cb (to_cons (to_cb (to_cons ?_))))⟩))
    refine ⟨_, rfl, _, rfl, b, c, e, xs, rfl, B8, he8, neb, by omega, fun p ys H9 perm np B9 k9 hp => ?_⟩
    refine ⟨_, rfl, _, rfl, e, xs, rfl, .inl (SqL.of (k9 _ _ neb he8)), _, _, rfl, rfl, b, c, _, rfl, B9, by omega, small_log (by omega) (by omega), fun u HA u0 u1 BA kA => ⟨u, rfl, ?_⟩⟩
    have npb : p ≠ b := B8.ne_new np
    refine ⟨p, ys, rfl, SqL.of (kA _ _ npb hp), fun l nl => ?_⟩
    have sl := same_upd (o := .lst (cutV ys none (some u))) nl
    have kL : But b H8 (upd HA l (.lst (cutV ys none (some u)))) := (k9.trans kA).trans (But.of_same sl)
    have BL := BA.same sl
    have hl : upd HA l (.lst (cutV ys none (some u))) l = some (.lst (cutV ys none (some u))) := upd_same
    generalize upd HA l (.lst (cutV ys none (some u))) = HL at kL BL hl
    have hcs := cut_sub ys none (some u)
    generalize cutV ys none (some u) = cs at hl hcs
    have hb8 : ∀ a p q, H8 a = some (.tup [.int p, .int q]) → a ≠ b := by
      rintro a p q h rfl
      obtain ⟨⟨_, _, _, _, h1, _⟩, _⟩ := B8
      rw [h1] at h
      cases h
    have hcm : ∀ x ∈ cs, x ∈ xs := fun x hx => perm.subset (hcs.subset hx)
    have hcl : cs.length ≤ 30 := by
      have := hcs.length_le
      have := perm.length_eq
      omega
    refine ⟨l, cs, rfl, SqL.of hl, by omega, fun x hx => ?_, fun zs z permz pw nz => ?_⟩
    · obtain ⟨a, rfl, ha⟩ := pr2 x (hcm x hx)
      refine ⟨[(prOf H8 (.ref a)).1, (prOf H8 (.ref a)).2], ⟨a, rfl, SqT.of (kL _ _ (hb8 _ _ _ ha) ha)⟩, rfl, fun n hn => ?_⟩
      have hmem : prOf H8 (.ref a) ∈ everyP m := by
        rw [← pr1]
        exact List.mem_map_of_mem (hcm _ hx)
      obtain ⟨a1, a2, a3, a4, _⟩ := mem_every hmem
      rcases List.mem_cons.mp hn with rfl | hn
      · omega
      · rcases List.mem_cons.mp hn with rfl | hn
        · omega
        · cases hn
    · have hzm : ∀ x ∈ zs, x ∈ xs := fun x hx => hcm x (permz.subset hx)
      refine ⟨z, zs, rfl, .inl ⟨SqL.of upd_same, fun t nt => ⟨(by show 2 ≤ sizeLine; decide), fun v nv => ?_⟩⟩⟩
      have s1 := same_upd (o := .lst zs) nz
      have s2 := same_upd (o := .tup zs) nt
      have s3 := same_upd (o := .tup [.int (m : Int), .ref t]) nv
      have s13 := (s1.trans s2).trans s3
      refine k m (zs.map (prOf H8)) _ _ (sorted_ok m2 m6 ?_ ?_ ?_) ?_ (BL.same s13) (k8.trans (kL.trans (But.of_same s13))) (.tup upd_same (.cons (.int _) (.cons (.tup (s3 _ _ upd_same) (prs_to (fun x hx => pr2 x (hzm x hx)) fun a p q h => s13 _ _ (kL _ _ (hb8 _ _ _ h) h))) .nil)))
      · intro q hq
        obtain ⟨x, hx, rfl⟩ := List.mem_map.mp hq
        rw [← pr1]
        exact List.mem_map_of_mem (hzm x hx)
      · have n1 : (xs.map (prOf H8)).Nodup := by
          rw [pr1]
          exact every_nd m2 m6
        have n2 : (ys.map (prOf H8)).Nodup := (perm.map _).nodup_iff.mpr n1
        have n3 : (cs.map (prOf H8)).Nodup := (hcs.map _).nodup n2
        exact (permz.map _).nodup_iff.mpr n3
      · rw [List.pairwise_map]
        refine pw.imp_of_mem fun {x y} hx hy hxy => ?_
        obtain ⟨a, rfl, ha⟩ := pr2 x (hzm x hx)
        obtain ⟨a', rfl, ha'⟩ := pr2 y (hzm y hy)
        exact hxy _ _ ⟨a, rfl, SqT.of (kL _ _ (hb8 _ _ _ ha) ha)⟩ ⟨a', rfl, SqT.of (kL _ _ (hb8 _ _ _ ha') ha')⟩
      · rw [List.length_map, permz.length_eq]
        exact hcl
end
end K12

namespace K12
open PySem PySem.Spec PyProof.Rows L2 On
section
variable {P : Program} {w : World} {K : PySem.W.Frag} {mg : Str → Option Value} {base : Heap} {A : Ads}
/-- the heap but for what stands at L -/
def offs (L : List Addr) (H : Hp) : Hp := fun a => if a ∈ L then Option.none else H a
theorem offs_ne {L : List Addr} {a : Addr} {H : Hp} (h : a ∉ L) : offs L H a = H a := if_neg h
theorem offs_some {L : List Addr} {a : Addr} {H : Hp} {o : HO} (e : offs L H a = some o) : a ∉ L := fun z => by
  unfold offs at e
  rw [if_pos z] at e
  cases e
theorem offs_sub {L : List Addr} {H : Hp} : Same (offs L H) H := fun a o e => by
  rwa [offs_ne (offs_some e)] at e
theorem offs_but {L : List Addr} {b : Addr} {H H' : Hp} (hb : b ∈ L) (k : But b H H') : Same (offs L H) (offs L H') := fun a o e => by
  have n := offs_some e
  rw [offs_ne n] at e ⊢
  exact k a o (fun z => n (z ▸ hb)) e
theorem offs_same {L : List Addr} {H H' : Hp} (k : Same H H') : Same (offs L H) (offs L H') := fun a o e => by
  have n := offs_some e
  rw [offs_ne n] at e ⊢
  exact k a o e
theorem offs_new {L : List Addr} {a : Addr} {H : Hp} {o : HO} (h : a ∉ L) : offs L (upd H a o) a = some o := by
  rw [offs_ne h]
  exact upd_same
theorem offs_cons {L : List Addr} {r : Addr} {H : Hp} : Same (offs (r :: L) H) (offs L H) := fun a o e => by
  have n := offs_some e
  rw [offs_ne n] at e
  rw [offs_ne fun z => n (List.mem_cons_of_mem _ z)]
  exact e
theorem offs_put {L : List Addr} {r : Addr} {H : Hp} {o : HO} (hr : r ∈ L) : Same (offs L H) (offs L (upd H r o)) := fun a u e => by
  have n := offs_some e
  rw [offs_ne n] at e ⊢
  have n2 : a ≠ r := fun z => n (by rw [z]; exact hr)
  rw [upd_ne n2]
  exact e
theorem offs_add {L : List Addr} {r : Addr} {H : Hp} {o : HO} (h : H r = Option.none) : Same (offs L H) (offs (r :: L) (upd H r o)) := fun a u e => by
  have n := offs_some e
  rw [offs_ne n] at e
  have n2 : a ≠ r := ne_of_none e h
  rw [offs_ne (fun z => by
    rcases List.mem_cons.mp z with z | z
    · exact n2 z
    · exact n z), upd_ne n2]
  exact e
/-- what stands at L is there -/
def Live (L : List Addr) (H : Hp) : Prop := ∀ a ∈ L, H a ≠ Option.none
theorem Live.same {L : List Addr} {H H' : Hp} (h : Live L H) (k : Same H H') : Live L H' := fun a ha e => by
  cases z : H a with
  | none => exact h a ha z
  | some o =>
    rw [k _ _ z] at e
    cases e
theorem Live.but {L : List Addr} {H H' : Hp} {b c : Addr} (h : Live L H) (B : Bag H' b c) (k : But b H H') : Live L H' := fun a ha e => by
  by_cases hb : a = b
  · subst hb
    obtain ⟨⟨_, _, _, _, h1, _⟩, _⟩ := B
    rw [h1] at e
    cases e
  · cases z : H a with
    | none => exact h a ha z
    | some o =>
      rw [k _ _ hb z] at e
      cases e
theorem Live.new {L : List Addr} {H : Hp} {a : Addr} (h : Live L H) (n : H a = Option.none) : a ∉ L := fun z => h a z n
theorem Live.add {L : List Addr} {H : Hp} {r : Addr} {o : HO} (h : Live L H) (e : H r = some o) : Live (r :: L) H := fun a ha => by
  rcases List.mem_cons.mp ha with rfl | ha
  · rw [e]
    exact fun z => by cases z
  · exact h a ha
structure LiveX (L : List Addr) (H : Hp) : Prop where
  liv : Live L H
  sys : Sys H
theorem LiveX.same {L : List Addr} {H H' : Hp} (h : LiveX L H) (k : Same H H') : LiveX L H' := ⟨h.liv.same k, by
  obtain ⟨_, φ, e⟩ := h
  exact ⟨φ, k _ _ e⟩⟩
theorem LiveX.new {L : List Addr} {H : Hp} {a : Addr} (h : LiveX L H) (n : H a = Option.none) : a ∉ L := h.liv.new n
theorem LiveX.nsys {L : List Addr} {H : Hp} {a : Addr} (h : LiveX L H) (n : H a = Option.none) : a ≠ sysModules := fun z => by
  obtain ⟨_, φ, h4⟩ := h
  rw [z, h4] at n
  cases n
/-- what a reading evaluates to: a datum, apart from L -/
def EvQ (K : PySem.W.Frag) (L : List Addr) (te : TE) (σ : L2.St) (d : PyData) : Prop := ∀ H, LiveX L H → ∀ Q : VK, (∀ v H1, Same H H1 → Dq K (offs L H1) v d → Q v H1) → te σ H Q
def EvQA (K : PySem.W.Frag) (L : List Addr) (ta : TA) (σ : L2.St) (ds : List PyData) : Prop := ∀ H, LiveX L H → ∀ Q : List V → Hp → Prop, (∀ vs H1, Same H H1 → DqAll K (offs L H1) vs ds → Q vs H1) → ta σ H Q
section
variable {L : List Addr} {σ : L2.St} {d : PyData} {ds : List PyData} {te : TE} {ta : TA}
theorem eq_c {v : V} (h : ∀ H, Dq K H v d) : EvQ K L (tC v) σ d := fun H _ Q q => q v H (Evl.Ex.refl H) (h _)
theorem eq_neg {i : Int} : EvQ K L (tUn (rU fun i => V.int (-i)) (tC (V.int i))) σ (.int (-i)) := fun H _ Q q => ⟨i, rfl, q _ H (Evl.Ex.refl H) (.int _)⟩
theorem eqa_nil : EvQA K L tNil σ [] := fun H _ Q q => q [] H (Evl.Ex.refl H) .nil
theorem eqa_cons (h : EvQ K L te σ d) (h2 : EvQA K L ta σ ds) : EvQA K L (tCons te ta) σ (d :: ds) := fun H B Q q =>
  h H B _ fun v H1 s1 hv => h2 H1 (B.same s1) _ fun vs H2 s2 hvs => q (v :: vs) H2 (s1.trans s2) (.cons (dq_same (offs_same s2) hv) hvs)
theorem eq_tup (h : EvQA K L ta σ ds) (hl : ds.length ≤ 100) : EvQ K L (tTup ta) σ (.tuple ds) := fun H B Q q =>
  h H B _ fun vs H1 s1 hvs => ⟨by rw [dqAll_len hvs, sizeLine_eq]; omega, fun p np => q (.ref p) _ (s1.trans (same_upd np)) (.tup (offs_new ((B.same s1).new np)) (dqAll_same (offs_same (same_upd np)) hvs))⟩
theorem eq_lst (h : EvQA K L ta σ ds) (hl : ds.length ≤ 100) : EvQ K L (tLst ta) σ (.list ds) := fun H B Q q =>
  h H B _ fun vs H1 s1 hvs => ⟨by rw [dqAll_len hvs, sizeLine_eq]; omega, fun p np => q (.ref p) _ (s1.trans (same_upd np)) (.lst (offs_new ((B.same s1).new np)) ((B.same s1).nsys np) (dqAll_same (offs_same (same_upd np)) hvs))⟩
theorem eq_d0 : EvQ K L tDNewK σ (.dict []) := fun H B Q q p np => q (.ref p) _ (same_upd np) (Dq.dct (kvs := []) (ds := []) (offs_new (B.new np)) .nil)
end
def OddD (d : PyData) : Prop := plainQ d = true ∧ d.depth ≤ 3 ∧ wq d ≤ 100
def oddA : List PyData := [.none, .bool true, .bool false, .int 0, .int 1, .int (-1), .int 6, .int 7, .int (10 ^ 39), .str (Str.ofString ""), .str (Str.ofString "0"), .tuple [], .list [], .dict [], .tuple [.int 0], .list [.int 0], .tuple [.tuple []], .dict [(.int 0, .int 1)], .tuple [.tuple [.int 0, .int 1]]]
def oddB : List PyData := [.tuple [.int 0, .int 0], .tuple [.bool true], .tuple [.int 0, .int 0, .int 0], .tuple [.tuple [.int 0, .int 0], .tuple [.int 1, .int 0]], .str (Str.ofString "free")]
theorem odd_all : ∀ d ∈ oddA ++ oddB, OddD d := by
  have h : ((oddA ++ oddB).all fun d => plainQ d && (decide (d.depth ≤ 3) && decide (wq d ≤ 100))) = true := by decide +kernel
  intro d hd
  have z := List.all_eq_true.mp h d hd
  simp only [Bool.and_eq_true, decide_eq_true_eq] at z
  exact ⟨z.1, z.2.1, z.2.2⟩
/-- _law_odd(bag) -/
def spOdd (K : PySem.W.Frag) : Sp := fun vs H Q _ => ∃ (b c : Addr) (L : List Addr), vs = [.ref b] ∧ Bag H b c ∧ b ∈ L ∧ Live L H ∧
  ∀ (d : PyData) (v : V) (H' : Hp), OddD d → Bag H' b c → But b H H' → Dq K (offs L H') v d → Q v H'
theorem ok_odd (T : Txt K mg A) (G_law_some : FnOk P w K mg base CX0 2 A.a_law_some A.d_law_some ["_law_bag_here", "_law_things"] (spSome K)) : FnOk P w K mg base CX0 3 A.a_law_odd A.d_law_odd ["_law_bag_here"] (spOdd K) := by
  refine T._law_odd.F.ok sc__law_odd (fun vs H Q E h => ?_) (fun cdv A' outer s H vs Q E hr h => ?_)
  · obtain ⟨b, c, L, rfl, _⟩ := h
    rfl
  · obtain ⟨b, c, L, rfl, B, hb, hL, k⟩ := h
    refine ⟨_, (pss_cons (ps_set (i := 1) sc__law_odd.nd rfl (by first | exact Or.inl rfl | exact Or.inr rfl) (pe_lst (pa_cons pe_non (pa_cons pe_bl (pa_cons pe_bl (pa_cons pe_int (pa_cons pe_int (pa_cons (pe_un un_neg pe_int) (pa_cons pe_int (pa_cons pe_int (pa_cons (pe_op op_pow pe_int pe_int) (pa_cons pe_str (pa_cons pe_str (pa_cons (pe_tup pa_nil) (pa_cons (pe_lst pa_nil) (pa_cons pe_dnewK (pa_cons (pe_tup (pa_cons pe_int pa_nil)) (pa_cons (pe_lst (pa_cons pe_int pa_nil)) (pa_cons (pe_tup (pa_cons (pe_tup pa_nil) pa_nil)) (pa_cons (pe_disp (pps_cons pe_int pe_int pps_nil) rfl rfl (by decide) (by decide)) (pa_cons (pe_tup (pa_cons (pe_tup (pa_cons pe_int (pa_cons pe_int pa_nil))) pa_nil)) pa_nil)))))))))))))))))))))
      (pss_one (ps_ret (pe_call G_law_some (hr.mono (by first | decide | omega)) rfl T._law_some.g T._law_some.F.kp T._law_some.b .nil pass0 (pa_cons (pv 0) (pa_cons (pe_op op_cat (pv 1) (pe_lst (pa_cons (pe_tup (pa_cons pe_int (pa_cons pe_int pa_nil))) (pa_cons (pe_tup (pa_cons pe_bl pa_nil)) (pa_cons (pe_tup (pa_cons pe_int (pa_cons pe_int (pa_cons pe_int pa_nil)))) (pa_cons (pe_tup (pa_cons (pe_tup (pa_cons pe_int (pa_cons pe_int pa_nil))) (pa_cons (pe_tup (pa_cons pe_int (pa_cons pe_int pa_nil))) pa_nil))) (pa_cons pe_str pa_nil))))))) pa_nil)))))), ?_⟩
    have eA : EvQA K L (tCons (tC V.non) (tCons (tC (V.bl true)) (tCons (tC (V.bl false)) (tCons (tC (V.int 0)) (tCons (tC (V.int 1)) (tCons (tUn (rU fun i => V.int (-i)) (tC (V.int 1))) (tCons (tC (V.int 6)) (tCons (tC (V.int 7))
      (tCons (tOp (rI CPow fun i j => V.int (i ^ j.toNat)) (tC (V.int 10)) (tC (V.int 39))) (tCons (tC (V.str (Str.ofString ""))) (tCons (tC (V.str (Str.ofString "0"))) (tCons (tTup tNil) (tCons (tLst tNil) (tCons tDNewK (tCons (tTup (tCons (tC (V.int 0)) tNil))
      (tCons (tLst (tCons (tC (V.int 0)) tNil)) (tCons (tTup (tCons (tTup tNil) tNil)) (tCons (tDisp [(tC (V.int 0), tC (V.int 1))]) (tCons (tTup (tCons (tTup (tCons (tC (V.int 0)) (tCons (tC (V.int 1)) tNil))) tNil)) tNil))))))))))))))))))) [some (.ref b), none] oddA := by
      refine eqa_cons (eq_c fun _ => .non) (eqa_cons (eq_c fun _ => .bl _) (eqa_cons (eq_c fun _ => .bl _) (eqa_cons (eq_c fun _ => .int _) (eqa_cons (eq_c fun _ => .int _) (eqa_cons eq_neg (eqa_cons (eq_c fun _ => .int _) (eqa_cons (eq_c fun _ => .int _)
        (eqa_cons ?_ (eqa_cons (eq_c fun _ => .str _) (eqa_cons (eq_c fun _ => .str _) (eqa_cons (eq_tup eqa_nil (by decide)) (eqa_cons (eq_lst eqa_nil (by decide)) (eqa_cons eq_d0 (eqa_cons (eq_tup (eqa_cons (eq_c fun _ => .int _) eqa_nil) (by decide))
        (eqa_cons (eq_lst (eqa_cons (eq_c fun _ => .int _) eqa_nil) (by decide)) (eqa_cons (eq_tup (eqa_cons (eq_tup eqa_nil (by decide)) eqa_nil) (by decide)) (eqa_cons ?_ (eqa_cons (eq_tup (eqa_cons (eq_tup (eqa_cons (eq_c fun _ => .int _) (eqa_cons (eq_c fun _ => .int _) eqa_nil)) (by decide)) eqa_nil) (by decide)) eqa_nil))))))))))))))))))
      · exact fun H _ Q q => ⟨10, 39, rfl, rfl, ⟨by decide, by decide, by decide⟩, q _ H (Evl.Ex.refl H) (.int _)⟩
      · intro H B Q q p np
        refine ⟨upd_same, [(.inl 0, .int 1)], rfl, by decide, ?_⟩
        have e : mergeK ([] : List (Key × V)) [(.inl 0, .int 1)] = [(.inl 0, .int 1)] := rfl
        rw [e]
        refine q (.ref p) _ (fun a o ea => ?_) (Dq.dct (kvs := [(.inl 0, .int 1)]) (ds := [.int 1]) (offs_new (B.new np)) (.cons (.int _) .nil))
        rw [upd_ne (ne_of_none ea np), upd_ne (ne_of_none ea np)]
        exact ea
    have B0 : LiveX L H := ⟨hL, B.sys⟩
    refine to_qasg (to_lst ?_)
    show tCons _ _ [some (.ref b), none] H _
    refine eA H B0 _ fun as H1 s1 hA => ⟨by rw [dqAll_len hA, sizeLine_eq]; decide, fun e ne => ?_⟩
    refine to_nm (σ' := [some (.ref b), some (.ref e)]) rfl ?_
    have B1 := B0.same s1
    have s2 := same_upd (o := .lst as) ne
    have he : upd H1 e (.lst as) e = some (.lst as) := upd_same
    have hA2 := dqAll_same (offs_same s2) hA
    have B2 := B1.same s2
    have neb : e ≠ b := fun z => B1.new ne (z ▸ hb)
    have s12 := s1.trans s2
    generalize upd H1 e (.lst as) = H2 at s2 he hA2 B2 s12
    refine to_ret (to_call (to_cons ⟨_, rfl, to_cons ⟨_, rfl, to_lst ?_⟩⟩))
    have eB : EvQA K L (tCons (tTup (tCons (tC (V.int 0)) (tCons (tC (V.int 0)) tNil))) (tCons (tTup (tCons (tC (V.bl true)) tNil)) (tCons (tTup (tCons (tC (V.int 0)) (tCons (tC (V.int 0)) (tCons (tC (V.int 0)) tNil))))
        (tCons (tTup (tCons (tTup (tCons (tC (V.int 0)) (tCons (tC (V.int 0)) tNil))) (tCons (tTup (tCons (tC (V.int 1)) (tCons (tC (V.int 0)) tNil))) tNil))) (tCons (tC (V.str (Str.ofString "free"))) tNil)))))
        [some (.ref b), some (.ref e)] oddB :=
      eqa_cons (eq_tup (eqa_cons (eq_c fun _ => .int _) (eqa_cons (eq_c fun _ => .int _) eqa_nil)) (by decide)) (eqa_cons (eq_tup (eqa_cons (eq_c fun _ => .bl _) eqa_nil) (by decide)) (eqa_cons (eq_tup (eqa_cons (eq_c fun _ => .int _) (eqa_cons (eq_c fun _ => .int _) (eqa_cons (eq_c fun _ => .int _) eqa_nil))) (by decide))
        (eqa_cons (eq_tup (eqa_cons (eq_tup (eqa_cons (eq_c fun _ => .int _) (eqa_cons (eq_c fun _ => .int _) eqa_nil)) (by decide)) (eqa_cons (eq_tup (eqa_cons (eq_c fun _ => .int _) (eqa_cons (eq_c fun _ => .int _) eqa_nil)) (by decide)) eqa_nil)) (by decide)) (eqa_cons (eq_c fun _ => .str _) eqa_nil))))
    refine eB H2 B2 _ fun bs H3 s3 hB => ⟨by rw [dqAll_len hB, sizeLine_eq]; decide, fun f nf => ?_⟩
    have B3 := B2.same s3
    have s4 := same_upd (o := .lst bs) nf
    have lA : as.length = 19 := dqAll_len hA
    have lB : bs.length = 5 := dqAll_len hB
    refine ⟨e, f, as, bs, rfl, rfl, s4 _ _ (s3 _ _ he), upd_same, by rw [lA, lB, sizeLine_eq]; decide, fun l nl => ?_⟩
    have s5 := same_upd (o := .lst (as ++ bs)) nl
    have B4 := B3.same s4
    have B5 := B4.same s5
    have s35 := (s3.trans s4).trans s5
    have hAll : DqAll K (offs L (upd (upd H3 f (.lst bs)) l (.lst (as ++ bs)))) (as ++ bs) (oddA ++ oddB) := dqAll_app (dqAll_same (offs_same s35) hA2) (dqAll_same (offs_same (s4.trans s5)) hB)
    refine ⟨b, c, l, as ++ bs, rfl, B.same (s12.trans s35), upd_same, (fun z => B4.new nl (z ▸ hb)), by rw [List.length_append, lA, lB]; decide, by rw [List.length_append, lA, lB]; decide, fun v H' hv B' k' => ?_⟩
    obtain ⟨i, hi⟩ := List.getElem?_of_mem hv
    obtain ⟨d, hd, q⟩ := dqAll_vat hAll hi
    exact k d v H' (odd_all d (List.mem_of_getElem? hd)) B' ((But.of_same (s12.trans s35)).trans k') (dq_same (offs_but hb k') q)
end
end K12

namespace K12
open PySem PySem.Spec PyProof.Rows L2 On
section
variable {P : Program} {w : World} {K : PySem.W.Frag} {mg : Str → Option Value} {base : Heap} {A : Ads}
def BentD (d d' : PyData) : Prop := (plainQ d = true → plainQ d' = true) ∧ d'.depth ≤ d.depth + 4 ∧ wq d' ≤ 2 * wq d + 120
def mk (t : Bool) (xs : List PyData) : PyData := if t = true then .tuple xs else .list xs
theorem depthAll_mem {d : PyData} : ∀ {xs : List PyData}, d ∈ xs → d.depth ≤ PyData.depthAll xs
  | x :: xs, h => by
    rw [PyData.depthAll]
    rcases List.mem_cons.mp h with rfl | h
    · omega
    · have := depthAll_mem h
      omega
theorem mk_depth (t : Bool) (xs : List PyData) : (mk t xs).depth = PyData.depthAll xs + 1 := by
  cases t
  · show (PyData.list xs).depth = _
    rw [PyData.depth]
    try omega
  · show (PyData.tuple xs).depth = _
    rw [PyData.depth]
    try omega
theorem mk_wq (t : Bool) (xs : List PyData) : wq (mk t xs) = 4 + wqs xs := by
  cases t
  · show wq (PyData.list xs) = _
    rw [wq]
  · show wq (PyData.tuple xs) = _
    rw [wq]
theorem mk_plain (t : Bool) (xs : List PyData) : plainQ (mk t xs) = plainQs xs := by
  cases t
  · show plainQ (PyData.list xs) = _
    rw [plainQ]
  · show plainQ (PyData.tuple xs) = _
    rw [plainQ]
theorem bent_seq {t t' : Bool} {xs ys : List PyData} (h1 : plainQs xs = true → ∀ y ∈ ys, plainQ y = true) (h2 : ∀ y ∈ ys, y.depth ≤ PyData.depthAll xs + 4) (h3 : wqs ys ≤ 2 * wqs xs + 120) : BentD (mk t xs) (mk t' ys) := by
  refine ⟨fun h => ?_, ?_, ?_⟩
  · rw [mk_plain] at h ⊢
    exact plainQs_iff.mpr (h1 h)
  · rw [mk_depth, mk_depth]
    have := depthAll_le h2
    omega
  · rw [mk_wq, mk_wq]
    omega
theorem wqs_set {y : PyData} : ∀ {xs : List PyData} {i : Nat} {x : PyData}, xs[i]? = some x → wqs (xs.set i y) + wq x = wqs xs + wq y
  | a :: xs, 0, x, h => by
    cases h
    rw [List.set_cons_zero, wqs, wqs]
    omega
  | a :: xs, i + 1, x, h => by
    have := wqs_set (y := y) (xs := xs) (i := i) h
    rw [List.set_cons_succ, wqs, wqs]
    omega
theorem wqs_erase : ∀ (xs : List PyData) (i : Nat), wqs (xs.eraseIdx i) ≤ wqs xs
  | [], i => by simp
  | a :: xs, 0 => by
    rw [List.eraseIdx_cons_zero, wqs]
    omega
  | a :: xs, i + 1 => by
    have := wqs_erase xs i
    rw [List.eraseIdx_cons_succ, wqs, wqs]
    omega
theorem wqs_ins (xs : List PyData) (i : Nat) (y : PyData) : wqs (xs.take i ++ [y] ++ xs.drop i) = wqs xs + wq y + 2 := by
  have e : wqs (xs.take i) + wqs (xs.drop i) = wqs xs := by rw [← wqs_app, List.take_append_drop]
  have e2 : wqs [y] = wq y + 2 := by simp [wqs]
  rw [wqs_app, wqs_app, e2]
  omega
theorem mem_ins {xs : List PyData} {i : Nat} {y z : PyData} (h : z ∈ xs.take i ++ [y] ++ xs.drop i) : z ∈ xs ∨ z = y := by
  rw [List.mem_append, List.mem_append, List.mem_singleton] at h
  rcases h with (h | h) | h
  · exact .inl (List.mem_of_mem_take h)
  · exact .inr h
  · exact .inl (List.mem_of_mem_drop h)
theorem bent_same {t t' : Bool} {xs : List PyData} : BentD (mk t xs) (mk t' xs) := bent_seq (fun h => plainQs_iff.mp h) (fun y hy => Nat.le_trans (depthAll_mem hy) (by omega)) (by omega)
theorem bent_pop {t t' : Bool} {xs : List PyData} {i : Nat} : BentD (mk t xs) (mk t' (xs.eraseIdx i)) := bent_seq (fun h y hy => plainQs_iff.mp h y (List.mem_of_mem_eraseIdx hy)) (fun y hy => Nat.le_trans (depthAll_mem (List.mem_of_mem_eraseIdx hy)) (by omega)) (by
  have := wqs_erase xs i
  omega)
theorem bent_twice {t t' : Bool} {xs : List PyData} {i : Nat} {y : PyData} (hy : y ∈ xs) : BentD (mk t xs) (mk t' (xs.take i ++ [y] ++ xs.drop i)) := by
  have hm : ∀ z, z ∈ xs.take i ++ [y] ++ xs.drop i → z ∈ xs := fun z hz => by
    rcases mem_ins hz with h | rfl
    · exact h
    · exact hy
  refine bent_seq (fun h z hz => plainQs_iff.mp h z (hm z hz)) (fun z hz => Nat.le_trans (depthAll_mem (hm z hz)) (by omega)) ?_
  rw [wqs_ins]
  have := wqs_mem hy
  omega
theorem bent_odd {t t' : Bool} {xs : List PyData} {i : Nat} {y : PyData} (hy : OddD y) : BentD (mk t xs) (mk t' (xs.take i ++ [y] ++ xs.drop i)) := by
  refine bent_seq (fun h z hz => ?_) (fun z hz => ?_) ?_
  · rcases mem_ins hz with h' | rfl
    · exact plainQs_iff.mp h z h'
    · exact hy.1
  · rcases mem_ins hz with h' | rfl
    · exact Nat.le_trans (depthAll_mem h') (by omega)
    · have := hy.2.1
      omega
  · rw [wqs_ins]
    have := hy.2.2
    omega
theorem bent_at {t t' : Bool} {xs : List PyData} {i : Nat} {x x' : PyData} (hx : xs[i]? = some x) (h : BentD x x') : BentD (mk t xs) (mk t' (xs.set i x')) := by
  have hm := List.mem_of_getElem? hx
  refine bent_seq (fun hp z hz => ?_) (fun z hz => ?_) ?_
  · rcases List.mem_or_eq_of_mem_set hz with h' | rfl
    · exact plainQs_iff.mp hp z h'
    · exact h.1 (plainQs_iff.mp hp _ hm)
  · rcases List.mem_or_eq_of_mem_set hz with h' | rfl
    · exact Nat.le_trans (depthAll_mem h') (by omega)
    · have := h.2.1
      have := depthAll_mem hm
      omega
  · have := wqs_set (y := x') hx
    have := wqs_mem hm
    have := h.2.2
    omega
theorem bent_swap {t t' : Bool} {xs : List PyData} {i j : Nat} {x y : PyData} (hx : xs[i]? = some x) (hy : xs[j]? = some y) : BentD (mk t xs) (mk t' ((xs.set i y).set j x)) := by
  have hm : ∀ z, z ∈ (xs.set i y).set j x → z ∈ xs := fun z hz => by
    rcases List.mem_or_eq_of_mem_set hz with h' | rfl
    · rcases List.mem_or_eq_of_mem_set h' with h' | rfl
      · exact h'
      · exact List.mem_of_getElem? hy
    · exact List.mem_of_getElem? hx
  refine bent_seq (fun hp z hz => plainQs_iff.mp hp z (hm z hz)) (fun z hz => Nat.le_trans (depthAll_mem (hm z hz)) (by omega)) ?_
  have h1 := wqs_set (y := y) hx
  have hj : (xs.set i y)[j]? = some y := by
    by_cases e : i = j
    · subst e
      have := (List.getElem?_eq_some_iff.mp hx).1
      simp [this]
    · rw [List.getElem?_set_ne e]
      exact hy
  have h2 := wqs_set (y := x) hj
  omega
theorem bent_oddT {d o : PyData} (h : OddD o) : BentD d o := ⟨fun _ => h.1, by have := h.2.1; omega, by have := h.2.2; omega⟩
theorem bent_int {i j : Int} (h : inR (-9) 9 (.int i) = true) (hj : -5 ≤ j ∧ j ≤ 5) : BentD (.int i) (.int (i + j)) := by
  have hi : (decide ((-9 : Int) ≤ i) && decide (i ≤ 9)) = true := h
  simp only [Bool.and_eq_true, decide_eq_true_eq] at hi
  refine ⟨fun _ => ?_, ?_, ?_⟩
  · rw [plainQ]
    refine decide_eq_true ?_
    have : (i + j).natAbs < 100 := by omega
    exact Nat.lt_trans this (by decide)
  · rw [PyData.depth, PyData.depth]
    omega
  · have : (i + j).natAbs < 1000000 := by omega
    rw [wq, if_pos this]
    omega
def isSeq : PyData → Bool
  | .tuple _ => true
  | .list _ => true
  | _ => false
def isList : PyData → Bool
  | .list _ => true
  | _ => false
theorem isK_list (d : PyData) : isK d "list" = isList d := by
  cases d <;> simp only [isK, On.kindOf, isList] <;> decide +kernel
theorem isTuple_mk (t : Bool) (xs : List PyData) : isTuple (mk t xs) = t := by cases t <;> rfl
theorem dq_mkS {K : PySem.W.Frag} {H : Hp} {v : V} {t : Bool} {ds : List PyData} (h : Dq K H v (mk t ds)) : ∃ a xs, v = .ref a ∧ DqAll K H xs ds ∧ (H a = some (.tup xs) ∨ H a = some (.lst xs)) := by
  cases t with
  | true =>
    obtain ⟨a, xs, e, h1, h2⟩ := dq_tup h
    exact ⟨a, xs, e, h2, .inl h1⟩
  | false =>
    obtain ⟨a, xs, e, h1, _, h2⟩ := dq_lst h
    exact ⟨a, xs, e, h2, .inr h1⟩
theorem sq_or {K : PySem.W.Frag} {H : Hp} {a : Addr} {xs : List V} (h : H a = some (.tup xs) ∨ H a = some (.lst xs)) : SqL K H a xs ∨ SqT K H a xs := by
  rcases h with h | h
  · exact .inr (SqT.of h)
  · exact .inl (SqL.of h)
theorem at_nat {α : Type} {xs : List α} {i : Int} {x : α} (h0 : 0 ≤ i) (h : xs[i.toNat]? = some x) : atI xs i = some x := by
  have hl := (List.getElem?_eq_some_iff.mp h).1
  unfold atI ixN
  rw [if_pos h0, if_pos (by omega)]
  exact h
theorem ixN_nat {n : Nat} {i : Int} (h0 : 0 ≤ i) (h : i < n) : ixN n i = some i.toNat := by
  unfold ixN
  rw [if_pos h0, if_pos h]
theorem but_upd {b r : Addr} {H H' : Hp} {o : HO} (k : But b H H') (h : H r = Option.none) : But b H (upd H' r o) := fun a u n e => by
  rw [upd_ne (ne_of_none e h)]
  exact k a u n e
/-- a row of our own, being changed -/
structure RowAt (K : PySem.W.Frag) (H0 H : Hp) (L : List Addr) (b c r : Addr) (zs : List V) (ds : List PyData) : Prop where
  bag : Bag H b c
  but : But b H0 H
  new : H0 r = Option.none
  nb : r ≠ b
  nc : r ≠ c
  inL : b ∈ L
  liv : Live L H
  at_ : H r = some (.lst zs)
  dat : DqAll K (offs (r :: L) H) zs ds
theorem RowAt.inR {K : PySem.W.Frag} {H0 H : Hp} {L : List Addr} {b c r : Addr} {zs : List V} {ds : List PyData} (R : RowAt K H0 H L b c r zs ds) : b ∈ r :: L := List.mem_cons_of_mem _ R.inL
theorem RowAt.go {K : PySem.W.Frag} {H0 H H' : Hp} {L : List Addr} {b c r : Addr} {zs : List V} {ds : List PyData} (R : RowAt K H0 H L b c r zs ds) (B : Bag H' b c) (k : But b H H') : RowAt K H0 H' L b c r zs ds :=
  ⟨B, R.but.trans k, R.new, R.nb, R.nc, R.inL, R.liv.but B k, k _ _ R.nb R.at_, dqAll_same (offs_but R.inR k) R.dat⟩
theorem RowAt.put {K : PySem.W.Frag} {H0 H : Hp} {L : List Addr} {b c r : Addr} {zs ws : List V} {ds es : List PyData} (R : RowAt K H0 H L b c r zs ds) (h : DqAll K (offs (r :: L) H) ws es) : RowAt K H0 (upd H r (.lst ws)) L b c r ws es :=
  ⟨R.bag.upd R.nb R.nc R.at_, but_upd R.but R.new, R.new, R.nb, R.nc, R.inL, fun a ha e => by
    by_cases z : a = r
    · rw [z, upd_same] at e
      cases e
    · rw [upd_ne z] at e
      exact R.liv a ha e, upd_same, dqAll_same (offs_put List.mem_cons_self) h⟩
theorem RowAt.lst {K : PySem.W.Frag} {H0 H : Hp} {L : List Addr} {b c r : Addr} {zs : List V} {ds : List PyData} (R : RowAt K H0 H L b c r zs ds) (n : r ∉ L) : Dq K (offs L H) (.ref r) (K12.mk false ds) :=
  .lst (by rw [offs_ne n]; exact R.at_) (fun z => by
    obtain ⟨_, φ, h4⟩ := R.bag
    rw [← z, R.at_] at h4
    cases h4) (dqAll_same offs_cons R.dat)
theorem RowAt.tup {K : PySem.W.Frag} {H0 H : Hp} {L : List Addr} {b c r l : Addr} {zs : List V} {ds : List PyData} (R : RowAt K H0 H L b c r zs ds) (nl : H l = Option.none) : Dq K (offs L (upd H l (.tup zs))) (.ref l) (K12.mk true ds) :=
  .tup (offs_new (R.liv.new nl)) (dqAll_same (offs_same (same_upd nl)) (dqAll_same offs_cons R.dat))
theorem kit_seq {K : PySem.W.Frag} (d : PyData) : PySem.W.kitAny K (.type (kindOf d)) [.type "tuple", .type "list"] = some (isSeq d) := by
  have k1 := kit_ty (K := K) (kit_any d (T := "tuple") (by simp))
  have k2 := kit_ty (K := K) (kit_any d (T := "list") (by simp))
  refine kitAny_cons k1 (r := isSeq d) (fun h => kitAny_cons k2 (r := isSeq d) (fun h2 => ?_) fun h2 => ?_) fun h => ?_
  · rw [kitAny_nil]
    rw [isK_tuple] at h
    rw [isK_list] at h2
    cases d with
    | tuple xs => cases h
    | list xs => cases h2
    | _ => rfl
  · rw [isK_list] at h2
    cases d with
    | list xs => rfl
    | _ => cases h2
  · rw [isK_tuple] at h
    cases d with
    | tuple xs => rfl
    | _ => cases h
theorem seq_mk {d : PyData} (h : isSeq d = true) : ∃ xs, d = mk (isTuple d) xs := by
  cases d with
  | tuple xs => exact ⟨xs, rfl⟩
  | list xs => exact ⟨xs, rfl⟩
  | _ => cases h
/-- _law_bent(bag, thing), the thing not deeper than n -/
def spBent (K : PySem.W.Frag) : Nat → Sp
  | 0 => fun _ _ _ _ => False
  | n + 1 => fun vs H Q _ => ∃ (b c : Addr) (L : List Addr) (v : V) (d : PyData), vs = [.ref b, v] ∧ Bag H b c ∧ b ∈ L ∧ Live L H ∧ Dq K (offs L H) v d ∧ d.depth < n + 1 ∧ wq d ≤ 60000 ∧
    ∀ (d' : PyData) (v' : V) (H' : Hp), BentD d d' → Bag H' b c → But b H H' → Dq K (offs L H') v' d' → Q v' H'
theorem ok_bent0 (T : Txt K mg A) : FnOk P w K mg base CX0 4 A.a_law_bent A.d_law_bent ["_law_bag_here", "_law_thing"] (spBent K 0) := by
  refine T._law_bent.F.ok sc__law_bent (fun vs H Q E h => ?_) (fun cdv A' outer s H vs Q E hr h => ?_)
  · exact h.elim
  · exact h.elim
theorem ok_bentS (T : Txt K mg A) (G_law_is_int : FnOk P w K mg base CX0 1 A.a_law_is_int A.d_law_is_int ["_law_thing", "_law_low", "_law_high"] (spB K 3 fInR)) (G_law_take : FnOk P w K mg base CX0 1 A.a_law_take A.d_law_take ["_law_bag_here", "_law_upto"] spTake) (G_law_some : FnOk P w K mg base CX0 2 A.a_law_some A.d_law_some ["_law_bag_here", "_law_things"] (spSome K)) (G_law_odd : FnOk P w K mg base CX0 3 A.a_law_odd A.d_law_odd ["_law_bag_here"] (spOdd K)) (n : Nat) (Gself : FnOk P w K mg base CX0 (4 + n) A.a_law_bent A.d_law_bent ["_law_bag_here", "_law_thing"] (spBent K n)) :
    FnOk P w K mg base CX0 (4 + (n + 1)) A.a_law_bent A.d_law_bent ["_law_bag_here", "_law_thing"] (spBent K (n + 1)) := by
  refine T._law_bent.F.ok sc__law_bent (fun vs H Q E h => ?_) (fun cdv A' outer s H vs Q E hr h => ?_)
  · obtain ⟨b, c, L, v, d, rfl, _⟩ := h
    rfl
  · obtain ⟨b, c, L, v, d, rfl, B, hb, hL, hv, hdp, hwq, k⟩ := h
    have hr : Room (4 + n) _ := hr
    have hrself := hr
    refine ⟨_, (Evl.pss_cut (ps_if (PW.pt (pw_and (pt_val (pe_call G_law_is_int (hr.mono (by first | decide | omega)) rfl T._law_is_int.g T._law_is_int.F.kp T._law_is_int.b .nil pass0 (pa_cons (pv 1) (pa_cons (pe_un un_neg pe_int) (pa_cons pe_int pa_nil))))) (pw_and1 (pt_cmpR op_eq (pe_call G_law_take (hr.mono (by first | decide | omega)) rfl T._law_take.g T._law_take.F.kp T._law_take.b .nil pass0 (pa_cons (pv 0) (pa_cons pe_int pa_nil))) pe_int (nomark _))))) (pss_one (ps_ret (pe_op op_add (pv 1) (pe_call G_law_some (hr.mono (by first | decide | omega)) rfl T._law_some.g T._law_some.F.kp T._law_some.b .nil pass0 (pa_cons (pv 0) (pa_cons (pe_lst (pa_cons pe_int (pa_cons (pe_un un_neg pe_int) (pa_cons pe_int pa_nil)))) pa_nil)))))) pss_nil)
      (Evl.pss_cut (ps_if (PW.pt (pw_or (pt_not (pt_val (pe_callB (kIsiT K) (by rfl) T.nb_isinstance (by decide +kernel) (pa_cons (pv 1) (pa_cons (pe_tup (pa_cons (pe_bltn (v := .ty "tuple") (u := .type "tuple") rfl (T.nb_tuple) (by decide +kernel) rfl) (pa_cons (pe_bltn (v := .ty "list") (u := .type "list") rfl (T.nb_list) (by decide +kernel) rfl) pa_nil))) pa_nil))))) (pw_or (pt_cmpR op_eq (pe_callB (kLen K) (by rfl) T.nb_len PySem.boot_len (pa_cons (pv 1) pa_nil)) pe_int (nomark _)) (pw_or1 (pt_cmpR op_eq (pe_call G_law_take (hr.mono (by first | decide | omega)) rfl T._law_take.g T._law_take.F.kp T._law_take.b .nil pass0 (pa_cons (pv 0) (pa_cons pe_int pa_nil))) pe_int (nomark _)))))) (pss_one (ps_ret (pe_call G_law_odd (hr.mono (by first | decide | omega)) rfl T._law_odd.g T._law_odd.F.kp T._law_odd.b .nil pass0 (pa_cons (pv 0) pa_nil)))) pss_nil)
      (pss_cons (ps_asg (pe_tup (pa_cons (pe_call G_law_take (hr.mono (by first | decide | omega)) rfl T._law_take.g T._law_take.F.kp T._law_take.b .nil pass0 (pa_cons (pv 0) (pa_cons (pe_callB (kLen K) (by rfl) T.nb_len PySem.boot_len (pa_cons (pv 1) pa_nil)) pa_nil))) (pa_cons (pe_call G_law_take (hr.mono (by first | decide | omega)) rfl T._law_take.g T._law_take.F.kp T._law_take.b .nil pass0 (pa_cons (pv 0) (pa_cons (pe_callB (kLen K) (by rfl) T.nb_len PySem.boot_len (pa_cons (pv 1) pa_nil)) pa_nil))) (pa_cons (pe_callTy (kList K) (by rfl) T.nb_list (by decide +kernel) (pa_cons (pv 1) pa_nil)) (pa_cons (pe_call G_law_take (hr.mono (by first | decide | omega)) rfl T._law_take.g T._law_take.F.kp T._law_take.b .nil pass0 (pa_cons (pv 0) (pa_cons pe_int pa_nil))) pa_nil))))) (kPgT K (n := 4) (pgs_cons (pg_name (i := 2) sc__law_bent.nd rfl (by first | exact Or.inl rfl | exact Or.inr rfl)) (pgs_cons (pg_name (i := 3) sc__law_bent.nd rfl (by first | exact Or.inl rfl | exact Or.inr rfl)) (pgs_cons (pg_name (i := 4) sc__law_bent.nd rfl (by first | exact Or.inl rfl | exact Or.inr rfl)) (pgs_cons (pg_name (i := 5) sc__law_bent.nd rfl (by first | exact Or.inl rfl | exact Or.inr rfl)) pgs_nil))))))
      (Evl.pss_cut (ps_if (pt_cmpR op_eq (pv 5) pe_int (nomark _)) (pss_one (ps_ret (pe_ifExp (pt_val (pe_callB (kIsi K) (by rfl) T.nb_isinstance (by decide +kernel) (pa_cons (pv 1) (pa_cons (pe_bltn (v := .ty "tuple") (u := .type "tuple") rfl (T.nb_tuple) (by decide +kernel) rfl) pa_nil)))) (pv 4) (pe_callTy (kTuple K) (by rfl) T.nb_tuple (by decide +kernel) (pa_cons (pv 4) pa_nil))))) pss_nil)
      (Evl.pss_cut (ps_if (pt_cmpR op_eq (pv 5) pe_int (nomark _)) (pss_one (ps_expr (pe_bm PySem.F.plainAttrs_list PySem.F.slot_list_pop PySem.F.type_list_pop mt_popAt (pv 4) (pa_cons (pv 2) pa_nil)))) (pss_one (ps_if (pt_cmpR op_eq (pv 5) pe_int (nomark _)) (pss_one (ps_expr (pe_bm PySem.F.plainAttrs_list PySem.F.slot_list_insert PySem.F.type_list_insert mt_insert (pv 4) (pa_cons (pv 2) (pa_cons (pe_ix (kIxL K) (pv 4) (pv 3) (fun _ _ => rfl)) pa_nil))))) (pss_one (ps_if (pt_cmpR op_eq (pv 5) pe_int (nomark _)) (pss_one (ps_asg (pe_tup (pa_cons (pe_ix (kIxL K) (pv 4) (pv 3) (fun _ _ => rfl)) (pa_cons (pe_ix (kIxL K) (pv 4) (pv 2) (fun _ _ => rfl)) pa_nil))) (kPgT K (n := 2) (pgs_cons (pg_sub (pv 4) (pv 2) set_list) (pgs_cons (pg_sub (pv 4) (pv 3) set_list) pgs_nil))))) (pss_one (ps_if (pt_cmpR op_eq (pv 5) pe_int (nomark _)) (pss_one (ps_expr (pe_bm PySem.F.plainAttrs_list PySem.F.slot_list_insert PySem.F.type_list_insert mt_insert (pv 4) (pa_cons (pe_call G_law_take (hr.mono (by first | decide | omega)) rfl T._law_take.g T._law_take.F.kp T._law_take.b .nil pass0 (pa_cons (pv 0) (pa_cons (pe_op op_add (pe_callB (kLen K) (by rfl) T.nb_len PySem.boot_len (pa_cons (pv 4) pa_nil)) pe_int) pa_nil))) (pa_cons (pe_call G_law_odd (hr.mono (by first | decide | omega)) rfl T._law_odd.g T._law_odd.F.kp T._law_odd.b .nil pass0 (pa_cons (pv 0) pa_nil)) pa_nil))))) (pss_one (ps_asg (pe_call Gself hrself rfl T._law_bent.g T._law_bent.F.kp T._law_bent.b .nil pass0 (pa_cons (pv 0) (pa_cons (pe_ix (kIxL K) (pv 4) (pv 2) (fun _ _ => rfl)) pa_nil))) (pg_sub (pv 4) (pv 2) set_list))))))))))
      (pss_one (ps_ret (pe_ifExp (pt_val (pe_callB (kIsi K) (by rfl) T.nb_isinstance (by decide +kernel) (pa_cons (pv 1) (pa_cons (pe_bltn (v := .ty "tuple") (u := .type "tuple") rfl (T.nb_tuple) (by decide +kernel) rfl) pa_nil)))) (pe_callTy (kTuple K) (by rfl) T.nb_tuple (by decide +kernel) (pa_cons (pv 4) pa_nil)) (pv 4))))))))), ?_⟩
    have RO : ∀ (D : Ends) H1, D.rt = Q → Bag H1 b c → But b H H1 → tRet (tCall (spOdd K) [] E0 (tCons (tVar 0) tNil)) D [some (.ref b), some v, none, none, none, none] H1 := fun D H1 hD B1 k1 => by
      refine to_ret (to_call (to_cons ⟨_, rfl, b, c, L, rfl, B1, hb, hL.but B1 k1, fun o vo H2 ho B2 k2 q => ?_⟩))
      rw [hD]
      exact k o vo H2 (bent_oddT ho) B2 (k1.trans k2) q
    refine ⟨fun σ' H' => σ' = [some (.ref b), some v, none, none, none, none] ∧ Bag H' b c ∧ But b H H', ?_, ?_⟩
    · refine ⟨_, rfl, 9, rfl, [d, .int (-9), .int 9], inR (-9) 9 d, .cons (dq_same offs_sub hv) (.cons (.int _) (.cons (.int _) .nil)), rfl, rfl, fun H1 s1 => ⟨_, rfl, ?_⟩⟩
      refine ite2 (fun hi => ?_) (fun hi => ?_)
      · have B1 := B.same s1
        refine ⟨_, rfl, b, c, 2, rfl, B1, by decide, small_log (by decide) (by decide), fun u H2 u0 u1 B2 k2 => ⟨rfl, _, rfl, ?_⟩⟩
        have k02 : But b H H2 := (But.of_same s1).trans k2
        refine ite2 (fun _ => ?_) (fun _ => ⟨rfl, B2, k02⟩)
        obtain ⟨i, rfl⟩ : ∃ i, d = .int i := by
          cases d with
          | int i => exact ⟨i, rfl⟩
          | _ => cases hi
        have ev := dq_int hv
        subst ev
        refine ⟨_, rfl, _, rfl, 1, rfl, (by decide), fun p np => ⟨b, c, p, _, rfl, B2.same (same_upd np), upd_same, B2.ne_new np, by decide, by decide, fun y H3 hy B3 k3 => ?_⟩⟩
        obtain ⟨j, rfl, hj⟩ : ∃ j : Int, y = .int j ∧ -5 ≤ j ∧ j ≤ 5 := by
          simp only [List.mem_cons, List.not_mem_nil, or_false] at hy
          rcases hy with h | h | h <;> exact ⟨_, h, by decide, by decide⟩
        refine ⟨_, _, rfl, rfl, k (.int (i + j)) _ H3 (bent_int hi hj) B3 (k02.trans ((But.of_same (same_upd np)).trans k3)) (.int _)⟩
      · exact ⟨rfl, B.same s1, But.of_same s1⟩
    rintro σ' H1 ⟨rfl, B1, k1⟩
    have hv1 := dq_same (offs_but hb k1) hv
    refine ⟨fun σ' H' => σ' = [some (.ref b), some v, none, none, none, none] ∧ Bag H' b c ∧ But b H H' ∧ ∃ t xs, d = mk t xs ∧ xs ≠ [], ?_, ?_⟩
    · refine ⟨_, rfl, (by decide), fun p np => ⟨v, p, [.ty "tuple", .ty "list"], .type (kindOf d), [.type "tuple", .type "list"], isSeq d, rfl, upd_same, .cons (.ty _) (.cons (.ty _) .nil), tyx_of (dq_same (same_upd np) (dq_same offs_sub hv1)), kit_seq d, _, rfl, ?_⟩⟩
      have B2 := B1.same (same_upd (o := .tup [.ty "tuple", .ty "list"]) np)
      have k2 := k1.trans (But.of_same (same_upd (o := .tup [.ty "tuple", .ty "list"]) np))
      generalize upd H1 p (.tup [.ty "tuple", .ty "list"]) = H2 at B2 k2
      refine ite2 (fun hs => iteT (RO _ H2 rfl B2 k2)) (fun hs => ?_)
      obtain ⟨t, xs, rfl⟩ : ∃ t xs, d = mk t xs := by
        cases h : isSeq d with
        | true =>
          obtain ⟨xs, e⟩ := seq_mk h
          exact ⟨_, xs, e⟩
        | false =>
          rw [h] at hs
          exact absurd rfl hs
      obtain ⟨a, ys, rfl, hd, ha⟩ := dq_mkS (dq_same (offs_but hb k2) hv)
      have ha2 : H2 a = some (.tup ys) ∨ H2 a = some (.lst ys) := ha.imp (fun h => offs_sub _ _ h) fun h => offs_sub _ _ h
      have hl := dqAll_len hd
      refine ⟨_, rfl, a, ys, rfl, sq_or ha2, rfl, _, rfl, ?_⟩
      refine ite2 (fun _ => iteT (RO _ H2 rfl B2 k2)) (fun hz => ?_)
      refine ⟨_, rfl, b, c, 7, rfl, B2, by decide, small_log (by decide) (by decide), fun u H3 u0 u1 B3 k3 => ⟨rfl, _, rfl, ?_⟩⟩
      refine ite2 (fun _ => RO _ H3 rfl B3 (k2.trans k3)) (fun _ => ⟨rfl, B3, k2.trans k3, t, xs, rfl, ?_⟩)
      rintro rfl
      rw [List.length_nil] at hl
      rw [hl] at hz
      exact hz rfl
    clear RO hv1 k1 B1
    rintro σ' H1 ⟨rfl, B1, k1, t, xs, rfl, hne⟩
    obtain ⟨a, ys, rfl, hd, ha⟩ := dq_mkS (dq_same (offs_but hb k1) hv)
    have hl := dqAll_len hd
    have nab : a ≠ b := by
      rintro rfl
      rcases ha with h | h <;> exact offs_some h hb
    have ha1 : H1 a = some (.tup ys) ∨ H1 a = some (.lst ys) := ha.imp (fun h => offs_sub _ _ h) fun h => offs_sub _ _ h
    have haK : ∀ H', But b H1 H' → H' a = some (.tup ys) ∨ H' a = some (.lst ys) := fun H' k' => ha1.imp (fun h => k' _ _ nab h) fun h => k' _ _ nab h
    have hpos : 0 < ys.length := by
      rw [hl]
      exact List.length_pos_iff.mpr hne
    have hsz : ys.length ≤ 30000 := by
      have h1 := wqs_len xs
      rw [mk_wq] at hwq
      omega
    refine ⟨_, rfl, _, rfl, a, ys, rfl, sq_or ha1, b, c, _, rfl, B1, by omega, small_log (by omega) (by omega), fun u H2 u0 u1 B2 k2 => ?_⟩
    refine ⟨_, rfl, _, rfl, a, ys, rfl, sq_or (haK _ k2), b, c, _, rfl, B2, by omega, small_log (by omega) (by omega), fun x H3 x0 x1 B3 k3 => ?_⟩
    have k13 := k2.trans k3
    refine ⟨_, rfl, a, ys, rfl, sq_or (haK _ k13), fun r nr => ?_⟩
    have k03 := k1.trans k13
    have nrb : r ≠ b := B3.ne_new nr
    have r0 : H r = Option.none := by
      cases z : H r with
      | none => rfl
      | some o =>
        rw [k03 _ _ nrb z] at nr
        cases nr
    have L3 : Live L H3 := hL.but B3 k03
    have nrL : r ∉ L := L3.new nr
    have R3 : RowAt K H (upd H3 r (.lst ys)) L b c r ys xs := ⟨B3.same (same_upd nr), but_upd k03 r0, r0, nrb, B3.ne_cells nr, hb, L3.same (same_upd nr), upd_same, dqAll_same (offs_add nr) (dqAll_same (offs_but hb k13) hd)⟩
    refine ⟨_, rfl, b, c, 12, rfl, R3.bag, by decide, small_log (by decide) (by decide), fun way H5 way0 way1 B5 k5 => ?_⟩
    have R5 := R3.go B5 k5
    refine ⟨(by show 4 ≤ sizeLine; decide), fun q nq => ⟨q, _, rfl, SqT.of upd_same, rfl, ?_⟩⟩
    have R6 := R5.go (B5.same (same_upd (o := .tup [.int u, .int x, .ref r, .int way]) nq)) (But.of_same (same_upd nq))
    generalize upd H5 q (.tup [.int u, .int x, .ref r, .int way]) = H6 at R6
    -- what is returned of a row
    have isT : ∀ (σ' : L2.St) H', σ'[1]? = some (some (.ref a)) → But b H H' → Evl.Ev (tCB (rIsi K) (tCons (tVar 1) (tCons (tC (.ty "tuple")) tNil))) σ' H' (.bl t) := fun σ' H' e k' => by
      have z := ev_isi (T := "tuple") (by simp) (Evl.ev_var (σ := σ') (H := H') e) (dq_same offs_sub (dq_same (offs_but hb k') hv))
      rwa [isK_tuple, isTuple_mk] at z
    have RL : ∀ (σ' : L2.St) H' zs ds, σ'[4]? = some (some (.ref r)) → RowAt K H H' L b c r zs ds → (∀ t', BentD (mk t xs) (mk t' ds)) → tVar 4 σ' H' Q := fun σ' H' zs ds e R h => by
      exact ⟨_, e, k _ _ H' (h false) R.bag R.but (R.lst nrL)⟩
    have RT : ∀ (σ' : L2.St) H' zs ds, σ'[4]? = some (some (.ref r)) → RowAt K H H' L b c r zs ds → (∀ t', BentD (mk t xs) (mk t' ds)) → tCB (rTupOf K) (tCons (tVar 4) tNil) σ' H' Q := fun σ' H' zs ds e R h => by
      exact ⟨_, e, r, zs, rfl, .inl ⟨SqL.of R.at_, fun l nl => k _ _ _ (h true) (R.bag.same (same_upd nl)) (R.but.trans (But.of_same (same_upd nl))) (R.tup nl)⟩⟩
    refine ⟨_, _, rfl, _, _, rfl, _, _, rfl, _, _, rfl, rfl, ?_⟩
    refine ⟨fun σ' H' => σ' = [some (.ref b), some (.ref a), some (.int u), some (.int x), some (.ref r), some (.int way)] ∧ RowAt K H H' L b c r ys xs, ?_, ?_⟩
    · refine ⟨_, rfl, rfl, _, rfl, ite2 (fun _ => ?_) (fun _ => ⟨rfl, R6⟩)⟩
      refine isT _ H6 rfl R6.but H6 (Evl.Ex.refl _) _ fun H7 e7 => ⟨_, rfl, ?_⟩
      have R7 := R6.go (R6.bag.same e7) (But.of_same e7)
      exact ite2 (fun _ => RL _ H7 ys xs rfl R7 fun t' => bent_same) (fun _ => RT _ H7 ys xs rfl R7 fun t' => bent_same)
    clear R6 R5 R3
    rintro σ' H7 ⟨rfl, R7⟩
    have hu : ∃ y dy, ys[u.toNat]? = some y ∧ xs[u.toNat]? = some dy ∧ Dq K (offs (r :: L) H7) y dy := by
      have h1 : u.toNat < ys.length := by omega
      have e := List.getElem?_eq_getElem h1
      obtain ⟨dy, e2, q⟩ := dqAll_vat R7.dat e
      exact ⟨_, dy, e, e2, q⟩
    have hx : ∃ y dy, ys[x.toNat]? = some y ∧ xs[x.toNat]? = some dy ∧ Dq K (offs (r :: L) H7) y dy := by
      have h1 : x.toNat < ys.length := by omega
      have e := List.getElem?_eq_getElem h1
      obtain ⟨dy, e2, q⟩ := dqAll_vat R7.dat e
      exact ⟨_, dy, e, e2, q⟩
    obtain ⟨yu, du, hyu, hdu, qu⟩ := hu
    obtain ⟨yx, dx, hyx, hdx, qx⟩ := hx
    have u63 : u < 2 ^ 63 := by omega
    refine ⟨fun σ' H' => σ' = [some (.ref b), some (.ref a), some (.int u), some (.int x), some (.ref r), some (.int way)] ∧ ∃ zs ds, RowAt K H H' L b c r zs ds ∧ ∀ t', BentD (mk t xs) (mk t' ds), ?_, ?_⟩
    · -- pop
      refine ⟨_, rfl, rfl, _, rfl, ite2 (fun _ => ?_) (fun _ => ?_)⟩
      · refine ⟨_, rfl, .inl ⟨rfl, _, SqL.of R7.at_⟩, _, rfl, r, ys, u, u.toNat, yu, rfl, rfl, R7.at_, by omega, by omega, (ixN_seq (ixN_nat u0 u1)).1, hyu, rfl, _, _, R7.put (dqAll_erase _ R7.dat), fun t' => bent_pop⟩
      -- insert one twice
      refine ⟨_, rfl, rfl, _, rfl, ite2 (fun _ => ?_) (fun _ => ?_)⟩
      · refine ⟨_, rfl, .inl ⟨rfl, _, SqL.of R7.at_⟩, _, rfl, _, rfl, _, rfl, r, ys, x, yx, rfl, rfl, SqL.of R7.at_, at_nat x0 hyx, r, ys, u, yx, rfl, rfl, R7.at_, by rw [sizeLine_eq]; omega, u0, u63, rfl, _, _,
          R7.put (dqAll_app (dqAll_app (dqAll_take _ R7.dat) (.cons qx .nil)) (dqAll_drop _ R7.dat)), fun t' => bent_twice (List.mem_of_getElem? hdx)⟩
      -- exchange
      refine ⟨_, rfl, rfl, _, rfl, ite2 (fun _ => ?_) (fun _ => ?_)⟩
      · refine ⟨_, rfl, _, rfl, r, ys, x, yx, rfl, rfl, SqL.of R7.at_, at_nat x0 hyx, _, rfl, _, rfl, r, ys, u, yu, rfl, rfl, SqL.of R7.at_, at_nat u0 hyu, (by show 2 ≤ sizeLine; decide), fun q nq => ⟨q, _, rfl, SqT.of upd_same, rfl, _, _, rfl, ?_⟩⟩
        have s8 := same_upd (H := H7) (o := .tup [yx, yu]) nq
        have R8 := R7.go (R7.bag.same s8) (But.of_same s8)
        have R9 := R8.put (dqAll_set u.toNat R8.dat (dq_same (offs_same s8) qx))
        have hlen : (ys.set u.toNat yx).length = ys.length := List.length_set
        refine ⟨_, rfl, _, rfl, r, ys, u, u.toNat, rfl, rfl, R8.at_, ixN_nat u0 u1, _, _, rfl, _, rfl, _, rfl, r, _, x, x.toNat, rfl, rfl, R9.at_, ixN_nat x0 (by rw [hlen]; exact x1), rfl, rfl, _, _,
          R9.put (dqAll_set x.toNat R9.dat (dq_same (offs_put List.mem_cons_self) (dq_same (offs_same s8) qu))), fun t' => bent_swap hdu hdx⟩
      -- insert any
      refine ⟨_, rfl, rfl, _, rfl, ite2 (fun _ => ?_) (fun _ => ?_)⟩
      · refine ⟨_, rfl, .inl ⟨rfl, _, SqL.of R7.at_⟩, _, rfl, _, rfl, r, ys, rfl, .inl (SqL.of R7.at_), _, _, rfl, rfl, b, c, _, rfl, R7.bag, by omega, small_log (by omega) (by omega), fun z H8 z0 z1 B8 k8 => ?_⟩
        have R8 := R7.go B8 k8
        refine ⟨_, rfl, b, c, r :: L, rfl, B8, R8.inR, R8.liv.add R8.at_, fun o vo H9 ho B9 k9 q9 => ?_⟩
        have R9 := R8.go B9 k9
        exact ⟨r, ys, z, vo, rfl, rfl, R9.at_, by rw [sizeLine_eq]; omega, z0, by omega, rfl, _, _, R9.put (dqAll_app (dqAll_app (dqAll_take _ R9.dat) (.cons q9 .nil)) (dqAll_drop _ R9.dat)), fun t' => bent_odd ho⟩
      -- one of them bent
      have hdm := List.mem_of_getElem? hdu
      have hd1 := depthAll_mem hdm
      have hw1 := wqs_mem hdm
      rw [mk_depth] at hdp
      rw [mk_wq] at hwq
      match n, hdp with
      | n + 1, hdp =>
        refine ⟨_, rfl, _, rfl, _, rfl, r, ys, u, yu, rfl, rfl, SqL.of R7.at_, at_nat u0 hyu, b, c, r :: L, yu, du, rfl, R7.bag, R7.inR, R7.liv.add R7.at_, qu, by omega, by omega, fun d' v' H8 hb' B8 k8 q8 => ?_⟩
        have R8 := R7.go B8 k8
        exact ⟨_, rfl, _, rfl, r, ys, u, u.toNat, rfl, rfl, R8.at_, ixN_nat u0 u1, rfl, _, _, R8.put (dqAll_set u.toNat R8.dat q8), fun t' => bent_at hdu hb'⟩
    · rintro σ' H8 ⟨rfl, zs, ds, R8, hb⟩
      refine to_ret (isT _ H8 rfl R8.but H8 (Evl.Ex.refl _) _ fun H9 e9 => ⟨_, rfl, ?_⟩)
      have R9 := R8.go (R8.bag.same e9) (But.of_same e9)
      exact ite2 (fun _ => RT _ H9 zs ds rfl R9 hb) (fun _ => RL _ H9 zs ds rfl R9 hb)
theorem ok_bent (T : Txt K mg A) (G_law_is_int : FnOk P w K mg base CX0 1 A.a_law_is_int A.d_law_is_int ["_law_thing", "_law_low", "_law_high"] (spB K 3 fInR)) (G_law_take : FnOk P w K mg base CX0 1 A.a_law_take A.d_law_take ["_law_bag_here", "_law_upto"] spTake) (G_law_some : FnOk P w K mg base CX0 2 A.a_law_some A.d_law_some ["_law_bag_here", "_law_things"] (spSome K)) (G_law_odd : FnOk P w K mg base CX0 3 A.a_law_odd A.d_law_odd ["_law_bag_here"] (spOdd K)) :
    ∀ n, FnOk P w K mg base CX0 (4 + n) A.a_law_bent A.d_law_bent ["_law_bag_here", "_law_thing"] (spBent K n)
  | 0 => ok_bent0 T
  | n + 1 => ok_bentS T G_law_is_int G_law_take G_law_some G_law_odd n (ok_bent T G_law_is_int G_law_take G_law_some G_law_odd n)
end
end K12

namespace K12
open PySem PySem.Spec PyProof.Rows L2 On
/-! ### data of the law -/
structure PlaceD (d : PyData) : Prop where
  ok : placeOk d = true
  tp : tup d = true
  pl : plainQ d = true
  dp : d.depth ≤ 5
  wd : wq d ≤ 1000
  two : ∃ x y, d = .tuple [x, y]
theorem wq_small {i : Int} (h : i.natAbs < 1000000) : wq (.int i) = 8 := by rw [wq, if_pos h]
theorem placeD_of {m : Nat} {ps : List (Int × Int)} (h : placeOk (placeD m ps) = true) (hl : ps.length ≤ 30) : PlaceD (placeD m ps) := by
  have h' : ((decide ((2 : Int) ≤ m) && decide ((m : Int) ≤ 6)) && ((ps.map prD).all (moveOk (m : Int)) && asc (ps.map prD))) = true := h
  simp only [Bool.and_eq_true, decide_eq_true_eq] at h'
  obtain ⟨⟨h1, h2⟩, h3, _⟩ := h'
  have hp : ∀ p ∈ ps, (0 ≤ p.1 ∧ p.1 < m) ∧ (0 ≤ p.2 ∧ p.2 < m) := fun p hp => by
    have z : ((decide (0 ≤ p.1) && decide (p.1 < (m : Int))) && ((decide (0 ≤ p.2) && decide (p.2 < (m : Int))) && !decide (p.1 = p.2))) = true := List.all_eq_true.mp h3 (prD p) (List.mem_map_of_mem hp)
    simp only [Bool.and_eq_true, decide_eq_true_eq] at z
    exact ⟨z.1, z.2.1⟩
  refine ⟨h, ?_, ?_, ?_, ?_, _, _, rfl⟩
  · have := pairD_tup ps
    simp [placeD, tup, tups, this]
  · have e : plainQs (ps.map prD) = true := plainQs_iff.mpr fun d hd => by
      obtain ⟨p, q, rfl⟩ := List.mem_map.mp hd
      obtain ⟨⟨a1, a2⟩, a3, a4⟩ := hp p q
      have e1 : p.1.natAbs < 10 ^ 50 := Nat.lt_trans (show p.1.natAbs < 10 by omega) (by decide)
      have e2 : p.2.natAbs < 10 ^ 50 := Nat.lt_trans (show p.2.natAbs < 10 by omega) (by decide)
      show plainQ (.tuple [.int p.1, .int p.2]) = true
      rw [plainQ, plainQs, plainQs, plainQs, plainQ, plainQ, decide_eq_true e1, decide_eq_true e2] <;> rfl
    have e0 : (m : Int).natAbs < 10 ^ 50 := Nat.lt_trans (show (m : Int).natAbs < 10 by omega) (by decide)
    show plainQ (.tuple [.int (m : Int), .tuple (ps.map prD)]) = true
    rw [plainQ, plainQs, plainQs, plainQs, plainQ, plainQ, e, decide_eq_true e0] <;> rfl
  · have e : PyData.depthAll (ps.map prD) ≤ 2 := depthAll_le fun d hd => by
      obtain ⟨p, q, rfl⟩ := List.mem_map.mp hd
      simp [On.pairD, PyData.depth, PyData.depthAll]
    show (PyData.tuple [.int (m : Int), .tuple (ps.map prD)]).depth ≤ 5
    simp only [PyData.depth, PyData.depthAll]
    omega
  · have e : wqs (ps.map prD) ≤ (ps.map prD).length * (24 + 2) := wqs_le fun d hd => by
      obtain ⟨p, q, rfl⟩ := List.mem_map.mp hd
      obtain ⟨⟨a1, a2⟩, a3, a4⟩ := hp p q
      show wq (.tuple [.int p.1, .int p.2]) ≤ 24
      rw [wq, wqs, wqs, wqs, wq_small (by omega), wq_small (by omega)]
      omega
    rw [List.length_map] at e
    show wq (.tuple [.int (m : Int), .tuple (ps.map prD)]) ≤ 1000
    rw [wq, wqs, wqs, wqs, wq_small (by omega), wq]
    omega
/-- tuple data lies apart from lists -/
theorem tup_offs {K : PySem.W.Frag} {H : Hp} {L : List Addr} {v : V} {d : PyData} (hL : ∀ a ∈ L, ∃ xs, H a = some (.lst xs)) (h : Dq K H v d) (ht : tup d = true) : Dq K (offs L H) v d :=
  dq_keep (fun a xs e => by
    rw [offs_ne fun z => ?_]
    · exact e
    · obtain ⟨ys, e2⟩ := hL a z
      rw [e2] at e
      cases e) h ht
/-- a part of a datum -/
structure PartD (d : PyData) : Prop where
  pl : plainQ d = true
  dp : d.depth ≤ 62
  wd : wq d ≤ 2000
theorem PlaceD.part {d : PyData} (h : PlaceD d) : PartD d := ⟨h.pl, by have := h.dp; omega, by have := h.wd; omega⟩
theorem show_mk {t : Bool} {ds : List PyData} (h : ∀ d ∈ ds, PartD d) (hl : ds.length ≤ 20) : Show (mk t ds) := by
  refine ⟨?_, ?_, ?_⟩
  · rw [mk_plain]
    exact plainQs_iff.mpr fun d hd => (h d hd).pl
  · rw [mk_depth]
    have := depthAll_le fun d hd => (h d hd).dp
    omega
  · rw [mk_wq]
    have e := wqs_le fun d hd => (h d hd).wd
    have : ds.length * (2000 + 2) ≤ 20 * (2000 + 2) := Nat.mul_le_mul_right _ hl
    omega
/-- data that can be bent twice -/
structure SmallD (d : PyData) : Prop where
  pl : plainQ d = true
  dp : d.depth ≤ 6
  wd : wq d ≤ 6000
theorem PlaceD.small {d : PyData} (h : PlaceD d) : SmallD d := ⟨h.pl, by have := h.dp; omega, by have := h.wd; omega⟩
theorem small_mk {t : Bool} {ds : List PyData} (h : ∀ d ∈ ds, PlaceD d) (hl : ds.length ≤ 5) : SmallD (mk t ds) := by
  refine ⟨?_, ?_, ?_⟩
  · rw [mk_plain]
    exact plainQs_iff.mpr fun d hd => (h d hd).pl
  · rw [mk_depth]
    have := depthAll_le fun d hd => (h d hd).dp
    omega
  · rw [mk_wq]
    have e := wqs_le fun d hd => (h d hd).wd
    have : ds.length * (1000 + 2) ≤ 5 * (1000 + 2) := Nat.mul_le_mul_right _ hl
    omega
theorem SmallD.shw {d : PyData} (h : SmallD d) : Show d := ⟨h.pl, by have := h.dp; omega, by have := h.wd; omega⟩
theorem OddD.shw {d : PyData} (h : OddD d) : Show d := ⟨h.1, by have := h.2.1; omega, by have := h.2.2; omega⟩
theorem bench_ok {ds : List PyData} (h : ∀ d ∈ ds, PlaceD d) (hn : ds ≠ []) : benchOk (.tuple ds) = true := by
  show (decide (0 < ds.length) && ds.all placeOk) = true
  rw [decide_eq_true (List.length_pos_iff.mpr hn), List.all_eq_true.mpr fun d hd => (h d hd).ok] <;> rfl
/-- () in one more, and one more .. -/
def deepD : Nat → PyData
  | 0 => .tuple []
  | n + 1 => .tuple [deepD n]
theorem deep_pl : ∀ n, plainQ (deepD n) = true
  | 0 => by rw [deepD, plainQ, plainQs]
  | n + 1 => by rw [deepD, plainQ, plainQs, plainQs, deep_pl n] <;> rfl
theorem deep_dp : ∀ n, (deepD n).depth = n + 1
  | 0 => by simp [deepD, PyData.depth, PyData.depthAll]
  | n + 1 => by
    have := deep_dp n
    simp only [deepD, PyData.depth, PyData.depthAll]
    omega
theorem deep_wq : ∀ n, wq (deepD n) = 6 * n + 4
  | 0 => by simp [deepD, wq, wqs]
  | n + 1 => by
    have := deep_wq n
    rw [deepD, wq, wqs, wqs]
    omega
theorem deep_part {n : Nat} (h : n ≤ 61) : PartD (deepD n) := ⟨deep_pl n, by rw [deep_dp]; omega, by rw [deep_wq]; omega⟩
/-! ### what the law holds -/
structure BA (K : PySem.W.Frag) (G : Hp) (lp tb : Addr) (vs : List V) (pds : List PyData) : Prop where
  lpAt : G lp = some (.lst vs)
  lpS : lp ≠ sysModules
  tbAt : G tb = some (.tup vs)
  dat : DqAll K G vs pds
  ne : pds ≠ []
  len : pds.length ≤ 5
  ok : ∀ d ∈ pds, PlaceD d
theorem BA.go {K : PySem.W.Frag} {G G' : Hp} {lp tb : Addr} {vs : List V} {pds : List PyData} (h : BA K G lp tb vs pds) (k : Same G G') : BA K G' lp tb vs pds :=
  ⟨k _ _ h.lpAt, h.lpS, k _ _ h.tbAt, dqAll_same k h.dat, h.ne, h.len, h.ok⟩
theorem BA.bench {K : PySem.W.Frag} {G : Hp} {lp tb : Addr} {vs : List V} {pds : List PyData} (h : BA K G lp tb vs pds) : Dq K G (.ref tb) (K12.mk true pds) := .tup h.tbAt h.dat
theorem BA.list {K : PySem.W.Frag} {G : Hp} {lp tb : Addr} {vs : List V} {pds : List PyData} (h : BA K G lp tb vs pds) : Dq K G (.ref lp) (K12.mk false pds) := .lst h.lpAt h.lpS h.dat
theorem BA.at {K : PySem.W.Frag} {G : Hp} {lp tb : Addr} {vs : List V} {pds : List PyData} (h : BA K G lp tb vs pds) {i : Nat} (hi : i < pds.length) : ∃ v d, vs[i]? = some v ∧ PlaceD d ∧ Dq K G v d := by
  obtain ⟨v, e, q⟩ := dqAll_at h.dat (List.getElem?_eq_getElem hi)
  exact ⟨v, _, e, h.ok _ (List.getElem_mem hi), q⟩
theorem BA.vlen {K : PySem.W.Frag} {G : Hp} {lp tb : Addr} {vs : List V} {pds : List PyData} (h : BA K G lp tb vs pds) : vs.length = pds.length := dqAll_len h.dat
structure Wd (K : PySem.W.Frag) (L : List Addr) (b c lp tb : Addr) (vs : List V) (pds : List PyData) (dv : V) (dd : PyData) (H : Hp) : Prop where
  bag : Bag H b c
  inL : b ∈ L
  liv : Live L H
  ba : BA K (offs L H) lp tb vs pds
  dp : Dq K (offs L H) dv dd
section
variable {K : PySem.W.Frag} {L : List Addr} {b c lp tb : Addr} {vs : List V} {pds : List PyData} {dv : V} {dd : PyData} {σ : L2.St} {te : TE} {ta : TA} {P : PyData → Prop}
theorem Wd.go {H H' : Hp} (h : Wd K L b c lp tb vs pds dv dd H) (B : Bag H' b c) (k : But b H H') : Wd K L b c lp tb vs pds dv dd H' :=
  ⟨B, h.inL, h.liv.but B k, h.ba.go (offs_but h.inL k), dq_same (offs_but h.inL k) h.dp⟩
theorem Wd.same {H H' : Hp} (h : Wd K L b c lp tb vs pds dv dd H) (k : Same H H') : Wd K L b c lp tb vs pds dv dd H' := h.go (h.bag.same k) (But.of_same k)
theorem Wd.lx {H : Hp} (h : Wd K L b c lp tb vs pds dv dd H) : LiveX L H := ⟨h.liv, h.bag.sys⟩
def EvW (K : PySem.W.Frag) (L : List Addr) (b c lp tb : Addr) (vs : List V) (pds : List PyData) (dv : V) (dd : PyData) (te : TE) (σ : L2.St) (P : PyData → Prop) : Prop :=
  ∀ H, Wd K L b c lp tb vs pds dv dd H → ∀ Q : VK, (∀ v d H1, P d → Wd K L b c lp tb vs pds dv dd H1 → But b H H1 → Dq K (offs L H1) v d → Q v H1) → te σ H Q
def EvWA (K : PySem.W.Frag) (L : List Addr) (b c lp tb : Addr) (vs : List V) (pds : List PyData) (dv : V) (dd : PyData) (P : PyData → Prop) (ta : TA) (σ : L2.St) (n : Nat) : Prop :=
  ∀ H, Wd K L b c lp tb vs pds dv dd H → ∀ Q : List V → Hp → Prop, (∀ xs ds H1, ds.length = n → (∀ d ∈ ds, P d) → Wd K L b c lp tb vs pds dv dd H1 → But b H H1 → DqAll K (offs L H1) xs ds → Q xs H1) → ta σ H Q
theorem EvW.imp {P' : PyData → Prop} (h : EvW K L b c lp tb vs pds dv dd te σ P) (i : ∀ d, P d → P' d) : EvW K L b c lp tb vs pds dv dd te σ P' := fun H W Q q => h H W Q fun v d H1 p => q v d H1 (i d p)
theorem ew_q {d : PyData} (h : EvQ K L te σ d) (p : P d) : EvW K L b c lp tb vs pds dv dd te σ P := fun H W Q q =>
  h H W.lx Q fun v H1 s1 hv => q v d H1 p (W.same s1) (But.of_same s1) hv
theorem ew_var {i : Nat} {v : V} {d : PyData} (e : σ[i]? = some (some v)) (h : ∀ H, Wd K L b c lp tb vs pds dv dd H → Dq K (offs L H) v d) (p : P d) : EvW K L b c lp tb vs pds dv dd (tVar i) σ P := fun H W Q q =>
  ⟨v, e, q v d H p W (But.refl _ _) (h H W)⟩
theorem ew_ix {i : Int} {j : Nat} {ti : TE} (e : σ[3]? = some (some (.ref lp))) (hi : ∀ H (Q : VK), Q (.int i) H → ti σ H Q) (hj : j < pds.length) (hx : ixN pds.length i = some j) (p : ∀ d, PlaceD d → P d) : EvW K L b c lp tb vs pds dv dd (tOp (rIxL K) (tVar 3) ti) σ P := fun H W Q q => by
  obtain ⟨v, d, e1, pd, qd⟩ := W.ba.at hj
  refine ⟨_, e, hi H _ ⟨lp, vs, i, v, rfl, rfl, SqL.of (offs_sub _ _ W.ba.lpAt), ?_, q v d H (p d pd) W (But.refl _ _) qd⟩⟩
  unfold atI
  rw [W.ba.vlen, hx]
  exact e1
theorem ew_odd (e : σ[1]? = some (some (.ref b))) (p : ∀ d, OddD d → P d) : EvW K L b c lp tb vs pds dv dd (tCall (spOdd K) [] E0 (tCons (tVar 1) tNil)) σ P := fun H W Q q =>
  ⟨_, e, b, c, L, rfl, W.bag, W.inL, W.liv, fun d v H' ho B' k' hv => q v d H' (p d ho) (W.go B' k') k' hv⟩
/-- bench + .. -/
theorem ew_cat (e : σ[4]? = some (some (.ref tb))) (h : EvW K L b c lp tb vs pds dv dd te σ fun d => ∃ ds, d = .tuple ds ∧ ds ≠ [] ∧ ds.length ≤ 5 ∧ ∀ x ∈ ds, PartD x) : EvW K L b c lp tb vs pds dv dd (tOp (rCatA K) (tVar 4) te) σ Show := fun H W Q q => by
  refine ⟨_, e, h H W _ fun v d H1 ⟨ds, hd, hn, hl, hp⟩ W1 k1 hv => ?_⟩
  subst hd
  obtain ⟨a, xs, rfl, ha, hxs⟩ := dq_tup hv
  have l1 := dqAll_len hxs
  have l2 := W1.ba.vlen
  have l3 := W1.ba.len
  refine ⟨tb, a, vs, xs, rfl, rfl, SqT.of (offs_sub _ _ W1.ba.tbAt), SqT.of (offs_sub _ _ ha), by rw [sizeLine_eq]; omega, fun z => ?_, fun _ z => ?_, fun _ _ p np => ?_⟩
  · rw [z] at l2
    exact absurd (List.length_eq_zero_iff.mp l2.symm) W1.ba.ne
  · rw [z] at l1
    exact absurd (List.length_eq_zero_iff.mp l1.symm) hn
  · have s1 := same_upd (o := .tup (vs ++ xs)) np
    refine q (.ref p) (mk true (pds ++ ds)) _ (show_mk (fun d hd => ?_) (by rw [List.length_append]; omega)) (W1.same s1) (k1.trans (But.of_same s1)) (.tup (offs_new (W1.liv.new np)) (dqAll_same (offs_same s1) (dqAll_app W1.ba.dat hxs)))
    rcases List.mem_append.mp hd with h | h
    · exact (W1.ba.ok d h).part
    · exact hp d h
theorem ewa_nil : EvWA K L b c lp tb vs pds dv dd P tNil σ 0 := fun H W Q q => q [] [] H rfl (fun _ h => nomatch h) W (But.refl _ _) .nil
theorem ewa_cons {n : Nat} (h : EvW K L b c lp tb vs pds dv dd te σ P) (h2 : EvWA K L b c lp tb vs pds dv dd P ta σ n) : EvWA K L b c lp tb vs pds dv dd P (tCons te ta) σ (n + 1) := fun H W Q q =>
  h H W _ fun v d H1 p W1 k1 hv => h2 H1 W1 _ fun xs ds H2 hn hp W2 k2 hx => q (v :: xs) (d :: ds) H2 (by rw [List.length_cons, hn]) (fun x hx => by
    rcases List.mem_cons.mp hx with rfl | h
    · exact p
    · exact hp x h) W2 (k1.trans k2) (.cons (dq_same (offs_but W.inL k2) hv) hx)
end
end K12

namespace K12
open PySem PySem.Spec PyProof.Rows L2 On
section
variable {P : Program} {w : World} {K : PySem.W.Frag} {mg : Str → Option Value} {base : Heap} {A : Ads}
/-! ### contents -/
def mOf : PyData → Int
  | .tuple [.int m, _] => m
  | _ => 0
def plOk : PyData → Bool
  | .tuple [.int _, .tuple ms] => ms.all isPair
  | _ => false
def contentOk (pds : List PyData) : PyData → Bool
  | .tuple vs => decide (vs.length = pds.length) && (List.range pds.length).all fun i => isBelow (mOf (pds.getD i .none)) (vs.getD i .none)
  | _ => false
def fContent : List PyData → Option Bool
  | [.tuple pds, d] => if pds.all plOk = true ∧ pds.length ≤ 100 ∧ wq d ≤ 60000 then some (contentOk pds d) else Option.none
  | _ => Option.none
/-- the places of a bench, by their data -/
theorem bench_at {H : Hp} {x : V} {d0 : PyData} {d : PyData} {r : Bool} (he : fContent [d0, d] = some r) (dx : Dq K H x d0) :
    ∃ (pds : List PyData) (a : Addr) (ps : List V), d0 = .tuple pds ∧ x = .ref a ∧ H a = some (.tup ps) ∧ DqAll K H ps pds ∧ pds.all plOk = true ∧ pds.length ≤ 100 ∧ wq d ≤ 60000 ∧ r = contentOk pds d := by
  cases d0 with
  | tuple pds =>
    have he' : (if pds.all plOk = true ∧ pds.length ≤ 100 ∧ wq d ≤ 60000 then some (contentOk pds d) else Option.none) = some r := he
    by_cases c : pds.all plOk = true ∧ pds.length ≤ 100 ∧ wq d ≤ 60000
    · rw [if_pos c] at he'
      obtain ⟨a, ps, rfl, h1, h2⟩ := dq_tup dx
      exact ⟨pds, a, ps, rfl, rfl, h1, h2, c.1, c.2.1, c.2.2, (Option.some.inj he').symm⟩
    · rw [if_neg c] at he'
      cases he'
  | _ => cases he
theorem place_m {H : Hp} {v : V} {p : PyData} (h : plOk p = true) (q : Dq K H v p) : ∃ (a mv : Addr) (ms : List V), v = .ref a ∧ H a = some (.tup [.int (mOf p), .ref mv]) ∧ H mv = some (.tup ms) := by
  unfold plOk at h
  split at h
  · rename_i m ms
    obtain ⟨a, xs, rfl, h1, h2⟩ := dq_tup q
    match h2 with
    | .cons (.int _) (.cons h3 .nil) =>
      obtain ⟨mv, ys, rfl, h4, _⟩ := dq_tup h3
      exact ⟨a, mv, ys, rfl, h1, h4⟩
  · cases h
theorem isTup_len {n : Int} {d : PyData} (h : isTup n d = true) : ∃ vs, d = .tuple vs ∧ (vs.length : Int) = n := by
  cases d with
  | tuple vs =>
    refine ⟨vs, rfl, ?_⟩
    have h' : decide ((vs.length : Int) = n) = true := h
    exact of_decide_eq_true h'
  | _ => cases h
theorem content_no {pds : List PyData} {d : PyData} (h : isTup (pds.length : Int) d = false) : contentOk pds d = false := by
  cases d with
  | tuple vs =>
    have h' : decide ((vs.length : Int) = (pds.length : Int)) = false := h
    have h2 : ¬ vs.length = pds.length := fun e => by
      rw [e, decide_eq_true rfl] at h'
      cases h'
    show (decide (vs.length = pds.length) && _) = false
    rw [decide_eq_false h2] <;> rfl
  | _ => rfl
theorem below_in (m : Int) (d : PyData) : inR 0 (m - 1) d = isBelow m d := by
  cases d with
  | int i =>
    show (decide ((0 : Int) ≤ i) && decide (i ≤ m - 1)) = (decide (0 ≤ i) && decide (i < m))
    congr 1
    rw [decide_eq_decide]
    omega
  | _ => rfl
theorem ok_law_content (T : Txt K mg A) (G_law_is_int : FnOk P w K mg base CX0 1 A.a_law_is_int A.d_law_is_int ["_law_thing", "_law_low", "_law_high"] (spB K 3 fInR)) : FnOk P w K mg base CX0 2 A.a_law_is_content A.d_law_is_content ["_law_bench_here", "_law_thing"] (spB K 2 fContent) := by
  refine T._law_is_content.F.ok sc__law_is_content (fun vs H Q E ⟨_, _, _, hl, _⟩ => hl) (fun cdv A' outer s H vs Q E hr h => ?_)
  obtain ⟨ds, r, hd, hl, he, k⟩ := h
  obtain ⟨x, d0, y, d, rfl, rfl, dx, dy⟩ := dq2 hd hl
  obtain ⟨pds, a, ps, rfl, rfl, h1, h2, hp, h100, hw, rfl⟩ := bench_at he dx
  have lp := dqAll_len h2
  refine ⟨_, (pss_cons (ps_if (PW.pt (pw_or (pt_not (pt_val (pe_callB (kIsi K) (by rfl) T.nb_isinstance (by decide +kernel) (pa_cons (pv 1) (pa_cons (pe_bltn (v := .ty "tuple") (u := .type "tuple") rfl (T.nb_tuple) (by decide +kernel) rfl) pa_nil))))) (pw_or1 (pt_cmpR op_ne (pe_callB (kLen K) (by rfl) T.nb_len PySem.boot_len (pa_cons (pv 1) pa_nil)) (pe_callB (kLen K) (by rfl) T.nb_len PySem.boot_len (pa_cons (pv 0) pa_nil)) (nomark _))))) (pss_one (ps_ret pe_bl)) pss_nil)
      (pss_one (ps_ret (pe_callB (kAll K rfl) (by rfl) T.nb_all (by decide +kernel) (pa_cons (pe_lc (own := [("_law_value", 2), ("_law_place_here", 3)]) rfl sc__law_is_content.nd (kZipA (K := K) rfl T.nb_zip (pa_cons (pv 1) (pa_cons (pv 0) pa_nil))) (blkOk_by (N := ["_law_bench_here", "_law_thing", "_law_value", "_law_place_here"]) (sc := defScope s_law_is_content) (by decide +kernel)) (fun _ _ _ _ _ => (kPgT K (n := 2) (pgs_cons (pg_name (i := 2) sc__law_is_content.nd rfl (by first | exact Or.inl rfl | exact Or.inr rfl)) (pgs_cons (pg_name (i := 3) sc__law_is_content.nd rfl (by first | exact Or.inl rfl | exact Or.inr rfl)) pgs_nil)))) (fun _ _ _ _ _ => pts_nil) (fun _ _ _ _ _ => (pe_call G_law_is_int (hr.mono (by first | decide | omega)) rfl T._law_is_int.g T._law_is_int.F.kp T._law_is_int.b .nil pass0 (pa_cons (pv 2) (pa_cons pe_int (pa_cons (pe_op op_sub (pe_ix (kIxT K) (pv 3) pe_int (fun _ _ => rfl)) pe_int) pa_nil)))))) pa_nil))))), ?_⟩
  have no : ∀ (D : Ends) H1, D.rt = Q → Same H H1 → isTup (pds.length : Int) d = false → tRet (tC (V.bl false)) D [some (.ref a), some y, none, none] H1 := fun D H1 hD s1 c => by
    have z := k H1 s1
    rw [content_no c] at z
    show D.rt (.bl false) H1
    rw [hD]
    exact z
  refine (ev_isi (T := "tuple") (by simp) (Evl.ev_var (i := 1) (v := y) rfl) dy) H (Evl.Ex.refl _) _ fun H1 s1 => ⟨_, rfl, ?_⟩
  rw [isK_tuple]
  refine ite2 (fun c => iteT (no _ H1 rfl s1 ?_)) (fun c => ?_)
  · have c' : isTuple d = false := by simpa using c
    cases d with
    | tuple _ => cases c'
    | _ => rfl
  obtain ⟨ds, rfl⟩ : ∃ ds, d = .tuple ds := by
    have c' : isTuple d = true := by simpa using c
    cases d with
    | tuple ds => exact ⟨ds, rfl⟩
    | _ => cases c'
  obtain ⟨ay, ys, rfl, g1, g2⟩ := dq_tup dy
  have ly := dqAll_len g2
  refine ⟨_, rfl, ay, ys, rfl, .inr (SqT.of (s1 _ _ g1)), _, rfl, a, ps, rfl, .inr (SqT.of (s1 _ _ h1)), rfl, _, rfl, ?_⟩
  refine ite2 (fun c => no _ H1 rfl s1 ?_) (fun c => ?_)
  · have c' : ¬ (V.int (ys.length : Int) = V.int (ps.length : Int)) := by simpa using c
    show decide ((ds.length : Int) = (pds.length : Int)) = false
    refine decide_eq_false fun e => c' ?_
    rw [ly, lp, e]
  · have c' : V.int (ys.length : Int) = V.int (ps.length : Int) := by simpa using c
    injection c' with c2
    have lxy : ys.length = ps.length := by omega
    refine to_ret (ev_allZ (K := K) (xs := ys) (ys := ps) (fun i => inR 0 (mOf (pds.getD i .none) - 1) (ds.getD i .none)) (fun H2 _ => Evl.ea_cons (Evl.ev_var rfl) (Evl.ea_cons (Evl.ev_var rfl) Evl.ea_nil)) (SqT.of (s1 _ _ g1)) (SqT.of (s1 _ _ h1)) lxy (by omega) (fun _ _ => rfl) (fun i x y H2 e2 hx hy => ?_) H1 (Evl.Ex.refl _) _ fun H2 e2 => ?_)
    · obtain ⟨p, hp', qp⟩ := dqAll_vat h2 hy
      obtain ⟨v, hv', qv⟩ := dqAll_vat g2 hx
      obtain ⟨pa, mv, ms, rfl, m1, m2⟩ := place_m (List.all_eq_true.mp hp p (List.mem_of_getElem? hp')) qp
      have e1 : pds.getD i .none = p := by rw [List.getD_eq_getElem?_getD, hp']; rfl
      have e3 : ds.getD i .none = v := by rw [List.getD_eq_getElem?_getD, hv']; rfl
      rw [e1, e3]
      have s12 : Same H H2 := s1.trans e2
      refine Evl.ev_call (Evl.ea_cons (Evl.ev_var rfl) (Evl.ea_cons Evl.ev_c (Evl.ea_cons (Evl.ev_op (Evl.ev_op (Evl.ev_var rfl) Evl.ev_c (Evl.rv_ixT (SqT.of (s12 _ _ m1)) (atI_nat (j := 0) rfl))) Evl.ev_c Evl.rv_I0) Evl.ea_nil))) (spv_B (.cons (dq_same s12 qv) (.cons (.int _) (.cons (.int _) .nil))) rfl rfl)
    · have z := k H2 (s1.trans e2)
      have e4 : contentOk pds (.tuple ds) = (List.range ys.length).all fun i => inR 0 (mOf (pds.getD i .none) - 1) (ds.getD i .none) := by
        show (decide (ds.length = pds.length) && (List.range pds.length).all fun i => isBelow (mOf (pds.getD i .none)) (ds.getD i .none)) = _
        rw [decide_eq_true (by omega), lxy, lp]
        simp only [below_in, Bool.true_and]
      rw [e4] at z
      exact z
end
end K12

namespace K12
open PySem PySem.Spec PyProof.Rows L2 On
section
variable {P : Program} {w : World} {K : PySem.W.Frag} {mg : Str → Option Value} {base : Heap} {A : Ads}
/-! ### steps -/
def iv : PyData → Int
  | .int i => i
  | _ => 0
def movesOf : PyData → List PyData
  | .tuple [_, .tuple ms] => ms
  | _ => []
def diffs (n : Nat) (vs ws : List PyData) : List Nat := (List.range n).filter fun k => !decide (iv (vs.getD k .none) = iv (ws.getD k .none))
def goes (pds vs ws : List PyData) : Bool := match diffs pds.length vs ws with
  | [k] => (movesOf (pds.getD k .none)).any fun z => PyData.eqv z (.tuple [.int (iv (vs.getD k .none)), .int (iv (ws.getD k .none))])
  | _ => false
def leadsOk (pds : List PyData) : PyData → PyData → Bool
  | .tuple vs, .tuple ws => goes pds vs ws
  | _, _ => false
def stepOk (pds : List PyData) : PyData → Bool
  | .tuple [one, other] => contentOk pds one && (contentOk pds other && leadsOk pds one other)
  | _ => false
def fStep : List PyData → Option Bool
  | [.tuple pds, d] => if pds.all plOk = true ∧ pds.length ≤ 100 ∧ wq d ≤ 60000 then some (stepOk pds d) else Option.none
  | _ => Option.none
def fLeads : List PyData → Option Bool
  | [.tuple pds, one, other] => if pds.all plOk = true ∧ pds.length ≤ 100 ∧ contentOk pds one = true ∧ contentOk pds other = true then some (leadsOk pds one other) else Option.none
  | _ => Option.none
theorem dqAll_pr {H : Hp} {xs : List V} {p q : PyData} (h : DqAll K H xs [p, q]) : ∃ x y, xs = [x, y] ∧ Dq K H x p ∧ Dq K H y q := by
  match h with
  | .cons a (.cons b .nil) => exact ⟨_, _, rfl, a, b⟩
theorem pairs_lay : ∀ {ms : List PyData}, ms.all isPair = true → PyData.canLayAll0 ms = true
  | [], _ => by simp [PyData.canLayAll0]
  | m :: ms, h => by
    rw [List.all_cons, Bool.and_eq_true] at h
    have ih := pairs_lay h.2
    have h1 := h.1
    unfold isPair at h1
    split at h1
    · simp [PyData.canLayAll0, PyData.canLay0, ih]
    · cases h1
/-- a content: ints alone -/
theorem content_ints {pds : List PyData} {d : PyData} (h : contentOk pds d = true) : ∃ vs, d = .tuple vs ∧ vs.length = pds.length ∧ ∀ i, i < vs.length → vs[i]? = some (.int (iv (vs.getD i .none))) := by
  cases d with
  | tuple vs =>
    have h' : (decide (vs.length = pds.length) && (List.range pds.length).all fun i => isBelow (mOf (pds.getD i .none)) (vs.getD i .none)) = true := h
    rw [Bool.and_eq_true, decide_eq_true_eq, List.all_eq_true] at h'
    refine ⟨vs, rfl, h'.1, fun i hi => ?_⟩
    have z := h'.2 i (List.mem_range.mpr (by omega))
    have e : vs.getD i .none = vs[i] := by rw [List.getD_eq_getElem?_getD, List.getElem?_eq_getElem hi]; rfl
    rw [List.getElem?_eq_getElem hi, e]
    rw [e] at z
    cases y : vs[i] with
    | int j => rfl
    | _ =>
      rw [y] at z
      cases z
  | _ => cases h
theorem int_at {H : Hp} {xs : List V} {vs : List PyData} (q : DqAll K H xs vs) (h : ∀ i, i < vs.length → vs[i]? = some (.int (iv (vs.getD i .none)))) {i : Nat} (hi : i < vs.length) : xs[i]? = some (.int (iv (vs.getD i .none))) := by
  obtain ⟨v, e, qv⟩ := dqAll_at q (h i hi)
  rw [e, dq_int qv]
/-- [k for k in range(len(bench)) if one[k] != other[k]] -/
theorem el_diffs {σ : L2.St} {H : Hp} {b o u k : Nat} {a ao au : Addr} {ps xs ys : List V} {vs ws : List PyData} (hb : σ[b]? = some (some (.ref a))) (ha : H a = some (.tup ps)) (hao : H ao = some (.tup xs)) (hau : H au = some (.tup ys))
    (qx : DqAll K H xs vs) (qy : DqAll K H ys ws) (ix : ∀ i, i < vs.length → vs[i]? = some (.int (iv (vs.getD i .none)))) (iy : ∀ i, i < ws.length → ws[i]? = some (.int (iv (ws.getD i .none)))) (l1 : vs.length = ps.length) (l2 : ws.length = ps.length) (l3 : ps.length ≤ 100)
    (hw : ∀ x, wipe ((wipe σ [k]).set k (some x)) [k] = wipe σ [k]) (ho : ∀ x, ((wipe σ [k]).set k (some x))[o]? = some (some (.ref ao))) (hu : ∀ x, ((wipe σ [k]).set k (some x))[u]? = some (some (.ref au))) (hk : ∀ x, ((wipe σ [k]).set k (some x))[k]? = some (some x)) :
    Evl.EvL (tLc (iRng1 (tCons (tCB (On.rLen K) (tCons (tVar b) tNil)) tNil)) (gName k) (tTest (tOp rNe (tOp (rIxT K) (tVar o) (tVar k)) (tOp (rIxT K) (tVar u) (tVar k)))) (tVar k) [k]) σ H ((diffs ps.length vs ws).map fun (i : Nat) => V.int (i : Int)) := by
  have e := Evl.el_lcR1 (σ := σ) (H := H) (n := (ps.length : Int)) (j := k) (vs := [k]) (t := tTest (tOp rNe (tOp (rIxT K) (tVar o) (tVar k)) (tOp (rIxT K) (tVar u) (tVar k)))) (te := tVar k) (fun i => !decide (iv (vs.getD i .none) = iv (ws.getD i .none))) (fun i => V.int (i : Int))
    (ta := tCons (tCB (On.rLen K) (tCons (tVar b) tNil)) tNil) (Evl.ea_cons (Evl.ev_cb (Evl.ea_cons (Evl.ev_var hb) Evl.ea_nil) (rc_lenT ha)) Evl.ea_nil) ⟨by omega, by omega⟩ hw (fun i H1 e1 hi => ?_) (fun i H1 e1 hi _ => Evl.ev_var (hk _))
  · have z : Evl.given (ps.length : Int).toNat (fun i => !decide (iv (vs.getD i .none) = iv (ws.getD i .none))) (fun i => V.int (i : Int)) = (diffs ps.length vs ws).map fun (i : Nat) => V.int (i : Int) := rfl
    rw [z] at e
    exact e
  · have h1 := int_at qx ix (i := i) (by omega)
    have h2 := int_at qy iy (i := i) (by omega)
    have z := Evl.et_test (Evl.ev_op (r := rNe) (Evl.ev_op (Evl.ev_var (ho (.int (i : Int)))) (Evl.ev_var (hk (.int (i : Int)))) (Evl.rv_ixT (K := K) (SqT.of (e1 _ _ hao)) (atI_nat h1))) (Evl.ev_op (Evl.ev_var (hu (.int (i : Int)))) (Evl.ev_var (hk (.int (i : Int)))) (Evl.rv_ixT (K := K) (SqT.of (e1 _ _ hau)) (atI_nat h2))) (Evl.rv_ne rfl))
    refine Evl.et_is z ?_
    congr 1
    rw [decide_eq_decide]
    constructor
    · intro q
      injection q
    · intro q
      rw [q]
/-- len(places) == 1 and (one[places[0]], other[places[0]]) in bench[places[0]][1] -/
theorem ev_goes {σ : L2.St} {H : Hp} {b o u c : Nat} {a ao au l : Addr} {ps xs ys : List V} {pds vs ws : List PyData} (hb : σ[b]? = some (some (.ref a))) (ho : σ[o]? = some (some (.ref ao))) (hu : σ[u]? = some (some (.ref au))) (hc : σ[c]? = some (some (.ref l))) (ha : H a = some (.tup ps)) (hao : H ao = some (.tup xs)) (hau : H au = some (.tup ys))
    (qp : DqAll K H ps pds) (hp : pds.all plOk = true) (qx : DqAll K H xs vs) (qy : DqAll K H ys ws) (ix : ∀ i, i < vs.length → vs[i]? = some (.int (iv (vs.getD i .none)))) (iy : ∀ i, i < ws.length → ws[i]? = some (.int (iv (ws.getD i .none)))) (l1 : vs.length = pds.length) (l2 : ws.length = pds.length)
    (hl : H l = some (.lst ((diffs pds.length vs ws).map fun (i : Nat) => V.int (i : Int)))) :
    Evl.Ev (tAndV (tOp rEq (tCB (On.rLen K) (tCons (tVar c) tNil)) (tC (V.int 1))) (tOp (rInQ K) (tTup (tCons (tOp (rIxT K) (tVar o) (tOp (rIxL K) (tVar c) (tC (V.int 0)))) (tCons (tOp (rIxT K) (tVar u) (tOp (rIxL K) (tVar c) (tC (V.int 0)))) tNil)))
      (tOp (rIxT K) (tOp (rIxT K) (tVar b) (tOp (rIxL K) (tVar c) (tC (V.int 0)))) (tC (V.int 1))))) σ H (.bl (goes pds vs ws)) := by
  have e1 := Evl.ev_op (r := rEq) (σ := σ) (H := H) (Evl.ev_cb (Evl.ea_cons (Evl.ev_var hc) Evl.ea_nil) (rc_lenL (K := K) hl)) (Evl.ev_c (v := V.int 1)) (Evl.rv_eq rfl)
  refine Evl.ev_is (Evl.ev_andV (b := goes pds vs ws) e1 fun h => ?_) ?_
  · have hlen : (diffs pds.length vs ws).length = 1 := by
      have z := of_decide_eq_true h
      injection z with z
      rw [List.length_map] at z
      omega
    obtain ⟨k0, hk0⟩ := List.length_eq_one_iff.mp hlen
    have hk : k0 < pds.length := by
      have z : k0 ∈ diffs pds.length vs ws := by rw [hk0]; exact List.mem_singleton.mpr rfl
      exact List.mem_range.mp (List.mem_filter.mp z).1
    rw [hk0] at hl
    have eK : ∀ H1, Evl.Ex H H1 → Evl.Ev (tOp (rIxL K) (tVar c) (tC (V.int 0))) σ H1 (.int (k0 : Int)) := fun H1 e => Evl.ev_op (Evl.ev_var hc) Evl.ev_c (Evl.rv_ixL (SqL.of (e _ _ hl)) (atI_nat (j := 0) rfl))
    obtain ⟨pv, hpv, qpv⟩ := dqAll_at qp (List.getElem?_eq_getElem hk)
    have hpk : plOk pds[k0] = true := List.all_eq_true.mp hp _ (List.getElem_mem hk)
    have eG : pds.getD k0 .none = pds[k0] := by rw [List.getD_eq_getElem?_getD, List.getElem?_eq_getElem hk]; rfl
    obtain ⟨m, ms, hpd⟩ : ∃ m ms, pds[k0] = .tuple [.int m, .tuple ms] := by
      unfold plOk at hpk
      split at hpk
      · rename_i m ms _
        exact ⟨m, ms, by assumption⟩
      · cases hpk
    have hms : ms.all isPair = true := by
      rw [hpd] at hpk
      exact hpk
    rw [hpd] at qpv
    obtain ⟨pa, pxs, rfl, p1, p2⟩ := dq_tup qpv
    obtain ⟨px, pm, rfl, p3, p4⟩ := dqAll_pr p2
    obtain ⟨am, mxs, rfl, p5, p6⟩ := dq_tup p4
    have gx := int_at qx ix (i := k0) (by omega)
    have gy := int_at qy iy (i := k0) (by omega)
    intro H1 e Q q
    refine Evl.eu_tup (σ := σ) (H := H1) (Evl.ea_cons (Evl.ev_op (Evl.ev_var ho) (eK H1 e) (Evl.rv_ixT (K := K) (SqT.of (e _ _ hao)) (atI_nat gx))) (Evl.ea_cons (Evl.ev_op (Evl.ev_var hu) (eK H1 e) (Evl.rv_ixT (K := K) (SqT.of (e _ _ hau)) (atI_nat gy))) Evl.ea_nil)) (by show 2 ≤ 100000; decide) H1 (Evl.Ex.refl _) _ fun t H2 _ e2 ht => ?_
    have e02 := e.trans e2
    refine Evl.ev_op (σ := σ) (H := H2) (Evl.ev_op (Evl.ev_var hb) (eK H2 e02) (Evl.rv_ixT (K := K) (SqT.of (e02 _ _ ha)) (atI_nat hpv))) Evl.ev_c (Evl.rv_ixT (K := K) (SqT.of (e02 _ _ p1)) (atI_nat (j := 1) rfl)) H2 (Evl.Ex.refl _) _ fun H3 e3 => ?_
    have e03 := e02.trans e3
    refine ⟨.tuple [.int (iv (vs.getD k0 .none)), .int (iv (ws.getD k0 .none))], ms, .tup (e3 _ _ ht) (.cons (.int _) (.cons (.int _) .nil)), .inl (dq_same e03 (.tup p5 p6)), pairs_lay hms, by simp [PyData.canLay0, PyData.canLayAll0], by simp [PyData.depth, PyData.depthAll], ?_⟩
    have eR : goes pds vs ws = ms.any fun z => PyData.eqv z (.tuple [.int (iv (vs.getD k0 .none)), .int (iv (ws.getD k0 .none))]) := by
      unfold goes
      rw [hk0]
      show (movesOf (pds.getD k0 .none)).any _ = _
      rw [eG, hpd]
      rfl
    rw [← eR]
    exact q H3 (e2.trans e3)
  · unfold goes
    generalize diffs pds.length vs ws = ks
    match ks with
    | [] => rfl
    | [k] =>
      have z : decide (V.int ((([k].map fun (i : Nat) => V.int (i : Int)).length : Nat) : Int) = V.int 1) = true := decide_eq_true rfl
      rw [z, Bool.true_and]
    | k :: k' :: r =>
      show V.bl (_ && false) = V.bl false
      rw [Bool.and_false]
theorem ok_leads (T : Txt K mg A) : FnOk P w K mg base CX0 1 A.a_law_leads A.d_law_leads ["_law_bench_here", "_law_one", "_law_other"] (spB K 3 fLeads) := by
  refine T._law_leads.F.ok sc__law_leads (fun vs H Q E ⟨_, _, _, hl, _⟩ => hl) (fun cdv A' outer s H vs Q E hr h => ?_)
  obtain ⟨ds, r, hd, hl, he, k⟩ := h
  obtain ⟨x, d0, y, d, z, e, rfl, rfl, dx, dy, dz⟩ := dq3 hd hl
  obtain ⟨pds, rfl, hp, h100, c1, c2, rfl⟩ : ∃ pds, d0 = .tuple pds ∧ pds.all plOk = true ∧ pds.length ≤ 100 ∧ contentOk pds d = true ∧ contentOk pds e = true ∧ r = leadsOk pds d e := by
    cases d0 with
    | tuple pds =>
      have he' : (if pds.all plOk = true ∧ pds.length ≤ 100 ∧ contentOk pds d = true ∧ contentOk pds e = true then some (leadsOk pds d e) else Option.none) = some r := he
      by_cases q : pds.all plOk = true ∧ pds.length ≤ 100 ∧ contentOk pds d = true ∧ contentOk pds e = true
      · rw [if_pos q] at he'
        exact ⟨pds, rfl, q.1, q.2.1, q.2.2.1, q.2.2.2, (Option.some.inj he').symm⟩
      · rw [if_neg q] at he'
        cases he'
    | _ => cases he
  obtain ⟨a, ps, rfl, h1, h2⟩ := dq_tup dx
  obtain ⟨vs, rfl, lv, iv1⟩ := content_ints c1
  obtain ⟨ws, rfl, lw, iv2⟩ := content_ints c2
  obtain ⟨ao, xs, rfl, g1, g2⟩ := dq_tup dy
  obtain ⟨au, ys, rfl, f1, f2⟩ := dq_tup dz
  have lp := dqAll_len h2
  refine ⟨_, (pss_cons (ps_setLc (i := 3) (own := [("_law_k", 4)]) rfl sc__law_leads.nd rfl rfl (sw_true rfl rfl rfl (by decide +kernel)) (pi_range1 rfl T.nb_range (pa_cons (pe_callB (kLen K) (by rfl) T.nb_len PySem.boot_len (pa_cons (pv 0) pa_nil)) pa_nil)) (blkOk_by (N := ["_law_bench_here", "_law_one", "_law_other", "_law_places", "_law_k"]) (sc := defScope s_law_leads) (by decide +kernel)) (fun _ _ _ _ _ => (pg_name (i := 4) sc__law_leads.nd rfl (by first | exact Or.inl rfl | exact Or.inr rfl))) (fun _ _ _ _ _ => (pts_one (pt_cmpR op_ne (pe_ix (kIxT K) (pv 1) (pv 4) (fun _ _ => rfl)) (pe_ix (kIxT K) (pv 2) (pv 4) (fun _ _ => rfl)) (nomark _)))) (fun _ _ _ _ _ => (pv 4)))
      (pss_one (ps_ret (pe_and (pe_cmpR op_eq (pe_callB (kLen K) (by rfl) T.nb_len PySem.boot_len (pa_cons (pv 3) pa_nil)) pe_int (nomark _)) (pe_one (pe_cmpR (kInQ (K := K) (un66 hr)) (pe_tup (pa_cons (pe_ix (kIxT K) (pv 1) (pe_ix (kIxL K) (pv 3) pe_int (fun _ _ => rfl)) (fun _ _ => rfl)) (pa_cons (pe_ix (kIxT K) (pv 2) (pe_ix (kIxL K) (pv 3) pe_int (fun _ _ => rfl)) (fun _ _ => rfl)) pa_nil))) (pe_ix (kIxT K) (pe_ix (kIxT K) (pv 0) (pe_ix (kIxL K) (pv 3) pe_int (fun _ _ => rfl)) (fun _ _ => rfl)) pe_int (fun _ _ => rfl)) rfl)))))), ?_⟩
  refine to_qasg (el_diffs (K := K) (ps := ps) rfl h1 g1 f1 g2 f2 iv1 iv2 (by omega) (by omega) (by omega) (fun _ => rfl) (fun _ => rfl) (fun _ => rfl) (fun _ => rfl) H (Evl.Ex.refl _) _ fun l H1 nl s1 hl => ?_)
  refine to_nm (σ' := [some (.ref a), some (.ref ao), some (.ref au), some (.ref l), none]) rfl ?_
  rw [lp] at hl
  refine to_ret (ev_goes (K := K) rfl rfl rfl rfl (s1 _ _ h1) (s1 _ _ g1) (s1 _ _ f1) (dqAll_same s1 h2) hp (dqAll_same s1 g2) (dqAll_same s1 f2) iv1 iv2 lv lw hl H1 (Evl.Ex.refl _) _ fun H2 s2 => ?_)
  exact k H2 (s1.trans s2)
end
end K12

namespace K12
open PySem PySem.Spec PyProof.Rows L2 On
section
variable {P : Program} {w : World} {K : PySem.W.Frag} {mg : Str → Option Value} {base : Heap} {A : Ads}
def areOk (pds : List PyData) : PyData → Bool
  | .tuple ds => ds.all (contentOk pds)
  | _ => false
def fAre : List PyData → Option Bool
  | [.tuple pds, d] => if pds.all plOk = true ∧ pds.length ≤ 100 ∧ wq d ≤ 60000 then some (areOk pds d) else Option.none
  | _ => Option.none
theorem bench_of {f : List PyData → PyData → Bool} {g : List PyData → Option Bool} (hg : ∀ pds d, g [.tuple pds, d] = if pds.all plOk = true ∧ pds.length ≤ 100 ∧ wq d ≤ 60000 then some (f pds d) else Option.none) (hn : ∀ d0 d, (∀ pds, d0 ≠ .tuple pds) → g [d0, d] = Option.none) {d0 d : PyData} {r : Bool} (he : g [d0, d] = some r) :
    ∃ pds, d0 = .tuple pds ∧ pds.all plOk = true ∧ pds.length ≤ 100 ∧ wq d ≤ 60000 ∧ r = f pds d := by
  by_cases h : ∃ pds, d0 = .tuple pds
  · obtain ⟨pds, rfl⟩ := h
    rw [hg] at he
    by_cases q : pds.all plOk = true ∧ pds.length ≤ 100 ∧ wq d ≤ 60000
    · rw [if_pos q] at he
      exact ⟨pds, rfl, q.1, q.2.1, q.2.2, (Option.some.inj he).symm⟩
    · rw [if_neg q] at he
      cases he
  · rw [hn d0 d fun pds e => h ⟨pds, e⟩] at he
    cases he
theorem ok_are (T : Txt K mg A) (G_law_is_content : FnOk P w K mg base CX0 2 A.a_law_is_content A.d_law_is_content ["_law_bench_here", "_law_thing"] (spB K 2 fContent)) : FnOk P w K mg base CX0 3 A.a_law_are_contents A.d_law_are_contents ["_law_bench_here", "_law_thing"] (spB K 2 fAre) := by
  refine T._law_are_contents.F.ok sc__law_are_contents (fun vs H Q E ⟨_, _, _, hl, _⟩ => hl) (fun cdv A' outer s H vs Q E hr h => ?_)
  obtain ⟨ds, r, hd, hl, he, k⟩ := h
  obtain ⟨x, d0, y, d, rfl, rfl, dx, dy⟩ := dq2 hd hl
  obtain ⟨pds, rfl, hp, h100, hw, rfl⟩ := bench_of (f := areOk) (g := fAre) (fun _ _ => rfl) (fun d0 d n => by
    cases d0 with
    | tuple pds => exact absurd rfl (n pds)
    | _ => rfl) he
  have fC : ∀ x, wq x ≤ 60000 → fContent [.tuple pds, x] = some (contentOk pds x) := fun x hx => if_pos ⟨hp, h100, hx⟩
  refine ⟨_, (pss_one (ps_ret (pe_and (pe_callB (kIsi K) (by rfl) T.nb_isinstance (by decide +kernel) (pa_cons (pv 1) (pa_cons (pe_bltn (v := .ty "tuple") (u := .type "tuple") rfl (T.nb_tuple) (by decide +kernel) rfl) pa_nil))) (pe_one (pe_callB (kAll K rfl) (by rfl) T.nb_all (by decide +kernel) (pa_cons (pe_lc (own := [("_law_one", 2)]) rfl sc__law_are_contents.nd (kPiT K (pv 1)) (blkOk_by (N := ["_law_bench_here", "_law_thing", "_law_one"]) (sc := defScope s_law_are_contents) (by decide +kernel)) (fun _ _ _ _ _ => (pg_name (i := 2) sc__law_are_contents.nd rfl (by first | exact Or.inl rfl | exact Or.inr rfl))) (fun _ _ _ _ _ => pts_nil) (fun _ _ _ _ _ => (pe_call G_law_is_content (hr.mono (by first | decide | omega)) rfl T._law_is_content.g T._law_is_content.F.kp T._law_is_content.b .nil pass0 (pa_cons (pv 0) (pa_cons (pv 2) pa_nil))))) pa_nil)))))), ?_⟩
  refine to_ret (Evl.ev_is (v := V.bl (isTuple d && areOk pds d)) (Evl.ev_andV (by
    have z := ev_isi (σ := [some x, some y, none]) (T := "tuple") (by simp) (Evl.ev_var (i := 1) (v := y) rfl) dy
    rwa [isK_tuple] at z) fun c => ?_) (w := V.bl (areOk pds d)) ?_ H (Evl.Ex.refl _) _ fun H1 s1 => k H1 s1)
  · cases d with
    | tuple ds =>
      obtain ⟨a, xs, rfl, h1, h2⟩ := dq_tup dy
      have lx := dqAll_len h2
      have hl2 := wqs_len ds
      rw [wq] at hw
      have z := ev_allT (K := K) (σ := [some x, some (.ref a), none]) (H := H) (tl := tVar 1) (te := tCall (spB K 2 fContent) [] E0 (tCons (tVar 0) (tCons (tVar 2) tNil))) (a := a) (xs := xs) (j := 2) (vs := [2]) (fun i => contentOk pds (ds.getD i .none)) (Evl.ev_var rfl) (SqT.of h1) (by omega) (fun _ => rfl) (fun i v H1 e1 hv => ?_)
      · have e : ((List.range xs.length).all fun i => contentOk pds (ds.getD i .none)) = ds.all (contentOk pds) := by
          rw [lx]
          exact all_at ds (contentOk pds)
        rw [e] at z
        exact z
      · obtain ⟨q, hq, qv⟩ := dqAll_vat h2 hv
        have e : ds.getD i .none = q := by rw [List.getD_eq_getElem?_getD, hq]; rfl
        rw [e]
        have := wqs_mem (List.mem_of_getElem? hq)
        exact Evl.ev_call (Evl.ea_cons (Evl.ev_var rfl) (Evl.ea_cons (Evl.ev_var rfl) Evl.ea_nil)) (spv_B (.cons (dq_same e1 dx) (.cons (dq_same e1 qv) .nil)) rfl (fC _ (by omega)))
    | _ => cases c
  · cases d with
    | tuple ds => rfl
    | _ => rfl
theorem ok_lstep (T : Txt K mg A) (G_law_are_contents : FnOk P w K mg base CX0 3 A.a_law_are_contents A.d_law_are_contents ["_law_bench_here", "_law_thing"] (spB K 2 fAre)) (G_law_leads : FnOk P w K mg base CX0 1 A.a_law_leads A.d_law_leads ["_law_bench_here", "_law_one", "_law_other"] (spB K 3 fLeads)) : FnOk P w K mg base CX0 4 A.a_law_is_step A.d_law_is_step ["_law_bench_here", "_law_thing"] (spB K 2 fStep) := by
  refine T._law_is_step.F.ok sc__law_is_step (fun vs H Q E ⟨_, _, _, hl, _⟩ => hl) (fun cdv A' outer s H vs Q E hr h => ?_)
  obtain ⟨ds, r, hd, hl, he, k⟩ := h
  obtain ⟨x, d0, y, d, rfl, rfl, dx, dy⟩ := dq2 hd hl
  obtain ⟨pds, rfl, hp, h100, hw, rfl⟩ := bench_of (f := stepOk) (g := fStep) (fun _ _ => rfl) (fun d0 d n => by
    cases d0 with
    | tuple pds => exact absurd rfl (n pds)
    | _ => rfl) he
  have fA : fAre [.tuple pds, d] = some (areOk pds d) := if_pos ⟨hp, h100, hw⟩
  refine ⟨_, (pss_one (ps_ret (pe_and (pe_call G_law_are_contents (hr.mono (by first | decide | omega)) rfl T._law_are_contents.g T._law_are_contents.F.kp T._law_are_contents.b .nil pass0 (pa_cons (pv 0) (pa_cons (pv 1) pa_nil))) (pe_and (pe_cmpR op_eq (pe_callB (kLen K) (by rfl) T.nb_len PySem.boot_len (pa_cons (pv 1) pa_nil)) pe_int (nomark _)) (pe_one (pe_call G_law_leads (hr.mono (by first | decide | omega)) rfl T._law_leads.g T._law_leads.F.kp T._law_leads.b .nil pass0 (pa_cons (pv 0) (pa_cons (pe_ix (kIxT K) (pv 1) pe_int (fun _ _ => rfl)) (pa_cons (pe_ix (kIxT K) (pv 1) pe_int (fun _ _ => rfl)) pa_nil))))))))), ?_⟩
  refine to_ret (Evl.ev_is (Evl.ev_andV (a := areOk pds d) (b := stepOk pds d) (Evl.ev_call (Evl.ea_cons (Evl.ev_var rfl) (Evl.ea_cons (Evl.ev_var rfl) Evl.ea_nil)) (spv_B (.cons dx (.cons dy .nil)) rfl fA)) fun c => ?_) (w := V.bl (stepOk pds d)) ?_ H (Evl.Ex.refl _) _ fun H1 s1 => k H1 s1)
  · cases d with
    | tuple ds =>
      obtain ⟨a, xs, rfl, h1, h2⟩ := dq_tup dy
      have lx := dqAll_len h2
      refine Evl.ev_is (Evl.ev_andV (b := stepOk pds (.tuple ds)) (Evl.ev_op (Evl.ev_cb (Evl.ea_cons (Evl.ev_var rfl) Evl.ea_nil) (rc_lenT h1)) Evl.ev_c (Evl.rv_eq rfl)) fun c2 => ?_) ?_
      · have hlen : ds.length = 2 := by
          have z := of_decide_eq_true c2
          injection z with z
          omega
        match ds, hlen with
        | [one, other], _ =>
          obtain ⟨x1, x2, rfl, q1, q2⟩ := dqAll_pr h2
          have c' : ([one, other].all (contentOk pds)) = true := c
          simp only [List.all_cons, List.all_nil, Bool.and_true, Bool.and_eq_true] at c'
          have fL : fLeads [.tuple pds, one, other] = some (leadsOk pds one other) := if_pos ⟨hp, h100, c'.1, c'.2⟩
          have e : stepOk pds (.tuple [one, other]) = leadsOk pds one other := by
            show (contentOk pds one && (contentOk pds other && leadsOk pds one other)) = _
            rw [c'.1, c'.2] <;> rfl
          rw [e]
          exact Evl.ev_call (Evl.ea_cons (Evl.ev_var rfl) (Evl.ea_cons (Evl.ev_op (Evl.ev_var rfl) Evl.ev_c (Evl.rv_ixT (K := K) (SqT.of h1) (atI_nat (j := 0) rfl))) (Evl.ea_cons (Evl.ev_op (Evl.ev_var rfl) Evl.ev_c (Evl.rv_ixT (K := K) (SqT.of h1) (atI_nat (j := 1) rfl))) Evl.ea_nil))) (spv_B (.cons dx (.cons q1 (.cons q2 .nil))) rfl fL)
      · by_cases z : ds.length = 2
        · have e : decide (V.int (xs.length : Int) = V.int 2) = true := decide_eq_true (by rw [lx, z]; rfl)
          rw [e, Bool.true_and]
        · have e : decide (V.int (xs.length : Int) = V.int 2) = false := decide_eq_false fun y => by
            injection y with y
            omega
          have e2 : stepOk pds (.tuple ds) = false := by
            unfold stepOk
            split
            · rename_i one other q
              injection q with q
              rw [q] at z
              exact absurd rfl z
            · rfl
          rw [e, e2] <;> rfl
    | _ => cases c
  · cases d with
    | tuple ds =>
      cases y : areOk pds (.tuple ds) with
      | true => rw [Bool.true_and]
      | false =>
        have e2 : stepOk pds (.tuple ds) = false := by
          unfold stepOk
          split
          · rename_i one other q
            injection q with q
            rw [q] at y
            have y' : (contentOk pds one && (contentOk pds other && true)) = false := y
            rw [Bool.and_true] at y'
            rw [← Bool.and_assoc, y'] <;> rfl
          · rfl
        rw [e2] <;> rfl
    | _ => rfl
end
end K12

namespace K12
open PySem PySem.Spec PyProof.Rows L2 On
section
variable {P : Program} {w : World} {K : PySem.W.Frag} {mg : Str → Option Value} {base : Heap} {A : Ads}
/-- _with_value(content, place, value) -/
def spWith : Sp := fun vs H Q _ => ∃ (a : Addr) (xs : List V) (i : Nat) (v : V), vs = [.ref a, .int (i : Int), v] ∧ H a = some (.tup xs) ∧ i < xs.length ∧ xs.length ≤ 1000 ∧ ∀ (p : Addr) (H' : Hp), Same H H' → H' p = some (.tup (xs.set i v)) → Q (.ref p) H'
theorem ok_with (T : Txt K mg A) : FnOk P w K mg base CX0 1 A.a_with_value A.d_with_value ["content", "place", "value"] spWith := by
  refine T._with_value.F.ok sc__with_value (fun vs H Q E h => ?_) (fun cdv A' outer s H vs Q E hr h => ?_)
  · obtain ⟨a, xs, i, v, rfl, _⟩ := h
    rfl
  · obtain ⟨a, xs, i, v, rfl, ha, hi, hz, k⟩ := h
    refine ⟨_, (pss_one (ps_ret (pe_op (kCatA K) (pe_op (kCatA K) (pe_slice (kSlT K) (pv 0) po_none (po_some (pv 1))) (pe_tup (pa_cons (pv 2) pa_nil))) (pe_slice (kSlT K) (pv 0) (po_some (pe_op op_add (pv 1) pe_int)) po_none)))), ?_⟩
    have eC : EvP (tVar 0) [some (.ref a), some (.int (i : Int)), some v] H xs := ep_of (Evl.ev_var rfl) ha
    have e1 := ep_sl (K := K) (lo := Option.none) (hi := some (i : Int)) eC (fun _ _ => Evl.eo_none) (fun _ _ => Evl.eo_some (Evl.ev_var (i := 1) rfl))
    have e3 := ep_sl (K := K) (lo := some ((i : Int) + 1)) (hi := Option.none) eC (fun _ _ => Evl.eo_some (Evl.ev_op (r := rI0 fun i j => V.int (i + j)) (Evl.ev_var (i := 1) rfl) (Evl.ev_c (v := V.int 1)) (Evl.rv_I0 (g := fun i j => V.int (i + j))))) (fun _ _ => Evl.eo_none)
    have e2 : EvP (tTup (tCons (tVar 2) tNil)) [some (.ref a), some (.int (i : Int)), some v] H [v] := ep_new (Evl.eu_tup (Evl.ea_cons (Evl.ev_var rfl) Evl.ea_nil) (by show 1 ≤ 100000; decide))
    rw [cut_to xs i (by omega)] at e1
    have z : ((i : Int) + 1) = ((i + 1 : Nat) : Int) := by omega
    rw [z, cut_from xs (i + 1) (by omega)] at e3
    have e4 := ep_cat (K := K) (ep_cat (K := K) e1 e2 (by rw [List.length_take]; show _ + 1 ≤ _; omega)) e3 (by rw [List.length_append, List.length_take, List.length_drop]; show _ + 1 + _ ≤ _; omega)
    rw [cut_set xs i v hi] at e4
    exact to_ret (e4 H (Evl.Ex.refl _) _ fun p H1 s1 hp => k p H1 s1 hp)
end
end K12

namespace K12
open PySem PySem.Spec PyProof.Rows L2 On
/-! ### the steps from a content -/
def pq (d : PyData) : Int × Int := match d with
  | .tuple [.int a, .int b] => (a, b)
  | _ => (0, 0)
def prs (p : PyData) : List (Int × Int) := (movesOf p).map pq
def cd6 (q : Int × Int) : Int := q.1 * 6 + q.2
theorem inc_len : ∀ {l : List Int} {lo : Int} {n : Nat}, l.Pairwise (· < ·) → (∀ x ∈ l, lo ≤ x ∧ x < lo + n) → l.length ≤ n
  | [], _, _, _, _ => Nat.zero_le _
  | x :: l, lo, n, h, b => by
    obtain ⟨h1, h2⟩ := List.pairwise_cons.mp h
    obtain ⟨b1, b2⟩ := b x List.mem_cons_self
    have n1 : 0 < n := by omega
    have ih := inc_len (l := l) (lo := x + 1) (n := (lo + n - (x + 1)).toNat) h2 fun y hy => by
      have c1 := h1 y hy
      obtain ⟨_, c2⟩ := b y (List.mem_cons_of_mem _ hy)
      omega
    rw [List.length_cons]
    omega
theorem adj_lt (f : Nat → Int) (n : Nat) (h : ∀ k, k + 1 < n → f k < f (k + 1)) : ∀ j i, i < j → j < n → f i < f j
  | 0, i, hij, _ => absurd hij (Nat.not_lt_zero _)
  | j + 1, i, hij, hj => by
    have s1 := h j hj
    rcases Nat.lt_succ_iff_lt_or_eq.mp hij with z | z
    · have := adj_lt f n h j i z (by omega)
      omega
    · rw [z]
      exact s1
/-- what a place is, by its pairs -/
theorem place_prs {p : PyData} (h : placeOk p = true) : ∃ m : Int, p = .tuple [.int m, .tuple ((prs p).map On.pairD)] ∧ 2 ≤ m ∧ m ≤ 6 ∧ (∀ q ∈ prs p, (0 ≤ q.1 ∧ q.1 < m) ∧ (0 ≤ q.2 ∧ q.2 < m) ∧ q.1 ≠ q.2) ∧ (prs p).Pairwise fun a b => cd6 a < cd6 b := by
  unfold placeOk at h
  split at h
  · rename_i m ms
    simp only [Bool.and_eq_true, decide_eq_true_eq] at h
    obtain ⟨⟨m2, m6⟩, hm, ha⟩ := h
    have sh : ∀ d ∈ ms, d = On.pairD (pq d) ∧ (0 ≤ (pq d).1 ∧ (pq d).1 < m) ∧ (0 ≤ (pq d).2 ∧ (pq d).2 < m) ∧ (pq d).1 ≠ (pq d).2 := fun d hd => by
      have z := List.all_eq_true.mp hm d hd
      unfold moveOk at z
      split at z
      · rename_i x y
        cases x with
        | int a =>
          cases y with
          | int b =>
            have z' : ((decide (0 ≤ a) && decide (a < m)) && ((decide (0 ≤ b) && decide (b < m)) && !decide (a = b))) = true := z
            simp only [Bool.and_eq_true, decide_eq_true_eq, Bool.not_eq_true', decide_eq_false_iff_not] at z'
            exact ⟨rfl, z'.1, z'.2.1, z'.2.2⟩
          | _ =>
            have z' : ((decide (0 ≤ a) && decide (a < m)) && (false && _)) = true := z
            rw [Bool.false_and, Bool.and_false] at z'
            cases z'
        | _ =>
          have z' : (false && _) = true := z
          rw [Bool.false_and] at z'
          cases z'
      · cases z
    have e : (prs (.tuple [.int m, .tuple ms])).map On.pairD = ms := by
      show (ms.map pq).map On.pairD = ms
      rw [List.map_map]
      conv => rhs; rw [← List.map_id ms]
      exact List.map_congr_left fun d hd => (sh d hd).1.symm
    refine ⟨m, by rw [e], m2, m6, fun q hq => ?_, ?_⟩
    · obtain ⟨d, hd, rfl⟩ := List.mem_map.mp (show q ∈ ms.map pq from hq)
      exact (sh d hd).2
    · show (ms.map pq).Pairwise _
      rw [List.pairwise_map, List.pairwise_iff_getElem]
      intro i j hi hj hij
      have key : ∀ k, k + 1 < ms.length → cd6 (pq (ms.getD k .none)) < cd6 (pq (ms.getD (k + 1) .none)) := fun k hk => by
        unfold asc at ha
        have z := List.all_eq_true.mp ha k (List.mem_range.mpr (by omega))
        have e1 : ms.getD k .none = ms[k] := by rw [List.getD_eq_getElem?_getD, List.getElem?_eq_getElem (by omega)]; rfl
        have e2 : ms.getD (k + 1) .none = ms[k + 1] := by rw [List.getD_eq_getElem?_getD, List.getElem?_eq_getElem hk]; rfl
        obtain ⟨s1, ⟨a1, a2⟩, ⟨a3, a4⟩, _⟩ := sh _ (List.getElem_mem (show k < ms.length by omega))
        obtain ⟨s2, ⟨b1, b2⟩, ⟨b3, b4⟩, _⟩ := sh _ (List.getElem_mem hk)
        rw [e1, e2, s1, s2] at z
        rw [e1, e2]
        generalize pq ms[k] = q1 at *
        generalize pq ms[k + 1] = q2 at *
        have z' : (if q1.1 = q2.1 then (if q1.2 = q2.2 then HT.lexLt [] [] else decide (q1.2 < q2.2)) else decide (q1.1 < q2.1)) = true := z
        show q1.1 * 6 + q1.2 < q2.1 * 6 + q2.2
        by_cases y1 : q1.1 = q2.1
        · rw [if_pos y1] at z'
          by_cases y2 : q1.2 = q2.2
          · rw [if_pos y2] at z'
            cases z'
          · rw [if_neg y2] at z'
            have := of_decide_eq_true z'
            omega
        · rw [if_neg y1] at z'
          have := of_decide_eq_true z'
          omega
      have z := adj_lt (fun k => cd6 (pq (ms.getD k .none))) ms.length key j i hij hj
      simpa [List.getD_eq_getElem?_getD, hi, hj] using z
  · cases h
/-- at most six moves begin with one value -/
theorem from_len {p : PyData} (h : placeOk p = true) (v : Int) : ((prs p).filter fun q => decide (q.1 = v)).length ≤ 6 := by
  obtain ⟨m, _, m2, m6, hb, hp⟩ := place_prs h
  have z := inc_len (l := ((prs p).filter fun q => decide (q.1 = v)).map (·.2)) (lo := 0) (n := 6) ?_ fun x hx => ?_
  · rwa [List.length_map] at z
  · rw [List.pairwise_map]
    refine (hp.filter _).imp_of_mem fun {a b} ha hb' hab => ?_
    have e1 := of_decide_eq_true (List.mem_filter.mp ha).2
    have e2 := of_decide_eq_true (List.mem_filter.mp hb').2
    unfold cd6 at hab
    omega
  · obtain ⟨q, hq, rfl⟩ := List.mem_map.mp hx
    obtain ⟨_, c, _⟩ := hb q (List.mem_filter.mp hq).1
    omega
def outs (pds : List PyData) (cv : List Int) : List (List Int) := ((List.range cv.length).map fun k => ((prs (pds.getD k .none)).filter fun q => decide (q.1 = cv.getD k 0)).map fun q => cv.set k q.2).flatten
theorem flat_len {α : Type} {B : Nat} : ∀ {ls : List (List α)}, (∀ l ∈ ls, l.length ≤ B) → ls.flatten.length ≤ ls.length * B
  | [], _ => by simp
  | l :: ls, h => by
    have h1 := h l List.mem_cons_self
    have ih := flat_len (ls := ls) fun x hx => h x (List.mem_cons_of_mem _ hx)
    rw [List.flatten_cons, List.length_append, List.length_cons, Nat.succ_mul]
    omega
theorem outs_len {pds : List PyData} {cv : List Int} (h : ∀ p ∈ pds, placeOk p = true) (hl : cv.length = pds.length) : (outs pds cv).length ≤ cv.length * 6 := by
  unfold outs
  have z := flat_len (B := 6) (ls := (List.range cv.length).map fun k => ((prs (pds.getD k .none)).filter fun q => decide (q.1 = cv.getD k 0)).map fun q => cv.set k q.2) fun l hl' => ?_
  · rwa [List.length_map, List.length_range] at z
  · obtain ⟨k, hk, rfl⟩ := List.mem_map.mp hl'
    have hk' : k < pds.length := by
      have := List.mem_range.mp hk
      omega
    rw [List.length_map]
    refine from_len (h _ ?_) _
    rw [List.getD_eq_getElem?_getD, List.getElem?_eq_getElem hk']
    exact List.getElem_mem hk'
end K12

namespace K12
open PySem PySem.Spec PyProof.Rows L2 On
/-! ### the steps are those that go -/
theorem eqv_pair (q : Int × Int) (a b : Int) : PyData.eqv (On.pairD q) (.tuple [.int a, .int b]) = decide (q = (a, b)) := by
  obtain ⟨x, y⟩ := q
  show PyData.eqv (.tuple [.int x, .int y]) (.tuple [.int a, .int b]) = _
  rw [Bool.eq_iff_iff]
  simp [PyData.eqv, PyData.eqvAll]
theorem iv_at {cv : List Int} {k : Nat} (h : k < cv.length) : iv ((cv.map PyData.int).getD k .none) = cv.getD k 0 := by
  rw [List.getD_eq_getElem?_getD, List.getD_eq_getElem?_getD, List.getElem?_map, List.getElem?_eq_getElem h]
  rfl
theorem range_one {n k : Nat} (h : k < n) (f : Nat → Bool) (hf : ∀ j, j < n → (f j = true ↔ j = k)) : (List.range n).filter f = [k] := by
  induction n with
  | zero => omega
  | succ n ih =>
    rw [List.range_succ, List.filter_append]
    by_cases e : k = n
    · have e1 : (List.range n).filter f = [] := by
        rw [List.filter_eq_nil_iff]
        intro j hj z
        have hj' := List.mem_range.mp hj
        have := (hf j (by omega)).mp z
        omega
      have e2 : f n = true := (hf n (by omega)).mpr e.symm
      rw [e1, e]
      simp [e2]
    · have e2 : f n = false := by
        cases z : f n with
        | false => rfl
        | true => exact absurd ((hf n (by omega)).mp z).symm e
      rw [ih (by omega) fun j hj => hf j (by omega)]
      simp [e2]
theorem mem_outs {pds : List PyData} {cv to : List Int} (h : ∀ p ∈ pds, placeOk p = true) (hl : cv.length = pds.length) (ht : to.length = cv.length) : to ∈ outs pds cv ↔ goes pds (cv.map PyData.int) (to.map PyData.int) = true := by
  have pk : ∀ k, k < pds.length → placeOk (pds.getD k .none) = true := fun k hk => by
    rw [List.getD_eq_getElem?_getD, List.getElem?_eq_getElem hk]
    exact h _ (List.getElem_mem hk)
  have dif : ∀ j, j < pds.length → ((!decide (iv ((cv.map PyData.int).getD j .none) = iv ((to.map PyData.int).getD j .none))) = true ↔ cv.getD j 0 ≠ to.getD j 0) := fun j hj => by
    rw [iv_at (by omega), iv_at (by omega)]
    simp
  constructor
  · intro hm
    unfold outs at hm
    obtain ⟨l, hl', hm'⟩ := List.mem_flatten.mp hm
    obtain ⟨k, hk, rfl⟩ := List.mem_map.mp hl'
    obtain ⟨q, hq, rfl⟩ := List.mem_map.mp hm'
    have hk' := List.mem_range.mp hk
    obtain ⟨q1, q2⟩ := List.mem_filter.mp hq
    have q3 := of_decide_eq_true q2
    obtain ⟨m, em, _, _, hb, _⟩ := place_prs (pk k (by omega))
    obtain ⟨_, _, hne⟩ := hb q q1
    have ed : diffs pds.length (cv.map PyData.int) ((cv.set k q.2).map PyData.int) = [k] := range_one (by omega) _ fun j hj => by
      rw [dif j hj]
      by_cases e : j = k
      · subst e
        have z : (cv.set j q.2).getD j 0 = q.2 := by
          rw [List.getD_eq_getElem?_getD, List.getElem?_set_self hk']
          rfl
        rw [z, ← q3]
        exact ⟨fun _ => rfl, fun _ => hne⟩
      · have z : (cv.set k q.2).getD j 0 = cv.getD j 0 := by
          rw [List.getD_eq_getElem?_getD, List.getD_eq_getElem?_getD, List.getElem?_set_ne (Ne.symm e)]
        rw [z]
        exact ⟨fun y => absurd rfl y, fun y => absurd y e⟩
    unfold goes
    rw [ed]
    show (movesOf (pds.getD k .none)).any (fun z => PyData.eqv z (.tuple [.int (iv ((cv.map PyData.int).getD k .none)), .int (iv (((cv.set k q.2).map PyData.int).getD k .none))])) = true
    rw [iv_at hk', iv_at (by rw [List.length_set]; exact hk'), List.any_eq_true]
    refine ⟨On.pairD q, ?_, ?_⟩
    · rw [em]
      show On.pairD q ∈ (prs (pds.getD k .none)).map On.pairD
      exact List.mem_map_of_mem q1
    · rw [eqv_pair]
      refine decide_eq_true ?_
      have z : (cv.set k q.2).getD k 0 = q.2 := by
        rw [List.getD_eq_getElem?_getD, List.getElem?_set_self hk']
        rfl
      rw [z, ← q3]
  · intro hg
    unfold goes at hg
    split at hg
    · rename_i k ed
      have hk : k < pds.length := by
        have z : k ∈ diffs pds.length (cv.map PyData.int) (to.map PyData.int) := by rw [ed]; exact List.mem_singleton.mpr rfl
        exact List.mem_range.mp (List.mem_filter.mp z).1
      have same : ∀ j, j < pds.length → j ≠ k → cv.getD j 0 = to.getD j 0 := fun j hj hjk => by
        by_cases e : cv.getD j 0 = to.getD j 0
        · exact e
        · have z : j ∈ diffs pds.length (cv.map PyData.int) (to.map PyData.int) := List.mem_filter.mpr ⟨List.mem_range.mpr hj, (dif j hj).mpr e⟩
          rw [ed] at z
          exact absurd (List.mem_singleton.mp z) hjk
      rw [iv_at (by omega), iv_at (by omega), List.any_eq_true] at hg
      obtain ⟨d, hd, he⟩ := hg
      obtain ⟨m, em, _, _, hb, _⟩ := place_prs (pk k hk)
      have hd' : d ∈ (prs (pds.getD k .none)).map On.pairD := by
        have z : movesOf (pds.getD k .none) = (prs (pds.getD k .none)).map On.pairD := by
          conv => lhs; rw [em]
          rfl
        rwa [z] at hd
      obtain ⟨q, hq, rfl⟩ := List.mem_map.mp hd'
      rw [eqv_pair] at he
      have eq := of_decide_eq_true he
      have e1 : q.1 = cv.getD k 0 := by rw [eq]
      have e2 : q.2 = to.getD k 0 := by rw [eq]
      unfold outs
      refine List.mem_flatten.mpr ⟨_, List.mem_map.mpr ⟨k, List.mem_range.mpr (by omega), rfl⟩, List.mem_map.mpr ⟨q, List.mem_filter.mpr ⟨hq, decide_eq_true e1⟩, ?_⟩⟩
      refine List.ext_getElem (by rw [List.length_set, ht]) fun j h1 h2 => ?_
      rw [List.length_set] at h1
      by_cases e : k = j
      · subst e
        rw [List.getElem_set_self, e2, List.getD_eq_getElem?_getD, List.getElem?_eq_getElem h2]
        rfl
      · rw [List.getElem_set_ne e]
        have z := same j (by omega) (Ne.symm e)
        rw [List.getD_eq_getElem?_getD, List.getD_eq_getElem?_getD, List.getElem?_eq_getElem h1, List.getElem?_eq_getElem h2] at z
        exact z
    · cases hg
end K12

namespace K12
open PySem PySem.Spec PyProof.Rows L2 On
section
variable {P : Program} {w : World} {K : PySem.W.Frag} {mg : Str → Option Value} {base : Heap} {A : Ads}
def conD (n : List Int) : PyData := .tuple (n.map .int)
theorem conD_tup (ns : List (List Int)) : tups (ns.map conD) = true := by
  rw [tups_iff]
  intro d hd
  obtain ⟨n, _, rfl⟩ := List.mem_map.mp hd
  show tups (n.map .int) = true
  rw [tups_iff]
  intro e he
  obtain ⟨i, _, rfl⟩ := List.mem_map.mp he
  rfl
theorem ints_dq (H : Hp) : ∀ n : List Int, DqAll K H (n.map V.int) (n.map PyData.int) := dqAll_ints
theorem ints_of {H : Hp} : ∀ {n : List Int} {xs : List V}, DqAll K H xs (n.map PyData.int) → xs = n.map V.int
  | [], [], _ => rfl
  | i :: n, x :: xs, .cons p q => by rw [dq_int p, ints_of q]; rfl
theorem dq_con {H : Hp} {v : V} {n : List Int} (h : Dq K H v (conD n)) : ∃ a, v = .ref a ∧ H a = some (.tup (n.map V.int)) := by
  obtain ⟨a, xs, rfl, h1, h2⟩ := dq_tup h
  rw [ints_of h2] at h1
  exact ⟨a, rfl, h1⟩
theorem prs_len {p : PyData} (h : placeOk p = true) : (prs p).length ≤ 36 := by
  obtain ⟨m, _, m2, m6, hb, hp⟩ := place_prs h
  have z := inc_len (l := (prs p).map cd6) (lo := 0) (n := 36) (by rw [List.pairwise_map]; exact hp) fun x hx => ?_
  · rwa [List.length_map] at z
  · obtain ⟨q, hq, rfl⟩ := List.mem_map.mp hx
    obtain ⟨⟨a1, a2⟩, ⟨a3, a4⟩, _⟩ := hb q hq
    unfold cd6
    omega
/-- the ints that stand at a value -/
def nsOf (H : Hp) : V → List Int
  | .ref a => match H a with
    | some (.tup xs) => xs.map fun v => match v with
      | .int i => i
      | _ => 0
    | _ => []
  | _ => []
def IsCon (H : Hp) (x : V) : Prop := ∃ a, x = .ref a ∧ H a = some (.tup ((nsOf H x).map V.int))
theorem nsOf_at {H : Hp} {a : Addr} {n : List Int} (h : H a = some (.tup (n.map V.int))) : nsOf H (.ref a) = n := by
  show (match H a with
    | some (.tup xs) => xs.map fun v => match v with
      | .int i => i
      | _ => 0
    | _ => []) = n
  rw [h]
  show (n.map V.int).map _ = n
  rw [List.map_map]
  conv => rhs; rw [← List.map_id n]
  rfl
theorem cons_of {H : Hp} : ∀ {ns : List (List Int)} {xs : List V}, DqAll K H xs (ns.map conD) → xs.map (nsOf H) = ns ∧ ∀ x ∈ xs, IsCon H x
  | [], [], _ => ⟨rfl, fun _ h => nomatch h⟩
  | n :: ns, x :: xs, .cons h1 h2 => by
    obtain ⟨e1, e2⟩ := cons_of h2
    obtain ⟨a, rfl, ha⟩ := dq_con h1
    have e3 := nsOf_at ha
    refine ⟨?_, ?_⟩
    · rw [List.map_cons, e1, e3]
    · intro x hx
      rcases List.mem_cons.mp hx with rfl | hx
      · exact ⟨a, rfl, by rw [e3]; exact ha⟩
      · exact e2 x hx
theorem cons_to {H H' : Hp} : ∀ {xs : List V}, (∀ x ∈ xs, IsCon H x) → Same H H' → DqAll K H' xs ((xs.map (nsOf H)).map conD)
  | [], _, _ => .nil
  | x :: xs, h, k => by
    obtain ⟨a, rfl, ha⟩ := h x (List.mem_cons_self ..)
    exact .cons (.tup (k _ _ ha) (dqAll_ints _)) (cons_to (fun y hy => h y (List.mem_cons_of_mem _ hy)) k)
theorem out_mem {pds : List PyData} {cv n : List Int} (h : ∀ p ∈ pds, placeOk p = true) (hl : cv.length = pds.length) (hb : ∀ x ∈ cv, 0 ≤ x ∧ x < 6) (hn : n ∈ outs pds cv) : n.length = cv.length ∧ ∀ x ∈ n, 0 ≤ x ∧ x < 6 := by
  unfold outs at hn
  obtain ⟨l, hl', hm'⟩ := List.mem_flatten.mp hn
  obtain ⟨k, hk, rfl⟩ := List.mem_map.mp hl'
  obtain ⟨q, hq, rfl⟩ := List.mem_map.mp hm'
  have hk' := List.mem_range.mp hk
  have hp : placeOk (pds.getD k .none) = true := by
    rw [List.getD_eq_getElem?_getD, List.getElem?_eq_getElem (by omega)]
    exact h _ (List.getElem_mem _)
  obtain ⟨m, _, _, m6, hb2, _⟩ := place_prs hp
  obtain ⟨_, c, _⟩ := hb2 q (List.mem_filter.mp hq).1
  refine ⟨List.length_set, fun x hx => ?_⟩
  rcases List.mem_or_eq_of_mem_set hx with z | z
  · exact hb x z
  · rw [z]
    omega
/-- steps_from(bench, content) -/
def spFrom (K : PySem.W.Frag) : Sp := fun vs H Q _ => ∃ (a ac : Addr) (ps : List V) (pds : List PyData) (cv : List Int), vs = [.ref a, .ref ac] ∧ H a = some (.tup ps) ∧ DqAll K H ps pds ∧ (∀ p ∈ pds, placeOk p = true) ∧ pds ≠ [] ∧ pds.length ≤ 5 ∧ H ac = some (.tup (cv.map V.int)) ∧ cv.length = pds.length ∧ (∀ x ∈ cv, 0 ≤ x ∧ x < 6) ∧
  ∀ (l : Addr) (zs : List V) (ns : List (List Int)) (H' : Hp), Same H H' → H' l = some (.lst zs) → H l = Option.none → ns.Perm (outs pds cv) → DqAll K H' zs (ns.map fun n => .tuple (n.map .int)) → Q (.ref l) H'
theorem ok_from (T : Txt K mg A) (G_with_value : FnOk P w K mg base CX0 1 A.a_with_value A.d_with_value ["content", "place", "value"] spWith) : FnOk P w K mg base CX0 2 A.asteps_from A.dsteps_from ["bench", "content"] (spFrom K) := by
  refine T.steps_from.F.ok sc_steps_from (fun vs H Q E h => ?_) (fun cdv A' outer s H vs Q E hr h => ?_)
  · obtain ⟨a, ac, ps, pds, cv, rfl, _⟩ := h
    rfl
  · obtain ⟨a, ac, ps, pds, cv, rfl, ha, hq, hok, hne, h5, hc, hl, hb, k⟩ := h
    have d1 : 1 ≤ pds.length := List.length_pos_iff.mpr hne
    obtain ⟨d, hd⟩ : ∃ d, d = pds.length := ⟨_, rfl⟩
    rw [← hd] at d1
    have hd := d1
    refine ⟨_, (pss_cons (ps_set (i := 2) sc_steps_from.nd rfl (by first | exact Or.inl rfl | exact Or.inr rfl) (pe_lst pa_nil))
      (pss_cons (ps_for PassesOwn.never rfl (kEnT (K := K) rfl T.nb_enumerate (pa_cons (pv 1) pa_nil)) (kPgT K (n := 2) (pgs_cons (pg_name (i := 3) sc_steps_from.nd rfl (by first | exact Or.inl rfl | exact Or.inr rfl)) (pgs_cons (pg_name (i := 4) sc_steps_from.nd rfl (by first | exact Or.inl rfl | exact Or.inr rfl)) pgs_nil))) (pss_one (ps_for PassesOwn.never rfl (kPiT K (pe_ix (kIxT K) (pe_ix (kIxT K) (pv 0) (pv 3) (fun _ _ => rfl)) pe_int (fun _ _ => rfl))) (kPgT K (n := 2) (pgs_cons (pg_name (i := 5) sc_steps_from.nd rfl (by first | exact Or.inl rfl | exact Or.inr rfl)) (pgs_cons (pg_name (i := 6) sc_steps_from.nd rfl (by first | exact Or.inl rfl | exact Or.inr rfl)) pgs_nil))) (pss_one (ps_if (pt_cmpR op_eq (pv 5) (pv 4) (nomark _)) (pss_one (ps_expr (pe_bm PySem.F.plainAttrs_list PySem.F.slot_list_append PySem.F.type_list_append mt_append (pv 2) (pa_cons (pe_call G_with_value (hr.mono (by first | decide | omega)) rfl T._with_value.g T._with_value.F.kp T._with_value.b .nil pass0 (pa_cons (pv 1) (pa_cons (pv 3) (pa_cons (pv 6) pa_nil)))) pa_nil)))) pss_nil)))))
      (pss_one (ps_ret (pe_callB (kSortT K (d := d) (B := 6) hd) (by rfl) T.nb_sorted (by decide +kernel) (pa_cons (pv 2) pa_nil)))))), ?_⟩
    refine to_qasg (to_lst (to_nil ⟨by show 0 ≤ sizeLine; decide, fun l nl => ?_⟩))
    refine to_nm (σ' := [some (.ref a), some (.ref ac), some (.ref l), none, none, none, none]) rfl ?_
    have s1 := same_upd (o := .lst []) nl
    let F : Nat → List (List Int) := fun k => ((prs (pds.getD k .none)).filter fun q => decide (q.1 = cv.getD k 0)).map fun q => cv.set k q.2
    have lq := dqAll_len hq
    have lc : (cv.map V.int).length = cv.length := List.length_map _
    refine ⟨_, rfl, ac, _, rfl, SqT.of (s1 _ _ hc), for_enumT (K := K) (a := ac) (xs := cv.map V.int) (fun i σ' H' => ∃ o3 o4 o5 o6 zs, σ' = [some (.ref a), some (.ref ac), some (.ref l), o3, o4, o5, o6] ∧ Same H H' ∧ H' l = some (.lst zs) ∧ DqAll K H' zs ((((List.range i).map F).flatten).map conD))
      ⟨_, _, _, _, _, rfl, s1, upd_same, .nil⟩ (fun i σ' H' _ ⟨_, _, _, _, _, _, s, _⟩ => SqT.of (s _ _ hc)) ?_ ?_⟩
    · rintro i x σ' H1 T hx ⟨o3, o4, o5, o6, zs, rfl, s2, hz, hq2⟩ nT
      have hi : i < cv.length := by
        have := (List.getElem?_eq_some_iff.mp hx).1
        omega
      obtain rfl : x = V.int (cv.getD i 0) := by
        rw [List.getElem?_map, List.getElem?_eq_getElem hi] at hx
        rw [List.getD_eq_getElem?_getD, List.getElem?_eq_getElem hi]
        exact (Option.some.inj hx).symm
      have sT := same_upd (o := .tup [.int (i : Nat), V.int (cv.getD i 0)]) nT
      refine ⟨T, _, rfl, SqT.of upd_same, rfl, _, _, rfl, _, _, rfl, rfl, ?_⟩
      have hz := sT _ _ hz
      have hq2 := dqAll_same sT hq2
      have s2 := s2.trans sT
      generalize upd H1 T (.tup [.int (i : Nat), V.int (cv.getD i 0)]) = H2 at hz hq2 s2
      have hip : i < pds.length := by omega
      have ep : pds.getD i .none = pds[i] := by rw [List.getD_eq_getElem?_getD, List.getElem?_eq_getElem hip]; rfl
      obtain ⟨m, em, m2, m6, hbp, _⟩ := place_prs (hok _ (List.getElem_mem hip))
      obtain ⟨pv, hpv, qpv⟩ := dqAll_at hq (List.getElem?_eq_getElem hip)
      rw [em] at qpv
      obtain ⟨pa, pxs, rfl, p1, p2⟩ := dq_tup qpv
      obtain ⟨px, pm, rfl, p3, p4⟩ := dqAll_pr p2
      obtain ⟨am, mxs, rfl, p5, p6⟩ := dq_tup p4
      have lm := dqAll_len p6
      rw [List.length_map] at lm
      refine ⟨_, rfl, _, rfl, a, ps, (i : Int), .ref pa, rfl, rfl, SqT.of (s2 _ _ ha), atI_nat hpv, pa, _, 1, .ref am, rfl, rfl, SqT.of (s2 _ _ p1), atI_nat (j := 1) rfl, am, rfl, ⟨_, SqT.of (s2 _ _ p5)⟩, ?_⟩
      refine for_tup (K := K) (a := am) (xs := mxs) (fun j σ' H' => ∃ o5 o6 zs, σ' = [some (.ref a), some (.ref ac), some (.ref l), some (.int (i : Nat)), some (.int (cv.getD i 0)), o5, o6] ∧ Same H H' ∧ H' l = some (.lst zs) ∧
          zs.length ≤ ((List.range i).map F).flatten.length + j ∧ DqAll K H' zs ((((List.range i).map F).flatten ++ (((prs pds[i]).take j).filter fun q => decide (q.1 = cv.getD i 0)).map fun q => cv.set i q.2).map conD))
        ⟨_, _, zs, rfl, s2, hz, by rw [dqAll_len hq2, List.length_map]; omega, by simpa using hq2⟩ (fun j σ' H' _ ⟨_, _, _, _, s, _⟩ => SqT.of (s _ _ p5)) ?_ ?_
      · rintro j x σ' H3 hx' ⟨o5', o6', zs, rfl, s3, hz3, hlz, hq3⟩
        obtain ⟨dp, hdp, qdp⟩ := dqAll_vat p6 hx'
        rw [List.getElem?_map] at hdp
        obtain ⟨q, hq', rfl⟩ : ∃ q, (prs pds[i])[j]? = some q ∧ On.pairD q = dp := by
          cases z : (prs pds[i])[j]? with
          | none =>
            rw [z] at hdp
            cases hdp
          | some q =>
            rw [z] at hdp
            exact ⟨q, rfl, Option.some.inj hdp⟩
        obtain ⟨c, rfl, hcq⟩ := dq_pair qdp
        have lf : ((List.range i).map F).flatten.length ≤ i * 6 := by
          have z := flat_len (B := 6) (ls := (List.range i).map F) fun y hy => ?_
          · rwa [List.length_map, List.length_range] at z
          · obtain ⟨k', hk', rfl⟩ := List.mem_map.mp hy
            have hk2 := List.mem_range.mp hk'
            show ((((prs (pds.getD k' .none)).filter fun q => decide (q.1 = cv.getD k' 0)).map fun q => cv.set k' q.2)).length ≤ 6
            rw [List.length_map]
            refine from_len (hok _ ?_) _
            rw [List.getD_eq_getElem?_getD, List.getElem?_eq_getElem (by omega)]
            exact List.getElem_mem _
        have hj := (List.getElem?_eq_some_iff.mp hq').1
        have l36 := prs_len (hok _ (List.getElem_mem hip))
        have htake : (prs pds[i]).take (j + 1) = (prs pds[i]).take j ++ [q] := by
          rw [List.take_add_one, hq']
          rfl
        refine ⟨c, _, rfl, SqT.of (s3 _ _ hcq), rfl, _, _, rfl, _, _, rfl, rfl, ?_⟩
        refine ⟨_, rfl, _, rfl, rfl, _, rfl, ite2 (fun t => ?_) (fun t => ?_)⟩
        · have e1 : q.1 = cv.getD i 0 := by
            have z := of_decide_eq_true t
            injection z
          refine ⟨_, rfl, .inl ⟨rfl, _, SqL.of hz3⟩, _, rfl, _, rfl, _, rfl, ac, _, i, .int q.2, rfl, s3 _ _ hc, by rw [lc]; exact hi, by rw [lc]; omega, fun p H4 s4 hp => ⟨l, zs, .ref p, rfl, rfl, s4 _ _ hz3, by rw [sizeLine_eq]; omega, ?_⟩⟩
          have hkp := keep_lst (H := H4) (a := l) (xs := zs) (ys := zs ++ [.ref p]) (s4 _ _ hz3)
          refine ⟨_, _, zs ++ [.ref p], rfl, fun b o eb => ?_, upd_same, by rw [List.length_append]; show _ + 1 ≤ _; omega, ?_⟩
          · rw [upd_ne (ne_of_none eb nl)]
            exact s4 _ _ (s3 _ _ eb)
          · have e2 : (((prs pds[i]).take (j + 1)).filter fun q => decide (q.1 = cv.getD i 0)) = (((prs pds[i]).take j).filter fun q => decide (q.1 = cv.getD i 0)) ++ [q] := by
              rw [htake, List.filter_append]
              simp [e1]
            have e3 : ((((List.range i).map F).flatten) ++ ((((prs pds[i]).take j).filter fun q => decide (q.1 = cv.getD i 0)) ++ [q]).map fun q => cv.set i q.2).map conD = ((((List.range i).map F).flatten) ++ (((prs pds[i]).take j).filter fun q => decide (q.1 = cv.getD i 0)).map fun q => cv.set i q.2).map conD ++ [conD (cv.set i q.2)] := by
              rw [List.map_append, List.map_append, List.map_append, List.map_append, List.append_assoc]
              rfl
            rw [e2, e3]
            refine dqAll_app (dqAll_keep hkp (dqAll_same s4 hq3) (conD_tup _)) (.cons (.tup (hkp _ _ hp) ?_) .nil)
            rw [← List.map_set]
            exact dqAll_ints _
        · have e1 : ¬ q.1 = cv.getD i 0 := fun z => t (decide_eq_true (by rw [z]))
          refine ⟨_, _, zs, rfl, s3, hz3, by omega, ?_⟩
          have e2 : (((prs pds[i]).take (j + 1)).filter fun q => decide (q.1 = cv.getD i 0)) = (((prs pds[i]).take j).filter fun q => decide (q.1 = cv.getD i 0)) := by
            rw [htake, List.filter_append]
            have z : ([q].filter fun q => decide (q.1 = cv.getD i 0)) = [] := by
              rw [List.filter_cons_of_neg (by
                show ¬ decide (q.1 = cv.getD i 0) = true
                rw [decide_eq_false e1]
                exact Bool.false_ne_true)]
              rfl
            rw [z, List.append_nil]
          rw [e2]
          exact hq3
      · rintro σ' H3 ⟨o5, o6, zs, rfl, s3, hz3, _, hq3⟩
        refine ⟨_, _, _, _, zs, rfl, s3, hz3, ?_⟩
        rw [lm, List.take_length] at hq3
        have e : ((List.range (i + 1)).map F).flatten = ((List.range i).map F).flatten ++ (((prs pds[i])).filter fun q => decide (q.1 = cv.getD i 0)).map fun q => cv.set i q.2 := by
          rw [List.range_succ, List.map_append, List.flatten_append]
          show _ ++ (F i ++ []) = _
          rw [List.append_nil]
          show _ ++ (((prs (pds.getD i .none)).filter fun q => decide (q.1 = cv.getD i 0)).map fun q => cv.set i q.2) = _
          rw [ep]
        rw [e]
        exact hq3
    · rintro σ' H2 ⟨o3, o4, o5, o6, zs, rfl, s2, hz, hq2⟩
      rw [lc] at hq2
      have eo : ((List.range cv.length).map F).flatten = outs pds cv := rfl
      rw [eo] at hq2
      obtain ⟨c1, c2⟩ := cons_of hq2
      have lz : zs.length ≤ cv.length * 6 := by
        rw [dqAll_len hq2, List.length_map]
        exact outs_len hok hl
      refine ⟨_, rfl, l, zs, rfl, SqL.of hz, by omega, fun x hx => ?_, fun ys p perm _ np => ?_⟩
      · obtain ⟨t, rfl, ht⟩ := c2 x hx
        have hm : nsOf H2 (.ref t) ∈ outs pds cv := by
          rw [← c1]
          exact List.mem_map_of_mem hx
        obtain ⟨l1, l2⟩ := out_mem hok hl hb hm
        exact ⟨_, ⟨t, rfl, SqT.of ht⟩, by omega, l2⟩
      · have s3 := same_upd (o := .lst ys) np
        refine k p ys (ys.map (nsOf H2)) _ (s2.trans s3) upd_same ?_ ?_ (cons_to (fun x hx => c2 x (perm.subset hx)) s3)
        · cases z : H p with
          | none => rfl
          | some o =>
            rw [s2 _ _ z] at np
            cases np
        · rw [← c1]
          exact perm.map _
end
end K12

namespace K12
open PySem PySem.Spec PyProof.Rows L2 On
section
variable {P : Program} {w : World} {K : PySem.W.Frag} {mg : Str → Option Value} {base : Heap} {A : Ads}
/-- content[:k] + (w,) + content[k + 1:] -/
theorem ep_put {σ : L2.St} {H : Hp} {c i u : Nat} {a : Addr} {xs : List V} {j : Nat} {v : V} (h1 : σ[c]? = some (some (.ref a))) (h2 : σ[i]? = some (some (.int (j : Int)))) (h3 : σ[u]? = some (some v)) (ha : H a = some (.tup xs)) (hj : j < xs.length) (hz : xs.length ≤ 1000) :
    EvP (tOp (rCatA K) (tOp (rCatA K) (tSl (rSlA K) (tVar c) tNoPart (tPart (tVar i))) (tTup (tCons (tVar u) tNil))) (tSl (rSlA K) (tVar c) (tPart (tOp (rI0 fun i j => V.int (i + j)) (tVar i) (tC (V.int 1)))) tNoPart)) σ H (xs.set j v) := by
  have eC : EvP (tVar c) σ H xs := ep_of (Evl.ev_var h1) ha
  have e1 := ep_sl (K := K) (lo := Option.none) (hi := some (j : Int)) eC (fun _ _ => Evl.eo_none) (fun _ _ => Evl.eo_some (Evl.ev_var h2))
  have e3 := ep_sl (K := K) (lo := some ((j : Int) + 1)) (hi := Option.none) eC (fun _ _ => Evl.eo_some (Evl.ev_op (r := rI0 fun i j => V.int (i + j)) (Evl.ev_var h2) (Evl.ev_c (v := V.int 1)) (Evl.rv_I0 (g := fun i j => V.int (i + j))))) (fun _ _ => Evl.eo_none)
  have e2 : EvP (tTup (tCons (tVar u) tNil)) σ H [v] := ep_new (Evl.eu_tup (Evl.ea_cons (Evl.ev_var h3) Evl.ea_nil) (by show 1 ≤ 100000; decide))
  rw [cut_to xs j (by omega)] at e1
  have z : ((j : Int) + 1) = ((j + 1 : Nat) : Int) := by omega
  rw [z, cut_from xs (j + 1) (by omega)] at e3
  have e4 := ep_cat (K := K) (ep_cat (K := K) e1 e2 (by rw [List.length_take]; show _ + 1 ≤ _; omega)) e3 (by rw [List.length_append, List.length_take, List.length_drop]; show _ + 1 + _ ≤ _; omega)
  rwa [cut_set xs j v hj] at e4
theorem ok_lsteps (T : Txt K mg A) : FnOk P w K mg base CX0 1 A.a_law_steps A.d_law_steps ["_law_bench_here", "_law_content"] (spFrom K) := by
  refine T._law_steps.F.ok sc__law_steps (fun vs H Q E h => ?_) (fun cdv A' outer s H vs Q E hr h => ?_)
  · obtain ⟨a, ac, ps, pds, cv, rfl, _⟩ := h
    rfl
  · obtain ⟨a, ac, ps, pds, cv, rfl, ha, hq, hok, hne, h5, hc, hl, hb, k⟩ := h
    have d1 : 1 ≤ pds.length := List.length_pos_iff.mpr hne
    obtain ⟨d, hd⟩ : ∃ d, d = pds.length := ⟨_, rfl⟩
    rw [← hd] at d1
    have hd := d1
    refine ⟨_, (pss_cons (ps_set (i := 2) sc__law_steps.nd rfl (by first | exact Or.inl rfl | exact Or.inr rfl) (pe_lst pa_nil))
      (pss_cons (ps_for PassesOwn.never rfl (pi_range1 rfl T.nb_range (pa_cons (pe_callB (kLen K) (by rfl) T.nb_len PySem.boot_len (pa_cons (pv 0) pa_nil)) pa_nil)) (pg_name (i := 3) sc__law_steps.nd rfl (by first | exact Or.inl rfl | exact Or.inr rfl)) (pss_one (ps_for PassesOwn.never rfl (kPiT K (pe_ix (kIxT K) (pe_ix (kIxT K) (pv 0) (pv 3) (fun _ _ => rfl)) pe_int (fun _ _ => rfl))) (kPgT K (n := 2) (pgs_cons (pg_name (i := 4) sc__law_steps.nd rfl (by first | exact Or.inl rfl | exact Or.inr rfl)) (pgs_cons (pg_name (i := 5) sc__law_steps.nd rfl (by first | exact Or.inl rfl | exact Or.inr rfl)) pgs_nil))) (pss_one (ps_expr (pe_bm PySem.F.plainAttrs_list PySem.F.slot_list_extend PySem.F.type_list_extend mt_extend (pv 2) (pa_cons (pe_op op_rep (pe_lst (pa_cons (pe_op (kCatA K) (pe_op (kCatA K) (pe_slice (kSlT K) (pv 1) po_none (po_some (pv 3))) (pe_tup (pa_cons (pv 5) pa_nil))) (pe_slice (kSlT K) (pv 1) (po_some (pe_op op_add (pv 3) pe_int)) po_none)) pa_nil)) (pe_callTy call_int1 (by rfl) T.nb_int (by decide +kernel) (pa_cons (pe_cmpR op_eq (pv 4) (pe_ix (kIxT K) (pv 1) (pv 3) (fun _ _ => rfl)) (nomark _)) pa_nil))) pa_nil)))))))
      (pss_one (ps_ret (pe_callB (kSortT K (d := d) (B := 6) hd) (by rfl) T.nb_sorted (by decide +kernel) (pa_cons (pv 2) pa_nil)))))), ?_⟩
    refine to_qasg (to_lst (to_nil ⟨by show 0 ≤ sizeLine; decide, fun l nl => ?_⟩))
    refine to_nm (σ' := [some (.ref a), some (.ref ac), some (.ref l), none, none, none]) rfl ?_
    have s1 := same_upd (o := .lst []) nl
    let F : Nat → List (List Int) := fun k => ((prs (pds.getD k .none)).filter fun q => decide (q.1 = cv.getD k 0)).map fun q => cv.set k q.2
    have lq := dqAll_len hq
    have lc : (cv.map V.int).length = cv.length := List.length_map _
    let F : Nat → List (List Int) := fun k => ((prs (pds.getD k .none)).filter fun q => decide (q.1 = cv.getD k 0)).map fun q => cv.set k q.2
    have lq := dqAll_len hq
    have lc : (cv.map V.int).length = cv.length := List.length_map _
    refine ⟨_, rfl, a, ps, rfl, .inr (SqT.of (s1 _ _ ha)), _, rfl, by omega, by omega, for_range (lo := 0) (n := (ps.length : Int).toNat) (fun i σ' H' => ∃ o3 o4 o5 zs, σ' = [some (.ref a), some (.ref ac), some (.ref l), o3, o4, o5] ∧ Same H H' ∧ H' l = some (.lst zs) ∧ DqAll K H' zs ((((List.range i).map F).flatten).map conD))
      ⟨_, _, _, _, rfl, s1, upd_same, .nil⟩ ?_ ?_⟩
    · rintro i σ' H2 hi0 ⟨o3, o4, o5, zs0, rfl, s2, hz, hq2⟩
      have hi : i < cv.length := by omega
      have ei : (0 : Int) + (i : Int) = (i : Int) := Int.zero_add _
      rw [ei]
      refine to_nm (σ' := [some (.ref a), some (.ref ac), some (.ref l), some (.int (i : Int)), o4, o5]) rfl ?_
      have hip : i < pds.length := by omega
      have ep : pds.getD i .none = pds[i] := by rw [List.getD_eq_getElem?_getD, List.getElem?_eq_getElem hip]; rfl
      obtain ⟨m, em, m2, m6, hbp, _⟩ := place_prs (hok _ (List.getElem_mem hip))
      obtain ⟨pv, hpv, qpv⟩ := dqAll_at hq (List.getElem?_eq_getElem hip)
      rw [em] at qpv
      obtain ⟨pa, pxs, rfl, p1, p2⟩ := dq_tup qpv
      obtain ⟨px, pm, rfl, p3, p4⟩ := dqAll_pr p2
      obtain ⟨am, mxs, rfl, p5, p6⟩ := dq_tup p4
      have lm := dqAll_len p6
      rw [List.length_map] at lm
      refine ⟨_, rfl, _, rfl, a, ps, (i : Int), .ref pa, rfl, rfl, SqT.of (s2 _ _ ha), atI_nat hpv, pa, _, 1, .ref am, rfl, rfl, SqT.of (s2 _ _ p1), atI_nat (j := 1) rfl, am, rfl, ⟨_, SqT.of (s2 _ _ p5)⟩, ?_⟩
      refine for_tup (K := K) (a := am) (xs := mxs) (fun j σ' H' => ∃ o4 o5 zs, σ' = [some (.ref a), some (.ref ac), some (.ref l), some (.int (i : Int)), o4, o5] ∧ Same H H' ∧ H' l = some (.lst zs) ∧
          zs.length ≤ ((List.range i).map F).flatten.length + j ∧ DqAll K H' zs ((((List.range i).map F).flatten ++ (((prs pds[i]).take j).filter fun q => decide (q.1 = cv.getD i 0)).map fun q => cv.set i q.2).map conD))
        ⟨_, _, zs0, rfl, s2, hz, by rw [dqAll_len hq2, List.length_map]; omega, by simpa using hq2⟩ (fun j σ' H' _ ⟨_, _, _, _, s, _⟩ => SqT.of (s _ _ p5)) ?_ ?_
      · rintro j x σ' H3 hx' ⟨o4', o5', zs, rfl, s3, hz3, hlz, hq3⟩
        obtain ⟨dp, hdp, qdp⟩ := dqAll_vat p6 hx'
        rw [List.getElem?_map] at hdp
        obtain ⟨q, hq', rfl⟩ : ∃ q, (prs pds[i])[j]? = some q ∧ On.pairD q = dp := by
          cases z : (prs pds[i])[j]? with
          | none =>
            rw [z] at hdp
            cases hdp
          | some q =>
            rw [z] at hdp
            exact ⟨q, rfl, Option.some.inj hdp⟩
        obtain ⟨c, rfl, hcq⟩ := dq_pair qdp
        have lf : ((List.range i).map F).flatten.length ≤ i * 6 := by
          have z := flat_len (B := 6) (ls := (List.range i).map F) fun y hy => ?_
          · rwa [List.length_map, List.length_range] at z
          · obtain ⟨k', hk', rfl⟩ := List.mem_map.mp hy
            have hk2 := List.mem_range.mp hk'
            show ((((prs (pds.getD k' .none)).filter fun q => decide (q.1 = cv.getD k' 0)).map fun q => cv.set k' q.2)).length ≤ 6
            rw [List.length_map]
            refine from_len (hok _ ?_) _
            rw [List.getD_eq_getElem?_getD, List.getElem?_eq_getElem (by omega)]
            exact List.getElem_mem _
        have hj := (List.getElem?_eq_some_iff.mp hq').1
        have l36 := prs_len (hok _ (List.getElem_mem hip))
        have htake : (prs pds[i]).take (j + 1) = (prs pds[i]).take j ++ [q] := by
          rw [List.take_add_one, hq']
          rfl
        refine ⟨c, _, rfl, SqT.of (s3 _ _ hcq), rfl, _, _, rfl, _, _, rfl, rfl, ?_⟩
        refine ⟨_, rfl, .inl ⟨rfl, _, SqL.of hz3⟩, to_cons ?_⟩
        refine to_lst (to_cons (ep_put (K := K) (σ := [some (.ref a), some (.ref ac), some (.ref l), some (.int (i : Int)), some (.int q.1), some (.int q.2)]) (c := 1) (i := 3) (u := 5) rfl rfl rfl (s3 _ _ hc) (by rw [lc]; exact hi) (by rw [lc]; omega) H3 (Evl.Ex.refl _) _ fun p H4 s4 hp => ⟨by show 1 ≤ sizeLine; decide, fun t nt => ?_⟩))
        have st := same_upd (o := .lst [V.ref p]) nt
        have s34 := s4.trans st
        have hci : (cv.map V.int)[i]? = some (.int (cv.getD i 0)) := by
          rw [List.getElem?_map, List.getElem?_eq_getElem hi, List.getD_eq_getElem?_getD, List.getElem?_eq_getElem hi]
          rfl
        have hp2 := st _ _ hp
        have ht2 : upd H4 t (.lst [V.ref p]) t = some (.lst [V.ref p]) := upd_same
        have hz4 := s34 _ _ hz3
        have hq4 := dqAll_same s34 hq3
        have s04 := s3.trans s34
        generalize upd H4 t (.lst [V.ref p]) = H5 at hp2 ht2 hz4 hq4 s04
        refine ⟨_, rfl, _, rfl, _, rfl, ac, _, (i : Int), .int (cv.getD i 0), rfl, rfl, SqT.of (s04 _ _ hc), atI_nat hci, rfl, .inr ⟨_, rfl, ?_⟩⟩
        cases td : decide (V.int q.1 = V.int (cv.getD i 0)) with
        | true =>
          have e1 : q.1 = cv.getD i 0 := by
            have z := of_decide_eq_true td
            injection z
          refine ⟨t, 1, [.ref p], rfl, rfl, ht2, by decide, by decide, by show 1 ≤ sizeLine; decide, fun u nu => ?_⟩
          have su := same_upd (o := .lst (List.replicate (1 : Int).toNat [V.ref p]).flatten) nu
          have eu : (List.replicate (1 : Int).toNat [V.ref p]).flatten = [V.ref p] := rfl
          refine ⟨l, u, zs, _, rfl, rfl, su _ _ hz4, upd_same, by rw [eu, sizeLine_eq]; show _ + 1 ≤ _; omega, ?_⟩
          have hp := su _ _ hp2
          have hq3 := dqAll_same su hq4
          have s4 := s04.trans su
          have hz4 := su _ _ hz4
          rw [eu] at *
          generalize upd H5 u (.lst [V.ref p]) = H4 at hp hq3 s4 hz4
          have hkp := keep_lst (H := H4) (a := l) (xs := zs) (ys := zs ++ [.ref p]) hz4
          refine ⟨_, _, zs ++ [.ref p], rfl, fun b o eb => ?_, upd_same, by rw [List.length_append]; show _ + 1 ≤ _; omega, ?_⟩
          · rw [upd_ne (ne_of_none eb nl)]
            exact s4 _ _ eb
          · have e2 : (((prs pds[i]).take (j + 1)).filter fun q => decide (q.1 = cv.getD i 0)) = (((prs pds[i]).take j).filter fun q => decide (q.1 = cv.getD i 0)) ++ [q] := by
              rw [htake, List.filter_append]
              simp [e1]
            have e3 : ((((List.range i).map F).flatten) ++ ((((prs pds[i]).take j).filter fun q => decide (q.1 = cv.getD i 0)) ++ [q]).map fun q => cv.set i q.2).map conD = ((((List.range i).map F).flatten) ++ (((prs pds[i]).take j).filter fun q => decide (q.1 = cv.getD i 0)).map fun q => cv.set i q.2).map conD ++ [conD (cv.set i q.2)] := by
              rw [List.map_append, List.map_append, List.map_append, List.map_append, List.append_assoc]
              rfl
            rw [e2, e3]
            refine dqAll_app (dqAll_keep hkp hq3 (conD_tup _)) (.cons (.tup (hkp _ _ hp) ?_) .nil)
            rw [← List.map_set]
            exact dqAll_ints _
        | false =>
          have e1 : ¬ q.1 = cv.getD i 0 := fun z => by
            rw [z, decide_eq_true rfl] at td
            cases td
          refine ⟨t, 0, [.ref p], rfl, rfl, ht2, by decide, by decide, by show 0 ≤ sizeLine; decide, fun u nu => ?_⟩
          have su := same_upd (o := .lst (List.replicate (0 : Int).toNat [V.ref p]).flatten) nu
          have eu : (List.replicate (0 : Int).toNat [V.ref p]).flatten = ([] : List V) := rfl
          refine ⟨l, u, zs, _, rfl, rfl, su _ _ hz4, upd_same, by rw [eu, sizeLine_eq]; show _ + 0 ≤ _; omega, ?_⟩
          have hq3 := dqAll_same su hq4
          have s4 := s04.trans su
          have hz4 := su _ _ hz4
          rw [eu, List.append_nil] at *
          generalize upd H5 u (.lst []) = H4 at hq3 s4 hz4
          have hkp := keep_lst (H := H4) (a := l) (xs := zs) (ys := zs) hz4
          refine ⟨_, _, zs, rfl, fun b o eb => ?_, upd_same, by omega, ?_⟩
          · rw [upd_ne (ne_of_none eb nl)]
            exact s4 _ _ eb
          · refine dqAll_keep hkp ?_ (conD_tup _)
            have e2 : (((prs pds[i]).take (j + 1)).filter fun q => decide (q.1 = cv.getD i 0)) = (((prs pds[i]).take j).filter fun q => decide (q.1 = cv.getD i 0)) := by
              rw [htake, List.filter_append]
              have z : ([q].filter fun q => decide (q.1 = cv.getD i 0)) = [] := by
                rw [List.filter_cons_of_neg (by
                  show ¬ decide (q.1 = cv.getD i 0) = true
                  rw [decide_eq_false e1]
                  exact Bool.false_ne_true)]
                rfl
              rw [z, List.append_nil]
            rw [e2]
            exact hq3
      · rintro σ' H3 ⟨o4, o5, zs, rfl, s3, hz3, _, hq3⟩
        refine ⟨_, _, _, zs, rfl, s3, hz3, ?_⟩
        rw [lm, List.take_length] at hq3
        have e : ((List.range (i + 1)).map F).flatten = ((List.range i).map F).flatten ++ (((prs pds[i])).filter fun q => decide (q.1 = cv.getD i 0)).map fun q => cv.set i q.2 := by
          rw [List.range_succ, List.map_append, List.flatten_append]
          show _ ++ (F i ++ []) = _
          rw [List.append_nil]
          show _ ++ (((prs (pds.getD i .none)).filter fun q => decide (q.1 = cv.getD i 0)).map fun q => cv.set i q.2) = _
          rw [ep]
        rw [e]
        exact hq3
    · rintro σ' H2 ⟨o3, o4, o5, zs, rfl, s2, hz, hq2⟩
      have en : (ps.length : Int).toNat = cv.length := by omega
      rw [en] at hq2
      have eo : ((List.range cv.length).map F).flatten = outs pds cv := rfl
      rw [eo] at hq2
      obtain ⟨c1, c2⟩ := cons_of hq2
      have lz : zs.length ≤ cv.length * 6 := by
        rw [dqAll_len hq2, List.length_map]
        exact outs_len hok hl
      refine ⟨_, rfl, l, zs, rfl, SqL.of hz, by omega, fun x hx => ?_, fun ys p perm _ np => ?_⟩
      · obtain ⟨t, rfl, ht⟩ := c2 x hx
        have hm : nsOf H2 (.ref t) ∈ outs pds cv := by
          rw [← c1]
          exact List.mem_map_of_mem hx
        obtain ⟨l1, l2⟩ := out_mem hok hl hb hm
        exact ⟨_, ⟨t, rfl, SqT.of ht⟩, by omega, l2⟩
      · have s3 := same_upd (o := .lst ys) np
        refine k p ys (ys.map (nsOf H2)) _ (s2.trans s3) upd_same ?_ ?_ (cons_to (fun x hx => c2 x (perm.subset hx)) s3)
        · cases z : H p with
          | none => rfl
          | some o =>
            rw [s2 _ _ z] at np
            cases np
        · rw [← c1]
          exact perm.map _
end
end K12

namespace K12
open PySem PySem.Spec PyProof.Rows L2 On
section
variable {P : Program} {w : World} {K : PySem.W.Frag} {mg : Str → Option Value} {base : Heap} {A : Ads}
theorem at_last (vs : List V) (v : V) : atI (vs ++ [v]) (-1) = some v := by
  unfold atI ixN
  rw [if_neg (by decide), List.length_append]
  rw [if_pos (by show -(((vs.length + 1 : Nat)) : Int) ≤ -1; omega)]
  have e : ((-1 : Int) + ((vs.length + [v].length : Nat) : Int)).toNat = vs.length := by
    show ((-1 : Int) + ((vs.length + 1 : Nat) : Int)).toNat = vs.length
    omega
  show (vs ++ [v])[((-1 : Int) + ((vs.length + [v].length : Nat) : Int)).toNat]? = some v
  rw [e]
  simp
/-- _law_bench(bag, 36) -/
def spBench (K : PySem.W.Frag) : Sp := fun vs H Q _ => ∃ (b c : Addr) (L : List Addr), vs = [.ref b, .int 36] ∧ Bag H b c ∧ b ∈ L ∧ (∀ x ∈ L, ∃ xs, H x = some (.lst xs)) ∧
  ∀ (pds : List PyData) (v : V) (H' : Hp), (∀ p ∈ pds, PlaceD p) → pds ≠ [] → pds.length ≤ 5 → Bag H' b c → But b H H' → Dq K (offs L H') v (.tuple pds) → Q v H'
theorem ok_bench (T : Txt K mg A) (G_law_some : FnOk P w K mg base CX0 2 A.a_law_some A.d_law_some ["_law_bag_here", "_law_things"] (spSome K)) (G_law_place : FnOk P w K mg base CX0 3 A.a_law_place A.d_law_place ["_law_bag_here", "_law_most"] (spPlace K)) : FnOk P w K mg base CX0 4 A.a_law_bench A.d_law_bench ["_law_bag_here", "_law_most"] (spBench K) := by
  refine T._law_bench.F.ok sc__law_bench (fun vs H Q E h => ?_) (fun cdv A' outer s H vs Q E hr h => ?_)
  · obtain ⟨b, c, L, rfl, _⟩ := h
    rfl
  · obtain ⟨b, c, L, rfl, B, hb, hL, k⟩ := h
    refine ⟨_, (pss_cons (ps_par (i := 2) (j := 3) rfl sc__law_bench.nd rfl rfl (by decide) rfl rfl (pa_cons (pe_lst pa_nil) (pa_cons pe_int pa_nil)) rfl)
      (Evl.pss_cut (ps_for PassesOwn.never rfl (pi_range1 rfl T.nb_range (pa_cons (pe_call G_law_some (hr.mono (by first | decide | omega)) rfl T._law_some.g T._law_some.F.kp T._law_some.b .nil pass0 (pa_cons (pv 0) (pa_cons (pe_lst (pa_cons pe_int (pa_cons pe_int (pa_cons pe_int (pa_cons pe_int (pa_cons pe_int (pa_cons pe_int (pa_cons pe_int pa_nil)))))))) pa_nil))) pa_nil)) (pg_name (i := 4) sc__law_bench.nd rfl (by first | exact Or.inl rfl | exact Or.inr rfl)) (pss_one (ps_if (pt_cmpR op_le (pe_op op_mul (pv 3) pe_int) (pv 1) (nomark _)) (pss_cons (ps_expr (pe_bm PySem.F.plainAttrs_list PySem.F.slot_list_append PySem.F.type_list_append mt_append (pv 2) (pa_cons (pe_call G_law_place (hr.mono (by first | decide | omega)) rfl T._law_place.g T._law_place.F.kp T._law_place.b .nil pass0 (pa_cons (pv 0) (pa_cons (pe_callB (call_min2 rfl) (by rfl) T.nb_min (by decide +kernel) (pa_cons (pe_call G_law_some (hr.mono (by first | decide | omega)) rfl T._law_some.g T._law_some.F.kp T._law_some.b .nil pass0 (pa_cons (pv 0) (pa_cons (pe_lst (pa_cons pe_int (pa_cons pe_int (pa_cons pe_int (pa_cons pe_int (pa_cons pe_int pa_nil)))))) pa_nil))) (pa_cons (pe_op op_fdivW (pv 1) (pv 3)) pa_nil))) pa_nil))) pa_nil)))
      (pss_one (ps_set (i := 3) sc__law_bench.nd rfl (by first | exact Or.inl rfl | exact Or.inr rfl) (pe_op op_mul (pv 3) (pe_ix (kIxT K) (pe_ix (kIxL K) (pv 2) (pe_un un_neg pe_int) (fun _ _ => rfl)) pe_int (fun _ _ => rfl)))))) pss_nil)))
      (pss_one (ps_ret (pe_callTy (kTuple K) (by rfl) T.nb_tuple (by decide +kernel) (pa_cons (pv 2) pa_nil)))))), ?_⟩
    refine ⟨by show 0 ≤ sizeLine; decide, fun lp nlp => ⟨_, _, rfl, ?_⟩⟩
    have s1 := same_upd (o := .lst []) nlp
    have lpb : lp ≠ b := B.ne_new nlp
    have lpc : lp ≠ c := B.ne_cells nlp
    have B1 := B.same s1
    refine ⟨fun σ' H' => ∃ sz o4 vs pds, σ' = [some (.ref b), some (.int 36), some (.ref lp), some (.int sz), o4] ∧ Bag H' b c ∧ But b H H' ∧ H' lp = some (.lst vs) ∧ DqAll K (offs (lp :: L) H') vs pds ∧ (∀ p ∈ pds, PlaceD p) ∧ pds.length ≤ 5 ∧ pds ≠ [], ?_, ?_⟩
    · refine ⟨_, rfl, by show 7 ≤ sizeLine; decide, fun q nq => ⟨b, c, q, _, rfl, B1.same (same_upd nq), upd_same, B1.ne_new nq, by decide, by decide, fun v H2 hv B2 k2 => ?_⟩⟩
      obtain ⟨n, rfl, hn1, hn5⟩ : ∃ n : Nat, v = .int (n : Int) ∧ 1 ≤ n ∧ n ≤ 5 := by
        simp only [List.mem_cons, List.not_mem_nil, or_false] at hv
        rcases hv with h | h | h | h | h | h | h
        · exact ⟨1, h, by decide, by decide⟩
        · exact ⟨2, h, by decide, by decide⟩
        · exact ⟨2, h, by decide, by decide⟩
        · exact ⟨3, h, by decide, by decide⟩
        · exact ⟨3, h, by decide, by decide⟩
        · exact ⟨4, h, by decide, by decide⟩
        · exact ⟨5, h, by decide, by decide⟩
      have k02 : But b H H2 := (But.of_same s1).trans ((But.of_same (same_upd nq)).trans k2)
      have hlp : H2 lp = some (.lst []) := k2 _ _ lpb (same_upd nq _ _ upd_same)
      refine ⟨_, rfl, by omega, by omega, for_range (lo := 0) (n := (n : Int).toNat) (fun i σ' H' => ∃ sz o4 vs pds, σ' = [some (.ref b), some (.int 36), some (.ref lp), some (.int sz), o4] ∧ Bag H' b c ∧ But b H H' ∧ H' lp = some (.lst vs) ∧ DqAll K (offs (lp :: L) H') vs pds ∧ (∀ p ∈ pds, PlaceD p) ∧ pds.length ≤ i ∧ 1 ≤ sz ∧ sz ≤ 216 ∧ (pds = [] → sz = 1 ∧ i = 0))
        ⟨1, _, [], [], rfl, B2, k02, hlp, .nil, (fun _ hh => nomatch hh), Nat.le_refl _, by decide, by decide, fun _ => ⟨rfl, rfl⟩⟩ ?_ ?_⟩
      · rintro i σ' H3 hi ⟨sz, o4, vs, pds, rfl, B3, k3, h3, d3, p3, l3, z1, z2, ze⟩
        refine to_nm (σ' := [some (.ref b), some (.int 36), some (.ref lp), some (.int sz), some (.int (0 + (i : Int)))]) rfl ?_
        refine ⟨_, rfl, _, _, rfl, rfl, .inl ⟨by omega, by omega⟩, _, rfl, _, _, rfl, rfl, _, rfl, ite2 (fun t => ?_) (fun t => ?_)⟩
        · have t' : sz * 2 ≤ 36 := of_decide_eq_true t
          refine ⟨_, rfl, .inl ⟨rfl, _, SqL.of h3⟩, _, rfl, _, rfl, by show 5 ≤ sizeLine; decide, fun q nq => ⟨b, c, q, _, rfl, B3.same (same_upd nq), upd_same, B3.ne_new nq, by decide, by decide, fun v H4 hv B4 k4 => ?_⟩⟩
          obtain ⟨x, rfl, x2, x6⟩ : ∃ x : Int, v = .int x ∧ 2 ≤ x ∧ x ≤ 6 := by
            simp only [List.mem_cons, List.not_mem_nil, or_false] at hv
            rcases hv with h | h | h | h | h <;> exact ⟨_, h, by decide, by decide⟩
          have y2 : 2 ≤ 36 / sz := by
            have : 36 / sz = 36 / sz := rfl
            exact (Int.le_ediv_iff_mul_le (by omega)).mpr (by omega)
          refine ⟨_, rfl, _, rfl, _, _, rfl, rfl, ⟨by omega, small_log (by omega) (by omega)⟩, _, _, rfl, b, c, _, rfl, ?_, ?_, B4, fun m ps v H5 hok hl B5 k5 hv => ?_⟩
          · split <;> omega
          · split <;> omega
          have pd := placeD_of hok hl
          have k34 : But b H3 H4 := (But.of_same (same_upd nq)).trans k4
          have k35 := k34.trans k5
          have h5 := k35 _ _ lpb h3
          have k05 := k3.trans k35
          have mb : b ∈ lp :: L := List.mem_cons_of_mem _ hb
          have d5 := dqAll_same (offs_but mb k35) d3
          have ld := dqAll_len d5
          have dv : Dq K (offs (lp :: L) H5) v (placeD m ps) := tup_offs (fun a ha => by
            rcases List.mem_cons.mp ha with rfl | ha
            · exact ⟨_, h5⟩
            · by_cases e : a = b
              · rw [e]
                obtain ⟨⟨_, _, _, _, h1, _⟩, _⟩ := B5
                exact ⟨_, h1⟩
              · obtain ⟨xs, hx⟩ := hL a ha
                exact ⟨xs, k05 _ _ e hx⟩) hv pd.tp
          refine ⟨lp, vs, v, rfl, rfl, h5, by rw [sizeLine_eq]; omega, ?_⟩
          obtain ⟨pa, pxs, rfl, p1, p2⟩ := dq_tup hv
          obtain ⟨px, pm, rfl, p3', _⟩ := dqAll_pr p2
          have em := dq_int p3'
          subst em
          have pal : pa ≠ lp := fun e => by
            rw [e, h5] at p1
            cases p1
          have m26 : 2 ≤ m ∧ m ≤ 6 := by
            have h' : ((decide ((2 : Int) ≤ m) && decide ((m : Int) ≤ 6)) && ((ps.map prD).all (moveOk (m : Int)) && asc (ps.map prD))) = true := hok
            simp only [Bool.and_eq_true, decide_eq_true_eq] at h'
            omega
          have hup : upd H5 lp (.lst (vs ++ [.ref pa])) pa = some (.tup [.int (m : Int), pm]) := by
            rw [upd_ne pal]
            exact p1
          refine ⟨_, rfl, _, rfl, 1, rfl, lp, _, -1, .ref pa, rfl, rfl, SqL.of upd_same, at_last vs (.ref pa), pa, _, 0, .int (m : Int), rfl, rfl, SqT.of hup, atI_nat (j := 0) rfl, _, _, rfl, rfl, .inl ⟨by omega, by omega⟩, ?_⟩
          have mm : sz * (m : Int) ≤ 216 := by
            have a1 : sz ≤ 18 := by omega
            have a2 : sz * (m : Int) ≤ 18 * 6 := Int.mul_le_mul a1 (by omega) (by omega) (by omega)
            omega
          have mm1 : 1 ≤ sz * (m : Int) := by
            have a2 : (1 : Int) * 1 ≤ sz * (m : Int) := Int.mul_le_mul (by omega) (by omega) (by omega) (by omega)
            omega
          have ko : But b H (upd H5 lp (.lst (vs ++ [.ref pa]))) := but_upd k05 (by
            cases z : H lp with
            | none => rfl
            | some o =>
              rw [z] at nlp
              cases nlp)
          refine ⟨sz * (m : Int), _, vs ++ [.ref pa], pds ++ [placeD m ps], rfl, B5.upd lpb lpc h5, ko, upd_same, dqAll_same (offs_put List.mem_cons_self) (dqAll_app d5 (.cons dv .nil)), fun p hp => ?_, by rw [List.length_append]; show _ + 1 ≤ _; omega, mm1, mm, fun e => ?_⟩
          · rcases List.mem_append.mp hp with h | h
            · exact p3 p h
            · rw [List.mem_singleton] at h
              rw [h]
              exact pd
          · simp at e
        · have t' : ¬ sz * 2 ≤ 36 := fun z => t (decide_eq_true z)
          refine ⟨sz, _, vs, pds, rfl, B3, k3, h3, d3, p3, by omega, z1, z2, fun e => ?_⟩
          have := (ze e).1
          omega
      · rintro σ' H3 ⟨sz, o4, vs, pds, rfl, B3, k3, h3, d3, p3, l3, z1, z2, ze⟩
        refine ⟨sz, o4, vs, pds, rfl, B3, k3, h3, d3, p3, by omega, fun e => ?_⟩
        have := (ze e).2
        omega
    · rintro σ' H3 ⟨sz, o4, vs, pds, rfl, B3, k3, h3, d3, p3, l5, ne⟩
      refine ⟨_, rfl, lp, vs, rfl, .inl ⟨SqL.of h3, fun t nt => ?_⟩⟩
      have st := same_upd (o := .tup vs) nt
      refine k pds (.ref t) _ p3 ne l5 (B3.same st) (k3.trans (But.of_same st)) (.tup (offs_new fun z => ?_) (dqAll_same (offs_same st) (dqAll_same offs_cons d3)))
      have : H3 t ≠ Option.none := by
        by_cases e : t = b
        · rw [e]
          obtain ⟨⟨_, _, _, _, h1, _⟩, _⟩ := B3
          rw [h1]
          exact fun y => nomatch y
        · obtain ⟨xs, hx⟩ := hL t z
          rw [k3 _ _ e hx]
          exact fun y => nomatch y
      exact this nt
end
end K12

namespace K12
open PySem PySem.Spec PyProof.Rows L2 On
section
variable {P : Program} {w : World} {K : PySem.W.Frag} {mg : Str → Option Value} {base : Heap} {A : Ads}
def grow (m : Nat) (ns : List (List Int)) : List (List Int) := (ns.map fun n => (List.range m).map fun (v : Nat) => n ++ [(v : Int)]).flatten
theorem map_snoc (n : List Int) (v : Nat) : (n.map V.int) ++ [V.int (v : Int)] = (n ++ [(v : Int)]).map V.int := by
  rw [List.map_append]
  rfl
/-- [content + (value,) for value in range(place[0])] -/
theorem er_row {H : Hp} {o0 o1 o4 : Option V} {pa ac : Addr} {m : Nat} {pm : V} {n : List Int} {Q : VK} (hp : H pa = some (.tup [.int (m : Int), pm])) (hc : H ac = some (.tup (n.map V.int))) (m6 : m ≤ 6) (hn : n.length ≤ 10)
    (q : ∀ p ys H', H p = Option.none → Same H H' → H' p = some (.lst ys) → DqAll K H' ys (((List.range m).map fun (v : Nat) => n ++ [(v : Int)]).map conD) → Q (.ref p) H') :
    tLc (iRng1 (tCons (tOp (rIxT K) (tVar 2) (tC (V.int 0))) tNil)) (gName 4) tYes (tOp (rCatA K) (tVar 3) (tTup (tCons (tVar 4) tNil))) [4] [o0, o1, some (.ref pa), some (.ref ac), o4] H Q := by
  refine ⟨_, rfl, pa, _, 0, .int (m : Int), rfl, rfl, SqT.of hp, atI_nat (j := 0) rfl, _, rfl, by omega, by omega, fun D hD => ?_⟩
  refine lc_range (lo := 0) (n := (m : Int).toNat) (fun v H' => Same H H' ∧ ∃ ys, H' D = some (.lst ys) ∧ ys.length = v ∧ DqAll K H' ys (((List.range v).map fun (v : Nat) => n ++ [(v : Int)]).map conD)) ⟨Evl.Ex.new hD, [], upd_same, rfl, .nil⟩ (fun v H' hv p => ?_) (fun H' p => ?_)
  · obtain ⟨s2, ys, hys, hl, hd⟩ := p
    have e0 : (0 : Int) + (v : Int) = (v : Int) := Int.zero_add _
    rw [e0]
    refine ⟨rfl, to_yes ?_⟩
    have ec := ep_cat (K := K) (σ := [o0, o1, some (.ref pa), some (.ref ac), some (.int (v : Int))]) (H := H') (xs := n.map V.int) (ys := [.int (v : Int)]) (ep_of (Evl.ev_var (i := 3) rfl) (s2 _ _ hc)) (ep_new (Evl.eu_tup (Evl.ea_cons (Evl.ev_var (i := 4) rfl) Evl.ea_nil) (by show 1 ≤ 100000; decide))) (by rw [List.length_map]; show _ + 1 ≤ _; omega)
    refine ec H' (Evl.Ex.refl _) _ fun p H4 s4 hp4 => ⟨ys, s4 _ _ hys, by rw [sizeLine_eq]; omega, ?_, ys ++ [.ref p], upd_same, by rw [List.length_append, hl]; rfl, ?_⟩
    · intro a o ea
      rw [upd_ne (ne_of_none ea hD)]
      exact s4 _ _ (s2 _ _ ea)
    · have hkp := keep_lst (H := H4) (a := D) (xs := ys) (ys := ys ++ [.ref p]) (s4 _ _ hys)
      rw [List.range_succ, List.map_append, List.map_append]
      rw [map_snoc] at hp4
      exact dqAll_app (dqAll_keep hkp (dqAll_same s4 hd) (conD_tup _)) (.cons (.tup (hkp _ _ hp4) (dqAll_ints _)) .nil)
  · obtain ⟨s2, ys, hys, hl, hd⟩ := p
    have e3 : (m : Int).toNat = m := by omega
    rw [e3] at hd
    exact q D ys H' hD s2 hys hd
/-- [[..] for content in found] -/
theorem er_rows {H : Hp} {o0 o3 o4 : Option V} {pa l : Addr} {m : Nat} {pm : V} {zs : List V} {ns : List (List Int)} {Q : VK} (hp : H pa = some (.tup [.int (m : Int), pm])) (hl : H l = some (.lst zs)) (hd : DqAll K H zs (ns.map conD)) (m6 : m ≤ 6) (hn : ∀ n ∈ ns, n.length ≤ 10) (hz : ns.length ≤ 10000)
    (q : ∀ (D : Addr) (rs : List (Addr × List V)) (H' : Hp), H D = Option.none → Same H H' → RowsAt K H' D rs ((grow m ns).map conD) → Q (.ref D) H') :
    tLc (iList K (tVar 1)) (gName 3) tYes (tLc (iRng1 (tCons (tOp (rIxT K) (tVar 2) (tC (V.int 0))) tNil)) (gName 4) tYes (tOp (rCatA K) (tVar 3) (tTup (tCons (tVar 4) tNil))) [4]) [3] [o0, some (.ref l), some (.ref pa), o3, o4] H Q := by
  have lz := dqAll_len hd
  rw [List.length_map] at lz
  refine ⟨_, rfl, l, rfl, ⟨_, SqL.of hl⟩, fun D hD => ?_⟩
  refine lc_list (K := K) (a := l) (xs := zs) (fun i H' => Same H H' ∧ ∃ rs : List (Addr × List V), rs.length = i ∧ RowsAt K H' D rs ((grow m (ns.take i)).map conD)) ⟨Evl.Ex.new hD, [], rfl, ⟨upd_same, (fun _ hh => nomatch hh), DqAll.nil⟩⟩ (fun i H' _ p => SqL.of (p.1 _ _ hl)) (fun i x H' hx p => ?_) (fun H' p => ?_)
  · obtain ⟨s2, rs, hr, h1, h2, h3⟩ := p
    obtain ⟨dn, hdn, qn⟩ := dqAll_vat hd hx
    rw [List.getElem?_map] at hdn
    obtain ⟨n, hn', rfl⟩ : ∃ n, ns[i]? = some n ∧ conD n = dn := by
      cases z : ns[i]? with
      | none =>
        rw [z] at hdn
        cases hdn
      | some n =>
        rw [z] at hdn
        exact ⟨n, rfl, Option.some.inj hdn⟩
    obtain ⟨ac, rfl, hac⟩ := dq_con qn
    have hi := (List.getElem?_eq_some_iff.mp hn').1
    refine ⟨rfl, to_yes ?_⟩
    refine er_row (K := K) (o0 := o0) (o1 := some (.ref l)) (o4 := o4) (s2 _ _ hp) (s2 _ _ hac) m6 (hn n (List.mem_of_getElem? hn')) fun p ys H4 np s4 hys hds => ?_
    have npD : p ≠ D := ne_of_none h1 np |>.symm
    refine ⟨_, s4 _ _ h1, by rw [List.length_map, sizeLine_eq]; omega, ?_, rs ++ [(p, ys)], by rw [List.length_append, hr]; rfl, ?_, ?_, ?_⟩
    · intro a o ea
      rw [upd_ne (ne_of_none ea hD)]
      exact s4 _ _ (s2 _ _ ea)
    · rw [upd_same, List.map_append]
      rfl
    · intro r hr'
      rw [List.mem_append] at hr'
      rcases hr' with hr' | hr'
      · obtain ⟨r1, r2⟩ := h2 r hr'
        exact ⟨by rw [upd_ne r2]; exact s4 _ _ r1, r2⟩
      · rw [List.mem_singleton] at hr'
        subst hr'
        exact ⟨by rw [upd_ne npD]; exact hys, npD⟩
    · have hkp := keep_lst (H := H4) (a := D) (xs := rs.map fun r => V.ref r.1) (ys := (rs.map fun r => V.ref r.1) ++ [.ref p]) (s4 _ _ h1)
      have et : ns.take (i + 1) = ns.take i ++ [n] := by
        rw [List.take_add_one, hn']
        rfl
      have eg : grow m (ns.take i ++ [n]) = grow m (ns.take i) ++ (List.range m).map fun (v : Nat) => n ++ [(v : Int)] := by
        unfold grow
        rw [List.map_append, List.flatten_append]
        simp
      have e7 : ((rs ++ [(p, ys)]).map (·.2)).flatten = (rs.map (·.2)).flatten ++ ys := by simp
      rw [et, eg, e7, List.map_append]
      exact dqAll_app (dqAll_keep hkp (dqAll_same s4 h3) (conD_tup _)) (dqAll_keep hkp hds (conD_tup _))
  · obtain ⟨s2, rs, _, hR⟩ := p
    rw [lz, List.take_length] at hR
    exact q D rs H' hD s2 hR
theorem grow_len (m : Nat) : ∀ ns : List (List Int), (grow m ns).length = ns.length * m
  | [] => by simp [grow]
  | n :: ns => by
    have ih := grow_len m ns
    unfold grow at ih ⊢
    rw [List.map_cons, List.flatten_cons, List.length_append, ih, List.length_map, List.length_range, List.length_cons, Nat.succ_mul]
    omega
theorem mem_grow {m : Nat} {ns : List (List Int)} {x : List Int} (h : x ∈ grow m ns) : ∃ n ∈ ns, ∃ v : Nat, v < m ∧ x = n ++ [(v : Int)] := by
  unfold grow at h
  obtain ⟨l, hl, hx⟩ := List.mem_flatten.mp h
  obtain ⟨n, hn, rfl⟩ := List.mem_map.mp hl
  obtain ⟨v, hv, rfl⟩ := List.mem_map.mp hx
  exact ⟨n, hn, v, List.mem_range.mp hv, rfl⟩
/-- _law_contents(bench) -/
def spConts (K : PySem.W.Frag) : Sp := fun vs H Q _ => ∃ (a : Addr) (ps : List V) (pds : List PyData), vs = [.ref a] ∧ H a = some (.tup ps) ∧ DqAll K H ps pds ∧ (∀ p ∈ pds, placeOk p = true) ∧ pds.length ≤ 5 ∧
  ∀ (l : Addr) (zs : List V) (ns : List (List Int)) (H' : Hp), Same H H' → H l = Option.none → H' l = some (.lst zs) → DqAll K H' zs (ns.map conD) → ns ≠ [] → ns.length ≤ 7776 → (∀ n ∈ ns, contentOk pds (conD n) = true) → Q (.ref l) H'
theorem ok_conts (T : Txt K mg A) (G_law_flat : FnOk P w K mg base CX0 1 A.a_law_flat A.d_law_flat ["_law_rows"] spFlat) : FnOk P w K mg base CX0 2 A.a_law_contents A.d_law_contents ["_law_bench_here"] (spConts K) := by
  refine T._law_contents.F.ok sc__law_contents (fun vs H Q E h => ?_) (fun cdv A' outer s H vs Q E hr h => ?_)
  · obtain ⟨a, ps, pds, rfl, _⟩ := h
    rfl
  · obtain ⟨a, ps, pds, rfl, ha, hq, hok, h5, k⟩ := h
    refine ⟨_, (pss_cons (ps_set (i := 1) sc__law_contents.nd rfl (by first | exact Or.inl rfl | exact Or.inr rfl) (pe_lst (pa_cons (pe_tup pa_nil) pa_nil)))
      (pss_cons (ps_for PassesOwn.never rfl (kPiT K (pv 0)) (pg_name (i := 2) sc__law_contents.nd rfl (by first | exact Or.inl rfl | exact Or.inr rfl)) (pss_one (ps_set (i := 1) sc__law_contents.nd rfl (by first | exact Or.inl rfl | exact Or.inr rfl) (pe_call G_law_flat (hr.mono (by first | decide | omega)) rfl T._law_flat.g T._law_flat.F.kp T._law_flat.b .nil pass0 (pa_cons (pe_lc (own := [("_law_content", 3)]) rfl sc__law_contents.nd (kPiL K (pv 1)) (blkOk_by (N := ["_law_bench_here", "_law_found", "_law_place_here", "_law_content", "_law_value"]) (sc := defScope s_law_contents) (by decide +kernel)) (fun _ _ _ _ _ => (pg_name (i := 3) sc__law_contents.nd rfl (by first | exact Or.inl rfl | exact Or.inr rfl))) (fun _ _ _ _ _ => pts_nil) (fun _ _ _ _ _ => (pe_lc (own := [("_law_value", 4)]) rfl sc__law_contents.nd (pi_range1 rfl T.nb_range (pa_cons (pe_ix (kIxT K) (pv 2) pe_int (fun _ _ => rfl)) pa_nil)) (blkOk_by (by rfl)) (fun _ _ _ _ _ => (pg_name (i := 4) sc__law_contents.nd rfl (by first | exact Or.inl rfl | exact Or.inr rfl))) (fun _ _ _ _ _ => pts_nil) (fun _ _ _ _ _ => (pe_op (kCatA K) (pv 3) (pe_tup (pa_cons (pv 4) pa_nil))))))) pa_nil)))))
      (pss_one (ps_ret (pv 1))))), ?_⟩
    refine ⟨by show 0 ≤ sizeLine; decide, fun e0 ne0 => ⟨by show 1 ≤ sizeLine; decide, fun l nl => ?_⟩⟩
    have s0 := same_upd (o := .tup []) ne0
    have s1 := same_upd (o := .lst [V.ref e0]) nl
    have s01 := s0.trans s1
    have h0 : upd (upd H e0 (.tup [])) l (.lst [V.ref e0]) e0 = some (.tup []) := s1 _ _ upd_same
    have hll : upd (upd H e0 (.tup [])) l (.lst [V.ref e0]) l = some (.lst [V.ref e0]) := upd_same
    have nl0 : H l = Option.none := by
      cases z : H l with
      | none => rfl
      | some o =>
        rw [s0 _ _ z] at nl
        cases nl
    generalize upd (upd H e0 (.tup [])) l (.lst [V.ref e0]) = H1 at s01 h0 hll
    have lq := dqAll_len hq
    refine to_nm (σ' := [some (.ref a), some (.ref l), none, none, none]) rfl ?_
    refine ⟨_, rfl, a, rfl, ⟨_, SqT.of (s01 _ _ ha)⟩, for_tup (K := K) (a := a) (xs := ps) (fun i σ' H' => ∃ o2 o3 o4 l zs ns, σ' = [some (.ref a), some (.ref l), o2, o3, o4] ∧ Same H H' ∧ H l = Option.none ∧ H' l = some (.lst zs) ∧ DqAll K H' zs (ns.map conD) ∧ ns ≠ [] ∧ ns.length ≤ 6 ^ i ∧
        ∀ n ∈ ns, n.length = i ∧ ∀ j, j < i → 0 ≤ n.getD j 0 ∧ n.getD j 0 < mOf (pds.getD j .none))
      ⟨_, _, _, l, _, [[]], rfl, s01, nl0, hll, .cons (.tup h0 .nil) .nil, by simp, by decide, fun n hn => by
        rw [List.mem_singleton] at hn
        rw [hn]
        exact ⟨rfl, fun j hj => absurd hj (Nat.not_lt_zero _)⟩⟩ (fun i σ' H' _ ⟨_, _, _, _, _, _, _, s, _⟩ => SqT.of (s _ _ ha)) ?_ ?_⟩
    · rintro i x σ' H2 hx ⟨o2, o3, o4, l', zs, ns, rfl, s2, nl', hz, hd, hne, hln, hall⟩
      obtain ⟨p, hp, qp⟩ := dqAll_vat hq hx
      have hpo := hok p (List.mem_of_getElem? hp)
      obtain ⟨mi, em, m2, m6, _, _⟩ := place_prs hpo
      have ep : pds.getD i .none = p := by rw [List.getD_eq_getElem?_getD, hp]; rfl
      have emo : mOf (pds.getD i .none) = mi := by
        rw [ep, em]
        rfl
      rw [em] at qp
      obtain ⟨pa, pxs, rfl, p1, p2⟩ := dq_tup qp
      obtain ⟨px, pm, rfl, p3, _⟩ := dqAll_pr p2
      have epx := dq_int p3
      subst epx
      obtain ⟨m, rfl⟩ : ∃ m : Nat, mi = (m : Int) := ⟨mi.toNat, by omega⟩
      have hi5 : i < 5 := by
        have := (List.getElem?_eq_some_iff.mp hx).1
        omega
      have l6 : (6 : Nat) ^ i ≤ 1296 := by
        have : (6 : Nat) ^ i ≤ 6 ^ 4 := Nat.pow_le_pow_right (by decide) (by omega)
        have : (6 : Nat) ^ 4 = 1296 := by decide
        omega
      refine to_nm (σ' := [some (.ref a), some (.ref l'), some (.ref pa), o3, o4]) rfl ?_
      refine to_asg (to_call (to_cons (er_rows (K := K) (s2 _ _ p1) hz hd (by omega) (fun n hn => by have := (hall n hn).1; omega) (by omega) fun D rs H3 nD s3 hR => ?_)))
      have lg := grow_len m ns
      have lR := dqAll_len hR.dat
      rw [List.length_map, lg] at lR
      have lb : ns.length * m ≤ 6 ^ i * 6 := Nat.mul_le_mul hln (by omega)
      refine ⟨D, rs, rfl, hR.at_, fun r hr => (hR.row r hr).1, by omega, fun e H4 ne s4 he => ?_⟩
      refine to_nm (σ' := [some (.ref a), some (.ref e), some (.ref pa), o3, o4]) rfl ?_
      have s24 := (s2.trans s3).trans s4
      refine ⟨_, _, _, e, _, grow m ns, rfl, s24, ?_, he, dqAll_same s4 hR.dat, ?_, by rw [lg, Nat.pow_succ]; exact lb, fun y hy => ?_⟩
      · cases z : H e with
        | none => rfl
        | some o =>
          rw [(s2.trans s3) _ _ z] at ne
          cases ne
      · intro z
        rw [z] at lg
        have h1 : 0 < ns.length := List.length_pos_iff.mpr hne
        have h2 : 0 < ns.length * m := Nat.mul_pos h1 (by omega)
        rw [← lg] at h2
        exact absurd h2 (by decide)
      · obtain ⟨n, hn, v, hv, rfl⟩ := mem_grow hy
        obtain ⟨n1, n2⟩ := hall n hn
        refine ⟨by rw [List.length_append, n1]; rfl, fun j hj => ?_⟩
        by_cases e : j < i
        · have z : (n ++ [(v : Int)]).getD j 0 = n.getD j 0 := by
            rw [List.getD_eq_getElem?_getD, List.getD_eq_getElem?_getD, List.getElem?_append_left (by omega)]
          rw [z]
          exact n2 j e
        · have ej : j = i := by omega
          subst ej
          have z : (n ++ [(v : Int)]).getD j 0 = (v : Int) := by
            rw [List.getD_eq_getElem?_getD, List.getElem?_append_right (by omega), n1, Nat.sub_self]
            rfl
          rw [z, emo]
          omega
    · rintro σ' H' ⟨o2, o3, o4, l', zs, ns, rfl, s2, nl', hz, hd, hne, hln, hall⟩
      refine ⟨_, rfl, k l' zs ns H' s2 nl' hz hd hne ?_ fun n hn => ?_⟩
      · have : (6 : Nat) ^ ps.length ≤ 6 ^ 5 := Nat.pow_le_pow_right (by decide) (by omega)
        have : (6 : Nat) ^ 5 = 7776 := by decide
        omega
      · obtain ⟨h1, h2⟩ := hall n hn
        show (decide ((n.map PyData.int).length = pds.length) && (List.range pds.length).all fun i => isBelow (mOf (pds.getD i .none)) ((n.map PyData.int).getD i .none)) = true
        rw [decide_eq_true (by rw [List.length_map]; omega), Bool.true_and, List.all_eq_true]
        intro i hi
        have hi' := List.mem_range.mp hi
        obtain ⟨b1, b2⟩ := h2 i (by omega)
        have e : (n.map PyData.int).getD i .none = .int (n.getD i 0) := by
          have hl : i < n.length := by omega
          rw [List.getD_eq_getElem?_getD, List.getD_eq_getElem?_getD, List.getElem?_map, List.getElem?_eq_getElem hl]
          rfl
        rw [e]
        show (decide (0 ≤ n.getD i 0) && decide (n.getD i 0 < mOf (pds.getD i .none))) = true
        rw [decide_eq_true b1, decide_eq_true b2] <;> rfl
end
end K12

namespace K12
open PySem PySem.Spec PyProof.Rows L2 On
/-! ### what the law holds -/
def ConS (n : List Int) : Prop := n.length ≤ 5 ∧ ∀ x ∈ n, 0 ≤ x ∧ x < 6
theorem con_tup (n : List Int) : tup (conD n) = true := by
  have z := conD_tup [n]
  rw [tups_iff] at z
  exact z _ (by simp)
theorem con_part {n : List Int} (h : ConS n) : plainQ (conD n) = true ∧ (conD n).depth ≤ 2 ∧ wq (conD n) ≤ 60 := by
  refine ⟨?_, ?_, ?_⟩
  · show plainQ (.tuple (n.map .int)) = true
    rw [plainQ]
    refine plainQs_iff.mpr fun d hd => ?_
    obtain ⟨x, hx, rfl⟩ := List.mem_map.mp hd
    obtain ⟨h1, h2⟩ := h.2 x hx
    rw [plainQ]
    exact decide_eq_true (Nat.lt_trans (show x.natAbs < 10 by omega) (by decide))
  · show (PyData.tuple (n.map .int)).depth ≤ 2
    rw [PyData.depth]
    have := depthAll_le (xs := n.map PyData.int) (B := 1) fun d hd => by
      obtain ⟨x, hx, rfl⟩ := List.mem_map.mp hd
      simp [PyData.depth]
    omega
  · show wq (.tuple (n.map .int)) ≤ 60
    rw [wq]
    have e := wqs_le (xs := n.map PyData.int) (B := 8) fun d hd => by
      obtain ⟨x, hx, rfl⟩ := List.mem_map.mp hd
      obtain ⟨h1, h2⟩ := h.2 x hx
      exact Nat.le_of_eq (wq_small (by omega))
    rw [List.length_map] at e
    have := h.1
    omega
theorem con_partD {n : List Int} (h : ConS n) : PartD (conD n) := by
  obtain ⟨h1, h2, h3⟩ := con_part h
  exact ⟨h1, by omega, by omega⟩
theorem con_small {n : List Int} (h : ConS n) : SmallD (conD n) := by
  obtain ⟨h1, h2, h3⟩ := con_part h
  exact ⟨h1, by omega, by omega⟩
/-- a pair of contents, or one -/
structure PairS (d : PyData) : Prop where
  sm : SmallD d
  tp : tup d = true
theorem pair_s {n m : List Int} (h1 : ConS n) (h2 : ConS m) : PairS (.tuple [conD n, conD m]) := by
  obtain ⟨a1, a2, a3⟩ := con_part h1
  obtain ⟨b1, b2, b3⟩ := con_part h2
  refine ⟨⟨?_, ?_, ?_⟩, ?_⟩
  · rw [plainQ, plainQs, plainQs, plainQs, a1, b1] <;> rfl
  · simp only [PyData.depth, PyData.depthAll]
    omega
  · rw [wq, wqs, wqs, wqs]
    omega
  · simp [tup, tups, con_tup]
theorem one_s {n : List Int} (h : ConS n) : PairS (conD n) := ⟨con_small h, con_tup n⟩
/-- contents of a bench are small -/
theorem con_of {pds : List PyData} {n : List Int} (hp : ∀ p ∈ pds, placeOk p = true) (h5 : pds.length ≤ 5) (h : contentOk pds (conD n) = true) : ConS n ∧ n.length = pds.length := by
  have h' : (decide ((n.map PyData.int).length = pds.length) && (List.range pds.length).all fun i => isBelow (mOf (pds.getD i .none)) ((n.map PyData.int).getD i .none)) = true := h
  rw [Bool.and_eq_true, decide_eq_true_eq, List.length_map, List.all_eq_true] at h'
  obtain ⟨h1, h2⟩ := h'
  refine ⟨⟨by omega, fun x hx => ?_⟩, h1⟩
  obtain ⟨i, hi, rfl⟩ := List.mem_iff_getElem.mp hx
  have z := h2 i (List.mem_range.mpr (by omega))
  have e : (n.map PyData.int).getD i .none = .int n[i] := by
    rw [List.getD_eq_getElem?_getD, List.getElem?_map, List.getElem?_eq_getElem hi] <;> rfl
  have hip : i < pds.length := by omega
  obtain ⟨m, em, m2, m6, _⟩ := place_prs (hp (pds.getD i .none) (by
    rw [List.getD_eq_getElem?_getD, List.getElem?_eq_getElem hip]
    exact List.getElem_mem hip))
  rw [e, em] at z
  have z' : (decide (0 ≤ n[i]) && decide (n[i] < m)) = true := z
  simp only [Bool.and_eq_true, decide_eq_true_eq] at z'
  omega
theorem outs_con {pds : List PyData} {cv n : List Int} (hp : ∀ p ∈ pds, placeOk p = true) (hl : cv.length = pds.length) (h : ConS cv) (hn : n ∈ outs pds cv) : ConS n ∧ n.length = cv.length := by
  unfold outs at hn
  obtain ⟨l, hl1, hl2⟩ := List.mem_flatten.mp hn
  obtain ⟨k, hk, rfl⟩ := List.mem_map.mp hl1
  obtain ⟨q, hq, rfl⟩ := List.mem_map.mp hl2
  have hk' : k < pds.length := by
    have := List.mem_range.mp hk
    omega
  obtain ⟨m, em, m2, m6, hb, _⟩ := place_prs (hp (pds.getD k .none) (by
    rw [List.getD_eq_getElem?_getD, List.getElem?_eq_getElem hk']
    exact List.getElem_mem hk'))
  have b := hb q ((List.mem_filter.mp hq).1)
  refine ⟨⟨by rw [List.length_set]; exact h.1, fun x hx => ?_⟩, List.length_set⟩
  rcases List.mem_or_eq_of_mem_set hx with h' | rfl
  · exact h.2 x h'
  · omega
theorem pl_of {p : PyData} (h : placeOk p = true) : plOk p = true := by
  obtain ⟨m, em, _⟩ := place_prs h
  rw [em]
  show ((prs p).map On.pairD).all isPair = true
  rw [List.all_map]
  exact List.all_eq_true.mpr fun _ _ => rfl
theorem tupAll_offs {K : PySem.W.Frag} {H : Hp} {L : List Addr} (hL : ∀ a ∈ L, ∃ xs, H a = some (.lst xs)) : ∀ {vs : List V} {ds : List PyData}, DqAll K H vs ds → (∀ d ∈ ds, tup d = true) → DqAll K (offs L H) vs ds
  | _, _, .nil, _ => .nil
  | _, _, .cons h t, ht => .cons (tup_offs hL h (ht _ List.mem_cons_self)) (tupAll_offs hL t fun d hd => ht d (List.mem_cons_of_mem _ hd))
def Has (K : PySem.W.Frag) (L : List Addr) (H : Hp) (o : Addr × (PyData → Prop) × Nat) : Prop := ∃ xs ds, H o.1 = some (.lst xs) ∧ DqAll K (offs L H) xs ds ∧ (∀ d ∈ ds, o.2.1 d) ∧ ds.length ≤ o.2.2
structure W2 (K : PySem.W.Frag) (b c lc : Addr) (v1 v2 vo : V) (p1 p2 : List PyData) (n : List Int) (zs : List V) (ns : List (List Int)) (L : List Addr) (os : List (Addr × (PyData → Prop) × Nat)) (H : Hp) : Prop where
  bag : Bag H b c
  inL : b ∈ L
  lst : ∀ a ∈ L, ∃ xs, H a = some (.lst xs)
  d1 : Dq K (offs L H) v1 (.tuple p1)
  d2 : Dq K (offs L H) v2 (.tuple p2)
  d0 : Dq K (offs L H) vo (conD n)
  lcL : lc ∉ L
  lcA : H lc = some (.lst zs)
  lcD : DqAll K (offs L H) zs (ns.map conD)
  os : ∀ o ∈ os, (o.1 ∈ L ∧ o.1 ≠ b ∧ o.1 ≠ c) ∧ Has K L H o
section
variable {K : PySem.W.Frag} {b c lc : Addr} {v1 v2 vo : V} {p1 p2 : List PyData} {n : List Int} {zs : List V} {ns : List (List Int)} {L : List Addr} {os : List (Addr × (PyData → Prop) × Nat)} {H H' : Hp} {σ : L2.St} {te : TE} {ta : TA} {P : PyData → Prop}
theorem W2.liv (h : W2 K b c lc v1 v2 vo p1 p2 n zs ns L os H) : Live L H := fun a ha z => by
  obtain ⟨xs, e⟩ := h.lst a ha
  rw [z] at e
  cases e
theorem W2.lx (h : W2 K b c lc v1 v2 vo p1 p2 n zs ns L os H) : LiveX L H := ⟨h.liv, h.bag.sys⟩
theorem bag_lst (B : Bag H b c) : ∃ xs, H b = some (.lst xs) := by
  obtain ⟨⟨_, _, _, _, h1, _⟩, _⟩ := B
  exact ⟨_, h1⟩
theorem W2.go (h : W2 K b c lc v1 v2 vo p1 p2 n zs ns L os H) (B : Bag H' b c) (k : But b H H') : W2 K b c lc v1 v2 vo p1 p2 n zs ns L os H' where
  bag := B
  inL := h.inL
  lst := fun a ha => by
    by_cases z : a = b
    · rw [z]
      exact bag_lst B
    · obtain ⟨xs, e⟩ := h.lst a ha
      exact ⟨xs, k _ _ z e⟩
  d1 := dq_same (offs_but h.inL k) h.d1
  d2 := dq_same (offs_but h.inL k) h.d2
  d0 := dq_same (offs_but h.inL k) h.d0
  lcL := h.lcL
  lcA := k _ _ (fun z => h.lcL (z ▸ h.inL)) h.lcA
  lcD := dqAll_same (offs_but h.inL k) h.lcD
  os := fun o ho => by
    obtain ⟨q, xs, ds, e, d, p, l⟩ := h.os o ho
    exact ⟨q, xs, ds, k _ _ q.2.1 e, dqAll_same (offs_but h.inL k) d, p, l⟩
theorem W2.same (h : W2 K b c lc v1 v2 vo p1 p2 n zs ns L os H) (k : Same H H') : W2 K b c lc v1 v2 vo p1 p2 n zs ns L os H' := h.go (h.bag.same k) (But.of_same k)
/-- one list more -/
theorem W2.add (h : W2 K b c lc v1 v2 vo p1 p2 n zs ns L os H) {r : Addr} {xs : List V} {ds : List PyData} {m : Nat} (nr : H r = Option.none) (hd : DqAll K (offs L H) xs ds) (hp : ∀ d ∈ ds, P d) (hl : ds.length ≤ m) : W2 K b c lc v1 v2 vo p1 p2 n zs ns (r :: L) ((r, P, m) :: os) (upd H r (.lst xs)) where
  bag := h.bag.same (same_upd nr)
  inL := List.mem_cons_of_mem _ h.inL
  lst := fun a ha => by
    by_cases z : a = r
    · rw [z, upd_same]
      exact ⟨_, rfl⟩
    · rw [upd_ne z]
      exact h.lst a ((List.mem_cons.mp ha).resolve_left z)
  d1 := dq_same (offs_add nr) h.d1
  d2 := dq_same (offs_add nr) h.d2
  d0 := dq_same (offs_add nr) h.d0
  lcL := fun z => (List.mem_cons.mp z).elim (fun z => by
    have e := h.lcA
    rw [z, nr] at e
    cases e) h.lcL
  lcA := same_upd nr _ _ h.lcA
  lcD := dqAll_same (offs_add nr) h.lcD
  os := fun o ho => by
    rcases List.mem_cons.mp ho with rfl | ho
    · exact ⟨⟨List.mem_cons_self, h.bag.ne_new nr, h.bag.ne_cells nr⟩, xs, ds, upd_same, dqAll_same (offs_add nr) hd, hp, hl⟩
    · obtain ⟨q, xs, ds, e, d, p, l⟩ := h.os o ho
      exact ⟨⟨List.mem_cons_of_mem _ q.1, q.2⟩, xs, ds, same_upd nr _ _ e, dqAll_same (offs_add nr) d, p, l⟩
/-- a list of one's own that grows -/
theorem W2.put {r : Addr} {m k : Nat} {ys : List V} {es : List PyData} (h : W2 K b c lc v1 v2 vo p1 p2 n zs ns L ((r, P, m) :: os) H) (nd : ∀ o ∈ os, o.1 ≠ r) (hd : DqAll K (offs L H) ys es) (hp : ∀ d ∈ es, P d) (hl : es.length ≤ k) :
    ∃ xs, H r = some (.lst xs) ∧ xs.length ≤ m ∧ W2 K b c lc v1 v2 vo p1 p2 n zs ns L ((r, P, m + k) :: os) (upd H r (.lst (xs ++ ys))) := by
  obtain ⟨q, xs, ds, e, d, p, l⟩ := h.os _ List.mem_cons_self
  have oput : Same (offs L H) (offs L (upd H r (.lst (xs ++ ys)))) := offs_put q.1
  refine ⟨xs, e, by rw [dqAll_len d]; exact l, h.bag.upd q.2.1 q.2.2 e, h.inL, fun a ha => ?_, dq_same oput h.d1, dq_same oput h.d2, dq_same oput h.d0, h.lcL, ?_, dqAll_same oput h.lcD, fun o ho => ?_⟩
  · by_cases z : a = r
    · rw [z, upd_same]
      exact ⟨_, rfl⟩
    · rw [upd_ne z]
      exact h.lst a ha
  · have n1 : lc ≠ r := fun z => h.lcL (by rw [z]; exact q.1)
    rw [upd_ne n1]
    exact h.lcA
  · rcases List.mem_cons.mp ho with rfl | ho
    · refine ⟨q, _, ds ++ es, upd_same, dqAll_same oput (dqAll_app d hd), fun x hx => (List.mem_append.mp hx).elim (p x) (hp x), ?_⟩
      rw [List.length_append]
      exact Nat.add_le_add l hl
    · obtain ⟨q', xs', ds', e', d', p', l'⟩ := h.os o (List.mem_cons_of_mem _ ho)
      exact ⟨q', xs', ds', by rw [upd_ne (nd o ho)]; exact e', dqAll_same oput d', p', l'⟩
/-- .. that is let go -/
theorem W2.drop {r : Addr} {o : Addr × (PyData → Prop) × Nat} (h : W2 K b c lc v1 v2 vo p1 p2 n zs ns (r :: L) (o :: os) H) (hb : b ∈ L) (ho : ∀ o ∈ os, o.1 ∈ L) : W2 K b c lc v1 v2 vo p1 p2 n zs ns L os H where
  bag := h.bag
  inL := hb
  lst := fun a ha => h.lst a (List.mem_cons_of_mem _ ha)
  d1 := dq_same offs_cons h.d1
  d2 := dq_same offs_cons h.d2
  d0 := dq_same offs_cons h.d0
  lcL := fun z => h.lcL (List.mem_cons_of_mem _ z)
  lcA := h.lcA
  lcD := dqAll_same offs_cons h.lcD
  os := fun x hx => by
    obtain ⟨q, xs, ds, e, d, p, l⟩ := h.os x (List.mem_cons_of_mem _ hx)
    exact ⟨⟨ho x hx, q.2⟩, xs, ds, e, dqAll_same offs_cons d, p, l⟩
def EvX (K : PySem.W.Frag) (b c lc : Addr) (v1 v2 vo : V) (p1 p2 : List PyData) (n : List Int) (zs : List V) (ns : List (List Int)) (L : List Addr) (os : List (Addr × (PyData → Prop) × Nat)) (te : TE) (σ : L2.St) (P : PyData → Prop) : Prop :=
  ∀ H, W2 K b c lc v1 v2 vo p1 p2 n zs ns L os H → ∀ Q : VK, (∀ v d H1, P d → W2 K b c lc v1 v2 vo p1 p2 n zs ns L os H1 → But b H H1 → Dq K (offs L H1) v d → Q v H1) → te σ H Q
def EvXA (K : PySem.W.Frag) (b c lc : Addr) (v1 v2 vo : V) (p1 p2 : List PyData) (n : List Int) (zs : List V) (ns : List (List Int)) (L : List Addr) (os : List (Addr × (PyData → Prop) × Nat)) (P : PyData → Prop) (ta : TA) (σ : L2.St) (k : Nat) : Prop :=
  ∀ H, W2 K b c lc v1 v2 vo p1 p2 n zs ns L os H → ∀ Q : List V → Hp → Prop, (∀ xs ds H1, ds.length = k → (∀ d ∈ ds, P d) → W2 K b c lc v1 v2 vo p1 p2 n zs ns L os H1 → But b H H1 → DqAll K (offs L H1) xs ds → Q xs H1) → ta σ H Q
theorem ex_q {d : PyData} (h : EvQ K L te σ d) (p : P d) : EvX K b c lc v1 v2 vo p1 p2 n zs ns L os te σ P := fun H W Q q =>
  h H W.lx Q fun v H1 s1 hv => q v d H1 p (W.same s1) (But.of_same s1) hv
theorem ex_one {i : Nat} (e : σ[i]? = some (some vo)) (p : P (conD n)) : EvX K b c lc v1 v2 vo p1 p2 n zs ns L os (tVar i) σ P := fun H W Q q =>
  ⟨vo, e, q vo _ H p W (But.refl _ _) W.d0⟩
theorem ex_odd (e : σ[1]? = some (some (.ref b))) (p : ∀ d, OddD d → P d) : EvX K b c lc v1 v2 vo p1 p2 n zs ns L os (tCall (spOdd K) [] E0 (tCons (tVar 1) tNil)) σ P := fun H W Q q =>
  ⟨_, e, b, c, L, rfl, W.bag, W.inL, W.liv, fun d v H' ho B' k' hv => q v d H' (p d ho) (W.go B' k') k' hv⟩
theorem exa_nil : EvXA K b c lc v1 v2 vo p1 p2 n zs ns L os P tNil σ 0 := fun H W Q q => q [] [] H rfl (fun _ h => nomatch h) W (But.refl _ _) .nil
theorem exa_cons {k : Nat} (h : EvX K b c lc v1 v2 vo p1 p2 n zs ns L os te σ P) (h2 : EvXA K b c lc v1 v2 vo p1 p2 n zs ns L os P ta σ k) : EvXA K b c lc v1 v2 vo p1 p2 n zs ns L os P (tCons te ta) σ (k + 1) := fun H W Q q =>
  h H W _ fun v d H1 p W1 k1 hv => h2 H1 W1 _ fun xs ds H2 hn hp W2 k2 hx => q (v :: xs) (d :: ds) H2 (by rw [List.length_cons, hn]) (fun x hx => by
    rcases List.mem_cons.mp hx with rfl | h
    · exact p
    · exact hp x h) W2 (k1.trans k2) (.cons (dq_same (offs_but W.inL k2) hv) hx)
/-- a list of things drawn, one for each turn of a range -/
theorem lc_own {cnt : Int} (h1 : 0 ≤ cnt) (h2 : cnt ≤ 1000) (W : W2 K b c lc v1 v2 vo p1 p2 n zs ns L os H) {Q : VK}
    (hte : ∀ (D : Addr) (i : Nat) (x : Int), (∀ o ∈ os, o.1 ≠ D) → EvX K b c lc v1 v2 vo p1 p2 n zs ns (D :: L) ((D, P, i) :: os) te ((wipe σ [17]).set 17 (some (.int x))) P)
    (q : ∀ D H', (∀ o ∈ os, o.1 ≠ D) → W2 K b c lc v1 v2 vo p1 p2 n zs ns (D :: L) ((D, P, cnt.toNat) :: os) H' → Q (.ref D) H') :
    tLc (iRng1 (tCons (tC (.int cnt)) tNil)) (gName 17) tYes te [17] σ H Q := by
  refine ⟨cnt, rfl, by omega, by omega, fun D nD => ?_⟩
  have nd : ∀ o ∈ os, o.1 ≠ D := fun o ho z => by
    obtain ⟨_, xs, _, e, _⟩ := W.os o ho
    rw [z, nD] at e
    cases e
  refine lc_range (lo := 0) (n := cnt.toNat) (fun i H' => W2 K b c lc v1 v2 vo p1 p2 n zs ns (D :: L) ((D, P, i) :: os) H') (W.add nD .nil (fun _ h => nomatch h) (Nat.le_refl _)) (fun i H' hi p => ?_) (fun H' p => q D H' nd p)
  refine ⟨by simp [wipe], yes_go ?_⟩
  refine hte D i (0 + (i : Int)) nd H' p _ fun v d H1 pd W1 k1 hv => ?_
  obtain ⟨xs, e, l, W2'⟩ := W1.put (k := 1) nd (.cons hv .nil) (fun x hx => by
    rw [List.mem_singleton] at hx
    rw [hx]
    exact pd) (by simp)
  exact ⟨xs, e, by rw [sizeLine_eq]; omega, W2'⟩
/-- l.extend(the list drawn) -/
theorem W2.ext {r D : Addr} {m k : Nat} (h : W2 K b c lc v1 v2 vo p1 p2 n zs ns (D :: L) ((D, P, k) :: (r, P, m) :: os) H) (hb : b ∈ L) (hr : r ∈ L) (ho : ∀ o ∈ os, o.1 ∈ L) (nd : ∀ o ∈ os, o.1 ≠ r) (nD : r ≠ D) (nDo : ∀ o ∈ os, o.1 ≠ D) :
    ∃ xs ys, H r = some (.lst xs) ∧ H D = some (.lst ys) ∧ xs.length ≤ m ∧ ys.length ≤ k ∧ W2 K b c lc v1 v2 vo p1 p2 n zs ns L ((r, P, m + k) :: os) (upd H r (.lst (xs ++ ys))) := by
  obtain ⟨q, ys, es, e, d, p, l⟩ := h.os _ List.mem_cons_self
  have h' := h.drop hb (fun o ho' => by
    rcases List.mem_cons.mp ho' with rfl | z
    · exact hr
    · exact ho o z)
  obtain ⟨xs, e2, l2, W⟩ := h'.put (k := k) nd (dqAll_same offs_cons d) p l
  exact ⟨xs, ys, e2, e, l2, by rw [dqAll_len d]; exact l, W⟩
end
end K12

namespace K12
open PySem PySem.Spec PyProof.Rows L2 On
/-- .. where the heap holds sys.modules -/
def spBs (K : PySem.W.Frag) (n : Nat) (f : List PyData → Option Bool) : Sp := fun vs H Q E => Sys H ∧ spB K n f vs H Q E
theorem spv_Bs {K : PySem.W.Frag} {n : Nat} {f : List PyData → Option Bool} {vs : List V} {H : Hp} {ds : List PyData} {r : Bool} (hs : Sys H) (h : DqAll K H vs ds) (hl : vs.length = n) (e : f ds = some r) : Evl.SpV (spBs K n f) vs H (.bl r) := fun H1 e1 Q q E =>
  ⟨by
    obtain ⟨φ, h⟩ := hs
    exact ⟨φ, e1 _ _ h⟩, spv_B h hl e H1 e1 Q q E⟩
theorem kPgL {X : Cx} (K : PySem.W.Frag) {es : List Expr} {k : Nat} {t : TGs} {n : Nat} {pos : Pos} (hp : PGs X es t) (hc : X.calm = true := by rfl) (h : X.K = K := by rfl)
    (hn : (assignEach es X.env).length = n := by rfl) (hst : (assignEach es X.env).findIdx? (·.1) = none := by rfl) : PG X (.Tuple es k pos) (gLst K n t) := h ▸ pg_lst hc hp hn hst
section
variable {K : PySem.W.Frag} {b c lc : Addr} {v1 v2 vo : V} {p1 p2 : List PyData} {n : List Int} {zs : List V} {ns : List (List Int)} {L : List Addr} {os : List (Addr × (PyData → Prop) × Nat)} {H H' : Hp} {σ : L2.St} {te : TE} {ta : TA} {P : PyData → Prop}
theorem all_int : ∀ {xs : List V} {n : List Int}, DqAll K H xs (n.map PyData.int) → xs = n.map V.int
  | _, [], .nil => rfl
  | _, _ :: _, .cons (.int _) t => by rw [all_int t] <;> rfl
/-- the pairs of a content and the contents that a step leads to -/
theorem lc_steps {cut : Int} {Q : VK} (e11 : σ[11]? = some (some v1)) (e5 : σ[5]? = some (some vo)) (d1 : Dq K H v1 (.tuple p1)) (d0 : Dq K H vo (conD n)) (hok : ∀ p ∈ p1, placeOk p = true) (hne : p1 ≠ []) (h5 : p1.length ≤ 5) (hn : n.length = p1.length) (hc : ConS n)
    (hte : ∀ x m H1, ConS m → Dq K H1 x (conD m) → Dq K H1 vo (conD n) → ∀ Q : VK, (∀ v d H2, Same H1 H2 → Dq K H2 v d → PairS d → Q v H2) → te ((wipe σ [10]).set 10 (some x)) H1 Q)
    (q : ∀ D xs ds H2, Same H H2 → H2 D = some (.lst xs) → DqAll K H2 xs ds → (∀ d ∈ ds, PairS d) → ds.length ≤ 30 → Q (.ref D) H2) :
    tLc (iList K (tSl (rSlL K) (tCall (spFrom K) [] E0 (tCons (tVar 11) (tCons (tVar 5) tNil))) tNoPart (tPart (tC (.int cut))))) (gName 10) tYes te [10] σ H Q := by
  obtain ⟨a, ps, rfl, ha, hps⟩ := dq_tup d1
  obtain ⟨ac, xs0, rfl, hac, hxs⟩ := dq_tup (show Dq K H vo (.tuple (n.map PyData.int)) from d0)
  obtain rfl := all_int hxs
  refine ⟨_, e11, _, e5, a, ac, ps, p1, n, rfl, ha, hps, hok, hne, h5, hac, hn, hc.2, fun l zs ns H1 s1 hz nl perm dz => ?_⟩
  refine ⟨cut, rfl, l, zs, rfl, SqL.of hz, fun p np => ⟨p, rfl, ⟨_, SqL.of upd_same⟩, fun D nD => ?_⟩⟩
  have s2 := same_upd (o := .lst (cutV zs none (some cut))) np
  have hcs := cut_sub zs none (some cut)
  have hzl : (cutV zs none (some cut)).length ≤ 30 := by
    have l1 := hcs.length_le
    have l2 := dqAll_len dz
    rw [List.length_map] at l2
    have l3 := perm.length_eq
    have l4 := outs_len hok hn
    omega
  refine lc_list (K := K) (a := p) (xs := cutV zs none (some cut)) (fun i H' => ∃ ys ds, Same (upd H1 p (.lst (cutV zs none (some cut)))) H' ∧ H' D = some (.lst ys) ∧ DqAll K (offs [D] H') ys ds ∧ (∀ d ∈ ds, PairS d) ∧ ds.length ≤ i)
    ⟨[], [], same_upd nD, upd_same, .nil, (fun _ h => nomatch h), Nat.le_refl _⟩ (fun i H' _ ⟨_, _, s, _⟩ => SqL.of (s _ _ upd_same)) (fun i x H' hx ⟨ys, ds, s, hD, dd, pp, hl⟩ => ?_) (fun H' ⟨ys, ds, s, hD, dd, pp, hl⟩ => ?_)
  · refine ⟨by simp [wipe], yes_go ?_⟩
    have hxz : x ∈ zs := hcs.subset (List.mem_of_getElem? hx)
    have hi := (List.getElem?_eq_some_iff.mp hx).1
    obtain ⟨j, hj⟩ := List.getElem?_of_mem hxz
    obtain ⟨d, hd, qd⟩ := dqAll_vat dz hj
    obtain ⟨m, hm, rfl⟩ := List.mem_map.mp (List.mem_of_getElem? hd)
    obtain ⟨cm, _⟩ := outs_con hok hn hc (perm.mem_iff.mp hm)
    have s13 := (s1.trans s2).trans s
    refine hte x m H' cm (dq_same (s2.trans s) qd) (dq_same s13 d0) _ fun v d H3 s3 dv pv => ?_
    refine ⟨ys, s3 _ _ hD, by rw [dqAll_len dd, sizeLine_eq]; omega, ys ++ [v], ds ++ [d], fun c o ec => ?_, upd_same, ?_, fun y hy => ?_, by rw [List.length_append, List.length_singleton]; omega⟩
    · rw [upd_ne (ne_of_none ec nD)]
      exact s3 _ _ (s _ _ ec)
    · refine dqAll_same (offs_put (by simp)) (dqAll_app (dqAll_same (offs_same s3) dd) (.cons (tup_offs (fun a ha => ?_) dv pv.tp) .nil))
      rw [List.mem_singleton] at ha
      rw [ha]
      exact ⟨_, s3 _ _ hD⟩
    · rcases List.mem_append.mp hy with h | h
      · exact pp y h
      · rw [List.mem_singleton] at h
        rw [h]
        exact pv
  · exact q D ys ds H' ((s1.trans s2).trans s) hD (dqAll_same offs_sub dd) pp (by omega)
/-- a content of the bench, drawn -/
theorem W2.pick (W : W2 K b c lc v1 v2 vo p1 p2 n zs ns L os H) {v : V} (h : v ∈ zs) : ∃ m ∈ ns, Dq K (offs L H) v (conD m) := by
  obtain ⟨j, hj⟩ := List.getElem?_of_mem h
  obtain ⟨d, hd, qd⟩ := dqAll_vat W.lcD hj
  obtain ⟨m, hm, rfl⟩ := List.mem_map.mp (List.mem_of_getElem? hd)
  exact ⟨m, hm, qd⟩
theorem W2.lcb (W : W2 K b c lc v1 v2 vo p1 p2 n zs ns L os H) : lc ≠ b := fun z => W.lcL (by rw [z]; exact W.inL)
theorem show_one {m : List Int} (h : ConS m) : Show (conD m) := (con_small h).shw
theorem int_part {x : Int} (h : 0 ≤ x ∧ x < 6) : PartD (.int x) := by
  refine ⟨?_, ?_, ?_⟩
  · rw [plainQ]
    exact decide_eq_true (Nat.lt_trans (show x.natAbs < 10 by omega) (by decide))
  · simp [PyData.depth]
  · rw [wq_small (by omega)]
    omega
theorem show_ints {m : List Int} (t : Bool) (h : ∀ x ∈ m, 0 ≤ x ∧ x < 6) (h2 : m.length ≤ 20) : Show (mk t (m.map PyData.int)) := show_mk (fun d hd => by
  obtain ⟨x, hx, rfl⟩ := List.mem_map.mp hd
  exact int_part (h x hx)) (by rw [List.length_map]; exact h2)
theorem ex_list (hc : ConS n) (e : σ[5]? = some (some vo)) : EvX K b c lc v1 v2 vo p1 p2 n zs ns L os (tCB (rListOf K) (tCons (tVar 5) tNil)) σ Show := fun H W Q q => by
  obtain ⟨a, xs, rfl, ha, hx⟩ := dq_tup (show Dq K (offs L H) vo (.tuple (n.map PyData.int)) from W.d0)
  refine ⟨_, e, a, xs, rfl, .inr (SqT.of (offs_sub _ _ ha)), fun l nl => ?_⟩
  have s := same_upd (o := .lst xs) nl
  exact q (.ref l) (mk false (n.map PyData.int)) _ (show_ints false hc.2 (by have := hc.1; omega)) (W.same s) (But.of_same s) (.lst (offs_new (W.liv.new nl)) (W.bag.ne_sys nl) (dqAll_same (offs_same s) hx))
theorem ex_cat0 (hc : ConS n) (hn : n ≠ []) (e : σ[5]? = some (some vo)) : EvX K b c lc v1 v2 vo p1 p2 n zs ns L os (tOp (rCatA K) (tVar 5) (tTup (tCons (tC (.int 0)) tNil))) σ Show := fun H W Q q => by
  obtain ⟨a, xs, rfl, ha, hx⟩ := dq_tup (show Dq K (offs L H) vo (.tuple (n.map PyData.int)) from W.d0)
  have lx := dqAll_len hx
  rw [List.length_map] at lx
  have h5 := hc.1
  refine ⟨_, e, by show 1 ≤ sizeLine; decide, fun t nt => ?_⟩
  have s := same_upd (o := .tup [.int 0]) nt
  refine ⟨a, t, xs, [.int 0], rfl, rfl, SqT.of (s _ _ (offs_sub _ _ ha)), SqT.of upd_same, by rw [sizeLine_eq, List.length_singleton]; omega, fun z => ?_, fun _ z => by simp at z, fun _ _ p np => ?_⟩
  · rw [z] at lx
    exact absurd (List.length_eq_zero_iff.mp lx.symm) hn
  · have s2 := same_upd (o := .tup (xs ++ [.int 0])) np
    have W1 := W.same s
    have e1 : (n ++ [0]).map PyData.int = n.map PyData.int ++ [.int 0] := by rw [List.map_append] <;> rfl
    refine q (.ref p) (mk true ((n ++ [0]).map PyData.int)) _ (show_ints true (fun x hx => ?_) (by rw [List.length_append, List.length_singleton]; omega)) (W1.same s2) ((But.of_same s).trans (But.of_same s2)) (.tup (offs_new (W1.liv.new np)) ?_)
    · rcases List.mem_append.mp hx with h | h
      · exact hc.2 x h
      · rw [List.mem_singleton] at h
        omega
    · rw [e1]
      exact dqAll_app (dqAll_same (offs_same (s.trans s2)) hx) (.cons (.int _) .nil)
theorem ex_two (hc : ConS n) (e : σ[5]? = some (some vo)) : EvX K b c lc v1 v2 vo p1 p2 n zs ns L os (tTup (tCons (tVar 5) (tCons (tVar 5) tNil))) σ Show := fun H W Q q => by
  refine ⟨_, e, _, e, by show 2 ≤ sizeLine; decide, fun t nt => ?_⟩
  have s := same_upd (o := .tup [vo, vo]) nt
  have dn := dq_same (offs_same s) W.d0
  exact q (.ref t) (.tuple [conD n, conD n]) _ (pair_s hc hc).sm.shw (W.same s) (But.of_same s) (.tup (offs_new (W.liv.new nt)) (.cons dn (.cons dn .nil)))
theorem ex_drawn (hc : ConS n) (hns : ∀ m ∈ ns, ConS m) (hl : ns ≠ []) (hl2 : ns.length ≤ 7776) (e : σ[5]? = some (some vo)) (e1 : σ[1]? = some (some (.ref b))) (e4 : σ[4]? = some (some (.ref lc))) :
    EvX K b c lc v1 v2 vo p1 p2 n zs ns L os (tTup (tCons (tVar 5) (tCons (tCall (spSome K) [] E0 (tCons (tVar 1) (tCons (tVar 4) tNil))) tNil))) σ PairS := fun H W Q q => by
  have lz := dqAll_len W.lcD
  rw [List.length_map] at lz
  have l0 := List.length_pos_iff.mpr hl
  refine ⟨_, e, _, e1, _, e4, b, c, lc, zs, rfl, W.bag, W.lcA, W.lcb, by omega, by omega, fun v H1 hv B k => ⟨by show 2 ≤ sizeLine; decide, fun t nt => ?_⟩⟩
  have W1 := W.go B k
  obtain ⟨m, hm, dm⟩ := W1.pick hv
  have s := same_upd (o := .tup [vo, v]) nt
  exact q (.ref t) (.tuple [conD n, conD m]) _ (pair_s hc (hns m hm)) (W1.same s) (k.trans (But.of_same s)) (.tup (offs_new (W1.liv.new nt)) (.cons (dq_same (offs_same s) W1.d0) (.cons (dq_same (offs_same s) dm) .nil)))
/-- a thing out of [one] + pairs, bent -/
theorem ex_bent {lt lp D : Addr} {i k j : Nat} (hc : ConS n) (hj : j ≤ 1000) (e : σ[5]? = some (some vo)) (e1 : σ[1]? = some (some (.ref b))) (e6 : σ[6]? = some (some (.ref lp))) :
    EvX K b c lc v1 v2 vo p1 p2 n zs ns L [(D, Show, i), (lt, Show, k), (lp, PairS, j)] (tCall (spBent K 20) [] E0 (tCons (tVar 1) (tCons (tCall (spSome K) [] E0 (tCons (tVar 1) (tCons (tOp rCat (tLst (tCons (tVar 5) tNil)) (tVar 6)) tNil))) tNil))) σ Show := fun H W Q q => by
  obtain ⟨_, xs, ds, ex, dx, px, lx⟩ := W.os (lp, PairS, j) (by simp)
  have lxs := dqAll_len dx
  have lx : ds.length ≤ j := lx
  refine ⟨_, e1, _, e1, _, e, by show 1 ≤ sizeLine; decide, fun p np => ⟨_, e6, p, lp, [vo], xs, rfl, rfl, upd_same, same_upd np _ _ ex, by rw [sizeLine_eq, List.length_singleton]; omega, fun l nl => ?_⟩⟩
  have s1 := same_upd (o := .lst [vo]) np
  have s2 := same_upd (o := .lst ([vo] ++ xs)) nl
  have s12 := s1.trans s2
  have W2 := W.same s12
  refine ⟨b, c, l, [vo] ++ xs, rfl, W2.bag, upd_same, W.bag.same s1 |>.ne_new nl, by simp, by rw [List.length_append, List.length_singleton]; omega, fun v H1 hv B k => ?_⟩
  have W3 := W2.go B k
  have d3 : DqAll K (offs L H1) ([vo] ++ xs) (conD n :: ds) := .cons W3.d0 (dqAll_same (offs_but W.inL k) (dqAll_same (offs_same s12) dx))
  obtain ⟨g, hg⟩ := List.getElem?_of_mem hv
  obtain ⟨d, hd, qd⟩ := dqAll_vat d3 hg
  have sd : SmallD d := by
    rcases List.mem_cons.mp (List.mem_of_getElem? hd) with rfl | h
    · exact con_small hc
    · exact (px d h).sm
  have sw := sd.wd
  have sp := sd.dp
  refine ⟨b, c, L, v, d, rfl, B, W.inL, W3.liv, qd, (show d.depth < 20 by omega), by omega, fun d' v' H3 hb' B3 k3 hv' => ?_⟩
  obtain ⟨b1, b2, b3⟩ := hb'
  exact q v' d' H3 ⟨b1 sd.pl, by omega, by omega⟩ (W3.go B3 k3) (((But.of_same s12).trans k).trans k3) hv'
end
end K12

namespace K12
open PySem PySem.Spec PyProof.Rows L2 On
section
variable {P : Program} {w : World} {K : PySem.W.Frag} {mg : Str → Option Value} {base : Heap} {A : Ads}
/-- law(script) -/
def spLaw (K : PySem.W.Frag) : Sp := fun vs H Q _ => ∃ (a : Addr) (cs : List Int), vs = [.ref a] ∧ SqL K H a (cs.map V.int) ∧ cs.length ≤ 63 ∧ Sys H ∧ ∀ H', Q (.bl true) H'
theorem fine2 (x y : Bool) : Fine (.list [.bool x, .bool y]) := by
  refine ⟨?_, ?_, ?_⟩
  · simp [tame, tames]
  · simp [PyData.depth, PyData.depthAll]
  · simp [wide, wides]
theorem fine1 (x : Bool) : Fine (.bool x) := by
  refine ⟨?_, ?_, ?_⟩
  · simp [tame]
  · simp [PyData.depth]
  · simp [wide]
theorem to_op {r : R2} {ta tb : TE} {σ : L2.St} {H : Hp} {Q : VK} (h : ta σ H fun x H1 => tb σ H1 fun y H2 => r x y H2 Q) : tOp r ta tb σ H Q := h
/-- a bench -/
structure BenchD (pds : List PyData) : Prop where
  ok : ∀ p ∈ pds, placeOk p = true
  ne : pds ≠ []
  len : pds.length ≤ 5
theorem BenchD.con {pds : List PyData} (h : BenchD pds) {d : PyData} (hw : wq d ≤ 60000) : fContent [.tuple pds, d] = some (contentOk pds d) := by
  show (if pds.all plOk = true ∧ pds.length ≤ 100 ∧ wq d ≤ 60000 then some (contentOk pds d) else Option.none) = _
  rw [if_pos ⟨List.all_eq_true.mpr fun p hp => pl_of (h.ok p hp), by have := h.len; omega, hw⟩]
theorem BenchD.step {pds : List PyData} (h : BenchD pds) {d : PyData} (hw : wq d ≤ 60000) : fStep [.tuple pds, d] = some (stepOk pds d) := by
  show (if pds.all plOk = true ∧ pds.length ≤ 100 ∧ wq d ≤ 60000 then some (stepOk pds d) else Option.none) = _
  rw [if_pos ⟨List.all_eq_true.mpr fun p hp => pl_of (h.ok p hp), by have := h.len; omega, hw⟩]
theorem eqv_ints : ∀ y m : List Int, PyData.eqvAll (y.map PyData.int) (m.map PyData.int) = decide (y = m)
  | [], [] => by simp [PyData.eqvAll]
  | [], _ :: _ => by simp [PyData.eqvAll]
  | _ :: _, [] => by simp [PyData.eqvAll]
  | y :: ys, m :: ms => by
    rw [List.map_cons, List.map_cons, PyData.eqvAll, eqv_ints ys ms]
    simp [PyData.eqv]
    rfl
theorem eqv_conD (y m : List Int) : PyData.eqv (conD y) (conD m) = decide (y = m) := by
  show PyData.eqvAll _ _ = _
  exact eqv_ints y m
theorem con_eqv {y m : List Int} (h : PyData.eqv (conD y) (conD m) = true) : y = m := by
  rw [eqv_conD] at h
  exact of_decide_eq_true h
theorem eqv_con (m : List Int) : PyData.eqv (conD m) (conD m) = true := by rw [eqv_conD, decide_eq_true rfl]
theorem lay_ints : ∀ n : List Int, PyData.canLayAll0 (n.map PyData.int) = true
  | [] => by simp [PyData.canLayAll0]
  | _ :: n => by
    have := lay_ints n
    simp [PyData.canLayAll0, PyData.canLay0, this]
theorem lay_con (n : List Int) : (conD n).canLay0 = true := by
  have := lay_ints n
  simp [conD, PyData.canLay0, this]
theorem lay_cons : ∀ ns : List (List Int), PyData.canLayAll0 (ns.map conD) = true
  | [] => by simp [PyData.canLayAll0]
  | n :: ns => by
    have := lay_cons ns
    simp [PyData.canLayAll0, lay_con, this]
/-- is a step, or is among those listed -/
theorem step_in {pds : List PyData} (h : BenchD pds) {n m : List Int} {ls : List (List Int)} (hn : contentOk pds (conD n) = true) (hm : contentOk pds (conD m) = true) (perm : ls.Perm (outs pds n)) : (ls.map conD).any (fun z => PyData.eqv z (conD m)) = stepOk pds (.tuple [conD n, conD m]) := by
  have ln := (con_of h.ok h.len hn).2
  have lm := (con_of h.ok h.len hm).2
  have e1 : stepOk pds (.tuple [conD n, conD m]) = goes pds (n.map PyData.int) (m.map PyData.int) := by
    show (contentOk pds (conD n) && (contentOk pds (conD m) && leadsOk pds (conD n) (conD m))) = _
    rw [hn, hm] <;> rfl
  rw [e1]
  apply Bool.eq_iff_iff.mpr
  rw [← mem_outs h.ok ln (by omega), ← perm.mem_iff, List.any_eq_true]
  constructor
  · rintro ⟨z, hz, e⟩
    obtain ⟨y, hy, rfl⟩ := List.mem_map.mp hz
    rw [← con_eqv e]
    exact hy
  · intro hy
    exact ⟨conD m, List.mem_map_of_mem hy, eqv_con m⟩
theorem ok_law (T : Txt K mg A) (G_law_bag : FnOk P w K mg base CX0 1 A.a_law_bag A.d_law_bag ["_law_script"] (spBag K)) (G_law_bench : FnOk P w K mg base CX0 4 A.a_law_bench A.d_law_bench ["_law_bag_here", "_law_most"] (spBench K)) (G_law_contents : FnOk P w K mg base CX0 2 A.a_law_contents A.d_law_contents ["_law_bench_here"] (spConts K)) (G_law_some : FnOk P w K mg base CX0 2 A.a_law_some A.d_law_some ["_law_bag_here", "_law_things"] (spSome K)) (G_law_steps : FnOk P w K mg base CX0 1 A.a_law_steps A.d_law_steps ["_law_bench_here", "_law_content"] (spFrom K)) (G_law_odd : FnOk P w K mg base CX0 3 A.a_law_odd A.d_law_odd ["_law_bag_here"] (spOdd K))
    (G_law_bent : FnOk P w K mg base CX0 24 A.a_law_bent A.d_law_bent ["_law_bag_here", "_law_thing"] (spBent K 20)) (Gis_content : FnG P w K mg base 3 A.ais_content A.dis_content ["bench", "thing"] (spBs K 2 fContent)) (Gis_step : FnG P w K mg base 4 A.ais_step A.dis_step ["bench", "thing"] (spBs K 2 fStep)) (G_law_is_content : FnOk P w K mg base CX0 2 A.a_law_is_content A.d_law_is_content ["_law_bench_here", "_law_thing"] (spB K 2 fContent)) (G_law_is_step : FnOk P w K mg base CX0 4 A.a_law_is_step A.d_law_is_step ["_law_bench_here", "_law_thing"] (spB K 2 fStep)) (Gsteps_from : FnOk P w K mg base CX0 2 A.asteps_from A.dsteps_from ["bench", "content"] (spFrom K)) (G_law_alike : FnG P w K mg base 1 A.a_law_alike A.d_law_alike ["_law_found", "_law_due"] (spAlike K)) : FnG P w K mg base 25 A.alaw A.dlaw ["_law_script"] (spLaw K) := by
  refine okG T.law.F sc_law (fun vs H Q E h => ?_) (fun cdv A' outer s H vs Q E hg hr h => ?_)
  · obtain ⟨a, cs, rfl, _⟩ := h
    rfl
  · obtain ⟨a, cs, rfl, ha, hz, hS, k⟩ := h
    refine ⟨_, (pss_cons (ps_set (i := 1) sc_law.nd rfl (by first | exact Or.inl rfl | exact Or.inr rfl) (pe_call G_law_bag (hr.mono (by first | decide | omega)) rfl T._law_bag.g T._law_bag.F.kp T._law_bag.b .nil pass0 (pa_cons (pv 0) pa_nil)))
      (Evl.pss_cut (ps_for PassesOwn.never rfl (pi_range1 rfl T.nb_range (pa_cons pe_int pa_nil)) (pg_name (i := 2) sc_law.nd rfl (by first | exact Or.inl rfl | exact Or.inr rfl)) (pss_cons (ps_set (i := 3) sc_law.nd rfl (by first | exact Or.inl rfl | exact Or.inr rfl) (pe_lst (pa_cons (pe_call G_law_bench (hr.mono (by first | decide | omega)) rfl T._law_bench.g T._law_bench.F.kp T._law_bench.b .nil pass0 (pa_cons (pv 1) (pa_cons pe_int pa_nil))) (pa_cons (pe_call G_law_bench (hr.mono (by first | decide | omega)) rfl T._law_bench.g T._law_bench.F.kp T._law_bench.b .nil pass0 (pa_cons (pv 1) (pa_cons pe_int pa_nil))) pa_nil))))
      (pss_cons (ps_asg (pv 3) (kPgL K (n := 2) (pgs_cons (pg_name (i := 11) sc_law.nd rfl (by first | exact Or.inl rfl | exact Or.inr rfl)) (pgs_cons (pg_name (i := 12) sc_law.nd rfl (by first | exact Or.inl rfl | exact Or.inr rfl)) pgs_nil))))
      (pss_cons (ps_set (i := 4) sc_law.nd rfl (by first | exact Or.inl rfl | exact Or.inr rfl) (pe_call G_law_contents (hr.mono (by first | decide | omega)) rfl T._law_contents.g T._law_contents.F.kp T._law_contents.b .nil pass0 (pa_cons (pv 11) pa_nil)))
      (pss_cons (ps_set (i := 5) sc_law.nd rfl (by first | exact Or.inl rfl | exact Or.inr rfl) (pe_call G_law_some (hr.mono (by first | decide | omega)) rfl T._law_some.g T._law_some.F.kp T._law_some.b .nil pass0 (pa_cons (pv 1) (pa_cons (pv 4) pa_nil))))
      (pss_cons (ps_set (i := 6) sc_law.nd rfl (by first | exact Or.inl rfl | exact Or.inr rfl) (pe_op op_cat (pe_lc (own := [("_law_to", 10)]) rfl sc_law.nd (kPiL K (pe_slice (kSlL K) (pe_call G_law_steps (hr.mono (by first | decide | omega)) rfl T._law_steps.g T._law_steps.F.kp T._law_steps.b .nil pass0 (pa_cons (pv 11) (pa_cons (pv 5) pa_nil))) po_none (po_some pe_int))) (blkOk_by (N := ["_law_script", "_law_bag_here", "_law_turn", "_law_benches", "_law_contents_here", "_law_one", "_law_pairs", "_law_things", "_law_thing", "_law_steps_here", "_law_to", "_law_bench_here", "_law_other", "_law_shown", "_law_some_here", "_law_told", "_law_due", "_law_k"]) (sc := defScope slaw) (by decide +kernel)) (fun _ _ _ _ _ => (pg_name (i := 10) sc_law.nd rfl (by first | exact Or.inl rfl | exact Or.inr rfl))) (fun _ _ _ _ _ => pts_nil) (fun _ _ _ _ _ => (pe_tup (pa_cons (pv 5) (pa_cons (pv 10) pa_nil))))) (pe_lc (own := [("_law_to", 10)]) rfl sc_law.nd (kPiL K (pe_slice (kSlL K) (pe_call G_law_steps (hr.mono (by first | decide | omega)) rfl T._law_steps.g T._law_steps.F.kp T._law_steps.b .nil pass0 (pa_cons (pv 11) (pa_cons (pv 5) pa_nil))) po_none (po_some pe_int))) (blkOk_by (N := ["_law_script", "_law_bag_here", "_law_turn", "_law_benches", "_law_contents_here", "_law_one", "_law_pairs", "_law_things", "_law_thing", "_law_steps_here", "_law_to", "_law_bench_here", "_law_other", "_law_shown", "_law_some_here", "_law_told", "_law_due", "_law_k"]) (sc := defScope slaw) (by decide +kernel)) (fun _ _ _ _ _ => (pg_name (i := 10) sc_law.nd rfl (by first | exact Or.inl rfl | exact Or.inr rfl))) (fun _ _ _ _ _ => pts_nil) (fun _ _ _ _ _ => (pe_tup (pa_cons (pv 10) (pa_cons (pv 5) pa_nil)))))))
      (pss_cons (ps_expr (pe_bm PySem.F.plainAttrs_list PySem.F.slot_list_extend PySem.F.type_list_extend mt_extend (pv 6) (pa_cons (pe_lc (own := [("_law_k", 17)]) rfl sc_law.nd (pi_range1 rfl T.nb_range (pa_cons pe_int pa_nil)) (blkOk_by (N := ["_law_script", "_law_bag_here", "_law_turn", "_law_benches", "_law_contents_here", "_law_one", "_law_pairs", "_law_things", "_law_thing", "_law_steps_here", "_law_to", "_law_bench_here", "_law_other", "_law_shown", "_law_some_here", "_law_told", "_law_due", "_law_k"]) (sc := defScope slaw) (by decide +kernel)) (fun _ _ _ _ _ => (pg_name (i := 17) sc_law.nd rfl (by first | exact Or.inl rfl | exact Or.inr rfl))) (fun _ _ _ _ _ => pts_nil) (fun _ _ _ _ _ => (pe_tup (pa_cons (pv 5) (pa_cons (pe_call G_law_some (hr.mono (by first | decide | omega)) rfl T._law_some.g T._law_some.F.kp T._law_some.b .nil pass0 (pa_cons (pv 1) (pa_cons (pv 4) pa_nil))) pa_nil))))) pa_nil)))
      (pss_cons (ps_set (i := 7) sc_law.nd rfl (by first | exact Or.inl rfl | exact Or.inr rfl) (pe_op op_cat (pe_lst (pa_cons (pv 5) (pa_cons (pe_callTy (kList K) (by rfl) T.nb_list (by decide +kernel) (pa_cons (pv 5) pa_nil)) (pa_cons (pe_tup (pa_cons (pv 5) (pa_cons (pv 5) pa_nil))) (pa_cons (pe_op (kCatA K) (pv 5) (pe_tup (pa_cons pe_int pa_nil))) (pa_cons (pe_call G_law_odd (hr.mono (by first | decide | omega)) rfl T._law_odd.g T._law_odd.F.kp T._law_odd.b .nil pass0 (pa_cons (pv 1) pa_nil)) pa_nil)))))) (pv 6)))
      (pss_cons (ps_expr (pe_bm PySem.F.plainAttrs_list PySem.F.slot_list_extend PySem.F.type_list_extend mt_extend (pv 7) (pa_cons (pe_lc (own := [("_law_k", 17)]) rfl sc_law.nd (pi_range1 rfl T.nb_range (pa_cons pe_int pa_nil)) (blkOk_by (N := ["_law_script", "_law_bag_here", "_law_turn", "_law_benches", "_law_contents_here", "_law_one", "_law_pairs", "_law_things", "_law_thing", "_law_steps_here", "_law_to", "_law_bench_here", "_law_other", "_law_shown", "_law_some_here", "_law_told", "_law_due", "_law_k"]) (sc := defScope slaw) (by decide +kernel)) (fun _ _ _ _ _ => (pg_name (i := 17) sc_law.nd rfl (by first | exact Or.inl rfl | exact Or.inr rfl))) (fun _ _ _ _ _ => pts_nil) (fun _ _ _ _ _ => (pe_call G_law_bent (hr.mono (by first | decide | omega)) rfl T._law_bent.g T._law_bent.F.kp T._law_bent.b .nil pass0 (pa_cons (pv 1) (pa_cons (pe_call G_law_some (hr.mono (by first | decide | omega)) rfl T._law_some.g T._law_some.F.kp T._law_some.b .nil pass0 (pa_cons (pv 1) (pa_cons (pe_op op_cat (pe_lst (pa_cons (pv 5) pa_nil)) (pv 6)) pa_nil))) pa_nil))))) pa_nil)))
      (Evl.pss_cut (ps_for PassesOwn.never rfl (kPiL K (pv 7)) (pg_name (i := 8) sc_law.nd rfl (by first | exact Or.inl rfl | exact Or.inr rfl)) (pss_cons (ps_set (i := 13) sc_law.nd rfl (by first | exact Or.inl rfl | exact Or.inr rfl) (pe_callB (kRepr K hg (un66 hr)) (by rfl) T.nb_repr (by decide +kernel) (pa_cons (pv 8) pa_nil)))
      (pss_one (ps_for PassesOwn.never rfl (kPiT K (pe_tup (pa_cons (pv 11) (pa_cons (pv 12) (pa_cons (pv 11) pa_nil))))) (pg_name (i := 14) sc_law.nd rfl (by first | exact Or.inl rfl | exact Or.inr rfl)) (pss_cons (ps_set (i := 15) sc_law.nd rfl (by first | exact Or.inl rfl | exact Or.inr rfl) (pe_lst (pa_cons (pe_callG Gis_content hg (hr.mono (by first | decide | omega)) rfl T.is_content.g T.is_content.F.kp T.is_content.b (pa_cons (pv 14) (pa_cons (pv 8) pa_nil))) (pa_cons (pe_callG Gis_step hg (hr.mono (by first | decide | omega)) rfl T.is_step.g T.is_step.F.kp T.is_step.b (pa_cons (pv 14) (pa_cons (pv 8) pa_nil))) pa_nil))))
      (pss_cons (ps_set (i := 16) sc_law.nd rfl (by first | exact Or.inl rfl | exact Or.inr rfl) (pe_lst (pa_cons (pe_call G_law_is_content (hr.mono (by first | decide | omega)) rfl T._law_is_content.g T._law_is_content.F.kp T._law_is_content.b .nil pass0 (pa_cons (pv 14) (pa_cons (pv 8) pa_nil))) (pa_cons (pe_call G_law_is_step (hr.mono (by first | decide | omega)) rfl T._law_is_step.g T._law_is_step.F.kp T._law_is_step.b .nil pass0 (pa_cons (pv 14) (pa_cons (pv 8) pa_nil))) pa_nil))))
      (pss_one (ps_if (PW.pt (pw_or (pt_not (pt_val (pe_callG G_law_alike hg (hr.mono (by first | decide | omega)) rfl T._law_alike.g T._law_alike.F.kp T._law_alike.b (pa_cons (pv 15) (pa_cons (pv 16) pa_nil))))) (pw_or1 (pt_cmpR op_ne (pe_callB (kRepr K hg (un66 hr)) (by rfl) T.nb_repr (by decide +kernel) (pa_cons (pv 8) pa_nil)) (pv 13) (nomark _))))) (pss_one (ps_ret pe_bl)) pss_nil))))))))
      (pss_cons (ps_set (i := 9) sc_law.nd rfl (by first | exact Or.inl rfl | exact Or.inr rfl) (pe_call Gsteps_from (hr.mono (by first | decide | omega)) rfl T.steps_from.g T.steps_from.F.kp T.steps_from.b .nil pass0 (pa_cons (pv 11) (pa_cons (pv 5) pa_nil))))
      (pss_one (ps_for PassesOwn.never rfl (kPiL K (pv 4)) (pg_name (i := 10) sc_law.nd rfl (by first | exact Or.inl rfl | exact Or.inr rfl)) (pss_one (ps_if (pt_not (pt_val (pe_callG G_law_alike hg (hr.mono (by first | decide | omega)) rfl T._law_alike.g T._law_alike.F.kp T._law_alike.b (pa_cons (pe_callG Gis_step hg (hr.mono (by first | decide | omega)) rfl T.is_step.g T.is_step.F.kp T.is_step.b (pa_cons (pv 11) (pa_cons (pe_tup (pa_cons (pv 5) (pa_cons (pv 10) pa_nil))) pa_nil))) (pa_cons (pe_cmpR (kInQ (un66 hr)) (pv 10) (pv 9) rfl) pa_nil))))) (pss_one (ps_ret pe_bl)) pss_nil)))))))))))))))
      (pss_one (ps_ret pe_bl)))), ?_⟩
    -- bag
    refine to_qasg (to_call (to_cons ⟨_, rfl, a, cs, rfl, ha, hz, hS, fun b c H1 nb B1 s1 => ?_⟩))
    refine to_nm (σ' := [some (.ref a), some (.ref b), none, none, none, none, none, none, none, none, none, none, none, none, none, none, none, none]) rfl ?_
    refine ⟨fun σ' H' => ∃ o2 o3 o4 o5 o6 o7 o8 o9 oA oB oC oD oE oF oG oH, σ' = [some (.ref a), some (.ref b), o2, o3, o4, o5, o6, o7, o8, o9, oA, oB, oC, oD, oE, oF, oG, oH] ∧ Bag H' b c, ?_, ?_⟩
    · refine ⟨3, rfl, by decide, by decide, for_range (lo := 0) (n := (3 : Int).toNat) (fun _ σ' H' => ∃ o2 o3 o4 o5 o6 o7 o8 o9 oA oB oC oD oE oF oG oH, σ' = [some (.ref a), some (.ref b), o2, o3, o4, o5, o6, o7, o8, o9, oA, oB, oC, oD, oE, oF, oG, oH] ∧ Bag H' b c)
        ⟨_, _, _, _, _, _, _, _, _, _, _, _, _, _, _, _, rfl, B1⟩ ?_ (fun σ' H' h => h)⟩
      rintro i σ' H2 hi ⟨o2, o3, o4, o5, o6, o7, o8, o9, oA, oB, oC, oD, oE, oF, oG, oH, rfl, B2⟩
      clear B1 s1
      refine to_nm (σ' := [some (.ref a), some (.ref b), some (.int (0 + (i : Int))), o3, o4, o5, o6, o7, o8, o9, oA, oB, oC, oD, oE, oF, oG, oH]) rfl ?_
      generalize (0 + (i : Int)) = ti
      -- benches
      have bl : ∀ {H'}, Bag H' b c → ∀ x ∈ [b], ∃ xs, H' x = some (.lst xs) := fun B x hx => by
        rw [List.mem_singleton] at hx
        rw [hx]
        exact bag_lst B
      refine to_qasg (to_lst (to_cons (to_call (to_cons ⟨_, rfl, b, c, [b], rfl, B2, by simp, bl B2, fun p1 v1 H3 q1 ne1 l1 B3 k3 dv1 => ?_⟩))))
      refine ⟨_, rfl, b, c, [b], rfl, B3, by simp, bl B3, fun p2 v2 H4 q2 ne2 l2 B4 k4 dv2 => ⟨by show 2 ≤ sizeLine; decide, fun lb nlb => ?_⟩⟩
      have g1 : BenchD p1 := ⟨fun p hp => (q1 p hp).ok, ne1, l1⟩
      have g2 : BenchD p2 := ⟨fun p hp => (q2 p hp).ok, ne2, l2⟩
      have dv1 := dq_same (offs_but (by simp) k4) dv1
      refine to_nm (σ' := [some (.ref a), some (.ref b), some (.int ti), some (.ref lb), o4, o5, o6, o7, o8, o9, oA, oB, oC, oD, oE, oF, oG, oH]) rfl ?_
      have s5 := same_upd (o := .lst [v1, v2]) nlb
      refine ⟨_, rfl, lb, [v1, v2], rfl, SqL.of upd_same, rfl, _, _, rfl, _, _, rfl, rfl, ?_⟩
      dsimp only
      show tSeq (tAsg _ _) _ _ [some (.ref a), some (.ref b), some (.int ti), some (.ref lb), o4, o5, o6, o7, o8, o9, oA, some v1, some v2, oD, oE, oF, oG, oH] _
      have B5 := B4.same s5
      have dv1 := dq_same (offs_same s5) dv1
      have dv2 := dq_same (offs_same s5) dv2
      generalize upd H4 lb (.lst [v1, v2]) = H5 at B5 dv1 dv2
      clear s5 B4 B3 B2 k3 k4 nlb q1 q2
      obtain ⟨a1, ps1, rfl, ha1, hps1⟩ := dq_tup (dq_same offs_sub dv1)
      -- contents
      refine to_qasg (to_call (to_cons ⟨_, rfl, a1, ps1, p1, rfl, ha1, hps1, g1.ok, l1, fun lc zs ns H6 s6 nlc elc dlc nne nl nok => ?_⟩))
      refine to_nm (σ' := [some (.ref a), some (.ref b), some (.int ti), some (.ref lb), some (.ref lc), o5, o6, o7, o8, o9, oA, some (.ref a1), some v2, oD, oE, oF, oG, oH]) rfl ?_
      have B6 := B5.same s6
      have lcb : lc ≠ b := B5.ne_new nlc
      have lz := dqAll_len dlc
      rw [List.length_map] at lz
      have l0 := List.length_pos_iff.mpr nne
      -- one
      refine to_qasg (to_call (to_cons ⟨_, rfl, to_cons ⟨_, rfl, b, c, lc, zs, rfl, B6, elc, lcb, by omega, by omega, fun vo H7 hvo B7 k7 => ?_⟩⟩))
      refine to_nm (σ' := [some (.ref a), some (.ref b), some (.int ti), some (.ref lb), some (.ref lc), some vo, o6, o7, o8, o9, oA, some (.ref a1), some v2, oD, oE, oF, oG, oH]) rfl ?_
      obtain ⟨n, hn, W7⟩ : ∃ n, n ∈ ns ∧ W2 K b c lc (.ref a1) v2 vo p1 p2 n zs ns [b] [] H7 := by
        obtain ⟨j, hj⟩ := List.getElem?_of_mem hvo
        have dl : DqAll K (offs [b] H6) zs (ns.map conD) := tupAll_offs (bl B6) dlc fun d hd => by
          obtain ⟨m, _, rfl⟩ := List.mem_map.mp hd
          exact con_tup m
        obtain ⟨d, hd, qd⟩ := dqAll_vat dl hj
        obtain ⟨n, hn, rfl⟩ := List.mem_map.mp (List.mem_of_getElem? hd)
        have kb := offs_but (L := [b]) (by simp) k7
        exact ⟨n, hn, B7, by simp, bl B7, dq_same kb (dq_same (offs_same s6) dv1), dq_same kb (dq_same (offs_same s6) dv2), dq_same kb qd, by simpa using lcb, k7 _ _ lcb elc, dqAll_same kb dl, fun _ h => nomatch h⟩
      clear B5 B6 B7 k7 s6 dv1 dv2 ha1 hps1 elc dlc nlc hvo
      have con : ∀ m ∈ ns, ConS m := fun m hm => (con_of g1.ok g1.len (nok m hm)).1
      have hc := con n hn
      have hln := (con_of g1.ok g1.len (nok n hn)).2
      have hnn : n ≠ [] := fun z => by
        rw [z] at hln
        exact ne1 (List.length_eq_zero_iff.mp hln.symm)
      -- pairs
      refine to_qasg ?_
      refine lc_steps (v1 := .ref a1) rfl rfl (dq_same offs_sub W7.d1) (dq_same offs_sub W7.d0) g1.ok g1.ne g1.len hln hc (fun x m H' cm dx d0 Q q => ?_) fun D1 xs1 ds1 H8 s8 e8 q8 pp8 l8 => ?_
      · exact ⟨_, rfl, _, rfl, by show 2 ≤ sizeLine; decide, fun t nt => q (.ref t) (.tuple [conD n, conD m]) _ (same_upd nt) (.tup upd_same (.cons (dq_same (same_upd nt) d0) (.cons (dq_same (same_upd nt) dx) .nil))) (pair_s hc cm)⟩
      have W8 := W7.same s8
      refine lc_steps (v1 := .ref a1) rfl rfl (dq_same offs_sub W8.d1) (dq_same offs_sub W8.d0) g1.ok g1.ne g1.len hln hc (fun x m H' cm dx d0 Q q => ?_) fun D2 xs2 ds2 H9 s9 e9 q9 pp9 l9 => ?_
      · exact ⟨_, rfl, _, rfl, by show 2 ≤ sizeLine; decide, fun t nt => q (.ref t) (.tuple [conD m, conD n]) _ (same_upd nt) (.tup upd_same (.cons (dq_same (same_upd nt) dx) (.cons (dq_same (same_upd nt) d0) .nil))) (pair_s cm hc)⟩
      have W9 := W8.same s9
      have x8 := dqAll_len q8
      have x9 := dqAll_len q9
      refine ⟨D1, D2, xs1, xs2, rfl, rfl, s9 _ _ e8, e9, by rw [sizeLine_eq]; omega, fun lp nlp => ?_⟩
      refine to_nm (σ' := [some (.ref a), some (.ref b), some (.int ti), some (.ref lb), some (.ref lc), some vo, some (.ref lp), o7, o8, o9, oA, some (.ref a1), some v2, oD, oE, oF, oG, oH]) rfl ?_
      have pp : ∀ d ∈ ds1 ++ ds2, PairS d := fun d hd => (List.mem_append.mp hd).elim (pp8 d) (pp9 d)
      have WA := W9.add (P := PairS) (m := 60) nlp (tupAll_offs W9.lst (dqAll_app (dqAll_same s9 q8) q9) fun d hd => (pp d hd).tp) pp (by rw [List.length_append]; omega)
      generalize upd H9 lp (.lst (xs1 ++ xs2)) = HA at WA
      clear W7 W8 W9 s8 s9 e8 e9 q8 q9 pp8 pp9 nlp x8 x9 l8 l9 pp
      -- pairs.extend
      obtain ⟨qa, xsA, dsA, eA, _⟩ := WA.os _ List.mem_cons_self
      refine ⟨_, rfl, .inl ⟨rfl, _, SqL.of eA⟩, to_cons ?_⟩
      clear eA
      refine lc_own (cnt := 4) (by decide) (by decide) WA (fun D i x nD => ex_drawn hc con nne nl rfl rfl rfl) fun D HB nD WB => ?_
      obtain ⟨xs, ys, e1, e2, y1, y2, WC⟩ := WB.ext (by simp) (by simp) (fun _ h => nomatch h) (fun _ h => nomatch h) (nD _ List.mem_cons_self) (fun _ h => nomatch h)
      refine ⟨lp, D, xs, ys, rfl, rfl, e1, e2, by rw [sizeLine_eq]; omega, ?_⟩
      generalize upd HB lp (.lst (xs ++ ys)) = HC at WC
      clear WA WB e1 e2 y1 y2 nD
      -- things
      dsimp only
      refine to_qasg ?_
      have eTh := exa_cons (ex_one (K := K) (P := Show) (b := b) (c := c) (lc := lc) (v1 := .ref a1) (v2 := v2) (vo := vo) (p1 := p1) (p2 := p2) (n := n) (zs := zs) (ns := ns) (L := [lp, b]) (os := [(lp, PairS, 60 + (4 : Int).toNat)]) (σ := [some (.ref a), some (.ref b), some (.int ti), some (.ref lb), some (.ref lc), some vo, some (.ref lp), o7, o8, o9, oA, some (.ref a1), some v2, oD, oE, oF, oG, oH]) (i := 5) rfl (show_one hc))
        (exa_cons (ex_list hc rfl) (exa_cons (ex_two hc rfl) (exa_cons (ex_cat0 hc hnn rfl) (exa_cons (ex_odd rfl fun d p => p.shw) exa_nil))))
      refine to_op ?_
      refine to_lst ?_
      refine eTh HC WC _ fun xs ds HD hl hs WD kD hx => ⟨by rw [dqAll_len hx, hl, sizeLine_eq]; decide, fun p5 n5 => ?_⟩
      clear eTh
      have s5 := same_upd (o := .lst xs) n5
      have WE := WD.same s5
      obtain ⟨qe, xsE, dsE, eE, dE, pE, lE⟩ := WE.os _ List.mem_cons_self
      have lE : dsE.length ≤ 64 := lE
      have xE := dqAll_len dE
      have x5 := dqAll_len hx
      refine ⟨_, rfl, p5, lp, xs, xsE, rfl, rfl, upd_same, eE, by rw [sizeLine_eq]; omega, fun lt nlt => ?_⟩
      refine to_nm (σ' := [some (.ref a), some (.ref b), some (.int ti), some (.ref lb), some (.ref lc), some vo, some (.ref lp), some (.ref lt), o8, o9, oA, some (.ref a1), some v2, oD, oE, oF, oG, oH]) rfl ?_
      have WF := WE.add (P := Show) (m := 69) nlt (dqAll_app (dqAll_same (offs_same s5) hx) dE) (fun d hd => (List.mem_append.mp hd).elim (hs d) fun h => (pE d h).sm.shw) (by rw [List.length_append]; omega)
      have ntp : lp ≠ lt := fun z => by
        rw [z] at eE
        rw [nlt] at eE
        cases eE
      generalize upd (upd HD p5 (.lst xs)) lt (.lst (xs ++ xsE)) = HF at WF
      clear WC WD WE hx s5 n5 nlt eE dE kD
      -- things.extend
      obtain ⟨qf, xsF, dsF, eF, _⟩ := WF.os _ List.mem_cons_self
      refine ⟨_, rfl, .inl ⟨rfl, _, SqL.of eF⟩, to_cons ?_⟩
      clear eF
      refine lc_own (cnt := 8) (by decide) (by decide) WF (fun D i x nD => ex_bent hc (by decide) rfl rfl rfl) fun D HG nD WG => ?_
      obtain ⟨xs', ys, e1, e2, y1, y2, WH⟩ := WG.ext (by simp) (by simp) (fun o h => by
        rw [List.mem_singleton] at h
        rw [h]
        simp) (fun o h => by
        rw [List.mem_singleton] at h
        rw [h]
        exact ntp) (nD _ List.mem_cons_self) (fun o h => nD o (List.mem_cons_of_mem _ h))
      refine ⟨lt, D, xs', ys, rfl, rfl, e1, e2, by rw [sizeLine_eq]; omega, ?_⟩
      generalize upd HG lt (.lst (xs' ++ ys)) = HT at WH
      clear WF WG e1 e2 y1 y2 nD
      -- the things asked
      obtain ⟨qt, xst, dst, et, dt, pt, lt'⟩ := WH.os _ List.mem_cons_self
      refine ⟨fun σ' H' => ∃ o8 oD oE oF oG, σ' = [some (.ref a), some (.ref b), some (.int ti), some (.ref lb), some (.ref lc), some vo, some (.ref lp), some (.ref lt), o8, o9, oA, some (.ref a1), some v2, oD, oE, oF, oG, oH] ∧ Same HT H', ?_, ?_⟩
      · refine ⟨_, rfl, lt, rfl, ⟨_, SqL.of et⟩, for_list (K := K) (a := lt) (xs := xst) (fun i σ' H' => ∃ o8 oD oE oF oG, σ' = [some (.ref a), some (.ref b), some (.int ti), some (.ref lb), some (.ref lc), some vo, some (.ref lp), some (.ref lt), o8, o9, oA, some (.ref a1), some v2, oD, oE, oF, oG, oH] ∧ Same HT H')
          ⟨_, _, _, _, _, rfl, Evl.Ex.refl _⟩ (fun i σ' H' _ ⟨_, _, _, _, _, _, s⟩ => SqL.of (s _ _ et)) ?_ (fun σ' H' h => h)⟩
        rintro i x σ' H' hx ⟨o8', oD', oE', oF', oG', rfl, sH⟩
        obtain ⟨d, hd, qd⟩ := dqAll_vat dt hx
        have sd : Show d := pt d (List.mem_of_getElem? hd)
        have qd' := dq_same (offs_sub.trans sH) qd
        have W := WH.same sH
        refine to_nm (σ' := [some (.ref a), some (.ref b), some (.int ti), some (.ref lb), some (.ref lc), some vo, some (.ref lp), some (.ref lt), some x, o9, oA, some (.ref a1), some v2, oD', oE', oF', oG', oH]) rfl ?_
        refine to_qasg ⟨_, rfl, x, d, rfl, qd', sd.sh, sd.dp, sd.len, ?_⟩
        refine to_nm (σ' := [some (.ref a), some (.ref b), some (.int ti), some (.ref lb), some (.ref lc), some vo, some (.ref lp), some (.ref lt), some x, o9, oA, some (.ref a1), some v2, some (.str d.shown), oE', oF', oG', oH]) rfl ?_
        refine ⟨_, rfl, _, rfl, _, rfl, by show 3 ≤ sizeLine; decide, fun tb ntb => ⟨tb, rfl, ⟨_, SqT.of upd_same⟩, ?_⟩⟩
        have sT := same_upd (o := .tup [.ref a1, v2, .ref a1]) ntb
        refine for_tup (K := K) (a := tb) (xs := [.ref a1, v2, .ref a1]) (fun j σ' H2 => ∃ oE oF oG, σ' = [some (.ref a), some (.ref b), some (.int ti), some (.ref lb), some (.ref lc), some vo, some (.ref lp), some (.ref lt), some x, o9, oA, some (.ref a1), some v2, some (.str d.shown), oE, oF, oG, oH] ∧ Same (upd H' tb (.tup [.ref a1, v2, .ref a1])) H2)
          ⟨_, _, _, rfl, Evl.Ex.refl _⟩ (fun j σ' H2 _ ⟨_, _, _, _, s⟩ => SqT.of (s _ _ upd_same)) ?_ (fun σ' H2 ⟨_, _, _, e, s⟩ => ⟨_, _, _, _, _, e, (sH.trans sT).trans s⟩)
        rintro j y σ' H3 hy ⟨oE2, oF2, oG2, rfl, sJ⟩
        have s3 := sT.trans sJ
        obtain ⟨pds, gy, dy⟩ : ∃ pds, BenchD pds ∧ Dq K H3 y (.tuple pds) := by
          have hm := List.mem_of_getElem? hy
          simp only [List.mem_cons, List.not_mem_nil, or_false] at hm
          rcases hm with rfl | rfl | rfl
          · exact ⟨p1, g1, dq_same (offs_sub.trans s3) W.d1⟩
          · exact ⟨p2, g2, dq_same (offs_sub.trans s3) W.d2⟩
          · exact ⟨p1, g1, dq_same (offs_sub.trans s3) W.d1⟩
        have W3 := W.same s3
        have qd3 := dq_same s3 qd'
        refine to_nm (σ' := [some (.ref a), some (.ref b), some (.int ti), some (.ref lb), some (.ref lc), some vo, some (.ref lp), some (.ref lt), some x, o9, oA, some (.ref a1), some v2, some (.str d.shown), some y, oF2, oG2, oH]) rfl ?_
        have aA : ∀ (σ' : L2.St) H1, σ'[14]? = some (some y) → σ'[8]? = some (some x) → Evl.EvA (tCons (tVar 14) (tCons (tVar 8) tNil)) σ' H1 [y, x] := fun σ' H1 e1 e2 => Evl.ea_cons (Evl.ev_var e1) (Evl.ea_cons (Evl.ev_var e2) Evl.ea_nil)
        have dA : ∀ H1, Same H3 H1 → DqAll K H1 [y, x] [.tuple pds, d] := fun H1 s => .cons (dq_same s dy) (.cons (dq_same s qd3) .nil)
        refine to_qasg (Evl.el_lst (Evl.ea_cons (Evl.ev_call (aA _ _ rfl rfl) (spv_Bs W3.bag.sys (dA _ (Evl.Ex.refl _)) rfl (gy.con sd.wd))) (Evl.ea_cons (Evl.ev_call (aA _ _ rfl rfl) (spv_Bs W3.bag.sys (dA _ (Evl.Ex.refl _)) rfl (gy.step sd.wd))) Evl.ea_nil)) (by show 2 ≤ 100000; decide) H3 (Evl.Ex.refl _) _ fun p H4 np s4 hp => ?_)
        refine to_nm (σ' := [some (.ref a), some (.ref b), some (.int ti), some (.ref lb), some (.ref lc), some vo, some (.ref lp), some (.ref lt), some x, o9, oA, some (.ref a1), some v2, some (.str d.shown), some y, some (.ref p), oG2, oH]) rfl ?_
        refine to_qasg (Evl.el_lst (Evl.ea_cons (Evl.ev_call (aA _ _ rfl rfl) (spv_B (dA _ s4) rfl (gy.con sd.wd))) (Evl.ea_cons (Evl.ev_call (aA _ _ rfl rfl) (spv_B (dA _ s4) rfl (gy.step sd.wd))) Evl.ea_nil)) (by show 2 ≤ 100000; decide) H4 (Evl.Ex.refl _) _ fun q H5 nq s5 hq => ?_)
        refine to_nm (σ' := [some (.ref a), some (.ref b), some (.int ti), some (.ref lb), some (.ref lc), some vo, some (.ref lp), some (.ref lt), some x, o9, oA, some (.ref a1), some v2, some (.str d.shown), some y, some (.ref p), some (.ref q), oH]) rfl ?_
        have W4 := W3.same s4
        refine ⟨_, rfl, _, rfl, .ref p, .ref q, .list [.bool (contentOk pds d), .bool (stepOk pds d)], rfl, .lst (s5 _ _ hp) (W3.bag.ne_sys np) (.cons (.bl _) (.cons (.bl _) .nil)), .lst hq (W4.bag.ne_sys nq) (.cons (.bl _) (.cons (.bl _) .nil)), fine2 _ _, _, rfl, iteF ?_⟩
        refine ⟨_, rfl, x, d, rfl, dq_same (s4.trans s5) qd3, sd.sh, sd.dp, sd.len, _, rfl, rfl, _, rfl, ?_⟩
        rw [decide_eq_true rfl]
        exact ⟨_, _, _, rfl, sJ.trans (s4.trans s5)⟩
      rintro σ' HU ⟨o8', oD', oE', oF', oG', rfl, sU⟩
      have WU := WH.same sU
      clear WH et dt pt sU
      -- steps_from
      obtain ⟨a2, ps2, ea, ha2, hps2⟩ := dq_tup (dq_same offs_sub WU.d1)
      cases ea
      obtain ⟨ac, xs0, rfl, hac, hxs⟩ := dq_tup (show Dq K HU vo (.tuple (n.map PyData.int)) from dq_same offs_sub WU.d0)
      obtain rfl := all_int hxs
      refine to_qasg (to_call (to_cons ⟨_, rfl, to_cons ⟨_, rfl, a1, ac, ps2, p1, n, rfl, ha2, hps2, g1.ok, g1.ne, g1.len, hac, hln, hc.2, fun lf zf nf HV sV ef nlf perm df => ?_⟩⟩))
      refine to_nm (σ' := [some (.ref a), some (.ref b), some (.int ti), some (.ref lb), some (.ref lc), some (.ref ac), some (.ref lp), some (.ref lt), o8', some (.ref lf), oA, some (.ref a1), some v2, oD', oE', oF', oG', oH]) rfl ?_
      have WV := WU.same sV
      have hsys : lf ≠ sysModules := WU.bag.ne_sys nlf
      refine ⟨_, rfl, lc, rfl, ⟨_, SqL.of WV.lcA⟩, for_list (K := K) (a := lc) (xs := zs) (fun i σ' H' => ∃ oA, σ' = [some (.ref a), some (.ref b), some (.int ti), some (.ref lb), some (.ref lc), some (.ref ac), some (.ref lp), some (.ref lt), o8', some (.ref lf), oA, some (.ref a1), some v2, oD', oE', oF', oG', oH] ∧ Same HV H')
        ⟨_, rfl, Evl.Ex.refl _⟩ (fun i σ' H' _ ⟨_, _, s⟩ => SqL.of (s _ _ WV.lcA)) ?_ (fun σ' H' ⟨_, e, s⟩ => ⟨_, _, _, _, _, _, _, _, _, _, _, _, _, _, _, _, e, WV.bag.same s⟩)⟩
      rintro i x σ' H' hx ⟨oA', rfl, sH⟩
      have W := WV.same sH
      obtain ⟨m, hm, dm⟩ := W.pick (List.mem_of_getElem? hx)
      have cm := con m hm
      refine to_nm (σ' := [some (.ref a), some (.ref b), some (.int ti), some (.ref lb), some (.ref lc), some (.ref ac), some (.ref lp), some (.ref lt), o8', some (.ref lf), some x, some (.ref a1), some v2, oD', oE', oF', oG', oH]) rfl ?_
      have pw := (pair_s hc cm).sm.wd
      refine ⟨_, rfl, _, rfl, _, rfl, by show 2 ≤ sizeLine; decide, fun tp ntp' => ?_⟩
      have sP := same_upd (o := .tup [.ref ac, x]) ntp'
      have WP := W.same sP
      have dP : Dq K (upd H' tp (.tup [.ref ac, x])) (.ref tp) (.tuple [conD n, conD m]) := .tup upd_same (.cons (dq_same offs_sub WP.d0) (.cons (dq_same (offs_sub.trans sP) dm) .nil))
      refine ⟨WP.bag.sys, [.tuple p1, .tuple [conD n, conD m]], stepOk p1 (.tuple [conD n, conD m]), .cons (dq_same offs_sub WP.d1) (.cons dP .nil), rfl, g1.step (by omega), fun H2 s2 => ?_⟩
      have sX := sP.trans s2
      have dmX := dq_same (offs_sub.trans sX) dm
      have sVX := sH.trans sX
      refine ⟨_, rfl, _, rfl, conD m, nf.map conD, dmX, .inr (.lst (sVX _ _ ef) hsys (dqAll_same sVX df)), ?_, ?_, ?_, ?_⟩
      · exact lay_cons nf
      · exact lay_con m
      · have := (con_part cm).2.1
        omega
      · rw [step_in g1 (nok n hn) (nok m hm) perm]
        exact ⟨.bl _, .bl _, .bool _, rfl, .bl _, .bl _, fine1 _, _, rfl, iteF ⟨_, rfl, sVX⟩⟩
    · rintro σ' H2 ⟨o2, o3, o4, o5, o6, o7, o8, o9, oA, oB, oC, oD, oE, oF, oG, oH, rfl, B2⟩
      exact k H2
end
end K12

namespace L12
open PySem PySem.Spec PyProof.Rows L2 On K12 Du
def isTup (d : PyData) (n : Int) : Bool := match d with
  | .tuple xs => decide ((xs.length : Int) = n)
  | _ => false
def fTupOf : List DV → (PyData → Prop) → Prop := fun as k => match as with
  | [.v d, .v (.int n)] => k (.bool (isTup d n))
  | _ => False
/-- one thing ascends -/
def fAsc1 : List DV → (PyData → Prop) → Prop := fun as k => match as with
  | [.v (.tuple [_])] => k (.bool true)
  | _ => False
/-- contents of a bench: one of them -/
def fAre1 : List DV → (PyData → Prop) → Prop := fun as k => match as with
  | [.v (.tuple pds), .v (.tuple [d])] => (pds.all plOk = true ∧ pds.length ≤ 100 ∧ wq d ≤ 60000) ∧ k (.bool (contentOk pds d))
  | _ => False
def fCon : List DV → (PyData → Prop) → Prop := fun as k => match as with
  | [.v (.tuple pds), .v d] => (pds.all plOk = true ∧ pds.length ≤ 100 ∧ wq d ≤ 60000) ∧ k (.bool (contentOk pds d))
  | _ => False
section
variable {P : Program} {w : World} {K : PySem.W.Frag} {mg : Str → Option Value} {base : Heap} {A : Ads}
theorem ok_tup (T : Txt K mg A) : FnG P w K mg base 1 A.a_is_tuple_of A.d_is_tuple_of ["thing", "many"] (spF K 2 fTupOf) := by
  refine okD T._is_tuple_of.F sc__is_tuple_of (fun c cdv A' outer s H E hg hr => (dss_one (ds_ret (de_n (de_and (de_isi (pe_callB (kIsi K) (by rfl) T.nb_isinstance (by decide +kernel) (pa_cons (de_n (de_var (pv 0))) (pa_cons (pe_bltn (v := .ty "tuple") (u := .type "tuple") rfl (T.nb_tuple) (by decide +kernel) rfl) pa_nil)))) (de_one (de_cmp (op_eqQ (un66 hr)) od_eq (de_n (de_b cd_len (pe_callB (kLen K) (by rfl) T.nb_len PySem.boot_len (dan_cons (de_n (de_var (pv 0))) dan_nil)))) (de_n (de_var (pv 1))) (nomark _)))))))) ?_
  intro as q hl h
  unfold fTupOf at h
  split at h
  · rename_i d n
    simp only [dRet, dRetN, dIf, dSeq, dDrop, dAsg, gNm, gTp, gsNil, gsCons, dAsgL, dApp, dExt, dIns, dPopAt, dSetIx, dPar, dAug, dNext, mVar, mVarN, mC, m1, m2, mTst, mChain, mNot, mAnd, mOr, mAndV, mOrV, mNotV, mIf, mNil, mCons, mBag, Du.dataOf, mTup, mLst, mB, mCall, mIsi, mIsi2, mNotD, mTru, truD, fAdd, fI, fI0, fMul, fB, fEq, fNe, fIn, fGeD, fIs, isBd, fIsN, isNd, fNeg, fIx, mSlL, mSlT, mNoP, mPart, fLen, fAbs, fInt, fMin2, fTuple, fList, fAll, fAny, fRepr, miL, miT, miR1, miR2, miEn, miZip, miZip3, mRow, mLc, wipeE, dFor, mYes, Du.envOf, Option.map_some, Option.map_none, List.map_cons, List.map_nil, List.length_cons, List.length_nil, Nat.sub_self, Nat.add_sub_cancel, Nat.reduceAdd, Nat.reduceSub, List.replicate, List.cons_append, List.nil_append, List.append_nil, List.getElem?_cons_zero, List.getElem?_cons_succ, List.getElem?_nil, List.set_cons_zero, List.set_cons_succ]
    refine ⟨rfl, ?_⟩
    rw [isK_tuple]
    cases d with
    | tuple xs =>
      refine ⟨⟨by rw [PyData.canLay0], by rw [PyData.canLay0], by simp [PyData.depth]⟩, ?_⟩
      have e : PyData.eqv (.int (xs.length : Int)) (.int n) = isTup (.tuple xs) n := by
        show ((xs.length : Int) == n) = decide ((xs.length : Int) = n)
        rw [Bool.beq_eq_decide_eq]
      rw [e]
      exact h
    | _ => exact h
  · exact h.elim
theorem ok_asc1 (T : Txt K mg A) : FnG P w K mg base 1 A.aascends A.dascends ["items"] (spF K 1 fAsc1) := by
  refine okD T.ascends.F sc_ascends (fun c cdv A' outer s H E hg hr => (dss_one (ds_ret (de_n (de_not rfl (de_ln (de_lc (own := [("k", 1)]) rfl sc_ascends.nd (di_range1 rfl T.nb_range (da_cons (de_op op_sub od_I0 (de_n (de_b cd_len (pe_callB (kLen K) (by rfl) T.nb_len PySem.boot_len (dan_cons (de_n (de_var (pv 0))) dan_nil)))) (de_n (de_c pe_int (fun _ => .int _)))) da_nil)) (blkOk_by (N := ["items", "k"]) (sc := defScope sascends) (by decide +kernel)) (fun _ _ _ _ _ => (dg_name (pg_name (i := 1) sc_ascends.nd rfl (by first | exact Or.inl rfl | exact Or.inr rfl)))) (fun _ _ _ _ _ => (dts_one (dt_cmp (op_geD (un66 hr)) od_geD (de_n (de_ix (kIxS K) (de_n (de_var (pv 0))) (de_n (de_var (pv 1))) (fun _ _ => rfl))) (de_n (de_ix (kIxS K) (de_n (de_var (pv 0))) (de_n (de_op op_addD od_add (de_n (de_var (pv 1))) (de_n (de_c pe_int (fun _ => .int _))))) (fun _ _ => rfl))) (nomark _)))) (fun _ _ _ _ _ => (de_var (pv 1))) (by decide)))))))) ?_
  intro as q hl h
  unfold fAsc1 at h
  split at h
  · rename_i d
    simp only [dRet, dRetN, dIf, dSeq, dDrop, dAsg, gNm, gTp, gsNil, gsCons, dAsgL, dApp, dExt, dIns, dPopAt, dSetIx, dPar, dAug, dNext, mVar, mVarN, mC, m1, m2, mTst, mChain, mNot, mAnd, mOr, mAndV, mOrV, mNotV, mIf, mNil, mCons, mBag, Du.dataOf, mTup, mLst, mB, mCall, mIsi, mIsi2, mNotD, mTru, truD, fAdd, fI, fI0, fMul, fB, fEq, fNe, fIn, fGeD, fIs, isBd, fIsN, isNd, fNeg, fIx, mSlL, mSlT, mNoP, mPart, fLen, fAbs, fInt, fMin2, fTuple, fList, fAll, fAny, fRepr, miL, miT, miR1, miR2, miEn, miZip, miZip3, mRow, mLc, wipeE, dFor, mYes, Du.envOf, Option.map_some, Option.map_none, List.map_cons, List.map_nil, List.length_cons, List.length_nil, Nat.sub_self, Nat.add_sub_cancel, Nat.reduceAdd, Nat.reduceSub, List.replicate, List.cons_append, List.nil_append, List.append_nil, List.getElem?_cons_zero, List.getElem?_cons_succ, List.getElem?_nil, List.set_cons_zero, List.set_cons_succ]
    refine ⟨⟨by simp, by simp⟩, ?_⟩
    exact h
  · exact h.elim
theorem ok_con (T : Txt K mg A) (Gare_contents : FnG P w K mg base 2 A.aare_contents A.dare_contents ["bench", "thing"] (spF K 2 fAre1)) : FnG P w K mg base 3 A.ais_content A.dis_content ["bench", "thing"] (spF K 2 fCon) := by
  refine okD T.is_content.F sc_is_content (fun c cdv A' outer s H E hg hr => (dss_one (ds_ret (de_n (de_call (pe_callG Gare_contents hg (hr.mono (by first | decide | omega)) rfl T.are_contents.g T.are_contents.F.kp T.are_contents.b (da_cons (de_var (pv 0)) (da_cons (de_tup (da_cons (de_var (pv 1)) da_nil)) da_nil)))))))) ?_
  intro as q hl h
  unfold fCon at h
  split at h
  · rename_i pds d
    simp only [dRet, dRetN, dIf, dSeq, dDrop, dAsg, gNm, gTp, gsNil, gsCons, dAsgL, dApp, dExt, dIns, dPopAt, dSetIx, dPar, dAug, dNext, mVar, mVarN, mC, m1, m2, mTst, mChain, mNot, mAnd, mOr, mAndV, mOrV, mNotV, mIf, mNil, mCons, mBag, Du.dataOf, mTup, mLst, mB, mCall, mIsi, mIsi2, mNotD, mTru, truD, fAdd, fI, fI0, fMul, fB, fEq, fNe, fIn, fGeD, fIs, isBd, fIsN, isNd, fNeg, fIx, mSlL, mSlT, mNoP, mPart, fLen, fAbs, fInt, fMin2, fTuple, fList, fAll, fAny, fRepr, miL, miT, miR1, miR2, miEn, miZip, miZip3, mRow, mLc, wipeE, dFor, mYes, Du.envOf, Option.map_some, Option.map_none, List.map_cons, List.map_nil, List.length_cons, List.length_nil, Nat.sub_self, Nat.add_sub_cancel, Nat.reduceAdd, Nat.reduceSub, List.replicate, List.cons_append, List.nil_append, List.append_nil, List.getElem?_cons_zero, List.getElem?_cons_succ, List.getElem?_nil, List.set_cons_zero, List.set_cons_succ, fAre1]
    exact ⟨by decide, trivial, h⟩
  · exact h.elim
end
end L12

namespace L12
open PySem PySem.Spec PyProof.Rows L2 On K12 Du
theorem tup_eq (d : PyData) (n : Int) : isTup d n = K12.isTup n d := by cases d <;> rfl
def wP : PyData → Bool
  | .tuple [x, p] => !isBelow (mOf p) x
  | _ => false
def wV : PyData → PyData
  | .tuple [x, _] => x
  | _ => .none
theorem getD_of {l : List PyData} {i : Nat} {x : PyData} (h : l[i]? = some x) : l.getD i .none = x := by
  rw [List.getD_eq_getElem?_getD, h] <;> rfl
theorem zipD_at {xs ys : List PyData} {i : Nat} (h1 : i < xs.length) (h2 : i < ys.length) : (zipD xs ys)[i]? = some (.tuple [xs.getD i .none, ys.getD i .none]) := by
  have lt : i < (zipD xs ys).length := by rw [zipD_len]; omega
  have e := List.getElem?_eq_getElem lt
  obtain ⟨x, y, hx, hy, hd⟩ := zipD_get e
  rw [e, hd, getD_of hx, getD_of hy]
theorem con_iff {xs pds : List PyData} (hl : xs.length = pds.length) : (((zipD xs pds).filter wP).map wV).isEmpty = contentOk pds (.tuple xs) := by
  apply Bool.eq_iff_iff.mpr
  rw [List.isEmpty_iff, List.map_eq_nil_iff, List.filter_eq_nil_iff]
  have e : contentOk pds (.tuple xs) = (decide (xs.length = pds.length) && (List.range pds.length).all fun i => isBelow (mOf (pds.getD i .none)) (xs.getD i .none)) := rfl
  rw [e, Bool.and_eq_true, decide_eq_true_eq, List.all_eq_true]
  constructor
  · intro h
    refine ⟨hl, fun i hi => ?_⟩
    have hi := List.mem_range.mp hi
    have z := h _ (List.mem_of_getElem? (zipD_at (xs := xs) (ys := pds) (by omega) hi))
    have z' : ¬ (!isBelow (mOf (pds.getD i .none)) (xs.getD i .none)) = true := z
    simpa using z'
  · rintro ⟨_, h⟩ d hd
    obtain ⟨i, hi⟩ := List.getElem?_of_mem hd
    obtain ⟨x, p, hx, hp, rfl⟩ := zipD_get hi
    have z := h i (List.mem_range.mpr (List.getElem?_eq_some_iff.mp hp).1)
    rw [getD_of hx, getD_of hp] at z
    show ¬ (!isBelow (mOf p) x) = true
    rw [z]
    decide
theorem isK_k {d : PyData} {T : String} {b : Bool} (s : String) (h : On.kindOf d = s) (g : kitB s T = some b) : isK d T = b := by unfold isK; rw [h, g]
section
variable {P : Program} {w : World} {K : PySem.W.Frag} {mg : Str → Option Value} {base : Heap} {A : Ads}
theorem ok_are (T : Txt K mg A) (G_is_tuple_of : FnG P w K mg base 1 A.a_is_tuple_of A.d_is_tuple_of ["thing", "many"] (spF K 2 fTupOf)) (Gascends : FnG P w K mg base 1 A.aascends A.dascends ["items"] (spF K 1 fAsc1)) : FnG P w K mg base 2 A.aare_contents A.dare_contents ["bench", "thing"] (spF K 2 fAre1) := by
  refine okD T.are_contents.F sc_are_contents (fun c cdv A' outer s H E hg hr => (dss_cons (ds_if (PW.pt (dw_or (dt_not (dt_val rfl (de_n (de_isi (pe_callB (kIsi K) (by rfl) T.nb_isinstance (by decide +kernel) (pa_cons (de_n (de_var (pv 1))) (pa_cons (pe_bltn (v := .ty "tuple") (u := .type "tuple") rfl (T.nb_tuple) (by decide +kernel) rfl) pa_nil))))))) (dw_or1 (dt_val rfl (de_ln (de_lc (own := [("content", 3)]) rfl sc_are_contents.nd (di_tup rfl (de_var (pv 1))) (blkOk_by (N := ["bench", "thing", "wrong", "content", "value", "place"]) (sc := defScope sare_contents) (by decide +kernel)) (fun _ _ _ _ _ => (dg_name (pg_name (i := 3) sc_are_contents.nd rfl (by first | exact Or.inl rfl | exact Or.inr rfl)))) (fun _ _ _ _ _ => (dts_one (dt_not (dt_val rfl (de_n (de_call (pe_callG G_is_tuple_of hg (hr.mono (by first | decide | omega)) rfl T._is_tuple_of.g T._is_tuple_of.F.kp T._is_tuple_of.b (da_cons (de_var (pv 3)) (da_cons (de_b cd_len (pe_callB (kLen K) (by rfl) T.nb_len PySem.boot_len (dan_cons (de_n (de_var (pv 0))) dan_nil))) da_nil))))))))) (fun _ _ _ _ _ => (de_var (pv 3))) (by decide))))))) (dss_one (ds_ret (de_n (de_c pe_bl (fun _ => .bl _))))) dss_nil)
      (dss_cons (ds_setLc2V (i := 2) (own := [("content", 3), ("value", 4), ("place", 5)]) (vs1 := [4, 5]) rfl sc_are_contents.nd rfl rfl (sw_true rfl rfl rfl (by decide +kernel)) (di_tup rfl (de_var (pv 1))) (blkOk_by (N := ["bench", "thing", "wrong", "content", "value", "place"]) (sc := defScope sare_contents) (by decide +kernel)) (by decide) (fun _ _ _ _ _ => (dg_name (pg_name (i := 3) sc_are_contents.nd rfl (by first | exact Or.inl rfl | exact Or.inr rfl)))) (fun _ _ _ _ _ => dts_nil) (fun _ _ _ _ _ => (di_zip rfl (fun h => RZ.pi_zipA rfl T.nb_zip h) (da_cons (de_var (pv 3)) (da_cons (de_var (pv 0)) da_nil)))) (fun _ _ _ _ _ => (dg_tup (n := 2) rfl rfl (dgs_cons (dg_name (pg_name (i := 4) sc_are_contents.nd rfl (by first | exact Or.inl rfl | exact Or.inr rfl))) (dgs_cons (dg_name (pg_name (i := 5) sc_are_contents.nd rfl (by first | exact Or.inl rfl | exact Or.inr rfl))) dgs_nil)))) (fun _ _ _ _ _ => (dts_one (PW.pt (dw_or (dt_not (dt_val rfl (de_n (de_isi (pe_callB (kIsi K) (by rfl) T.nb_isinstance (by decide +kernel) (pa_cons (de_n (de_var (pv 4))) (pa_cons (pe_bltn (v := .ty "int") (u := .type "int") rfl (T.nb_int) (by decide +kernel) rfl) pa_nil))))))) (dw_or (dt_cmp op_isG od_is (de_n (de_var (pv 4))) (de_n (de_c pe_bl (fun _ => .bl _))) (nomark _)) (dw_or (dt_cmp op_isG od_is (de_n (de_var (pv 4))) (de_n (de_c pe_bl (fun _ => .bl _))) (nomark _)) (dw_or1 (dt_not (dt_chain op_le od_B op_lt od_B (de_n (de_c pe_int (fun _ => .int _))) (de_n (de_var (pv 4))) (de_n (de_ix (kIxS K) (de_n (de_var (pv 5))) (de_n (de_c pe_int (fun _ => .int _))) (fun _ _ => rfl)))))))))))) (fun _ _ _ _ _ => (de_var (pv 4))) (by decide) (by decide))
      (dss_one (ds_ret (de_n (de_and (de_not rfl (de_n (de_var (pv 2)))) (de_one (de_call (pe_callG Gascends hg (hr.mono (by first | decide | omega)) rfl T.ascends.g T.ascends.F.kp T.ascends.b (da_cons (de_var (pv 1)) da_nil))))))))))) ?_
  intro as q hl h
  unfold fAre1 at h
  split at h
  · rename_i pds d
    obtain ⟨⟨hp, hz, hw⟩, h⟩ := h
    simp only [dRet, dRetN, dIf, dSeq, dDrop, dAsg, gNm, gTp, gsNil, gsCons, dAsgL, dApp, dExt, dIns, dPopAt, dSetIx, dPar, dAug, dNext, mVar, mVarN, mC, m1, m2, mTst, mChain, mNot, mAnd, mOr, mAndV, mOrV, mNotV, mIf, mNil, mCons, mBag, Du.dataOf, mTup, mLst, mB, mCall, mIsi, mIsi2, mNotD, mTru, truD, fAdd, fI, fI0, fMul, fB, fEq, fNe, fIn, fGeD, fIs, isBd, fIsN, isNd, fNeg, fIx, mSlL, mSlT, mNoP, mPart, fLen, fAbs, fInt, fMin2, fTuple, fList, fAll, fAny, fRepr, miL, miT, miR1, miR2, miEn, miZip, miZip3, mRow, mLc, wipeE, dFor, mYes, Du.envOf, Option.map_some, Option.map_none, List.map_cons, List.map_nil, List.length_cons, List.length_nil, Nat.sub_self, Nat.add_sub_cancel, Nat.reduceAdd, Nat.reduceSub, List.replicate, List.cons_append, List.nil_append, List.append_nil, List.getElem?_cons_zero, List.getElem?_cons_succ, List.getElem?_nil, List.set_cons_zero, List.set_cons_succ, lcGo, fTupOf, isK_tuple, On.isTuple]
    refine ⟨rfl, trivial, ?_⟩
    cases hT : isTup d (pds.length : Int) with
    | false =>
      rw [content_no (by rw [← tup_eq]; exact hT)] at h
      exact ⟨by decide, h⟩
    | true =>
      obtain ⟨xs, rfl, hx⟩ := isTup_len (by rw [← tup_eq]; exact hT)
      have hxl : xs.length = pds.length := by omega
      simp only [mLc2, lcGo2, dRet, dRetN, dIf, dSeq, dDrop, dAsg, gNm, gTp, gsNil, gsCons, dAsgL, dApp, dExt, dIns, dPopAt, dSetIx, dPar, dAug, dNext, mVar, mVarN, mC, m1, m2, mTst, mChain, mNot, mAnd, mOr, mAndV, mOrV, mNotV, mIf, mNil, mCons, mBag, Du.dataOf, mTup, mLst, mB, mCall, mIsi, mIsi2, mNotD, mTru, truD, fAdd, fI, fI0, fMul, fB, fEq, fNe, fIn, fGeD, fIs, isBd, fIsN, isNd, fNeg, fIx, mSlL, mSlT, mNoP, mPart, fLen, fAbs, fInt, fMin2, fTuple, fList, fAll, fAny, fRepr, miL, miT, miR1, miR2, miEn, miZip, miZip3, mRow, mLc, wipeE, dFor, mYes, Du.envOf, Option.map_some, Option.map_none, List.map_cons, List.map_nil, List.length_cons, List.length_nil, Nat.sub_self, Nat.add_sub_cancel, Nat.reduceAdd, Nat.reduceSub, List.replicate, List.cons_append, List.nil_append, List.append_nil, List.getElem?_cons_zero, List.getElem?_cons_succ, List.getElem?_nil, List.set_cons_zero, List.set_cons_succ]
      refine ⟨rfl, ?_⟩
      have mem : ∀ d ∈ zipD xs pds, ∃ x m ms, d = .tuple [x, .tuple [.int m, .tuple ms]] := fun d hd => by
        obtain ⟨i, hi⟩ := List.getElem?_of_mem hd
        obtain ⟨x, p, hx, hp', rfl⟩ := zipD_get hi
        have z := List.all_eq_true.mp hp p (List.mem_of_getElem? hp')
        unfold plOk at z
        split at z
        · exact ⟨_, _, _, rfl⟩
        · cases z
      refine in_pure (fun d => match d with
        | .tuple [x, p] => [.v (.tuple pds), .v (.tuple [.tuple xs]), .un, .v (.tuple xs), .v x, .v p]
        | _ => []) wP wV (zipD xs pds) [] _ (by rw [zipD_len, List.length_nil]; omega) (fun d hd k' hk => ?_) (fun d hd k' hk => ?_) (fun d hd hp k' hk => ?_) ?_
      · obtain ⟨x, m, ms, rfl⟩ := mem d hd
        simp only [dRet, dRetN, dIf, dSeq, dDrop, dAsg, gNm, gTp, gsNil, gsCons, dAsgL, dApp, dExt, dIns, dPopAt, dSetIx, dPar, dAug, dNext, mVar, mVarN, mC, m1, m2, mTst, mChain, mNot, mAnd, mOr, mAndV, mOrV, mNotV, mIf, mNil, mCons, mBag, Du.dataOf, mTup, mLst, mB, mCall, mIsi, mIsi2, mNotD, mTru, truD, fAdd, fI, fI0, fMul, fB, fEq, fNe, fIn, fGeD, fIs, isBd, fIsN, isNd, fNeg, fIx, mSlL, mSlT, mNoP, mPart, fLen, fAbs, fInt, fMin2, fTuple, fList, fAll, fAny, fRepr, miL, miT, miR1, miR2, miEn, miZip, miZip3, mRow, mLc, wipeE, dFor, mYes, Du.envOf, Option.map_some, Option.map_none, List.map_cons, List.map_nil, List.length_cons, List.length_nil, Nat.sub_self, Nat.add_sub_cancel, Nat.reduceAdd, Nat.reduceSub, List.replicate, List.cons_append, List.nil_append, List.append_nil, List.getElem?_cons_zero, List.getElem?_cons_succ, List.getElem?_nil, List.set_cons_zero, List.set_cons_succ]
        first | exact hk | exact ⟨rfl, hk⟩ | exact ⟨trivial, hk⟩
      · obtain ⟨x, m, ms, rfl⟩ := mem d hd
        have a0 : atI [PyData.int m, .tuple ms] 0 = some (.int m) := rfl
        have hk' : k' (!isBelow m x) := hk
        simp only [dRet, dRetN, dIf, dSeq, dDrop, dAsg, gNm, gTp, gsNil, gsCons, dAsgL, dApp, dExt, dIns, dPopAt, dSetIx, dPar, dAug, dNext, mVar, mVarN, mC, m1, m2, mTst, mChain, mNot, mAnd, mOr, mAndV, mOrV, mNotV, mIf, mNil, mCons, mBag, Du.dataOf, mTup, mLst, mB, mCall, mIsi, mIsi2, mNotD, mTru, truD, fAdd, fI, fI0, fMul, fB, fEq, fNe, fIn, fGeD, fIs, isBd, fIsN, isNd, fNeg, fIx, mSlL, mSlT, mNoP, mPart, fLen, fAbs, fInt, fMin2, fTuple, fList, fAll, fAny, fRepr, miL, miT, miR1, miR2, miEn, miZip, miZip3, mRow, mLc, wipeE, dFor, mYes, Du.envOf, Option.map_some, Option.map_none, List.map_cons, List.map_nil, List.length_cons, List.length_nil, Nat.sub_self, Nat.add_sub_cancel, Nat.reduceAdd, Nat.reduceSub, List.replicate, List.cons_append, List.nil_append, List.append_nil, List.getElem?_cons_zero, List.getElem?_cons_succ, List.getElem?_nil, List.set_cons_zero, List.set_cons_succ, a0]
        refine ⟨rfl, ?_⟩
        cases x with
        | int i =>
          have e1 : isK (.int i) "int" = true := isK_k "int" rfl (by decide +kernel)
          rw [e1]
          have hk2 : k' (!(decide (0 ≤ i) && decide (i < m))) := hk'
          show (match PyData.bool (decide (0 ≤ i)) with | .bool true => k' (!decide (i < m)) | .bool false => k' (!false) | _ => False)
          cases e : decide (0 ≤ i) with
          | true => rw [e] at hk2; exact hk2
          | false => rw [e] at hk2; exact hk2
        | bool b =>
          have e1 : isK (.bool b) "int" = true := isK_k "bool" rfl (by decide +kernel)
          rw [e1]
          cases b <;> exact hk'
        | none =>
          have e1 : isK .none "int" = false := isK_k "NoneType" rfl (by decide +kernel)
          rw [e1]; exact hk'
        | str z =>
          have e1 : isK (.str z) "int" = false := isK_k "str" rfl (by decide +kernel)
          rw [e1]; exact hk'
        | list z =>
          have e1 : isK (.list z) "int" = false := isK_k "list" rfl (by decide +kernel)
          rw [e1]; exact hk'
        | tuple z =>
          have e1 : isK (.tuple z) "int" = false := isK_k "tuple" rfl (by decide +kernel)
          rw [e1]; exact hk'
        | dict z =>
          have e1 : isK (.dict z) "int" = false := isK_k "dict" rfl (by decide +kernel)
          rw [e1]; exact hk'
      · obtain ⟨x, m, ms, rfl⟩ := mem d hd
        exact hk
      · show (match PyData.bool (!(!(([] : List PyData) ++ ((zipD xs pds).filter wP).map wV).isEmpty)) with | .bool true => True ∧ fAsc1 [DV.v (PyData.tuple [.tuple xs])] q | .bool false => q (.bool false) | _ => False)
        rw [List.nil_append, con_iff hxl, Bool.not_not]
        cases e : contentOk pds (.tuple xs) with
        | true =>
          rw [e] at h
          exact ⟨trivial, h⟩
        | false =>
          rw [e] at h
          exact h
  · exact h.elim
end
end L12

namespace L12
open PySem PySem.Spec PyProof.Rows L2 On K12 Du
def fLeadsD : List DV → (PyData → Prop) → Prop := fun as k => match as with
  | [.v (.tuple pds), .v (.tuple vs), .v (.tuple ws)] => (pds.all plOk = true ∧ pds.length ≤ 100 ∧ contentOk pds (.tuple vs) = true ∧ contentOk pds (.tuple ws) = true) ∧ k (.bool (goes pds vs ws))
  | _ => False
def fStepD : List DV → (PyData → Prop) → Prop := fun as k => match as with
  | [.v (.tuple pds), .v d] => (pds.all plOk = true ∧ pds.length ≤ 100 ∧ wq d ≤ 60000) ∧ k (.bool (stepOk pds d))
  | _ => False
theorem zipD3_range {n : Nat} {xs ys us : List PyData} (h1 : xs.length = n) (h2 : ys.length = n) (h3 : us.length = n) : zipD3 xs ys us = (List.range n).map fun k => .tuple [xs.getD k .none, ys.getD k .none, us.getD k .none] := by
  refine List.ext_getElem? fun i => ?_
  by_cases hi : i < n
  · have e := List.getElem?_eq_getElem (l := zipD3 xs ys us) (i := i) (by rw [zipD3_len]; omega)
    obtain ⟨x, y, u, hx, hy, hu, hd⟩ := zipD3_get e
    rw [e, hd, List.getElem?_map, List.getElem?_range hi, Option.map_some, getD_of hx, getD_of hy, getD_of hu]
  · rw [List.getElem?_eq_none (by rw [zipD3_len]; omega), List.getElem?_eq_none (by rw [List.length_map, List.length_range]; omega)]
def dP : PyData → Bool
  | .tuple [x, y, _] => !decide (iv x = iv y)
  | _ => false
def dV : PyData → PyData
  | .tuple [x, y, p] => .tuple [x, y, .tuple (movesOf p)]
  | _ => .none
theorem moved_eq {vs ws pds : List PyData} (h1 : vs.length = pds.length) (h2 : ws.length = pds.length) : ((zipD3 vs ws pds).filter dP).map dV = (diffs pds.length vs ws).map fun k => .tuple [vs.getD k .none, ws.getD k .none, .tuple (movesOf (pds.getD k .none))] := by
  rw [zipD3_range h1 h2 rfl, List.filter_map, List.map_map]
  rfl
theorem two_of {d : PyData} (h : isTup d 2 = true) : ∃ a b, d = .tuple [a, b] := by
  obtain ⟨vs, rfl, hl⟩ := isTup_len (by rw [← tup_eq]; exact h)
  match vs, hl with
  | [a, b], _ => exact ⟨a, b, rfl⟩
  | [], e => simp at e
  | [_], e => simp at e
  | _ :: _ :: _ :: r, e => simp at e; omega
theorem step_no {pds : List PyData} {d : PyData} (h : isTup d 2 = false) : stepOk pds d = false := by
  unfold stepOk
  split
  · simp [isTup] at h
  · rfl
theorem wq2 (a b : PyData) : wq (.tuple [a, b]) = 4 + (wq a + 2 + (wq b + 2 + 0)) := by rw [wq, wqs, wqs, wqs]
section
variable {P : Program} {w : World} {K : PySem.W.Frag} {mg : Str → Option Value} {base : Heap} {A : Ads}
theorem ok_leads (T : Txt K mg A) : FnG P w K mg base 2 A.aleads A.dleads ["bench", "one", "other"] (spF K 3 fLeadsD) := by
  refine okD T.leads.F sc_leads (fun c cdv A' outer s H E hg hr => (dss_cons (ds_setLcV (i := 3) (own := [("v", 4), ("w", 5), ("place", 6)]) rfl sc_leads.nd rfl rfl (sw_true rfl rfl rfl (by decide +kernel)) (di_zip3 rfl (fun h => pi_zip3 rfl T.nb_zip h) (da_cons (de_var (pv 1)) (da_cons (de_var (pv 2)) (da_cons (de_var (pv 0)) da_nil)))) (blkOk_by (N := ["bench", "one", "other", "moved", "v", "w", "place"]) (sc := defScope sleads) (by decide +kernel)) (fun _ _ _ _ _ => (dg_tup (n := 3) rfl rfl (dgs_cons (dg_name (pg_name (i := 4) sc_leads.nd rfl (by first | exact Or.inl rfl | exact Or.inr rfl))) (dgs_cons (dg_name (pg_name (i := 5) sc_leads.nd rfl (by first | exact Or.inl rfl | exact Or.inr rfl))) (dgs_cons (dg_name (pg_name (i := 6) sc_leads.nd rfl (by first | exact Or.inl rfl | exact Or.inr rfl))) dgs_nil))))) (fun _ _ _ _ _ => (dts_one (dt_cmp (op_neQ (un66 hr)) od_ne (de_n (de_var (pv 4))) (de_n (de_var (pv 5))) (nomark _)))) (fun _ _ _ _ _ => (de_tup (da_cons (de_var (pv 4)) (da_cons (de_var (pv 5)) (da_cons (de_ix (kIxS K) (de_n (de_var (pv 6))) (de_n (de_c pe_int (fun _ => .int _))) (fun _ _ => rfl)) da_nil))))) (by decide))
      (dss_one (ds_ret (de_n (de_and (de_cmp (op_eqQ (un66 hr)) od_eq (de_n (de_b cd_len (pe_callB (kLen K) (by rfl) T.nb_len PySem.boot_len (dan_cons (de_n (de_var (pv 3))) dan_nil)))) (de_n (de_c pe_int (fun _ => .int _))) (nomark _)) (de_one (de_cmp (op_inG (un66 hr)) od_in (de_n (de_slT (kSlT K) (de_n (de_ix (kIxS K) (de_n (de_var (pv 3))) (de_n (de_c pe_int (fun _ => .int _))) (fun _ _ => rfl))) do_none (do_some (de_n (de_c pe_int (fun _ => .int _)))))) (de_n (de_ix (kIxS K) (de_n (de_ix (kIxS K) (de_n (de_var (pv 3))) (de_n (de_c pe_int (fun _ => .int _))) (fun _ _ => rfl))) (de_n (de_c pe_int (fun _ => .int _))) (fun _ _ => rfl))) rfl)))))))) ?_
  intro as q hl h
  unfold fLeadsD at h
  split at h
  · rename_i pds vs ws
    obtain ⟨⟨hp, hz, c1, c2⟩, h⟩ := h
    obtain ⟨vs', e1, l1, i1⟩ := content_ints c1
    cases e1
    obtain ⟨ws', e2, l2, i2⟩ := content_ints c2
    cases e2
    have mem : ∀ d ∈ zipD3 vs ws pds, ∃ i j m ms, d = .tuple [.int i, .int j, .tuple [.int m, .tuple ms]] := fun d hd => by
      obtain ⟨i, hi⟩ := List.getElem?_of_mem hd
      obtain ⟨x, y, p, hx, hy, hp', rfl⟩ := zipD3_get hi
      have z := List.all_eq_true.mp hp p (List.mem_of_getElem? hp')
      have zx := some_eq hx (i1 i (List.getElem?_eq_some_iff.mp hx).1)
      have zy := some_eq hy (i2 i (List.getElem?_eq_some_iff.mp hy).1)
      unfold plOk at z
      split at z
      · exact ⟨_, _, _, _, by rw [zx, zy]⟩
      · cases z
    simp only [dRet, dRetN, dIf, dSeq, dDrop, dAsg, gNm, gTp, gsNil, gsCons, dAsgL, dApp, dExt, dIns, dPopAt, dSetIx, dPar, dAug, dNext, mVar, mVarN, mC, m1, m2, mTst, mChain, mNot, mAnd, mOr, mAndV, mOrV, mNotV, mIf, mNil, mCons, mBag, Du.dataOf, mTup, mLst, mB, mCall, mIsi, mIsi2, fAdd, fI, fI0, fMul, fB, fEq, fNe, fIn, fGeD, fIs, isBd, fIsN, isNd, fNeg, fIx, mSlL, mSlT, mNoP, mPart, fLen, fAbs, fInt, fMin2, fTuple, fList, fAll, fAny, fRepr, miL, miT, miR1, miR2, miEn, miZip, miZip3, mRow, wipeE, dFor, mYes, Du.envOf, Option.map_some, Option.map_none, List.map_cons, List.map_nil, List.length_cons, List.length_nil, Nat.sub_self, Nat.add_sub_cancel, Nat.reduceAdd, Nat.reduceSub, List.replicate, List.cons_append, List.nil_append, List.append_nil, List.getElem?_cons_zero, List.getElem?_cons_succ, List.getElem?_nil, List.set_cons_zero, List.set_cons_succ]
    refine mLc_pure (zipD3 vs ws pds) (fun d => match d with
      | .tuple [x, y, p] => [.v (.tuple pds), .v (.tuple vs), .v (.tuple ws), .un, .v x, .v y, .v p]
      | _ => []) dP dV (fun k' hk => hk) (by rw [zipD3_len]; omega) (fun d hd k' hk => ?_) (fun d hd k' hk => ?_) (fun d hd hp k' hk => ?_) ?_
    · obtain ⟨i, j, m, ms, rfl⟩ := mem d hd
      simp only [dRet, dRetN, dIf, dSeq, dDrop, dAsg, gNm, gTp, gsNil, gsCons, dAsgL, dApp, dExt, dIns, dPopAt, dSetIx, dPar, dAug, dNext, mVar, mVarN, mC, m1, m2, mTst, mChain, mNot, mAnd, mOr, mAndV, mOrV, mNotV, mIf, mNil, mCons, mBag, Du.dataOf, mTup, mLst, mB, mCall, mIsi, mIsi2, mNotD, mTru, truD, fAdd, fI, fI0, fMul, fB, fEq, fNe, fIn, fGeD, fIs, isBd, fIsN, isNd, fNeg, fIx, mSlL, mSlT, mNoP, mPart, fLen, fAbs, fInt, fMin2, fTuple, fList, fAll, fAny, fRepr, miL, miT, miR1, miR2, miEn, miZip, miZip3, mRow, mLc, wipeE, dFor, mYes, Du.envOf, Option.map_some, Option.map_none, List.map_cons, List.map_nil, List.length_cons, List.length_nil, Nat.sub_self, Nat.add_sub_cancel, Nat.reduceAdd, Nat.reduceSub, List.replicate, List.cons_append, List.nil_append, List.append_nil, List.getElem?_cons_zero, List.getElem?_cons_succ, List.getElem?_nil, List.set_cons_zero, List.set_cons_succ]
      first | exact hk | exact ⟨rfl, hk⟩ | exact ⟨trivial, hk⟩
    · obtain ⟨i, j, m, ms, rfl⟩ := mem d hd
      simp only [dRet, dRetN, dIf, dSeq, dDrop, dAsg, gNm, gTp, gsNil, gsCons, dAsgL, dApp, dExt, dIns, dPopAt, dSetIx, dPar, dAug, dNext, mVar, mVarN, mC, m1, m2, mTst, mChain, mNot, mAnd, mOr, mAndV, mOrV, mNotV, mIf, mNil, mCons, mBag, Du.dataOf, mTup, mLst, mB, mCall, mIsi, mIsi2, mNotD, mTru, truD, fAdd, fI, fI0, fMul, fB, fEq, fNe, fIn, fGeD, fIs, isBd, fIsN, isNd, fNeg, fIx, mSlL, mSlT, mNoP, mPart, fLen, fAbs, fInt, fMin2, fTuple, fList, fAll, fAny, fRepr, miL, miT, miR1, miR2, miEn, miZip, miZip3, mRow, mLc, wipeE, dFor, mYes, Du.envOf, Option.map_some, Option.map_none, List.map_cons, List.map_nil, List.length_cons, List.length_nil, Nat.sub_self, Nat.add_sub_cancel, Nat.reduceAdd, Nat.reduceSub, List.replicate, List.cons_append, List.nil_append, List.append_nil, List.getElem?_cons_zero, List.getElem?_cons_succ, List.getElem?_nil, List.set_cons_zero, List.set_cons_succ]
      refine ⟨okNe_int _ _, ?_⟩
      rw [eqv_int]
      exact hk
    · obtain ⟨i, j, m, ms, rfl⟩ := mem d hd
      have a1 : atI [PyData.int m, .tuple ms] 1 = some (.tuple ms) := rfl
      simp only [dRet, dRetN, dIf, dSeq, dDrop, dAsg, gNm, gTp, gsNil, gsCons, dAsgL, dApp, dExt, dIns, dPopAt, dSetIx, dPar, dAug, dNext, mVar, mVarN, mC, m1, m2, mTst, mChain, mNot, mAnd, mOr, mAndV, mOrV, mNotV, mIf, mNil, mCons, mBag, Du.dataOf, mTup, mLst, mB, mCall, mIsi, mIsi2, mNotD, mTru, truD, fAdd, fI, fI0, fMul, fB, fEq, fNe, fIn, fGeD, fIs, isBd, fIsN, isNd, fNeg, fIx, mSlL, mSlT, mNoP, mPart, fLen, fAbs, fInt, fMin2, fTuple, fList, fAll, fAny, fRepr, miL, miT, miR1, miR2, miEn, miZip, miZip3, mRow, mLc, wipeE, dFor, mYes, Du.envOf, Option.map_some, Option.map_none, List.map_cons, List.map_nil, List.length_cons, List.length_nil, Nat.sub_self, Nat.add_sub_cancel, Nat.reduceAdd, Nat.reduceSub, List.replicate, List.cons_append, List.nil_append, List.append_nil, List.getElem?_cons_zero, List.getElem?_cons_succ, List.getElem?_nil, List.set_cons_zero, List.set_cons_succ, a1]
      exact ⟨by decide, hk⟩
    · rw [moved_eq l1 l2]
      have hh : q (.bool (match diffs pds.length vs ws with
        | [k] => (movesOf (pds.getD k .none)).any fun z => PyData.eqv z (.tuple [.int (iv (vs.getD k .none)), .int (iv (ws.getD k .none))])
        | _ => false)) := h
      have hb : ∀ k ∈ diffs pds.length vs ws, k < pds.length := fun k hk => List.mem_range.mp (List.mem_filter.mp hk).1
      have lay : ∀ i j : Int, (PyData.int i).canLay0 = true ∧ (PyData.int j).canLay0 = true ∧ min (PyData.int i).depth (PyData.int j).depth ≤ 60 := fun i j => ⟨by rw [PyData.canLay0], by rw [PyData.canLay0], by simp [PyData.depth]⟩
      generalize diffs pds.length vs ws = D at hh hb
      match D, hh, hb with
      | [], hh, _ => exact ⟨lay _ _, hh⟩
      | [k], hh, hb =>
        have hk := hb k (by simp)
        have ea : vs.getD k .none = .int (iv (vs.getD k .none)) := getD_of (i1 k (by omega))
        have eb : ws.getD k .none = .int (iv (ws.getD k .none)) := getD_of (i2 k (by omega))
        have hpk := List.all_eq_true.mp hp (pds.getD k .none) (by
          rw [List.getD_eq_getElem?_getD, List.getElem?_eq_getElem hk]
          exact List.getElem_mem hk)
        have hms : (movesOf (pds.getD k .none)).all isPair = true := by
          unfold plOk at hpk
          split at hpk
          · rename_i e
            rw [e]
            exact hpk
          · cases hpk
        refine ⟨lay _ _, ?_⟩
        rw [List.map_cons, List.map_nil, ea, eb]
        refine ⟨?_, ?_⟩
        · show okIn (.tuple [.int (iv (vs.getD k .none)), .int (iv (ws.getD k .none))]) (movesOf (pds.getD k .none)) = true
          unfold okIn
          rw [pairs_lay hms]
          simp [PyData.canLay0, PyData.canLayAll0, PyData.depth, PyData.depthAll]
        · show q (.bool (false != (movesOf (pds.getD k .none)).any fun z => PyData.eqv z (.tuple [.int (iv (vs.getD k .none)), .int (iv (ws.getD k .none))])))
          rw [Bool.false_bne]
          exact hh
      | a :: b :: r, hh, _ =>
        refine ⟨lay _ _, ?_⟩
        have e : PyData.eqv (.int ((((a :: b :: r).map fun k => PyData.tuple [vs.getD k .none, ws.getD k .none, .tuple (movesOf (pds.getD k .none))]).length : Nat) : Int)) (.int 1) = false := by
          rw [eqv_int, List.length_map, List.length_cons, List.length_cons]
          exact decide_eq_false (by omega)
        rw [e]
        exact hh
  · exact h.elim
theorem ok_step (T : Txt K mg A) (G_is_tuple_of : FnG P w K mg base 1 A.a_is_tuple_of A.d_is_tuple_of ["thing", "many"] (spF K 2 fTupOf)) (Gis_content : FnG P w K mg base 3 A.ais_content A.dis_content ["bench", "thing"] (spF K 2 fCon)) (Gleads : FnG P w K mg base 2 A.aleads A.dleads ["bench", "one", "other"] (spF K 3 fLeadsD)) : FnG P w K mg base 4 A.ais_step A.dis_step ["bench", "thing"] (spF K 2 fStepD) := by
  refine okD T.is_step.F sc_is_step (fun c cdv A' outer s H E hg hr => (dss_cons (ds_if (PW.pt (dw_or (dt_not (dt_val rfl (de_n (de_call (pe_callG G_is_tuple_of hg (hr.mono (by first | decide | omega)) rfl T._is_tuple_of.g T._is_tuple_of.F.kp T._is_tuple_of.b (da_cons (de_var (pv 1)) (da_cons (de_c pe_int (fun _ => .int _)) da_nil))))))) (dw_or (dt_not (dt_val rfl (de_n (de_call (pe_callG Gis_content hg (hr.mono (by first | decide | omega)) rfl T.is_content.g T.is_content.F.kp T.is_content.b (da_cons (de_var (pv 0)) (da_cons (de_ix (kIxS K) (de_n (de_var (pv 1))) (de_n (de_c pe_int (fun _ => .int _))) (fun _ _ => rfl)) da_nil))))))) (dw_or1 (dt_not (dt_val rfl (de_n (de_call (pe_callG Gis_content hg (hr.mono (by first | decide | omega)) rfl T.is_content.g T.is_content.F.kp T.is_content.b (da_cons (de_var (pv 0)) (da_cons (de_ix (kIxS K) (de_n (de_var (pv 1))) (de_n (de_c pe_int (fun _ => .int _))) (fun _ _ => rfl)) da_nil))))))))))) (dss_one (ds_ret (de_n (de_c pe_bl (fun _ => .bl _))))) dss_nil)
      (dss_one (ds_ret (de_n (de_call (pe_callG Gleads hg (hr.mono (by first | decide | omega)) rfl T.leads.g T.leads.F.kp T.leads.b (da_cons (de_var (pv 0)) (da_cons (de_ix (kIxS K) (de_n (de_var (pv 1))) (de_n (de_c pe_int (fun _ => .int _))) (fun _ _ => rfl)) (da_cons (de_ix (kIxS K) (de_n (de_var (pv 1))) (de_n (de_c pe_int (fun _ => .int _))) (fun _ _ => rfl)) da_nil)))))))))) ?_
  intro as q hl h
  unfold fStepD at h
  split at h
  · rename_i pds d
    obtain ⟨⟨hp, hz, hw⟩, h⟩ := h
    simp only [dRet, dRetN, dIf, dSeq, dDrop, dAsg, gNm, gTp, gsNil, gsCons, dAsgL, dApp, dExt, dIns, dPopAt, dSetIx, dPar, dAug, dNext, mVar, mVarN, mC, m1, m2, mTst, mChain, mNot, mAnd, mOr, mAndV, mOrV, mNotV, mIf, mNil, mCons, mBag, Du.dataOf, mTup, mLst, mB, mCall, mIsi, mIsi2, mNotD, mTru, truD, fAdd, fI, fI0, fMul, fB, fEq, fNe, fIn, fGeD, fIs, isBd, fIsN, isNd, fNeg, fIx, mSlL, mSlT, mNoP, mPart, fLen, fAbs, fInt, fMin2, fTuple, fList, fAll, fAny, fRepr, miL, miT, miR1, miR2, miEn, miZip, miZip3, mRow, mLc, wipeE, dFor, mYes, Du.envOf, Option.map_some, Option.map_none, List.map_cons, List.map_nil, List.length_cons, List.length_nil, Nat.sub_self, Nat.add_sub_cancel, Nat.reduceAdd, Nat.reduceSub, List.replicate, List.cons_append, List.nil_append, List.append_nil, List.getElem?_cons_zero, List.getElem?_cons_succ, List.getElem?_nil, List.set_cons_zero, List.set_cons_succ, fTupOf, fCon, fLeadsD]
    refine ⟨trivial, ?_⟩
    cases hT : isTup d 2 with
    | false =>
      rw [step_no hT] at h
      exact h
    | true =>
      obtain ⟨x, y, rfl⟩ := two_of hT
      have w2 := wq2 x y
      have h' : q (.bool (contentOk pds x && (contentOk pds y && leadsOk pds x y))) := h
      have a0 : atI [x, y] 0 = some x := rfl
      have a1 : atI [x, y] 1 = some y := rfl
      simp only [a0, a1]
      refine ⟨trivial, ⟨hp, hz, by omega⟩, ?_⟩
      cases c1 : contentOk pds x with
      | false =>
        rw [c1] at h'
        exact h'
      | true =>
        refine ⟨trivial, ⟨hp, hz, by omega⟩, ?_⟩
        cases c2 : contentOk pds y with
        | false =>
          rw [c1, c2] at h'
          exact h'
        | true =>
          obtain ⟨vs, rfl, _⟩ := content_ints c1
          obtain ⟨ws, rfl, _⟩ := content_ints c2
          rw [c1, c2] at h'
          exact ⟨trivial, ⟨hp, hz, c1, c2⟩, h'⟩
  · exact h.elim
end
end L12

namespace K12
open PySem PySem.Spec PyProof.Rows L2 On L12 Du
section
variable {K : PySem.W.Frag} {H : Hp}
mutual
theorem dq_da : ∀ {v : V} {d : PyData}, Dq K H v d → Da K H v d
  | _, _, .non => .non
  | _, _, .bl b => .bl b
  | _, _, .int i => .int i
  | _, _, .str x => .str x
  | _, _, .lst h n t => .lst h n (dq_daAll t)
  | _, _, .tup h t => .tup (SqT.of h) (dq_daAll t)
  | _, _, .dct h t => .dct h (dq_daAll t)
theorem dq_daAll : ∀ {vs : List V} {ds : List PyData}, DqAll K H vs ds → DaAll K H vs ds
  | _, _, .nil => .nil
  | _, _, .cons h t => .cons (dq_da h) (dq_daAll t)
end
theorem offs_nil : Du.offs [] H = H := funext fun a => if_neg (by simp)
theorem paired_ds : ∀ {vs : List V} {ds : List PyData}, DqAll K H vs ds → Paired (ArgB K [] [] H) vs (ds.map DV.v)
  | _, _, .nil => .nil
  | _, _, .cons (d := d) h t => .cons (b := DV.v d) (show Da K (Du.offs [] H) _ d by rw [offs_nil]; exact dq_da h) (paired_ds t)
end
section
variable {P : Program} {w : World} {K : PySem.W.Frag} {mg : Str → Option Value} {base : Heap} {A : Ads} {lv : Nat} {fa : Addr} {fd : FuncData} {ps : List Str}
theorem bs_of {n : Nat} {f : List PyData → Option Bool} {g : List DV → (PyData → Prop) → Prop} (hg : ∀ ds r (k : PyData → Prop), f ds = some r → k (.bool r) → g (ds.map DV.v) k) (F : FnG P w K mg base lv fa fd ps (spF K n g)) : FnG P w K mg base lv fa fd ps (spBs K n f) :=
  FnG.imp F fun vs H Q E h => by
  obtain ⟨hs, ds, r, hd, hl, he, k⟩ := h
  refine ⟨[], [], (default : Addr), ds.map DV.v, fun d => d = .bool r, by simp, by simp, hs, by simp, paired_ds hd, ?_, hg ds r _ he rfl, fun d x H' e s _ da => ?_⟩
  · rw [List.length_map, ← dqAll_len hd, hl]
  · subst e
    cases da
    exact k H' fun a o e => s a o (by simp) e
theorem con_hg (ds : List PyData) (r : Bool) (k : PyData → Prop) (h : fContent ds = some r) (hk : k (.bool r)) : L12.fCon (ds.map DV.v) k := by
  unfold fContent at h
  split at h
  · split at h
    · rename_i hw
      cases h
      exact ⟨hw, hk⟩
    · cases h
  · cases h
theorem step_hg (ds : List PyData) (r : Bool) (k : PyData → Prop) (h : fStep ds = some r) (hk : k (.bool r)) : L12.fStepD (ds.map DV.v) k := by
  unfold fStep at h
  split at h
  · split at h
    · rename_i hw
      cases h
      exact ⟨hw, hk⟩
    · cases h
  · cases h
end
end K12

namespace On
open PySem PySem.Spec PyProof.Rows L2
/-- the call of the law, nothing but given things tracked -/
theorem call_core {P : Program} {w : World} {K : PySem.W.Frag} {mg mb : Str → Option Value} {k : Nat} {fa a : Addr} {fd : FuncData} {x : Str} {sp : Sp} {s₁ : Shared} {H : Hp}
    (KX : K.In s₁.heap) (hns : s₁.heap.Ns mainGlobals mg) (hb : s₁.heap.Ns builtinsNs mb) (hbb : ∀ x : Str, x ≠ "__name__" → mb x = bootBuiltins x) (hlim : s₁.heap.NoLimit) (hg : s₁.gens = #[]) (hr : Room k callerA)
    (F : ∀ base : Heap, K.In base → base.Ns mainGlobals mg → FnG P w K mg base k fa fd [x] sp) (hbind : ∀ (s : Shared) (u : Value), BindsTo s fd ⟨[u], []⟩ [(x, u)])
    (hok : HOk P w H s₁.heap) (h2 : ∀ b u, H b = some u → ∃ ob v, u = .frz ob v) (h3 : ∀ b u, H b = some u → K.lookup b = Option.none) (n1 : H mainGlobals = Option.none) (n2 : H builtinsNs = Option.none) (n3 : H cStatics = Option.none)
    (hsp : sp [.ref a] H (fun v _ => v = .bl true) fun _ _ _ => False) :
    codeAny (model P w) callerA (.call (.ref fa) ⟨[.ref a], []⟩) (fun r s' => r = .ok (.ret (.bool true)) ∧ OldK s₁.heap s'.heap ∧ s'.os = s₁.os ∧ AllBare s'.gens) s₁ := by
  have ns : ∀ {b : Addr} {m : Str → Option Value}, H b = Option.none → s₁.heap.Ns b m → (hidT s₁.heap H).Ns b m := fun n ⟨o, es, ep, e, r⟩ => ⟨o, es, ep, hidT_get e n, r⟩
  have kin : K.In (hidT s₁.heap H) := fun b o e => hidT_get (KX b o e) (by
    cases q : H b with
    | none => rfl
    | some u =>
      rw [h3 b u q] at e
      cases e)
  obtain ⟨mc, c1, c2⟩ := hlim
  have M : Mod K mg (hidT s₁.heap H) := ⟨kin, ns n1 hns, ⟨mb, ns n2 hb, hbb⟩, ⟨mc, ns n3 c1, c2⟩⟩
  have e0 : Env0 P w K mg (hidT s₁.heap H) callerA [] s₁ H := ⟨rfl, M, fun b o e => of_hidT e, Nat.le_of_eq (hidT_size _ _), trivial, fun b hb => absurd (show b ∈ ([] : List Addr) from hb) (by simp), hok, .of_eq hg⟩
  refine codeAny_mono ((F _ kin (ns n1 hns)).go callerA [] s₁ H ⟨[.ref a], []⟩ [.ref a] [.ref a] _ _ rfl hr e0 (hbind s₁ (.ref a)) (.cons rfl .nil) hsp) fun r s' h => ?_
  cases r with
  | error e => exact False.elim h
  | ok fl =>
    cases fl with
    | next => exact False.elim h
    | brk => exact False.elim h
    | cont => exact False.elim h
    | ret u =>
      obtain ⟨v, H', os, bare, un, hok', r', q⟩ := h
      obtain rfl : v = .bl true := q
      obtain rfl : u = Value.bool true := r'
      refine ⟨rfl, OldK.of_keep fun b o e => ?_, os, bare⟩
      cases q : H b with
      | none => exact un.keep b o e q (by intro z; exact absurd (show b ∈ ([] : List Addr) from z) (by simp)) (by simp)
      | some u =>
        obtain ⟨ob, y, rfl⟩ := h2 b u q
        obtain ⟨e1, _⟩ := hok b _ q
        obtain ⟨e2, _⟩ := hok' b _ (un.frzs b ob _ q)
        rw [e] at e1
        cases e1
        exact e2
def sysH (o : Obj) : Hp := fun b => if b = sysModules then some (HO.frz o (.ext fun _ => True)) else Option.none
theorem sysH_at {o : Obj} : sysH o sysModules = some (HO.frz o (.ext fun _ => True)) := if_pos rfl
theorem sysH_ne {o : Obj} {b : Addr} (h : b ≠ sysModules) : sysH o b = Option.none := if_neg h
theorem sysH_some {o : Obj} {b : Addr} {u : HO} (h : sysH o b = some u) : b = sysModules ∧ u = HO.frz o (.ext fun _ => True) := by
  by_cases e : b = sysModules
  · subst e
    rw [sysH_at] at h
    cases h
    exact ⟨rfl, rfl⟩
  · rw [sysH_ne e] at h
    cases h
theorem walk_G {l : PySem.W.OpenLaw} {n k : Nat} {q : Program} {loose : List Str} {XP : (Str → Option Value) → Heap → Prop} {YP : World → Heap → Prop} {d : DefRec} {K : Params → PySem.W.Frag} {sp : PySem.W.Frag → Sp} {x : Str}
    (hn : l.most = some n) (hn2 : n ≤ sizeLine) (hdf : d.params.defaults = []) (hr : Room k callerA) (hi : importsNone q = true)
    (hY : ∀ (w : World) (h : Heap), YP w h → (K w.params).In h)
    (F : ∀ (w : World) (mg : Str → Option Value) (fa : Addr) (h : Heap), (K w.params).In h → h.Ns mainGlobals mg → mg d.name = some (.ref fa) →
      (K w.params).lookup sysModules = Option.none ∧ ∃ fd : FuncData, (∀ (s : Shared) (u : Value), BindsTo s fd ⟨[u], []⟩ [(x, u)]) ∧
        ∀ base : Heap, (K w.params).In base → base.Ns mainGlobals mg → FnG l.prog w (K w.params) mg base k fa fd [x] (sp (K w.params)))
    (hsp : ∀ (K : PySem.W.Frag) (H : Hp) (a : Addr) (ns : List Int), ns.length ≤ n → Sys H → SqL K H a (ns.map V.int) → sp K [.ref a] H (fun v _ => v = .bl true) fun _ _ _ => False) :
    PySem.W.WalkO q loose XP YP l.row.toRowW d [] (fun f vs => PySem.call f vs) := by
  refine Att.attach_call hn hdf fun w s₀ s₁ mg mb fa o pm cd doc a vs ns G Y ho hd hcd hmg hobj hints hlen hg => ?_
  have KX := hY w _ Y
  obtain ⟨hs, fd, hb, hF⟩ := F w mg fa _ KX G.T.g hmg
  obtain ⟨_, ⟨o2, _, _, ho2, _⟩, _⟩ := (G.T.seer hi).mods
  have hl := hints.length
  have na : ∀ {b : Addr} {m : Str → Option Value}, s₁.heap.Ns b m → b ≠ a := fun ⟨o, es, ep, e, d, _⟩ z => by
    rw [z, hobj] at e
    cases e
    cases d
  obtain ⟨mc, c1, c2⟩ := id G.T.nolimit
  have hx : ∀ H, ObjOk l.prog w H s₁.heap sysModules (HO.frz o2 (.ext fun _ => True)) := fun H => ⟨ho2, trivial, ⟨o2, ho2⟩, fun _ _ _ _ => trivial⟩
  have s1 : mainGlobals ≠ sysModules := by decide
  have s2 : builtinsNs ≠ sysModules := by decide
  have s3 : cStatics ≠ sysModules := by decide
  cases hk : (K w.params).lookup a with
  | some oa =>
    have e := KX a oa hk
    rw [hobj] at e
    cases e
    refine call_core (H := sysH o2) KX G.T.g G.T.b G.T.builtins G.T.nolimit hg hr hF hb (fun b u z => ?_) (fun b u z => ?_) (fun b u z => ?_) (sysH_ne s1) (sysH_ne s2) (sysH_ne s3)
      (hsp _ _ a ns hlen ⟨(o2, _), sysH_at⟩ (.inr ⟨_, vs.toArray, _, hk, rfl, rfl, rfl, by rw [List.size_toArray, hl]; exact Nat.le_trans hlen hn2, by simpa using vals_ints hints⟩))
    · obtain ⟨rfl, rfl⟩ := sysH_some z
      exact hx _
    · obtain ⟨rfl, rfl⟩ := sysH_some z
      exact ⟨_, _, rfl⟩
    · obtain ⟨rfl, rfl⟩ := sysH_some z
      exact hs
  | none =>
    have ne : ∀ {b : Addr}, b ≠ a → b ≠ sysModules → upd (sysH o2) a (.frz { cls := .type "list", data := .seq vs.toArray } (.lst (ns.map V.int))) b = Option.none := fun h1 h2 => by
      rw [upd_ne h1]
      exact sysH_ne h2
    have sm : ∀ {b : Addr} {u : HO}, upd (sysH o2) a (.frz { cls := .type "list", data := .seq vs.toArray } (.lst (ns.map V.int))) b = some u → (b = a ∧ u = .frz { cls := .type "list", data := .seq vs.toArray } (.lst (ns.map V.int))) ∨ (b = sysModules ∧ u = HO.frz o2 (.ext fun _ => True)) := fun {b u} z => by
      by_cases e : b = a
      · subst e
        rw [upd_same] at z
        cases z
        exact .inl ⟨rfl, rfl⟩
      · rw [upd_ne e] at z
        exact .inr (sysH_some z)
    have hSys : Sys (upd (sysH o2) a (.frz { cls := .type "list", data := .seq vs.toArray } (.lst (ns.map V.int)))) := by
      by_cases e : sysModules = a
      · exact ⟨(_, _), by rw [← e]; exact upd_same⟩
      · exact ⟨(o2, _), by rw [upd_ne e]; exact sysH_at⟩
    refine call_core (H := upd (sysH o2) a (.frz { cls := .type "list", data := .seq vs.toArray } (.lst (ns.map V.int)))) KX G.T.g G.T.b G.T.builtins G.T.nolimit hg hr hF hb (fun b u z => ?_) (fun b u z => ?_) (fun b u z => ?_) (ne (na G.T.g) s1) (ne (na G.T.b) s2) (ne (na c1) s3)
      (hsp _ _ a ns hlen hSys (.inl (.inr ⟨_, upd_same⟩)))
    · rcases sm z with ⟨rfl, rfl⟩ | ⟨rfl, rfl⟩
      · exact ⟨hobj, by rw [List.length_map]; exact Nat.le_trans hlen hn2, vs, _, vals_ints hints, hobj⟩
      · exact hx _
    · rcases sm z with ⟨rfl, rfl⟩ | ⟨rfl, rfl⟩ <;> exact ⟨_, _, rfl⟩
    · rcases sm z with ⟨rfl, rfl⟩ | ⟨rfl, rfl⟩
      · exact hk
      · exact hs
end On

namespace K12
open PySem PySem.Spec PyProof.Rows L2 On L12
theorem df_mk {K : PySem.W.Frag} {h : Heap} {mg : Str → Option Value} {x : Str} {st : Stmt} {ps : List Str} {f : Addr} {oc : Value} {od an : Option Addr} {osl : Array (Option Value)} {kV doc pm cdv ct : Value} (X : K.In h) (G : h.Ns mainGlobals mg)
    (a : PySem.W.nsIn K mainGlobals x = some (some (.ref f))) (l : K.lookup f = some ⟨oc, od, .func (PySem.W.fnOf x x (defArgs st) (defBody st) (defScope st) .none kV doc pm an cdv ct), osl⟩) (c : PySem.W.codeIn K cdv x = true) (k : PySem.W.keepIn K (.ref f) = true)
    (b : ∀ F : Fun K x x st f (PySem.W.fnOf x x (defArgs st) (defBody st) (defScope st) .none kV doc pm an cdv ct), Binds K (PySem.W.fnOf x x (defArgs st) (defBody st) (defScope st) .none kV doc pm an cdv ct) ps []) : Df K mg x st ps f (PySem.W.fnOf x x (defArgs st) (defBody st) (defScope st) .none kV doc pm an cdv ct) :=
  ⟨fun_mk l c k, PySem.W.mg_of X G a, b (fun_mk l c k)⟩
theorem all_mk {l : PySem.W.OpenLaw} {w : World} {K : PySem.W.Frag} {h : Heap} {mg : Str → Option Value} {fa f0 f1 f2 f3 f4 f5 f6 f7 f8 f9 f10 f11 f12 f13 f14 f15 f16 f17 f18 f19 f20 f21 f22 f23 f24 f25 : Addr} (X : K.In h) (G : h.Ns mainGlobals mg) (hfa : mg "law" = some (.ref fa))
    {od0 an0 od1 an1 od2 an2 od3 an3 od4 an4 od5 an5 od6 an6 od7 an7 od8 an8 od9 an9 od10 an10 od11 an11 od12 an12 od13 an13 od14 an14 od15 an15 od16 an16 od17 an17 od18 an18 od19 an19 od20 an20 od21 an21 od22 an22 od23 an23 od24 an24 od25 an25 : Option Addr} {sl0 sl1 sl2 sl3 sl4 sl5 sl6 sl7 sl8 sl9 sl10 sl11 sl12 sl13 sl14 sl15 sl16 sl17 sl18 sl19 sl20 sl21 sl22 sl23 sl24 sl25 : Array (Option Value)} {oc0 kV0 dc0 pm0 cd0 ct0 oc1 kV1 dc1 pm1 cd1 ct1 oc2 kV2 dc2 pm2 cd2 ct2 oc3 kV3 dc3 pm3 cd3 ct3 oc4 kV4 dc4 pm4 cd4 ct4 oc5 kV5 dc5 pm5 cd5 ct5 oc6 kV6 dc6 pm6 cd6 ct6 oc7 kV7 dc7 pm7 cd7 ct7 oc8 kV8 dc8 pm8 cd8 ct8 oc9 kV9 dc9 pm9 cd9 ct9 oc10 kV10 dc10 pm10 cd10 ct10 oc11 kV11 dc11 pm11 cd11 ct11 oc12 kV12 dc12 pm12 cd12 ct12 oc13 kV13 dc13 pm13 cd13 ct13 oc14 kV14 dc14 pm14 cd14 ct14 oc15 kV15 dc15 pm15 cd15 ct15 oc16 kV16 dc16 pm16 cd16 ct16 oc17 kV17 dc17 pm17 cd17 ct17 oc18 kV18 dc18 pm18 cd18 ct18 oc19 kV19 dc19 pm19 cd19 ct19 oc20 kV20 dc20 pm20 cd20 ct20 oc21 kV21 dc21 pm21 cd21 ct21 oc22 kV22 dc22 pm22 cd22 ct22 oc23 kV23 dc23 pm23 cd23 ct23 oc24 kV24 dc24 pm24 cd24 ct24 oc25 kV25 dc25 pm25 cd25 ct25 : Value} (sm : PySem.W.typeIn K (.ref 1) = none)
    (a0 : PySem.W.nsIn K mainGlobals "steps_from" = some (some (.ref f0))) (l0 : K.lookup f0 = some ⟨oc0, od0, .func (PySem.W.fnOf "steps_from" "steps_from" (defArgs ssteps_from) (defBody ssteps_from) (defScope ssteps_from) .none kV0 dc0 pm0 an0 cd0 ct0), sl0⟩) (c0 : PySem.W.codeIn K cd0 "steps_from" = true) (k0 : PySem.W.keepIn K (.ref f0) = true)
    (a1 : PySem.W.nsIn K mainGlobals "_with_value" = some (some (.ref f1))) (l1 : K.lookup f1 = some ⟨oc1, od1, .func (PySem.W.fnOf "_with_value" "_with_value" (defArgs s_with_value) (defBody s_with_value) (defScope s_with_value) .none kV1 dc1 pm1 an1 cd1 ct1), sl1⟩) (c1 : PySem.W.codeIn K cd1 "_with_value" = true) (k1 : PySem.W.keepIn K (.ref f1) = true)
    (a2 : PySem.W.nsIn K mainGlobals "_is_tuple_of" = some (some (.ref f2))) (l2 : K.lookup f2 = some ⟨oc2, od2, .func (PySem.W.fnOf "_is_tuple_of" "_is_tuple_of" (defArgs s_is_tuple_of) (defBody s_is_tuple_of) (defScope s_is_tuple_of) .none kV2 dc2 pm2 an2 cd2 ct2), sl2⟩) (c2 : PySem.W.codeIn K cd2 "_is_tuple_of" = true) (k2 : PySem.W.keepIn K (.ref f2) = true)
    (a3 : PySem.W.nsIn K mainGlobals "ascends" = some (some (.ref f3))) (l3 : K.lookup f3 = some ⟨oc3, od3, .func (PySem.W.fnOf "ascends" "ascends" (defArgs sascends) (defBody sascends) (defScope sascends) .none kV3 dc3 pm3 an3 cd3 ct3), sl3⟩) (c3 : PySem.W.codeIn K cd3 "ascends" = true) (k3 : PySem.W.keepIn K (.ref f3) = true)
    (a4 : PySem.W.nsIn K mainGlobals "is_content" = some (some (.ref f4))) (l4 : K.lookup f4 = some ⟨oc4, od4, .func (PySem.W.fnOf "is_content" "is_content" (defArgs sis_content) (defBody sis_content) (defScope sis_content) .none kV4 dc4 pm4 an4 cd4 ct4), sl4⟩) (c4 : PySem.W.codeIn K cd4 "is_content" = true) (k4 : PySem.W.keepIn K (.ref f4) = true)
    (a5 : PySem.W.nsIn K mainGlobals "is_step" = some (some (.ref f5))) (l5 : K.lookup f5 = some ⟨oc5, od5, .func (PySem.W.fnOf "is_step" "is_step" (defArgs sis_step) (defBody sis_step) (defScope sis_step) .none kV5 dc5 pm5 an5 cd5 ct5), sl5⟩) (c5 : PySem.W.codeIn K cd5 "is_step" = true) (k5 : PySem.W.keepIn K (.ref f5) = true)
    (a6 : PySem.W.nsIn K mainGlobals "leads" = some (some (.ref f6))) (l6 : K.lookup f6 = some ⟨oc6, od6, .func (PySem.W.fnOf "leads" "leads" (defArgs sleads) (defBody sleads) (defScope sleads) .none kV6 dc6 pm6 an6 cd6 ct6), sl6⟩) (c6 : PySem.W.codeIn K cd6 "leads" = true) (k6 : PySem.W.keepIn K (.ref f6) = true)
    (a7 : PySem.W.nsIn K mainGlobals "are_contents" = some (some (.ref f7))) (l7 : K.lookup f7 = some ⟨oc7, od7, .func (PySem.W.fnOf "are_contents" "are_contents" (defArgs sare_contents) (defBody sare_contents) (defScope sare_contents) .none kV7 dc7 pm7 an7 cd7 ct7), sl7⟩) (c7 : PySem.W.codeIn K cd7 "are_contents" = true) (k7 : PySem.W.keepIn K (.ref f7) = true)
    (a8 : PySem.W.nsIn K mainGlobals "_law_bag" = some (some (.ref f8))) (l8 : K.lookup f8 = some ⟨oc8, od8, .func (PySem.W.fnOf "_law_bag" "_law_bag" (defArgs s_law_bag) (defBody s_law_bag) (defScope s_law_bag) .none kV8 dc8 pm8 an8 cd8 ct8), sl8⟩) (c8 : PySem.W.codeIn K cd8 "_law_bag" = true) (k8 : PySem.W.keepIn K (.ref f8) = true)
    (a9 : PySem.W.nsIn K mainGlobals "_law_take" = some (some (.ref f9))) (l9 : K.lookup f9 = some ⟨oc9, od9, .func (PySem.W.fnOf "_law_take" "_law_take" (defArgs s_law_take) (defBody s_law_take) (defScope s_law_take) .none kV9 dc9 pm9 an9 cd9 ct9), sl9⟩) (c9 : PySem.W.codeIn K cd9 "_law_take" = true) (k9 : PySem.W.keepIn K (.ref f9) = true)
    (a10 : PySem.W.nsIn K mainGlobals "_law_some" = some (some (.ref f10))) (l10 : K.lookup f10 = some ⟨oc10, od10, .func (PySem.W.fnOf "_law_some" "_law_some" (defArgs s_law_some) (defBody s_law_some) (defScope s_law_some) .none kV10 dc10 pm10 an10 cd10 ct10), sl10⟩) (c10 : PySem.W.codeIn K cd10 "_law_some" = true) (k10 : PySem.W.keepIn K (.ref f10) = true)
    (a11 : PySem.W.nsIn K mainGlobals "_law_alike" = some (some (.ref f11))) (l11 : K.lookup f11 = some ⟨oc11, od11, .func (PySem.W.fnOf "_law_alike" "_law_alike" (defArgs s_law_alike) (defBody s_law_alike) (defScope s_law_alike) .none kV11 dc11 pm11 an11 cd11 ct11), sl11⟩) (c11 : PySem.W.codeIn K cd11 "_law_alike" = true) (k11 : PySem.W.keepIn K (.ref f11) = true)
    (a12 : PySem.W.nsIn K mainGlobals "_law_mixed" = some (some (.ref f12))) (l12 : K.lookup f12 = some ⟨oc12, od12, .func (PySem.W.fnOf "_law_mixed" "_law_mixed" (defArgs s_law_mixed) (defBody s_law_mixed) (defScope s_law_mixed) .none kV12 dc12 pm12 an12 cd12 ct12), sl12⟩) (c12 : PySem.W.codeIn K cd12 "_law_mixed" = true) (k12 : PySem.W.keepIn K (.ref f12) = true)
    (a13 : PySem.W.nsIn K mainGlobals "_law_place" = some (some (.ref f13))) (l13 : K.lookup f13 = some ⟨oc13, od13, .func (PySem.W.fnOf "_law_place" "_law_place" (defArgs s_law_place) (defBody s_law_place) (defScope s_law_place) .none kV13 dc13 pm13 an13 cd13 ct13), sl13⟩) (c13 : PySem.W.codeIn K cd13 "_law_place" = true) (k13 : PySem.W.keepIn K (.ref f13) = true)
    (a14 : PySem.W.nsIn K mainGlobals "_law_bench" = some (some (.ref f14))) (l14 : K.lookup f14 = some ⟨oc14, od14, .func (PySem.W.fnOf "_law_bench" "_law_bench" (defArgs s_law_bench) (defBody s_law_bench) (defScope s_law_bench) .none kV14 dc14 pm14 an14 cd14 ct14), sl14⟩) (c14 : PySem.W.codeIn K cd14 "_law_bench" = true) (k14 : PySem.W.keepIn K (.ref f14) = true)
    (a15 : PySem.W.nsIn K mainGlobals "_law_contents" = some (some (.ref f15))) (l15 : K.lookup f15 = some ⟨oc15, od15, .func (PySem.W.fnOf "_law_contents" "_law_contents" (defArgs s_law_contents) (defBody s_law_contents) (defScope s_law_contents) .none kV15 dc15 pm15 an15 cd15 ct15), sl15⟩) (c15 : PySem.W.codeIn K cd15 "_law_contents" = true) (k15 : PySem.W.keepIn K (.ref f15) = true)
    (a16 : PySem.W.nsIn K mainGlobals "_law_steps" = some (some (.ref f16))) (l16 : K.lookup f16 = some ⟨oc16, od16, .func (PySem.W.fnOf "_law_steps" "_law_steps" (defArgs s_law_steps) (defBody s_law_steps) (defScope s_law_steps) .none kV16 dc16 pm16 an16 cd16 ct16), sl16⟩) (c16 : PySem.W.codeIn K cd16 "_law_steps" = true) (k16 : PySem.W.keepIn K (.ref f16) = true)
    (a17 : PySem.W.nsIn K mainGlobals "_law_is_int" = some (some (.ref f17))) (l17 : K.lookup f17 = some ⟨oc17, od17, .func (PySem.W.fnOf "_law_is_int" "_law_is_int" (defArgs s_law_is_int) (defBody s_law_is_int) (defScope s_law_is_int) .none kV17 dc17 pm17 an17 cd17 ct17), sl17⟩) (c17 : PySem.W.codeIn K cd17 "_law_is_int" = true) (k17 : PySem.W.keepIn K (.ref f17) = true)
    (a18 : PySem.W.nsIn K mainGlobals "_law_is_content" = some (some (.ref f18))) (l18 : K.lookup f18 = some ⟨oc18, od18, .func (PySem.W.fnOf "_law_is_content" "_law_is_content" (defArgs s_law_is_content) (defBody s_law_is_content) (defScope s_law_is_content) .none kV18 dc18 pm18 an18 cd18 ct18), sl18⟩) (c18 : PySem.W.codeIn K cd18 "_law_is_content" = true) (k18 : PySem.W.keepIn K (.ref f18) = true)
    (a19 : PySem.W.nsIn K mainGlobals "_law_are_contents" = some (some (.ref f19))) (l19 : K.lookup f19 = some ⟨oc19, od19, .func (PySem.W.fnOf "_law_are_contents" "_law_are_contents" (defArgs s_law_are_contents) (defBody s_law_are_contents) (defScope s_law_are_contents) .none kV19 dc19 pm19 an19 cd19 ct19), sl19⟩) (c19 : PySem.W.codeIn K cd19 "_law_are_contents" = true) (k19 : PySem.W.keepIn K (.ref f19) = true)
    (a20 : PySem.W.nsIn K mainGlobals "_law_leads" = some (some (.ref f20))) (l20 : K.lookup f20 = some ⟨oc20, od20, .func (PySem.W.fnOf "_law_leads" "_law_leads" (defArgs s_law_leads) (defBody s_law_leads) (defScope s_law_leads) .none kV20 dc20 pm20 an20 cd20 ct20), sl20⟩) (c20 : PySem.W.codeIn K cd20 "_law_leads" = true) (k20 : PySem.W.keepIn K (.ref f20) = true)
    (a21 : PySem.W.nsIn K mainGlobals "_law_is_step" = some (some (.ref f21))) (l21 : K.lookup f21 = some ⟨oc21, od21, .func (PySem.W.fnOf "_law_is_step" "_law_is_step" (defArgs s_law_is_step) (defBody s_law_is_step) (defScope s_law_is_step) .none kV21 dc21 pm21 an21 cd21 ct21), sl21⟩) (c21 : PySem.W.codeIn K cd21 "_law_is_step" = true) (k21 : PySem.W.keepIn K (.ref f21) = true)
    (a22 : PySem.W.nsIn K mainGlobals "_law_odd" = some (some (.ref f22))) (l22 : K.lookup f22 = some ⟨oc22, od22, .func (PySem.W.fnOf "_law_odd" "_law_odd" (defArgs s_law_odd) (defBody s_law_odd) (defScope s_law_odd) .none kV22 dc22 pm22 an22 cd22 ct22), sl22⟩) (c22 : PySem.W.codeIn K cd22 "_law_odd" = true) (k22 : PySem.W.keepIn K (.ref f22) = true)
    (a23 : PySem.W.nsIn K mainGlobals "_law_bent" = some (some (.ref f23))) (l23 : K.lookup f23 = some ⟨oc23, od23, .func (PySem.W.fnOf "_law_bent" "_law_bent" (defArgs s_law_bent) (defBody s_law_bent) (defScope s_law_bent) .none kV23 dc23 pm23 an23 cd23 ct23), sl23⟩) (c23 : PySem.W.codeIn K cd23 "_law_bent" = true) (k23 : PySem.W.keepIn K (.ref f23) = true)
    (a24 : PySem.W.nsIn K mainGlobals "_law_flat" = some (some (.ref f24))) (l24 : K.lookup f24 = some ⟨oc24, od24, .func (PySem.W.fnOf "_law_flat" "_law_flat" (defArgs s_law_flat) (defBody s_law_flat) (defScope s_law_flat) .none kV24 dc24 pm24 an24 cd24 ct24), sl24⟩) (c24 : PySem.W.codeIn K cd24 "_law_flat" = true) (k24 : PySem.W.keepIn K (.ref f24) = true)
    (a25 : PySem.W.nsIn K mainGlobals "law" = some (some (.ref f25))) (l25 : K.lookup f25 = some ⟨oc25, od25, .func (PySem.W.fnOf "law" "law" (defArgs slaw) (defBody slaw) (defScope slaw) .none kV25 dc25 pm25 an25 cd25 ct25), sl25⟩) (c25 : PySem.W.codeIn K cd25 "law" = true) (k25 : PySem.W.keepIn K (.ref f25) = true)
    (n_abs : PySem.W.nsIn K mainGlobals "abs" = some none)
    (n_all : PySem.W.nsIn K mainGlobals "all" = some none)
    (n_bool : PySem.W.nsIn K mainGlobals "bool" = some none)
    (n_enumerate : PySem.W.nsIn K mainGlobals "enumerate" = some none)
    (n_int : PySem.W.nsIn K mainGlobals "int" = some none)
    (n_isinstance : PySem.W.nsIn K mainGlobals "isinstance" = some none)
    (n_len : PySem.W.nsIn K mainGlobals "len" = some none)
    (n_list : PySem.W.nsIn K mainGlobals "list" = some none)
    (n_min : PySem.W.nsIn K mainGlobals "min" = some none)
    (n_range : PySem.W.nsIn K mainGlobals "range" = some none)
    (n_repr : PySem.W.nsIn K mainGlobals "repr" = some none)
    (n_sorted : PySem.W.nsIn K mainGlobals "sorted" = some none)
    (n_tuple : PySem.W.nsIn K mainGlobals "tuple" = some none)
    (n_zip : PySem.W.nsIn K mainGlobals "zip" = some none) :
    K.lookup sysModules = none ∧ ∃ fd : FuncData, (∀ (s : Shared) (v : Value), BindsTo s fd ⟨[v], []⟩ [("_law_script", v)]) ∧ ∀ base : Heap, K.In base → base.Ns mainGlobals mg → FnG l.prog w K mg base 25 fa fd ["_law_script"] (spLaw K) := by
  have e := hfa.symm.trans (PySem.W.mg_of X G a25)
  cases e
  let A : Ads := ⟨f0, PySem.W.fnOf "steps_from" "steps_from" (defArgs ssteps_from) (defBody ssteps_from) (defScope ssteps_from) .none kV0 dc0 pm0 an0 cd0 ct0, f1, PySem.W.fnOf "_with_value" "_with_value" (defArgs s_with_value) (defBody s_with_value) (defScope s_with_value) .none kV1 dc1 pm1 an1 cd1 ct1, f2, PySem.W.fnOf "_is_tuple_of" "_is_tuple_of" (defArgs s_is_tuple_of) (defBody s_is_tuple_of) (defScope s_is_tuple_of) .none kV2 dc2 pm2 an2 cd2 ct2, f3, PySem.W.fnOf "ascends" "ascends" (defArgs sascends) (defBody sascends) (defScope sascends) .none kV3 dc3 pm3 an3 cd3 ct3, f4, PySem.W.fnOf "is_content" "is_content" (defArgs sis_content) (defBody sis_content) (defScope sis_content) .none kV4 dc4 pm4 an4 cd4 ct4, f5, PySem.W.fnOf "is_step" "is_step" (defArgs sis_step) (defBody sis_step) (defScope sis_step) .none kV5 dc5 pm5 an5 cd5 ct5, f6, PySem.W.fnOf "leads" "leads" (defArgs sleads) (defBody sleads) (defScope sleads) .none kV6 dc6 pm6 an6 cd6 ct6, f7, PySem.W.fnOf "are_contents" "are_contents" (defArgs sare_contents) (defBody sare_contents) (defScope sare_contents) .none kV7 dc7 pm7 an7 cd7 ct7, f8, PySem.W.fnOf "_law_bag" "_law_bag" (defArgs s_law_bag) (defBody s_law_bag) (defScope s_law_bag) .none kV8 dc8 pm8 an8 cd8 ct8, f9, PySem.W.fnOf "_law_take" "_law_take" (defArgs s_law_take) (defBody s_law_take) (defScope s_law_take) .none kV9 dc9 pm9 an9 cd9 ct9, f10, PySem.W.fnOf "_law_some" "_law_some" (defArgs s_law_some) (defBody s_law_some) (defScope s_law_some) .none kV10 dc10 pm10 an10 cd10 ct10, f11, PySem.W.fnOf "_law_alike" "_law_alike" (defArgs s_law_alike) (defBody s_law_alike) (defScope s_law_alike) .none kV11 dc11 pm11 an11 cd11 ct11, f12, PySem.W.fnOf "_law_mixed" "_law_mixed" (defArgs s_law_mixed) (defBody s_law_mixed) (defScope s_law_mixed) .none kV12 dc12 pm12 an12 cd12 ct12, f13, PySem.W.fnOf "_law_place" "_law_place" (defArgs s_law_place) (defBody s_law_place) (defScope s_law_place) .none kV13 dc13 pm13 an13 cd13 ct13, f14, PySem.W.fnOf "_law_bench" "_law_bench" (defArgs s_law_bench) (defBody s_law_bench) (defScope s_law_bench) .none kV14 dc14 pm14 an14 cd14 ct14, f15, PySem.W.fnOf "_law_contents" "_law_contents" (defArgs s_law_contents) (defBody s_law_contents) (defScope s_law_contents) .none kV15 dc15 pm15 an15 cd15 ct15, f16, PySem.W.fnOf "_law_steps" "_law_steps" (defArgs s_law_steps) (defBody s_law_steps) (defScope s_law_steps) .none kV16 dc16 pm16 an16 cd16 ct16, f17, PySem.W.fnOf "_law_is_int" "_law_is_int" (defArgs s_law_is_int) (defBody s_law_is_int) (defScope s_law_is_int) .none kV17 dc17 pm17 an17 cd17 ct17, f18, PySem.W.fnOf "_law_is_content" "_law_is_content" (defArgs s_law_is_content) (defBody s_law_is_content) (defScope s_law_is_content) .none kV18 dc18 pm18 an18 cd18 ct18, f19, PySem.W.fnOf "_law_are_contents" "_law_are_contents" (defArgs s_law_are_contents) (defBody s_law_are_contents) (defScope s_law_are_contents) .none kV19 dc19 pm19 an19 cd19 ct19, f20, PySem.W.fnOf "_law_leads" "_law_leads" (defArgs s_law_leads) (defBody s_law_leads) (defScope s_law_leads) .none kV20 dc20 pm20 an20 cd20 ct20, f21, PySem.W.fnOf "_law_is_step" "_law_is_step" (defArgs s_law_is_step) (defBody s_law_is_step) (defScope s_law_is_step) .none kV21 dc21 pm21 an21 cd21 ct21, f22, PySem.W.fnOf "_law_odd" "_law_odd" (defArgs s_law_odd) (defBody s_law_odd) (defScope s_law_odd) .none kV22 dc22 pm22 an22 cd22 ct22, f23, PySem.W.fnOf "_law_bent" "_law_bent" (defArgs s_law_bent) (defBody s_law_bent) (defScope s_law_bent) .none kV23 dc23 pm23 an23 cd23 ct23, f24, PySem.W.fnOf "_law_flat" "_law_flat" (defArgs s_law_flat) (defBody s_law_flat) (defScope s_law_flat) .none kV24 dc24 pm24 an24 cd24 ct24, fa, PySem.W.fnOf "law" "law" (defArgs slaw) (defBody slaw) (defScope slaw) .none kV25 dc25 pm25 an25 cd25 ct25⟩
  have D0 := df_mk (st := ssteps_from) (ps := ["bench", "content"]) X G a0 l0 c0 k0 (fun F => F.binds (ps := ["bench", "content"]) fun _ _ _ _ _ _ us hl => match us, hl with | [_, _], _ => rfl)
  have D1 := df_mk (st := s_with_value) (ps := ["content", "place", "value"]) X G a1 l1 c1 k1 (fun F => F.binds (ps := ["content", "place", "value"]) fun _ _ _ _ _ _ us hl => match us, hl with | [_, _, _], _ => rfl)
  have D2 := df_mk (st := s_is_tuple_of) (ps := ["thing", "many"]) X G a2 l2 c2 k2 (fun F => F.binds (ps := ["thing", "many"]) fun _ _ _ _ _ _ us hl => match us, hl with | [_, _], _ => rfl)
  have D3 := df_mk (st := sascends) (ps := ["items"]) X G a3 l3 c3 k3 (fun F => F.binds (ps := ["items"]) fun _ _ _ _ _ _ us hl => match us, hl with | [_], _ => rfl)
  have D4 := df_mk (st := sis_content) (ps := ["bench", "thing"]) X G a4 l4 c4 k4 (fun F => F.binds (ps := ["bench", "thing"]) fun _ _ _ _ _ _ us hl => match us, hl with | [_, _], _ => rfl)
  have D5 := df_mk (st := sis_step) (ps := ["bench", "thing"]) X G a5 l5 c5 k5 (fun F => F.binds (ps := ["bench", "thing"]) fun _ _ _ _ _ _ us hl => match us, hl with | [_, _], _ => rfl)
  have D6 := df_mk (st := sleads) (ps := ["bench", "one", "other"]) X G a6 l6 c6 k6 (fun F => F.binds (ps := ["bench", "one", "other"]) fun _ _ _ _ _ _ us hl => match us, hl with | [_, _, _], _ => rfl)
  have D7 := df_mk (st := sare_contents) (ps := ["bench", "thing"]) X G a7 l7 c7 k7 (fun F => F.binds (ps := ["bench", "thing"]) fun _ _ _ _ _ _ us hl => match us, hl with | [_, _], _ => rfl)
  have D8 := df_mk (st := s_law_bag) (ps := ["_law_script"]) X G a8 l8 c8 k8 (fun F => F.binds (ps := ["_law_script"]) fun _ _ _ _ _ _ us hl => match us, hl with | [_], _ => rfl)
  have D9 := df_mk (st := s_law_take) (ps := ["_law_bag_here", "_law_upto"]) X G a9 l9 c9 k9 (fun F => F.binds (ps := ["_law_bag_here", "_law_upto"]) fun _ _ _ _ _ _ us hl => match us, hl with | [_, _], _ => rfl)
  have D10 := df_mk (st := s_law_some) (ps := ["_law_bag_here", "_law_things"]) X G a10 l10 c10 k10 (fun F => F.binds (ps := ["_law_bag_here", "_law_things"]) fun _ _ _ _ _ _ us hl => match us, hl with | [_, _], _ => rfl)
  have D11 := df_mk (st := s_law_alike) (ps := ["_law_found", "_law_due"]) X G a11 l11 c11 k11 (fun F => F.binds (ps := ["_law_found", "_law_due"]) fun _ _ _ _ _ _ us hl => match us, hl with | [_, _], _ => rfl)
  have D12 := df_mk (st := s_law_mixed) (ps := ["_law_bag_here", "_law_things"]) X G a12 l12 c12 k12 (fun F => F.binds (ps := ["_law_bag_here", "_law_things"]) fun _ _ _ _ _ _ us hl => match us, hl with | [_, _], _ => rfl)
  have D13 := df_mk (st := s_law_place) (ps := ["_law_bag_here", "_law_most"]) X G a13 l13 c13 k13 (fun F => F.binds (ps := ["_law_bag_here", "_law_most"]) fun _ _ _ _ _ _ us hl => match us, hl with | [_, _], _ => rfl)
  have D14 := df_mk (st := s_law_bench) (ps := ["_law_bag_here", "_law_most"]) X G a14 l14 c14 k14 (fun F => F.binds (ps := ["_law_bag_here", "_law_most"]) fun _ _ _ _ _ _ us hl => match us, hl with | [_, _], _ => rfl)
  have D15 := df_mk (st := s_law_contents) (ps := ["_law_bench_here"]) X G a15 l15 c15 k15 (fun F => F.binds (ps := ["_law_bench_here"]) fun _ _ _ _ _ _ us hl => match us, hl with | [_], _ => rfl)
  have D16 := df_mk (st := s_law_steps) (ps := ["_law_bench_here", "_law_content"]) X G a16 l16 c16 k16 (fun F => F.binds (ps := ["_law_bench_here", "_law_content"]) fun _ _ _ _ _ _ us hl => match us, hl with | [_, _], _ => rfl)
  have D17 := df_mk (st := s_law_is_int) (ps := ["_law_thing", "_law_low", "_law_high"]) X G a17 l17 c17 k17 (fun F => F.binds (ps := ["_law_thing", "_law_low", "_law_high"]) fun _ _ _ _ _ _ us hl => match us, hl with | [_, _, _], _ => rfl)
  have D18 := df_mk (st := s_law_is_content) (ps := ["_law_bench_here", "_law_thing"]) X G a18 l18 c18 k18 (fun F => F.binds (ps := ["_law_bench_here", "_law_thing"]) fun _ _ _ _ _ _ us hl => match us, hl with | [_, _], _ => rfl)
  have D19 := df_mk (st := s_law_are_contents) (ps := ["_law_bench_here", "_law_thing"]) X G a19 l19 c19 k19 (fun F => F.binds (ps := ["_law_bench_here", "_law_thing"]) fun _ _ _ _ _ _ us hl => match us, hl with | [_, _], _ => rfl)
  have D20 := df_mk (st := s_law_leads) (ps := ["_law_bench_here", "_law_one", "_law_other"]) X G a20 l20 c20 k20 (fun F => F.binds (ps := ["_law_bench_here", "_law_one", "_law_other"]) fun _ _ _ _ _ _ us hl => match us, hl with | [_, _, _], _ => rfl)
  have D21 := df_mk (st := s_law_is_step) (ps := ["_law_bench_here", "_law_thing"]) X G a21 l21 c21 k21 (fun F => F.binds (ps := ["_law_bench_here", "_law_thing"]) fun _ _ _ _ _ _ us hl => match us, hl with | [_, _], _ => rfl)
  have D22 := df_mk (st := s_law_odd) (ps := ["_law_bag_here"]) X G a22 l22 c22 k22 (fun F => F.binds (ps := ["_law_bag_here"]) fun _ _ _ _ _ _ us hl => match us, hl with | [_], _ => rfl)
  have D23 := df_mk (st := s_law_bent) (ps := ["_law_bag_here", "_law_thing"]) X G a23 l23 c23 k23 (fun F => F.binds (ps := ["_law_bag_here", "_law_thing"]) fun _ _ _ _ _ _ us hl => match us, hl with | [_, _], _ => rfl)
  have D24 := df_mk (st := s_law_flat) (ps := ["_law_rows"]) X G a24 l24 c24 k24 (fun F => F.binds (ps := ["_law_rows"]) fun _ _ _ _ _ _ us hl => match us, hl with | [_], _ => rfl)
  have D25 := df_mk (st := slaw) (ps := ["_law_script"]) X G a25 l25 c25 k25 (fun F => F.binds (ps := ["_law_script"]) fun _ _ _ _ _ _ us hl => match us, hl with | [_], _ => rfl)
  have T : Txt K mg A := ⟨⟨PySem.W.mg_none_of X G n_abs, PySem.W.mg_none_of X G n_all, PySem.W.mg_none_of X G n_bool, PySem.W.mg_none_of X G n_enumerate, PySem.W.mg_none_of X G n_int, PySem.W.mg_none_of X G n_isinstance, PySem.W.mg_none_of X G n_len, PySem.W.mg_none_of X G n_list, PySem.W.mg_none_of X G n_min, PySem.W.mg_none_of X G n_range, PySem.W.mg_none_of X G n_repr, PySem.W.mg_none_of X G n_sorted, PySem.W.mg_none_of X G n_tuple, PySem.W.mg_none_of X G n_zip⟩, D0, D1, D2, D3, D4, D5, D6, D7, D8, D9, D10, D11, D12, D13, D14, D15, D16, D17, D18, D19, D20, D21, D22, D23, D24, D25⟩
  refine ⟨Option.map_eq_none_iff.mp sm, PySem.W.fnOf "law" "law" (defArgs slaw) (defBody slaw) (defScope slaw) .none kV25 dc25 pm25 an25 cd25 ct25, fun s v => .of_eq rfl, fun base _ _ => ?_⟩
  have g_take := ok_take (P := l.prog) (w := w) (base := base) T 
  have g_some := ok_some (P := l.prog) (w := w) (base := base) T g_take
  have g_bag := ok_bag (P := l.prog) (w := w) (base := base) T 
  have g_alike := ok_alike (P := l.prog) (w := w) (base := base) T 
  have g_flat := ok_flat (P := l.prog) (w := w) (base := base) T 
  have g_mixed := ok_mixed (P := l.prog) (w := w) (base := base) T g_take
  have g_mk := ok_lplace (P := l.prog) (w := w) (base := base) T g_take g_some g_flat g_mixed
  have g_bench := ok_bench (P := l.prog) (w := w) (base := base) T g_some g_mk
  have g_conts := ok_conts (P := l.prog) (w := w) (base := base) T g_flat
  have g_lsteps := ok_lsteps (P := l.prog) (w := w) (base := base) T 
  have g_lint := ok_law_is_int (P := l.prog) (w := w) (base := base) T 
  have g_odd := ok_odd (P := l.prog) (w := w) (base := base) T g_some
  have g_bent := ok_bent (P := l.prog) (w := w) (base := base) T g_lint g_take g_some g_odd 20
  have g_lcon := ok_law_content (P := l.prog) (w := w) (base := base) T g_lint
  have g_are := K12.ok_are (P := l.prog) (w := w) (base := base) T g_lcon
  have g_leads := K12.ok_leads (P := l.prog) (w := w) (base := base) T 
  have g_lstep := ok_lstep (P := l.prog) (w := w) (base := base) T g_are g_leads
  have g_with := ok_with (P := l.prog) (w := w) (base := base) T 
  have g_from := ok_from (P := l.prog) (w := w) (base := base) T g_with
  have d_tup := L12.ok_tup (P := l.prog) (w := w) (base := base) T 
  have d_asc := L12.ok_asc1 (P := l.prog) (w := w) (base := base) T 
  have d_are := L12.ok_are (P := l.prog) (w := w) (base := base) T d_tup d_asc
  have d_con := L12.ok_con (P := l.prog) (w := w) (base := base) T d_are
  have d_leads := L12.ok_leads (P := l.prog) (w := w) (base := base) T 
  have d_step := L12.ok_step (P := l.prog) (w := w) (base := base) T d_tup d_con d_leads
  have g_con := bs_of (f := fContent) con_hg d_con
  have g_step := bs_of (f := fStep) step_hg d_step
  exact ok_law (P := l.prog) (w := w) (base := base) T g_bag g_bench g_conts g_some g_lsteps g_odd g_bent g_con g_step g_lcon g_lstep g_from g_alike
end K12

open PySem PySem.W PyProof.Rows
set_option maxRecDepth 100000 in
set_option maxHeartbeats 0 in
theorem PySem.Challenge.cw_onorback_k12_contents_and_steps_judged_holds : PySem.Challenge.rw_onorback_k12_contents_and_steps_judged.Holds := by
  w_on; o_law; k_head; (case hw => w_witness2)
  k_fill
  refine On.walk_G (l := PySem.Challenge.rw_onorback_k12_contents_and_steps_judged) (n := 63) (k := 25) (x := "_law_script") (sp := fun K => K12.spLaw K) rfl (by decide) rfl ⟨rfl, by decide, by decide⟩ ?hi (fun w h Y => PySem.W.kIn_of Y) ?F (fun K H a ns hl hS hq => ⟨a, ns, rfl, hq, hl, hS, fun _ => rfl⟩)
  case hi => decide +kernel
  case F =>
    intro w mg fa h KX G hmg
    refine' K12.all_mk KX G hmg ?sm ?a0 ?l0 ?c0 ?k0 ?a1 ?l1 ?c1 ?k1 ?a2 ?l2 ?c2 ?k2 ?a3 ?l3 ?c3 ?k3 ?a4 ?l4 ?c4 ?k4 ?a5 ?l5 ?c5 ?k5 ?a6 ?l6 ?c6 ?k6 ?a7 ?l7 ?c7 ?k7 ?a8 ?l8 ?c8 ?k8 ?a9 ?l9 ?c9 ?k9 ?a10 ?l10 ?c10 ?k10 ?a11 ?l11 ?c11 ?k11 ?a12 ?l12 ?c12 ?k12 ?a13 ?l13 ?c13 ?k13 ?a14 ?l14 ?c14 ?k14 ?a15 ?l15 ?c15 ?k15 ?a16 ?l16 ?c16 ?k16 ?a17 ?l17 ?c17 ?k17 ?a18 ?l18 ?c18 ?k18 ?a19 ?l19 ?c19 ?k19 ?a20 ?l20 ?c20 ?k20 ?a21 ?l21 ?c21 ?k21 ?a22 ?l22 ?c22 ?k22 ?a23 ?l23 ?c23 ?k23 ?a24 ?l24 ?c24 ?k24 ?a25 ?l25 ?c25 ?k25 ?n_abs ?n_all ?n_bool ?n_enumerate ?n_int ?n_isinstance ?n_len ?n_list ?n_min ?n_range ?n_repr ?n_sorted ?n_tuple ?n_zip
    (case sm => k_is)
    (case a0 => k_is)
    (case l0 => k_is)
    (case c0 => k_is)
    (case k0 => k_is)
    (case a1 => k_is)
    (case l1 => k_is)
    (case c1 => k_is)
    (case k1 => k_is)
    (case a2 => k_is)
    (case l2 => k_is)
    (case c2 => k_is)
    (case k2 => k_is)
    (case a3 => k_is)
    (case l3 => k_is)
    (case c3 => k_is)
    (case k3 => k_is)
    (case a4 => k_is)
    (case l4 => k_is)
    (case c4 => k_is)
    (case k4 => k_is)
    (case a5 => k_is)
    (case l5 => k_is)
    (case c5 => k_is)
    (case k5 => k_is)
    (case a6 => k_is)
    (case l6 => k_is)
    (case c6 => k_is)
    (case k6 => k_is)
    (case a7 => k_is)
    (case l7 => k_is)
    (case c7 => k_is)
    (case k7 => k_is)
    (case a8 => k_is)
    (case l8 => k_is)
    (case c8 => k_is)
    (case k8 => k_is)
    (case a9 => k_is)
    (case l9 => k_is)
    (case c9 => k_is)
    (case k9 => k_is)
    (case a10 => k_is)
    (case l10 => k_is)
    (case c10 => k_is)
    (case k10 => k_is)
    (case a11 => k_is)
    (case l11 => k_is)
    (case c11 => k_is)
    (case k11 => k_is)
    (case a12 => k_is)
    (case l12 => k_is)
    (case c12 => k_is)
    (case k12 => k_is)
    (case a13 => k_is)
    (case l13 => k_is)
    (case c13 => k_is)
    (case k13 => k_is)
    (case a14 => k_is)
    (case l14 => k_is)
    (case c14 => k_is)
    (case k14 => k_is)
    (case a15 => k_is)
    (case l15 => k_is)
    (case c15 => k_is)
    (case k15 => k_is)
    (case a16 => k_is)
    (case l16 => k_is)
    (case c16 => k_is)
    (case k16 => k_is)
    (case a17 => k_is)
    (case l17 => k_is)
    (case c17 => k_is)
    (case k17 => k_is)
    (case a18 => k_is)
    (case l18 => k_is)
    (case c18 => k_is)
    (case k18 => k_is)
    (case a19 => k_is)
    (case l19 => k_is)
    (case c19 => k_is)
    (case k19 => k_is)
    (case a20 => k_is)
    (case l20 => k_is)
    (case c20 => k_is)
    (case k20 => k_is)
    (case a21 => k_is)
    (case l21 => k_is)
    (case c21 => k_is)
    (case k21 => k_is)
    (case a22 => k_is)
    (case l22 => k_is)
    (case c22 => k_is)
    (case k22 => k_is)
    (case a23 => k_is)
    (case l23 => k_is)
    (case c23 => k_is)
    (case k23 => k_is)
    (case a24 => k_is)
    (case l24 => k_is)
    (case c24 => k_is)
    (case k24 => k_is)
    (case a25 => k_is)
    (case l25 => k_is)
    (case c25 => k_is)
    (case k25 => k_is)
    (case n_abs => k_is)
    (case n_all => k_is)
    (case n_bool => k_is)
    (case n_enumerate => k_is)
    (case n_int => k_is)
    (case n_isinstance => k_is)
    (case n_len => k_is)
    (case n_list => k_is)
    (case n_min => k_is)
    (case n_range => k_is)
    (case n_repr => k_is)
    (case n_sorted => k_is)
    (case n_tuple => k_is)
    (case n_zip => k_is)


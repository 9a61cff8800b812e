import PyProof.Rows.All
import Wide.All
import OpenK.AllK
import Wide.FinOn
import PyProof.EqAt
import PyProof.EqKinds
import PyProof.TupleCall
import PyProof.ReprReads
import PyProof.ReprRoads
import HandS.ForMost
import PyProof.ReprLoop
import PyProof.P3Eq
import PyProof.FitsInt
import PyProof.ReprDict
import PyProof.StrLawsRepr
import HandS.IsInst
import HandS.Wide
import HandS.Evl
import HandS.TupAny
import HandS.TupSets
import HandS.Zip
import KE.GoesMore
import KE.GoesEnum
import KE.KDictKeyed
import KE.KDictCopyH
import KE.KeyNested
import PyProof.NeData
import PyProof.P3In
import PyProof.FactsAll.dict
import HandS.Flow
import HandS.TupLe
import HandS.Style
import PyProof.DictRoads
import PyProof.DictKinds
import KE.GoesNew
import HandS.Iter
import KE.KDictPairs
import PyProof.SliceSyntax
import KE.KDictDisplayH
import HandS.DictComp
import KE.SortData
import KE.KDictWalk
import KE.KDictSum
import KE.DataCmp
import HandS.Ends
import HandS.EndBits
import PySem.Challenge.RW_onorback_k19_orders_put_in_the_place_of
set_option Elab.async false
set_option linter.all false
set_option maxRecDepth 100000
set_option maxHeartbeats 2000000
set_option autoImplicit false
/-! A def whose promise holds wherever no repr is under way: what repr tells can be said then. -/
namespace On
open PySem PySem.Spec PyProof.Rows L2
section
variable {P : Program} {w : World} {K : PySem.W.Frag} {mg : Str → Option Value} {base : Heap} {k : Nat} {f : Addr} {fd : FuncData} {ps : List Str} {sp : Sp}
structure FnG (P : Program) (w : World) (K : PySem.W.Frag) (mg : Str → Option Value) (base : Heap) (k : Nat) (f : Addr) (fd : FuncData) (ps : List Str) (sp : Sp) : Prop where
  ln : ∀ vs H Q E, sp vs H Q E → vs.length = ps.length
  go : ∀ (A : Around) (outer : List Env) (s : Shared) (H : Hp) (args : Args) (us : List Value) (vs : List V) (Q : VK) (E : XK), A.guards = some [] → Room k A →
    Env0 P w K mg base A outer s H → BindsTo s fd args (ps.zip us) → Vals vs us → sp vs H Q E → codeAny (model P w) A (.call (.ref f) args) (CR CX0 outer P w H s Q E) s
theorem FnG.of (F : FnOk P w K mg base CX0 k f fd ps sp) : FnG P w K mg base k f fd ps sp := ⟨F.len, fun A outer s H args us vs Q E _ hr => F.run A outer s H args us vs Q E hr⟩
theorem FnG.up {j : Nat} (F : FnG P w K mg base j f fd ps sp) (h : j ≤ k) : FnG P w K mg base k f fd ps sp := ⟨F.ln, fun A outer s H args us vs Q E hg hr => F.go A outer s H args us vs Q E hg (hr.mono h)⟩

/-- the rule for a def of the text that is entered where no repr is under way -/
theorem okG {x qual : Str} {st : Stmt} {N : List Str} (F : Fun K x qual st f fd) (S : FnScope N ps (defScope st)) (ln : ∀ vs H Q E, sp vs H Q E → vs.length = ps.length)
    (hb : ∀ (cdv : Value) (A : Around) (outer : List Env) (s : Shared) (H : Hp) (vs : List V) (Q : VK) (E : XK), A.guards = some [] → Room k (A.deeper (envOfC qual (defScope st) s.heap.objs.size f cdv)) → sp vs H Q E →
      ∃ t, PSs (cxOf CX0 P w K mg base N qual (defScope st) f cdv A outer s H E).nox (defBody st) t ∧ t { nx := fun _ H' => Q .non H', rt := Q } (start N vs) H) : FnG P w K mg base (k + 1) f fd ps sp := by
  obtain ⟨oc, od, kV, doc, pm, an, cdv, ct, osl, efd, lk, hcd⟩ := F.ex
  subst efd
  refine ⟨ln, ?_⟩
  intro A outer s H args us vs Q E hg hr e0 hbi rv hq
  have inK : K.In s.heap := e0.mod.kin.keeps (fun b o e => (e0.bs b o e).1)
  have kinds : ∀ y ∈ ps.zip us, (defScope st).names.lookup y.1 = some .local ∨ ((defScope st).names.lookup y.1 = some .cell ∧ ((cellsFrom (s.heap.objs.size + 1) (defScope st).names []).lookup y.1).isSome = true) := by
    rintro ⟨n, v⟩ hy
    cases S.par n (List.of_mem_zip hy).1 with
    | inl z => exact .inl z
    | inr z => exact .inr ⟨z, PySem.W.cellsFrom_some _ _ _ (.inl z)⟩
  apply codeAny_call_function hr.depth (inK _ _ lk) rfl S.co S.gen rfl (PySem.W.codeRec_of inK hcd)
  apply hbi
  apply wpAny_newFunctionEnv_cells S.kind kinds
  intro env he s1 x
  subst he
  refine ⟨(e0.mod.nolimit.keeps fun b o e => (e0.bs b o e).1).keeps x.toInCall.keep, codeAny_func ?_⟩
  obtain ⟨t, ht, ht2⟩ := hb cdv A outer s H vs Q E hg (hr.deeper _) hq
  have I := inv_start (CX := CX0) (K := K) (mg := mg) (base := base) (E := E) S hr.hd e0 (ln _ _ _ _ hq) rv x
  apply wpAny_mono (ht.nox.run [] s1 (start N vs) H _ I ht2)
  · intro fl s' hs
    cases fl with
    | ret u =>
      obtain ⟨v, σ', H', J, r', q⟩ := hs
      exact ⟨v, H', J.os, J.bare, J.base, J.hok, r', q⟩
    | next =>
      obtain ⟨σ', H', J, q⟩ := hs
      exact ⟨V.non, H', J.os, J.bare, J.base, J.hok, rfl, q⟩
    | brk => exact hs.choose_spec.choose_spec.2.elim
    | cont => exact hs.choose_spec.choose_spec.2.elim
  · intro e s' z
    exact z
end
section
variable {X : Cx} {k : Nat} {f : Addr} {fd : FuncData} {ps : List Str} {sp : Sp} {x : Str} {p pos : Pos} {e : Expr} {es : List Expr} {t : TA}
theorem run_G {pins : List (Addr × Obj)} {σ : L2.St} {H : Hp} {s : Shared} {Q : VK} {us : List Value} {vs : List V} (F : FnG X.prog X.w X.K X.mg X.base k f fd ps sp) (hg : X.A.guards = some []) (hr : Room k X.A) (hb : Binds X.K fd ps [])
    (I : Inv X pins σ H s) (r : Vals vs us) (h : sp vs H Q E0) : wpAny (model X.prog X.w) X.A (call (.ref f) us) (EP X pins σ Q) X.xe s := by
  have hl : (us ++ []).length = ps.length := by
    rw [List.append_nil, ← r.length]
    exact F.ln _ _ _ _ h
  have bt := hb s us I.kIn hl
  rw [List.append_nil] at bt
  apply wpAny_call
  apply codeAny_mono (F.go X.A X.stack s H ⟨us, []⟩ us vs Q E0 hg hr I.env0 bt r h)
  intro res s' hq
  match res, hq with
  | .ok (.ret u), hq => exact I.after hq
/-- f(e, ..), f such a def -/
theorem pe_callG (F : FnG X.prog X.w X.K X.mg X.base k f fd ps sp) (hg : X.A.guards = some []) (hr : Room k X.A) (hx : Gl X x) (hm : X.mg x = some (.ref f)) (hk : PySem.W.keepIn X.K (.ref f) = true) (hb : Binds X.K fd ps [])
    (ha : PA X (e :: es) t) (hdb : (x == ("__debug__" : Str)) = false := by decide) (he : starEach (e :: es) X.env = (false, eval e X.env) :: starEach es X.env := by rfl) (hpl : (backTo pos (starEach es X.env)).any (·.1) = false := by rfl) :
    PE X (.Call (.Name x p) (e :: es) [] pos) (tCall sp [] E0 t) := by
  constructor
  intro pins s σ H Q I h
  apply wpAny_Call_Name_kw (ld_glob I hx hm ?_ hdb)
  apply PySem.W.callWith_K (h₀ := X.base) I.ok.mod.kin hk (thn (ha.run pos pins s σ H _ I h) ?_) he hpl
  rintro us s1 ⟨vs, H1, I1, r, q⟩
  refine ⟨I1.kIn, run_G F hg hr hb I1 r ?_⟩
  have q' : sp (vs ++ []) H1 Q E0 := q
  rwa [List.append_nil] at q'
end
end On

/-! Data of small ints, tuples and lists: how it lies in the heap, what == and repr tell of it, what becomes of it when the heap grows. -/
namespace On
open PySem PySem.Spec PyProof.Rows L2

/-! ### data that is small -/
mutual
/-- ints of at most six figures, truths, None; tuples and lists of such -/
def tame : PyData → Bool
  | .none => true
  | .bool _ => true
  | .int i => decide (i.natAbs < 1000000)
  | .str _ => false
  | .list xs => tames xs
  | .tuple xs => tames xs
  | .dict _ => false
def tames : List PyData → Bool
  | [] => true
  | x :: xs => tame x && tames xs
end
mutual
/-- no list in it -/
def tup : PyData → Bool
  | .list _ => false
  | .dict _ => false
  | .tuple xs => tups xs
  | .none => true
  | .bool _ => true
  | .int _ => true
  | .str _ => true
def tups : List PyData → Bool
  | [] => true
  | x :: xs => tup x && tups xs
end
mutual
/-- a bound of the length of its text -/
def wide : PyData → Nat
  | .list xs => 4 + wides xs
  | .tuple xs => 4 + wides xs
  | _ => 8
def wides : List PyData → Nat
  | [] => 0
  | x :: xs => wide x + 2 + wides xs
end
theorem tames_iff : ∀ {xs : List PyData}, tames xs = true ↔ ∀ d ∈ xs, tame d = true
  | [] => by simp [tames]
  | x :: xs => by
    rw [tames, Bool.and_eq_true, tames_iff (xs := xs)]
    simp
theorem tups_iff : ∀ {xs : List PyData}, tups xs = true ↔ ∀ d ∈ xs, tup d = true
  | [] => by simp [tups]
  | x :: xs => by
    rw [tups, Bool.and_eq_true, tups_iff (xs := xs)]
    simp
theorem wides_le {B : Nat} : ∀ {xs : List PyData}, (∀ d ∈ xs, wide d ≤ B) → wides xs ≤ xs.length * (B + 2)
  | [], _ => by simp [wides]
  | x :: xs, h => by
    have h1 := h x List.mem_cons_self
    have h2 := wides_le (B := B) (xs := xs) fun d hd => h d (List.mem_cons_of_mem _ hd)
    rw [wides, List.length_cons, Nat.succ_mul]
    omega
theorem depthAll_le {B : Nat} : ∀ {xs : List PyData}, (∀ d ∈ xs, d.depth ≤ B) → PyData.depthAll xs ≤ B
  | [], _ => by simp [PyData.depthAll]
  | x :: xs, h => by
    have h1 := h x List.mem_cons_self
    have h2 := depthAll_le (B := B) (xs := xs) fun d hd => h d (List.mem_cons_of_mem _ hd)
    rw [PyData.depthAll]
    omega
mutual
theorem tame_lay : ∀ d : PyData, tame d = true → d.canLay0 = true
  | .none, _ => by rw [PyData.canLay0]
  | .bool _, _ => by rw [PyData.canLay0]
  | .int _, _ => by rw [PyData.canLay0]
  | .str _, h => by rw [tame] at h; cases h
  | .list xs, h => by
    rw [tame] at h
    rw [PyData.canLay0]
    exact tames_lay xs h
  | .tuple xs, h => by
    rw [tame] at h
    rw [PyData.canLay0]
    exact tames_lay xs h
  | .dict _, h => by rw [tame] at h; cases h
theorem tames_lay : ∀ xs : List PyData, tames xs = true → PyData.canLayAll0 xs = true
  | [], _ => by rw [PyData.canLayAll0]
  | x :: xs, h => by
    rw [tames, Bool.and_eq_true] at h
    rw [PyData.canLayAll0, tame_lay x h.1, tames_lay xs h.2] <;> rfl
end
mutual
theorem tame_show : ∀ d : PyData, tame d = true → d.showable = true
  | .none, _ => by rw [PyData.showable]
  | .bool _, _ => by rw [PyData.showable]
  | .int i, h => by
    rw [tame] at h
    have h1 := of_decide_eq_true h
    rw [PyData.showable]
    refine decide_eq_true (Nat.lt_of_le_of_lt ?_ (by decide : 20 < 1920))
    by_cases z : i.natAbs = 0
    · rw [z]; decide
    · have h2 : i.natAbs < 2 ^ 20 := by omega
      exact Nat.le_of_lt ((Nat.log2_lt z).mpr h2)
  | .str _, h => by rw [tame] at h; cases h
  | .list xs, h => by
    rw [tame] at h
    rw [PyData.showable]
    exact tames_show xs h
  | .tuple xs, h => by
    rw [tame] at h
    rw [PyData.showable]
    exact tames_show xs h
  | .dict _, h => by rw [tame] at h; cases h
theorem tames_show : ∀ xs : List PyData, tames xs = true → PyData.showableAll xs = true
  | [], _ => by rw [PyData.showableAll]
  | x :: xs, h => by
    rw [tames, Bool.and_eq_true] at h
    rw [PyData.showableAll, tame_show x h.1, tames_show xs h.2] <;> rfl
end
/-! ### its text's length -/
theorem str_len_append (a b : Str) : (a ++ b).length = a.length + b.length := Str.length_append a b
def lens (ts : List Str) : Nat := (ts.map fun t => t.length + 2).sum
theorem lens_cons (t : Str) (ts : List Str) : lens (t :: ts) = t.length + 2 + lens ts := by simp [lens]
theorem from_len : ∀ (ts : List Str) (k : Nat) (acc : Str), (PySem.textFrom k acc ts).length ≤ acc.length + lens ts
  | [], k, acc => by rw [PySem.textFrom]; simp [lens]
  | t :: ts, k, acc => by
    rw [PySem.textFrom]
    refine Nat.le_trans (from_len ts (k + 1) _) ?_
    rw [lens_cons, str_len_append, str_len_append]
    have : (Str.ofString (if k > 0 then ", " else "" : String)).length ≤ 2 := by
      split
      · decide
      · decide
    omega
theorem list_len (ts : List Str) : (PySem.listText ts).length ≤ 2 + lens ts := by
  unfold PySem.listText
  rw [str_len_append]
  have h := from_len ts 0 "["
  have h1 : (Str.ofString "[").length = 1 := by decide
  have h2 : (Str.ofString "]").length = 1 := by decide
  omega
theorem join_len : ∀ ts : List Str, (Str.join ", " ts).length ≤ lens ts
  | [] => by simp [Str.join, Str.empty, Str.length]
  | [t] => by
    rw [Str.join, lens_cons]
    omega
  | t :: u :: ts => by
    have ih := join_len (u :: ts)
    rw [Str.join, lens_cons, str_len_append, str_len_append]
    · have h2 : (Str.ofString ", ").length = 2 := by decide
      omega
    · intro z
      cases z
theorem tuple_len (ts : List Str) : (PySem.tupleText ts).length ≤ 3 + lens ts := by
  unfold PySem.tupleText
  rw [str_len_append, str_len_append]
  have h := join_len ts
  have h1 : (Str.ofString "(").length = 1 := by decide
  have h2 : (Str.ofString (if ts.length == 1 then ",)" else ")" : String)).length ≤ 2 := by
    split
    · decide
    · decide
  omega
mutual
theorem tame_len : ∀ d : PyData, tame d = true → d.shown.length ≤ wide d
  | .none, _ => by
    rw [PyData.shown, wide]
    · decide
    all_goals (intro xs z; cases z)
  | .bool b, _ => by
    rw [PyData.shown, wide]
    · cases b <;> decide
    all_goals (intro xs z; cases z)
  | .int i, h => by
    rw [tame] at h
    have h1 := of_decide_eq_true h
    rw [PyData.shown, wide]
    · have q := PySem.int_text_length_le10 (a := i) (k := 6) (by decide) (by omega)
      show (Str.ofString (toString i)).length ≤ 8
      rw [PySem.ofString_length]
      omega
    all_goals (intro xs z; cases z)
  | .str _, h => by rw [tame] at h; cases h
  | .list xs, h => by
    rw [tame] at h
    rw [PyData.shown, wide]
    have q := list_len (PyData.shownAll xs)
    have q2 := tames_len xs h
    omega
  | .tuple xs, h => by
    rw [tame] at h
    rw [PyData.shown, wide]
    have q := tuple_len (PyData.shownAll xs)
    have q2 := tames_len xs h
    omega
  | .dict _, h => by rw [tame] at h; cases h
theorem tames_len : ∀ xs : List PyData, tames xs = true → lens (PyData.shownAll xs) ≤ wides xs
  | [], _ => by rw [PyData.shownAll]; simp [lens]
  | x :: xs, h => by
    rw [tames, Bool.and_eq_true] at h
    rw [PyData.shownAll, wides, lens_cons]
    have q := tame_len x h.1
    have q2 := tames_len xs h.2
    omega
end

/-! ### how it lies -/
section
variable {K : PySem.W.Frag} {H H' : Hp}
theorem dpAll_len : ∀ {vs : List V} {ds : List PyData}, DpAll K H vs ds → vs.length = ds.length
  | _, _, .nil => rfl
  | _, _, .cons _ t => congrArg (· + 1) (dpAll_len t)
theorem dpAll_at : ∀ {vs : List V} {ds : List PyData} {i : Nat} {d : PyData}, DpAll K H vs ds → ds[i]? = some d → ∃ v, vs[i]? = some v ∧ Dp K H v d
  | _, _, _, _, .nil, e => by simp at e
  | _, _, 0, _, .cons h _, e => by
    simp at e
    subst e
    exact ⟨_, rfl, h⟩
  | _, _, i + 1, d, .cons _ t, e => by
    obtain ⟨v, h1, h2⟩ := dpAll_at (i := i) (d := d) t (by simpa using e)
    exact ⟨v, by simpa using h1, h2⟩
theorem dpAll_vat : ∀ {vs : List V} {ds : List PyData} {i : Nat} {v : V}, DpAll K H vs ds → vs[i]? = some v → ∃ d, ds[i]? = some d ∧ Dp K H v d
  | _, _, _, _, .nil, e => by simp at e
  | _, _, 0, _, .cons h _, e => by
    simp at e
    subst e
    exact ⟨_, rfl, h⟩
  | _, _, i + 1, v, .cons _ t, e => by
    obtain ⟨d, h1, h2⟩ := dpAll_vat (i := i) (v := v) t (by simpa using e)
    exact ⟨d, by simpa using h1, h2⟩
theorem dpAll_app : ∀ {vs ws : List V} {ds es : List PyData}, DpAll K H vs ds → DpAll K H ws es → DpAll K H (vs ++ ws) (ds ++ es)
  | _, _, _, _, .nil, h => h
  | _, _, _, _, .cons a b, h => .cons a (dpAll_app b h)
theorem dpAll_take : ∀ (n : Nat) {vs : List V} {ds : List PyData}, DpAll K H vs ds → DpAll K H (vs.take n) (ds.take n)
  | 0, _, _, _ => .nil
  | _ + 1, _, _, .nil => .nil
  | n + 1, _, _, .cons a b => .cons a (dpAll_take n b)
theorem dpAll_drop : ∀ (n : Nat) {vs : List V} {ds : List PyData}, DpAll K H vs ds → DpAll K H (vs.drop n) (ds.drop n)
  | 0, _, _, h => h
  | _ + 1, _, _, .nil => .nil
  | n + 1, _, _, .cons _ b => dpAll_drop n b
theorem dpAll_ints : ∀ (ns : List Int), DpAll K H (ns.map V.int) (ns.map PyData.int)
  | [] => .nil
  | n :: ns => .cons (.int n) (dpAll_ints ns)
theorem dpAll_ints_inv : ∀ {ns : List Int} {vs : List V}, DpAll K H vs (ns.map PyData.int) → vs = ns.map V.int
  | [], _, .nil => rfl
  | n :: ns, _, .cons h t => by
    cases h
    rw [dpAll_ints_inv t] <;> rfl
theorem dp_tup {v : V} {ds : List PyData} (h : Dp K H v (.tuple ds)) : ∃ a xs, v = .ref a ∧ SqT K H a xs ∧ DpAll K H xs ds := by
  cases h with
  | tup h1 h2 => exact ⟨_, _, rfl, h1, h2⟩
theorem dp_int {v : V} {i : Int} (h : Dp K H v (.int i)) : v = .int i := by
  cases h
  rfl
/-- what keeps the tuples keeps data without lists -/
def TupKept (K : PySem.W.Frag) (H H' : Hp) : Prop := ∀ a xs, SqT K H a xs → SqT K H' a xs
mutual
theorem dp_keep (k : TupKept K H H') : ∀ (d : PyData) (v : V), tup d = true → Dp K H v d → Dp K H' v d
  | .none, _, _, h => by cases h; exact .non
  | .bool b, _, _, h => by cases h; exact .bl b
  | .int i, _, _, h => by cases h; exact .int i
  | .str x, _, _, h => by cases h; exact .str x
  | .list _, _, q, _ => by rw [tup] at q; cases q
  | .dict _, _, q, _ => by rw [tup] at q; cases q
  | .tuple ds, _, q, h => by
    rw [tup] at q
    cases h with
    | tup h1 h2 => exact .tup (k _ _ h1) (dpAll_keep k ds _ q h2)
theorem dpAll_keep (k : TupKept K H H') : ∀ (ds : List PyData) (vs : List V), tups ds = true → DpAll K H vs ds → DpAll K H' vs ds
  | [], _, _, h => by cases h; exact .nil
  | d :: ds, _, q, h => by
    rw [tups, Bool.and_eq_true] at q
    cases h with
    | cons h1 h2 => exact .cons (dp_keep k d _ q.1 h1) (dpAll_keep k ds _ q.2 h2)
end
mutual
theorem dp_same (k : Same H H') : ∀ (d : PyData) (v : V), Dp K H v d → Dp K H' v d
  | .none, _, h => by cases h; exact .non
  | .bool b, _, h => by cases h; exact .bl b
  | .int i, _, h => by cases h; exact .int i
  | .str x, _, h => by cases h; exact .str x
  | .list ds, _, h => by
    cases h with
    | lst h1 h2 => exact .lst (k.seq h1) (dpAll_same k ds _ h2)
  | .dict _, _, h => by cases h
  | .tuple ds, _, h => by
    cases h with
    | tup h1 h2 =>
      refine .tup ?_ (dpAll_same k ds _ h2)
      rcases h1 with (h1 | ⟨o, h1⟩) | h1
      · exact .inl (.inl (k _ _ h1))
      · exact .inl (.inr ⟨o, k _ _ h1⟩)
      · exact .inr h1
theorem dpAll_same (k : Same H H') : ∀ (ds : List PyData) (vs : List V), DpAll K H vs ds → DpAll K H' vs ds
  | [], _, h => by cases h; exact .nil
  | d :: ds, _, h => by
    cases h with
    | cons h1 h2 => exact .cons (dp_same k d _ h1) (dpAll_same k ds _ h2)
end
mutual
theorem dp_noDict : ∀ (d : PyData) (v : V), Dp K H v d → d.hasDict = false
  | .none, _, _ => by rw [PyData.hasDict]
  | .bool _, _, _ => by rw [PyData.hasDict]
  | .int _, _, _ => by rw [PyData.hasDict]
  | .str _, _, _ => by rw [PyData.hasDict]
  | .list ds, _, h => by
    cases h with
    | lst _ h2 =>
      rw [PyData.hasDict]
      exact dpAll_noDict ds _ h2
  | .tuple ds, _, h => by
    cases h with
    | tup _ h2 =>
      rw [PyData.hasDict]
      exact dpAll_noDict ds _ h2
  | .dict _, _, h => by cases h
theorem dpAll_noDict : ∀ (ds : List PyData) (vs : List V), DpAll K H vs ds → PyData.hasDictAll ds = false
  | [], _, _ => by rw [PyData.hasDictAll]
  | d :: ds, _, h => by
    cases h with
    | cons h1 h2 => rw [PyData.hasDictAll, dp_noDict d _ h1, dpAll_noDict ds _ h2] <;> rfl
end
/-- a list or a tuple whose items are data: changed tuples' heap -/
theorem tupKept_same (k : Same H H') : TupKept K H H' := fun a xs h => by
  rcases h with (h | ⟨o, h⟩) | h
  · exact .inl (.inl (k _ _ h))
  · exact .inl (.inr ⟨o, k _ _ h⟩)
  · exact .inr h
/-- all but what stands at b is as it was -/
def But (b : Addr) (H H' : Hp) : Prop := ∀ a o, a ≠ b → H a = some o → H' a = some o
theorem But.refl (b : Addr) (H : Hp) : But b H H := fun _ _ _ h => h
theorem But.trans {b : Addr} {H1 H2 : Hp} (h : But b H H1) (h' : But b H1 H2) : But b H H2 := fun a o n e => h' a o n (h a o n e)
theorem But.of_same {b : Addr} (h : Same H H') : But b H H' := fun a o _ e => h a o e
theorem But.tups {b : Addr} {xs : List V} (h : But b H H') (hb : H b = some (.lst xs)) : TupKept K H H' := fun a ys q => by
  rcases q with (q | ⟨o, q⟩) | q
  · exact .inl (.inl (h _ _ (fun z => by rw [z, hb] at q; cases q) q))
  · exact .inl (.inr ⟨o, h _ _ (fun z => by rw [z, hb] at q; cases q) q⟩)
  · exact .inr q
theorem same_upd {a : Addr} {o : HO} (h : H a = Option.none) : Same H (upd H a o) := fun b u e => by
  rw [upd_ne (ne_of_none e h)]
  exact e
end

/-! ### repr -/
section
variable {X : Cx}
def rReprD (K : PySem.W.Frag) : List V → Hp → VK → Prop := fun xs H Q => ∃ a d, xs = [V.ref a] ∧ Dp K H (.ref a) d ∧ d.showable = true ∧ d.depth ≤ 64 ∧ d.shown.length ≤ sizeLine ∧ Q (.str d.shown) H
theorem call_reprD (hg : X.A.guards = some []) (hu : X.A.units + 66 < cLine) : CallR X (.builtin "repr") (rReprD X.K) := by
  intro pins s σ H xs us Q I r h
  obtain ⟨a, d, rfl, hd, hs, h64, hz, q⟩ := h
  obtain rfl := Vals.ref1 r
  obtain ⟨as, rd⟩ := Dp.reads I d _ _ hd rfl
  refine repr_of_reads' rd hs (PyData.noDict_hsm (dp_noDict d _ hd)) hg (by omega) (fun _ _ e => e) (fun h' u tk hk => ?_) hz
  exact ⟨.str d.shown, H, I.kept (t' := tk) hk, ⟨u, rfl⟩, q⟩
end
/-- what == and repr want of data: small, not deep, not long -/
structure Fine (d : PyData) : Prop where
  tm : tame d = true
  dp : d.depth ≤ 60
  wd : wide d ≤ 100000
theorem Fine.shaped {d : PyData} (f : Fine d) : SeqAt.shaped d = true := by
  unfold SeqAt.shaped
  rw [tame_lay d f.tm, decide_eq_true (Nat.le_trans f.dp (by decide))] <;> rfl
theorem Fine.len {d : PyData} (f : Fine d) : d.shown.length ≤ sizeLine := by
  have h1 := tame_len d f.tm
  have h2 := f.wd
  rw [sizeLine_eq]
  omega
theorem Fine.eqv {d : PyData} (f : Fine d) : PyData.eqv d d = true := SeqAt.eqv_refl d (tame_lay d f.tm)
end On

/-! Any data: dicts with int and text keys too. How it lies; repr; its kind. -/
namespace On
open PySem PySem.Spec PyProof.Rows L2

def keyD : Key → PyData
  | .inl i => .int i
  | .inr x => .str x
def dictD : List Key → List PyData → PyData := fun ks ds => .dict ((ks.map keyD).zip ds)
mutual
/-- v is data d in the heap H -/
inductive Dq (K : PySem.W.Frag) (H : Hp) : V → PyData → Prop
  | non : Dq K H .non .none
  | bl (b : Bool) : Dq K H (.bl b) (.bool b)
  | int (i : Int) : Dq K H (.int i) (.int i)
  | str (x : Str) : Dq K H (.str x) (.str x)
  | lst {a : Addr} {xs : List V} {ds : List PyData} : H a = some (.lst xs) → a ≠ sysModules → DqAll K H xs ds → Dq K H (.ref a) (.list ds)
  | tup {a : Addr} {xs : List V} {ds : List PyData} : H a = some (.tup xs) → DqAll K H xs ds → Dq K H (.ref a) (.tuple ds)
  | dct {a : Addr} {kvs : List (Key × V)} {ds : List PyData} : H a = some (.dK kvs) → DqAll K H (kvs.map Prod.snd) ds → Dq K H (.ref a) (dictD (kvs.map Prod.fst) ds)
inductive DqAll (K : PySem.W.Frag) (H : Hp) : List V → List PyData → Prop
  | nil : DqAll K H [] []
  | cons {v : V} {vs : List V} {d : PyData} {ds : List PyData} : Dq K H v d → DqAll K H vs ds → DqAll K H (v :: vs) (d :: ds)
end
section
variable {K : PySem.W.Frag} {H H' : Hp}
theorem dqAll_len : ∀ {vs : List V} {ds : List PyData}, DqAll K H vs ds → vs.length = ds.length
  | _, _, .nil => rfl
  | _, _, .cons _ t => congrArg (· + 1) (dqAll_len t)
theorem dqAll_vat : ∀ {vs : List V} {ds : List PyData} {i : Nat} {v : V}, DqAll K H vs ds → vs[i]? = some v → ∃ d, ds[i]? = some d ∧ Dq K H v d
  | _, _, _, _, .nil, e => by simp at e
  | _, _, 0, _, .cons h _, e => by
    simp at e
    subst e
    exact ⟨_, rfl, h⟩
  | _, _, i + 1, v, .cons _ t, e => by
    obtain ⟨d, h1, h2⟩ := dqAll_vat (i := i) (v := v) t (by simpa using e)
    exact ⟨d, by simpa using h1, h2⟩
theorem dqAll_at : ∀ {vs : List V} {ds : List PyData} {i : Nat} {d : PyData}, DqAll K H vs ds → ds[i]? = some d → ∃ v, vs[i]? = some v ∧ Dq K H v d
  | _, _, _, _, .nil, e => by simp at e
  | _, _, 0, _, .cons h _, e => by
    simp at e
    subst e
    exact ⟨_, rfl, h⟩
  | _, _, i + 1, d, .cons _ t, e => by
    obtain ⟨v, h1, h2⟩ := dqAll_at (i := i) (d := d) t (by simpa using e)
    exact ⟨v, by simpa using h1, h2⟩
theorem dqAll_app : ∀ {vs ws : List V} {ds es : List PyData}, DqAll K H vs ds → DqAll K H ws es → DqAll K H (vs ++ ws) (ds ++ es)
  | _, _, _, _, .nil, h => h
  | _, _, _, _, .cons a b, h => .cons a (dqAll_app b h)
theorem dqAll_take : ∀ (n : Nat) {vs : List V} {ds : List PyData}, DqAll K H vs ds → DqAll K H (vs.take n) (ds.take n)
  | 0, _, _, _ => .nil
  | _ + 1, _, _, .nil => .nil
  | n + 1, _, _, .cons a b => .cons a (dqAll_take n b)
theorem dqAll_drop : ∀ (n : Nat) {vs : List V} {ds : List PyData}, DqAll K H vs ds → DqAll K H (vs.drop n) (ds.drop n)
  | 0, _, _, h => h
  | _ + 1, _, _, .nil => .nil
  | n + 1, _, _, .cons _ b => dqAll_drop n b
theorem dqAll_set : ∀ {vs : List V} {ds : List PyData} (i : Nat) {v : V} {d : PyData}, DqAll K H vs ds → Dq K H v d → DqAll K H (vs.set i v) (ds.set i d)
  | _, _, _, _, _, .nil, _ => .nil
  | _, _, 0, _, _, .cons _ b, h => .cons h b
  | _, _, i + 1, _, _, .cons a b, h => .cons a (dqAll_set i b h)
theorem dqAll_erase : ∀ {vs : List V} {ds : List PyData} (i : Nat), DqAll K H vs ds → DqAll K H (vs.eraseIdx i) (ds.eraseIdx i)
  | _, _, _, .nil => .nil
  | _, _, 0, .cons _ b => b
  | _, _, i + 1, .cons a b => .cons a (dqAll_erase i b)
theorem dqAll_ints : ∀ (ns : List Int), DqAll K H (ns.map V.int) (ns.map PyData.int)
  | [] => .nil
  | n :: ns => .cons (.int n) (dqAll_ints ns)
theorem dq_tup {v : V} {ds : List PyData} (h : Dq K H v (.tuple ds)) : ∃ a xs, v = .ref a ∧ H a = some (.tup xs) ∧ DqAll K H xs ds := by
  cases h with
  | tup h1 h2 => exact ⟨_, _, rfl, h1, h2⟩
theorem dq_lst {v : V} {ds : List PyData} (h : Dq K H v (.list ds)) : ∃ a xs, v = .ref a ∧ H a = some (.lst xs) ∧ a ≠ sysModules ∧ DqAll K H xs ds := by
  cases h with
  | lst h1 h2 h3 => exact ⟨_, _, rfl, h1, h2, h3⟩
theorem dq_int {v : V} {i : Int} (h : Dq K H v (.int i)) : v = .int i := by
  cases h
  rfl
theorem dq_bl {v : V} {i : Bool} (h : Dq K H v (.bool i)) : v = .bl i := by
  cases h
  rfl
mutual
theorem dq_same (k : Same H H') : ∀ {v : V} {d : PyData}, Dq K H v d → Dq K H' v d
  | _, _, .non => .non
  | _, _, .bl b => .bl b
  | _, _, .int i => .int i
  | _, _, .str x => .str x
  | _, _, .lst h1 h2 h3 => .lst (k _ _ h1) h2 (dqAll_same k h3)
  | _, _, .tup h1 h3 => .tup (k _ _ h1) (dqAll_same k h3)
  | _, _, .dct h1 h3 => .dct (k _ _ h1) (dqAll_same k h3)
theorem dqAll_same (k : Same H H') : ∀ {vs : List V} {ds : List PyData}, DqAll K H vs ds → DqAll K H' vs ds
  | _, _, .nil => .nil
  | _, _, .cons a b => .cons (dq_same k a) (dqAll_same k b)
end
end

/-! ### what the library's Reads says of it -/
section
variable {X : Cx} {pins : List (Addr × Obj)} {σ : L2.St} {H : Hp} {s : Shared}
theorem reads_keys {P : Program} {w : World} {h : Heap} : ∀ {es : List DictEntry} {vs : List (Key × Value)} {kvs : List (Key × V)}, Pairs (mixKind P w) es vs → KV kvs vs → ReadsAll h (es.map (·.key)) ((kvs.map Prod.fst).map keyD) []
  | _, _, _, .nil, .nil => .nil
  | _, _, _, .cons h1 h2 t, .cons r q => by
    have ih := reads_keys (h := h) t q
    have e1 := r.1
    rename_i e kv es kvs' p ps
    have key : Reads h e.key (keyD p.1) [] := by
      rw [e1]
      rcases keyIs_shape h1 with ⟨i, t, e2, e3⟩ | ⟨x, t, e2, e3⟩
      · rw [e2, e3]
        exact .int i t
      · rw [e2, e3]
        exact .str x t
    exact ReadsAll.cons (as := []) (bs := []) key ih
theorem pairs_vals {P : Program} {w : World} : ∀ {es : List DictEntry} {vs : List (Key × Value)} {kvs : List (Key × V)}, Pairs (mixKind P w) es vs → KV kvs vs → Vals (kvs.map Prod.snd) (es.map (·.val))
  | _, _, _, .nil, .nil => .nil
  | _, _, _, .cons h1 h2 t, .cons r q => by
    refine .cons ?_ (pairs_vals t q)
    show RelV _ (DictEntry.val _)
    rw [h2]
    exact r.2
theorem zip_fst : ∀ {ks : List PyData} {ds : List PyData}, ks.length = ds.length → (ks.zip ds).map (·.1) = ks
  | [], [], _ => rfl
  | k :: ks, d :: ds, h => by
    rw [List.zip_cons_cons, List.map_cons, zip_fst (by simpa using h)]
theorem zip_snd : ∀ {ks : List PyData} {ds : List PyData}, ks.length = ds.length → (ks.zip ds).map (·.2) = ds
  | [], [], _ => rfl
  | k :: ks, d :: ds, h => by
    rw [List.zip_cons_cons, List.map_cons, zip_snd (by simpa using h)]
mutual
theorem dq_reads (I : Inv X pins σ H s) : ∀ {v : V} {d : PyData} {u : Value}, Dq X.K H v d → RelV v u → ∃ as, Reads s.heap u d as ∧ sysModules ∉ as
  | _, _, _, .non, r => by
    cases r
    exact ⟨_, Reads.none, by simp⟩
  | _, _, _, .bl b, r => by
    cases r
    exact ⟨_, Reads.bool b, by simp⟩
  | _, _, _, .int i, r => by
    obtain ⟨t, rfl⟩ := r
    exact ⟨_, Reads.int i t, by simp⟩
  | _, _, _, .str x, r => by
    obtain ⟨t, rfl⟩ := r
    exact ⟨_, Reads.str x t, by simp⟩
  | _, _, _, .lst h1 h2 h3, r => by
    cases r
    obtain ⟨its, rv, ⟨o, n, ho, hc, _, hd⟩, _⟩ := I.list (SqL.of h1)
    obtain ⟨as, hr, hn⟩ := dqAll_reads I h3 rv
    refine ⟨_, Reads.list ho hc hd hr, fun z => ?_⟩
    rcases List.mem_cons.mp z with z | z
    · exact h2 z.symm
    · exact hn z
  | _, _, _, .tup h1 h3, r => by
    cases r
    obtain ⟨its, rv, ⟨o, ho, hc, n, hd⟩, _⟩ := I.tuple (SqT.of h1)
    obtain ⟨as, hr, hn⟩ := dqAll_reads I h3 rv
    exact ⟨_, Reads.tuple ho hc hd hr, hn⟩
  | _, _, _, @Dq.dct _ _ a kvs ds h1 h3, r => by
    cases r
    obtain ⟨_, hm, vs, kv, o, es, ep, ho, hx, hd, hk, hp, _⟩ := dk_of I.hok h1
    obtain ⟨as, hr, hn⟩ := dqAll_reads I h3 (pairs_vals hp kv)
    have hl : ((kvs.map Prod.fst).map keyD).length = ds.length := by
      rw [← dqAll_len h3, List.length_map, List.length_map, List.length_map]
    refine ⟨a :: [] ++ as, Reads.dict ho hx.1 hd ?_ ?_, ?_⟩
    · rw [zip_fst hl]
      exact reads_keys hp kv
    · rw [zip_snd hl]
      exact hr
    · intro z
      have z : sysModules ∈ a :: as := z
      rcases List.mem_cons.mp z with z | z
      · rw [← z] at hm
        exact absurd hm (by decide)
      · exact hn z
theorem dqAll_reads (I : Inv X pins σ H s) : ∀ {vs : List V} {ds : List PyData} {us : List Value}, DqAll X.K H vs ds → Vals vs us → ∃ as, ReadsAll s.heap us ds as ∧ sysModules ∉ as
  | _, _, _, .nil, .nil => ⟨_, ReadsAll.nil, by simp⟩
  | _, _, _, .cons a b, .cons r1 r2 => by
    obtain ⟨as, q1, n1⟩ := dq_reads I a r1
    obtain ⟨bs, q2, n2⟩ := dqAll_reads I b r2
    refine ⟨_, ReadsAll.cons q1 q2, fun z => ?_⟩
    rcases List.mem_append.mp z with z | z
    · exact n1 z
    · exact n2 z
end
end

mutual
theorem dp_of_dq' {K : PySem.W.Frag} {H : Hp} : ∀ {v : V} {d : PyData}, Dq K H v d → tame d = true → Dp K H v d
  | _, _, .non, _ => .non
  | _, _, .bl b, _ => .bl b
  | _, _, .int i, _ => .int i
  | _, _, .str x, h => by simp [tame] at h
  | _, _, .lst h1 h2 h3, h => .lst (SqL.of h1) (dpAll_of_dq' h3 (by simpa [tame] using h))
  | _, _, .tup h1 h3, h => .tup (SqT.of h1) (dpAll_of_dq' h3 (by simpa [tame] using h))
  | _, _, .dct h1 h3, h => by simp [dictD, tame] at h
theorem dpAll_of_dq' {K : PySem.W.Frag} {H : Hp} : ∀ {vs : List V} {ds : List PyData}, DqAll K H vs ds → tames ds = true → DpAll K H vs ds
  | _, _, .nil, _ => .nil
  | _, _, .cons a b, h => by
    rw [tames, Bool.and_eq_true] at h
    exact .cons (dp_of_dq' a h.1) (dpAll_of_dq' b h.2)
end
theorem dp_of_dq {K : PySem.W.Frag} {H : Hp} {v : V} {d : PyData} (h : tame d = true) (q : Dq K H v d) : Dp K H v d := dp_of_dq' q h
/-! ### repr of anything -/
section
variable {X : Cx}
def rReprQ (K : PySem.W.Frag) : List V → Hp → VK → Prop := fun xs H Q => ∃ x d, xs = [x] ∧ Dq K H x d ∧ d.showable = true ∧ d.depth ≤ 64 ∧ d.shown.length ≤ sizeLine ∧ Q (.str d.shown) H
theorem call_reprQ (hg : X.A.guards = some []) (hu : X.A.units + 66 < cLine) : CallR X (.builtin "repr") (rReprQ X.K) := by
  intro pins s σ H xs us Q I r h
  obtain ⟨x, d, rfl, hd, hs, h64, hz, q⟩ := h
  obtain ⟨u, rfl, ru⟩ := vals1 r
  obtain ⟨as, rd, hn⟩ := dq_reads I hd ru
  cases hd with
  | non =>
    cases ru
    exact PySem.P.repr_of_none ⟨.str _, H, I.tok _, ⟨_, rfl⟩, by simpa only [PyData.shown] using q⟩
  | bl b =>
    cases ru
    exact PySem.P.repr_of_bool ⟨.str _, H, I.tok _, ⟨_, rfl⟩, by simpa only [PyData.shown] using q⟩
  | int i =>
    obtain ⟨t, rfl⟩ := ru
    exact PySem.P.repr_of_int (by simpa [PyData.showable] using hs) ⟨.str _, H, I.tok _, ⟨_, rfl⟩, by simpa only [PyData.shown] using q⟩
  | str z =>
    obtain ⟨t, rfl⟩ := ru
    exact PySem.P.repr_of_str ⟨.str _, H, I.tok _, ⟨_, rfl⟩, by simpa only [PyData.shown] using q⟩ (by simpa only [PyData.shown] using hz)
  | lst h1 h2 h3 =>
    cases ru
    exact repr_of_reads' rd hs (fun _ => hn) hg (by omega) (fun _ _ e => e) (fun h' u tk hk => ⟨.str _, H, I.kept (t' := tk) hk, ⟨u, rfl⟩, q⟩) hz
  | tup h1 h3 =>
    cases ru
    exact repr_of_reads' rd hs (fun _ => hn) hg (by omega) (fun _ _ e => e) (fun h' u tk hk => ⟨.str _, H, I.kept (t' := tk) hk, ⟨u, rfl⟩, q⟩) hz
  | dct h1 h3 =>
    cases ru
    exact repr_of_reads' rd hs (fun _ => hn) hg (by omega) (fun _ _ e => e) (fun h' u tk hk => ⟨.str _, H, I.kept (t' := tk) hk, ⟨u, rfl⟩, q⟩) hz
end
end On

/-! How long the text of any data is. -/
namespace On
open PySem PySem.Spec PyProof.Rows L2
mutual
/-- what repr can show: ints of less than fifty figures, plain signs -/
def plainQ : PyData → Bool
  | .none => true
  | .bool _ => true
  | .int i => decide (i.natAbs < 10 ^ 50)
  | .str x => x.cps.toList.all fun c => decide (c < 128)
  | .list xs => plainQs xs
  | .tuple xs => plainQs xs
  | .dict kvs => plainQd kvs
def plainQs : List PyData → Bool
  | [] => true
  | x :: xs => plainQ x && plainQs xs
def plainQd : List (PyData × PyData) → Bool
  | [] => true
  | (k, v) :: r => plainQ k && (plainQ v && plainQd r)
end
mutual
/-- a bound of its text's length -/
def wq : PyData → Nat
  | .none => 8
  | .bool _ => 8
  | .int i => if i.natAbs < 1000000 then 8 else 60
  | .str x => 10 * x.length + 2
  | .list xs => 4 + wqs xs
  | .tuple xs => 4 + wqs xs
  | .dict kvs => 4 + wqd kvs
def wqs : List PyData → Nat
  | [] => 0
  | x :: xs => wq x + 2 + wqs xs
def wqd : List (PyData × PyData) → Nat
  | [] => 0
  | (k, v) :: r => wq k + wq v + 4 + wqd r
end
theorem plainQs_iff : ∀ {xs : List PyData}, plainQs xs = true ↔ ∀ d ∈ xs, plainQ d = true
  | [] => by simp [plainQs]
  | x :: xs => by
    rw [plainQs, Bool.and_eq_true, plainQs_iff (xs := xs)]
    simp
theorem wqs_mem : ∀ {xs : List PyData} {d : PyData}, d ∈ xs → wq d + 2 ≤ wqs xs
  | x :: xs, d, h => by
    rw [wqs]
    rcases List.mem_cons.mp h with rfl | h
    · omega
    · have := wqs_mem h
      omega
theorem wqs_len : ∀ (xs : List PyData), 2 * xs.length ≤ wqs xs
  | [] => by simp [wqs]
  | x :: xs => by
    have := wqs_len xs
    rw [wqs, List.length_cons]
    omega
theorem wqs_app : ∀ (xs ys : List PyData), wqs (xs ++ ys) = wqs xs + wqs ys
  | [], ys => by simp [wqs]
  | x :: xs, ys => by
    rw [List.cons_append, wqs, wqs, wqs_app xs ys]
    omega
theorem wqs_le {B : Nat} : ∀ {xs : List PyData}, (∀ d ∈ xs, wq d ≤ B) → wqs xs ≤ xs.length * (B + 2)
  | [], _ => by simp [wqs]
  | x :: xs, h => by
    have h1 := h x List.mem_cons_self
    have h2 := wqs_le (B := B) (xs := xs) fun d hd => h d (List.mem_cons_of_mem _ hd)
    rw [wqs, List.length_cons, Nat.succ_mul]
    omega
theorem int_show (i : Int) (h : i.natAbs < 10 ^ 50) : i.natAbs.log2 < 1920 := by
  by_cases z : i.natAbs = 0
  · rw [z]; decide
  · have h2 : i.natAbs < 2 ^ 200 := Nat.lt_trans h (by decide)
    have h3 := (Nat.log2_lt z).mpr h2
    omega
mutual
theorem plain_show : ∀ d : PyData, plainQ d = true → d.showable = true
  | .none, _ => by rw [PyData.showable]
  | .bool _, _ => by rw [PyData.showable]
  | .int i, h => by
    rw [plainQ] at h
    rw [PyData.showable]
    exact decide_eq_true (int_show i (of_decide_eq_true h))
  | .str _, _ => by rw [PyData.showable]
  | .list xs, h => by
    rw [plainQ] at h
    rw [PyData.showable]
    exact plains_show xs h
  | .tuple xs, h => by
    rw [plainQ] at h
    rw [PyData.showable]
    exact plains_show xs h
  | .dict kvs, h => by
    rw [plainQ] at h
    rw [PyData.showable]
    exact plaind_show kvs h
theorem plains_show : ∀ xs : List PyData, plainQs xs = true → PyData.showableAll xs = true
  | [], _ => by rw [PyData.showableAll]
  | x :: xs, h => by
    rw [plainQs, Bool.and_eq_true] at h
    rw [PyData.showableAll, plain_show x h.1, plains_show xs h.2] <;> rfl
theorem plaind_show : ∀ kvs : List (PyData × PyData), plainQd kvs = true → PyData.showableKv kvs = true
  | [], _ => by rw [PyData.showableKv]
  | (k, v) :: r, h => by
    rw [plainQd, Bool.and_eq_true, Bool.and_eq_true] at h
    rw [PyData.showableKv, plain_show k h.1, plain_show v h.2.1, plaind_show r h.2.2] <;> rfl
end
theorem dict_len (ps : List Str) : (PySem.dictText ps).length ≤ 2 + lens ps := by
  unfold PySem.dictText
  rw [str_len_append, str_len_append]
  have h := join_len ps
  have h1 : (Str.ofString "{").length = 1 := by decide
  have h2 : (Str.ofString "}").length = 1 := by decide
  omega
theorem int_len (i : Int) (h : i.natAbs < 10 ^ 50) : (Str.ofString (toString i)).length ≤ if i.natAbs < 1000000 then 8 else 60 := by
  rw [PySem.ofString_length]
  split
  · have q := PySem.int_text_length_le10 (a := i) (k := 6) (by decide) (by omega)
    omega
  · have q := PySem.int_text_length_le10 (a := i) (k := 50) (by decide) h
    omega
mutual
theorem plain_len : ∀ d : PyData, plainQ d = true → d.shown.length ≤ wq d
  | .none, _ => by
    rw [PyData.shown, wq]
    decide
  | .bool b, _ => by
    rw [PyData.shown, wq]
    cases b <;> decide
  | .int i, h => by
    rw [plainQ] at h
    rw [PyData.shown, wq]
    exact int_len i (of_decide_eq_true h)
  | .str x, h => by
    rw [plainQ] at h
    rw [PyData.shown, wq]
    refine StrLaws.reprText_len x fun c hc => ?_
    have z := of_decide_eq_true (List.all_eq_true.mp h c hc)
    exact Nat.lt_trans z (by decide)
  | .list xs, h => by
    rw [plainQ] at h
    rw [PyData.shown, wq]
    have q := list_len (PyData.shownAll xs)
    have q2 := plains_len xs h
    omega
  | .tuple xs, h => by
    rw [plainQ] at h
    rw [PyData.shown, wq]
    have q := tuple_len (PyData.shownAll xs)
    have q2 := plains_len xs h
    omega
  | .dict kvs, h => by
    rw [plainQ] at h
    rw [PyData.shown, wq]
    have q := dict_len (PyData.shownKv kvs)
    have q2 := plaind_len kvs h
    omega
theorem plains_len : ∀ xs : List PyData, plainQs xs = true → lens (PyData.shownAll xs) ≤ wqs xs
  | [], _ => by rw [PyData.shownAll]; simp [lens]
  | x :: xs, h => by
    rw [plainQs, Bool.and_eq_true] at h
    rw [PyData.shownAll, wqs, lens_cons]
    have q := plain_len x h.1
    have q2 := plains_len xs h.2
    omega
theorem plaind_len : ∀ kvs : List (PyData × PyData), plainQd kvs = true → lens (PyData.shownKv kvs) ≤ wqd kvs
  | [], _ => by rw [PyData.shownKv]; simp [lens]
  | (k, v) :: r, h => by
    rw [plainQd, Bool.and_eq_true, Bool.and_eq_true] at h
    rw [PyData.shownKv, wqd, lens_cons, str_len_append, str_len_append]
    have q1 := plain_len k h.1
    have q3 := plain_len v h.2.1
    have q2 := plaind_len r h.2.2
    have h2 : (Str.ofString ": ").length = 2 := by decide
    omega
end
/-- what repr wants -/
structure Show (d : PyData) : Prop where
  pl : plainQ d = true
  dp : d.depth ≤ 64
  wd : wq d ≤ 60000
theorem Show.len {d : PyData} (s : Show d) : d.shown.length ≤ sizeLine := by
  have h1 := plain_len d s.pl
  have h2 := s.wd
  rw [sizeLine_eq]
  omega
theorem Show.sh {d : PyData} (s : Show d) : d.showable = true := plain_show d s.pl
end On

/-! The bag that the laws draw from; a def of the text as its callers want it. -/
namespace On
open PySem PySem.Spec PyProof.Rows L2
/-- a def of the text, by its name -/
structure Df (K : PySem.W.Frag) (mg : Str → Option Value) (x : Str) (st : Stmt) (ps : List Str) (f : Addr) (fd : FuncData) : Prop where
  F : Fun K x x st f fd
  g : mg x = some (.ref f)
  b : Binds K fd ps []
/-- xs[i], i not below nought -/
def rIxN (K : PySem.W.Frag) : V → V → Hp → VK → Prop := fun x y H Q => ∃ (p : Addr) (xs : List V) (i : Nat) (v : V), x = .ref p ∧ y = .int (i : Int) ∧ SqL K H p xs ∧ xs[i]? = some v ∧ Q v H
theorem get_list {X : Cx} : PGet X (rIxN X.K) := by
  intro pins s σ H o i ov iv Q I ro ri h
  obtain ⟨p, xs, k, v, rfl, rfl, hq, he, q⟩ := h
  cases ro
  obtain ⟨t, rfl⟩ := ri
  obtain ⟨its, r, pl, hz⟩ := I.list hq
  obtain ⟨u, eu, ru⟩ := r.get he
  have hk := (List.getElem?_eq_some_iff.mp he).1
  have hn := line63
  exact wpAny_getItem_list pl.isList (by omega) (by omega) (by simpa using eu) ⟨v, H, I, ru, q⟩

/-- the bag at b: what is held, the stir, the place, the cells -/
def BagAt (H : Hp) (b l : Addr) : Prop := ∃ (p q r : Int) (cs : List Int), H b = some (.lst [.int p, .int q, .int r, .ref l]) ∧ H l = some (.lst (cs.map V.int)) ∧ cs.length ≤ 63
/-- sys.modules is held apart: no new thing stands there -/
def Sys (H : Hp) : Prop := ∃ φ : Obj × HO, H sysModules = some (.frz φ.1 φ.2)
structure Bag (H : Hp) (b l : Addr) : Prop where
  at_ : BagAt H b l
  sys : Sys H
/-- the heap but for what stands at b -/
def off (b : Addr) (H : Hp) : Hp := fun a => if a = b then Option.none else H a
theorem off_ne {b a : Addr} {H : Hp} (h : a ≠ b) : off b H a = H a := if_neg h
theorem off_at {b : Addr} {H : Hp} : off b H b = Option.none := if_pos rfl
theorem off_sub {b : Addr} {H : Hp} : Same (off b H) H := fun a o e => by
  by_cases h : a = b
  · rw [h, off_at] at e
    cases e
  · rwa [off_ne h] at e
theorem off_some {b a : Addr} {H : Hp} {o : HO} (e : off b H a = some o) : a ≠ b := fun z => by
  rw [z, off_at] at e
  cases e
theorem but_off {b : Addr} {H H' : Hp} (h : But b H H') : Same (off b H) (off b H') := fun a o e => by
  have n := off_some e
  rw [off_ne n] at e ⊢
  exact h a o n e
theorem bag_ne {H : Hp} {b l : Addr} {p q r : Int} {l' : Addr} {cs : List Int} (hb : H b = some (.lst [.int p, .int q, .int r, .ref l'])) (hl : H l = some (.lst (cs.map V.int))) : l ≠ b := fun z => by
  rw [z, hb] at hl
  have e := Option.some.inj hl
  injection e with e
  match cs, e with
  | [_, _, _, d], e => simp at e
theorem Bag.same {H H' : Hp} {b l : Addr} (h : Bag H b l) (k : Same H H') : Bag H' b l := by
  obtain ⟨⟨p, q, r, cs, h1, h2, h3⟩, φ, h4⟩ := h
  exact ⟨⟨p, q, r, cs, k _ _ h1, k _ _ h2, h3⟩, φ, k _ _ h4⟩
theorem Bag.put {H : Hp} {b l : Addr} (h : Bag H b l) (p' q' r' : Int) : Bag (upd H b (.lst [.int p', .int q', .int r', .ref l])) b l := by
  obtain ⟨⟨p, q, r, cs, h1, h2, h3⟩, φ, h4⟩ := h
  have n1 : l ≠ b := bag_ne h1 h2
  have n2 : sysModules ≠ b := fun z => by
    rw [z, h1] at h4
    cases h4
  exact ⟨⟨p', q', r', cs, upd_same, by rw [upd_ne n1]; exact h2, h3⟩, φ, by rw [upd_ne n2]; exact h4⟩
theorem Bag.ne_sys {H : Hp} {b l : Addr} (h : Bag H b l) {a : Addr} (n : H a = Option.none) : a ≠ sysModules := fun z => by
  obtain ⟨_, φ, h4⟩ := h
  rw [z, h4] at n
  cases n
theorem Bag.ne_new {H : Hp} {b l : Addr} (h : Bag H b l) {a : Addr} (n : H a = Option.none) : a ≠ b := fun z => by
  obtain ⟨⟨p, q, r, cs, h1, _⟩, _⟩ := h
  rw [z, h1] at n
  cases n
theorem Bag.ne_cells {H : Hp} {b l : Addr} (h : Bag H b l) {a : Addr} (n : H a = Option.none) : a ≠ l := fun z => by
  obtain ⟨⟨p, q, r, cs, h1, h2, _⟩, _⟩ := h
  rw [z, h2] at n
  cases n
/-- another list changes -/
theorem Bag.upd {H : Hp} {b l a : Addr} {o : HO} {xs : List V} (h : Bag H b l) (n1 : a ≠ b) (n2 : a ≠ l) (ha : H a = some (.lst xs)) : Bag (L2.upd H a o) b l := by
  obtain ⟨⟨p, q, r, cs, h1, h2, h3⟩, φ, h4⟩ := h
  have n3 : a ≠ sysModules := fun z => by
    rw [z, h4] at ha
    cases ha
  exact ⟨⟨p, q, r, cs, by rw [upd_ne (Ne.symm n1)]; exact h1, by rw [upd_ne (Ne.symm n2)]; exact h2, h3⟩, φ, by rw [upd_ne (Ne.symm n3)]; exact h4⟩
theorem but_put {H : Hp} {b : Addr} {o : HO} : But b H (upd H b o) := fun a u n e => by
  rw [upd_ne n]
  exact e
/-- _law_take(bag, n) -/
def spTake : Sp := fun vs H Q _ => ∃ (b c : Addr) (n : Int), vs = [.ref b, .int n] ∧ Bag H b c ∧ 0 < n ∧ n.natAbs.log2 < 9000 ∧
  ∀ (v : Int) (H' : Hp), 0 ≤ v → v < n → Bag H' b c → But b H H' → Q (.int v) H'
/-- _law_some(bag, things) -/
def spSome (K : PySem.W.Frag) : Sp := fun vs H Q _ => ∃ (b c l : Addr) (xs : List V), vs = [.ref b, .ref l] ∧ Bag H b c ∧ H l = some (.lst xs) ∧ l ≠ b ∧ 0 < xs.length ∧ xs.length < 1000000 ∧
  ∀ (v : V) (H' : Hp), v ∈ xs → Bag H' b c → But b H H' → Q v H'
/-- _law_alike(found, due): data that are the same -/
def spAlike (K : PySem.W.Frag) : Sp := fun vs H Q _ => ∃ (x y : V) (d : PyData), vs = [x, y] ∧ Dq K H x d ∧ Dq K H y d ∧ Fine d ∧ Q (.bl true) H
/-! ### readings one step open -/
section
variable {te : TE} {t : TA} {v : V} {D : Ends} {σ : L2.St} {H : Hp} {Q : List V → Hp → Prop} {R : VK} {g : TG} {tz : TS}
theorem to_ret (h : te σ H D.rt) : tRet te D σ H := h
theorem to_asg (h : te σ H fun x H1 => g x σ H1 D.nx) : tAsg te g D σ H := h
theorem to_qasg (h : te σ H fun x H1 => g x σ H1 (tz D)) : tSeq (tAsg te g) tz D σ H := h
theorem to_lst (h : t σ H fun xs H1 => xs.length ≤ sizeLine ∧ ∀ p, H1 p = Option.none → R (.ref p) (upd H1 p (.lst xs))) : tLst t σ H R := h
theorem to_tup (h : t σ H fun xs H1 => xs.length ≤ sizeLine ∧ ∀ p, H1 p = Option.none → R (.ref p) (upd H1 p (.tup xs))) : tTup t σ H R := h
theorem to_c (h : t σ H fun xs H2 => Q (v :: xs) H2) : tCons (tC v) t σ H Q := h
theorem to_cons (h : te σ H fun x H1 => t σ H1 fun xs H2 => Q (x :: xs) H2) : tCons te t σ H Q := h
theorem to_cb {r : List V → Hp → VK → Prop} (h : t σ H fun vs H1 => r vs H1 R) : tCB r t σ H R := h
theorem to_nil (h : Q [] H) : tNil σ H Q := h
end
end On

/-! The layer's rules with the written part named: so they stand within a comprehension too. -/
namespace On
open PySem PySem.Spec PyProof.Rows L2
section
variable (K : PySem.W.Frag) {X : Cx}
theorem kIxL (h : X.K = K := by rfl) : IxR X (rIxL K) := h ▸ ix_list
theorem kIxT (h : X.K = K := by rfl) : IxR X (rIxT K) := h ▸ ix_tup
theorem kIxS (h : X.K = K := by rfl) : IxR X (rIx K) := h ▸ ix_seq
theorem kSlL (h : X.K = K := by rfl) : SlR X (rSlL K) := h ▸ sl_list
theorem kSlT (h : X.K = K := by rfl) : SlR X (rSlA K) := h ▸ sl_tupA
theorem kGet (h : X.K = K := by rfl) : PGet X (rIxN K) := h ▸ get_list
def rLen (K : PySem.W.Frag) : List V → Hp → VK → Prop := fun xs H Q => ∃ p ys, xs = [V.ref p] ∧ (SqL K H p ys ∨ SqT K H p ys) ∧ Q (.int ys.length) H
theorem kLen (h : X.K = K := by rfl) : CallR X (.builtin "len") (On.rLen K) := h ▸ call_len_seq
def rListOf (K : PySem.W.Frag) : List V → Hp → VK → Prop := fun xs H Q => ∃ p ys, xs = [V.ref p] ∧ (SqL K H p ys ∨ SqT K H p ys) ∧ ∀ l, H l = Option.none → Q (.ref l) (upd H l (.lst ys))
theorem kList (h : X.K = K := by rfl) : CallR X (.type "list") (rListOf K) := h ▸ call_list_of
def rTupOf (K : PySem.W.Frag) : List V → Hp → VK → Prop := fun xs H Q => ∃ p ys, xs = [V.ref p] ∧ ((SqL K H p ys ∧ ∀ l, H l = Option.none → Q (.ref l) (upd H l (.tup ys))) ∨ (SqT K H p ys ∧ Q (.ref p) H))
theorem kTuple (h : X.K = K := by rfl) : CallR X (.type "tuple") (rTupOf K) := h ▸ call_tuple_of
theorem kIsi (h : X.K = K := by rfl) : CallR X (.builtin "isinstance") (rIsi K) := h ▸ call_isi
theorem kIsiT (h : X.K = K := by rfl) : CallR X (.builtin "isinstance") (rIsiT K) := h ▸ call_isiT
theorem kAll (hc : X.calm = true) (h : X.K = K := by rfl) : CallR X (.builtin "all") (rAll K) := h ▸ cr_all hc
theorem kAny (hc : X.calm = true) (h : X.K = K := by rfl) : CallR X (.builtin "any") (rAny K) := h ▸ cr_any hc
theorem kRepr (hg : X.A.guards = some []) (hu : X.A.units + 66 < cLine) (h : X.K = K := by rfl) : CallR X (.builtin "repr") (rReprQ K) := h ▸ call_reprQ hg hu
theorem kSortT {d : Nat} {B : Int} (hd : 1 ≤ d) (h : X.K = K := by rfl) : CallR X (.builtin "sorted") (rSortU K d B) := h ▸ cr_sortT hd
theorem kLtT (hu : X.A.units < cLine) (h : X.K = K := by rfl) : OpR X (compareOp .Lt) (rLtT K) := h ▸ op_ltT hu
theorem kIn (h : X.K = K := by rfl) : OpR X (compareOp .In) (rIn K false) := h ▸ op_in_seq
theorem kNotIn (h : X.K = K := by rfl) : OpR X (compareOp .NotIn) (rIn K true) := h ▸ op_notIn_seq
theorem kEqD (hu : X.A.units + 64 < cLine) (h : X.K = K := by rfl) : OpR X (compareOp .Eq) (rEqD K) := h ▸ op_eqD hu
theorem kCatA (h : X.K = K := by rfl) : OpR X (binaryOp .Add) (rCatA K) := h ▸ op_catA
theorem kPgT {es : List Expr} {k : Nat} {t : TGs} {n : Nat} {pos : Pos} (hp : PGs X es t) (hc : X.calm = true := by rfl) (h : X.K = K := by rfl)
    (hn : (assignEach es X.env).length = n := by rfl) (hst : (assignEach es X.env).findIdx? (·.1) = none := by rfl) : PG X (.Tuple es k pos) (gTup K n t) := h ▸ pg_tup hc hp hn hst
theorem kPiL {tg l : Expr} {tl : TE} (hl : PE X l tl) (h : X.K = K := by rfl) : PI X tg l (iList K tl) := h ▸ pi_list hl
theorem kPiT {tg l : Expr} {tl : TE} (hl : PE X l tl) (h : X.K = K := by rfl) : PI X tg l (iTup K tl) := h ▸ pi_tup hl
end
theorem un0 {k : Nat} {A : Around} (hr : Room k A) : A.units < cLine := hr.units0
theorem un64 {k : Nat} {A : Around} (hr : Room k A) : A.units + 64 < cLine := hr.units
theorem un66 {k : Nat} {A : Around} (hr : Room k A) : A.units + 66 < cLine := by
  have := hr.un
  omega
end On

/-! Defs that tell a truth of data: what kind a thing is, all(..) over a tuple and over a range. -/
namespace On
open PySem PySem.Spec PyProof.Rows L2

def kindOf : PyData → String
  | .none => "NoneType"
  | .bool _ => "bool"
  | .int _ => "int"
  | .str _ => "str"
  | .list _ => "list"
  | .tuple _ => "tuple"
  | .dict _ => "dict"
def isK (d : PyData) (T : String) : Bool := match kitB (kindOf d) T with
  | some b => b
  | Option.none => false
theorem tyx_of {K : PySem.W.Frag} {H : Hp} : ∀ {v : V} {d : PyData}, Dq K H v d → TyX K H v (.type (kindOf d))
  | _, _, .non => .base .non
  | _, _, .bl b => .base (.bl b)
  | _, _, .int i => .base (.int i)
  | _, _, .str x => .base (.str x)
  | _, _, .lst h1 _ _ => .base (.lst h1)
  | _, _, .tup h1 _ => .base (.tup h1)
  | _, _, .dct h1 _ => .base (.dK h1)
theorem kit_any (d : PyData) {T : String} (hT : T = "int" ∨ T = "bool" ∨ T = "tuple" ∨ T = "list") : kitB (kindOf d) T = some (isK d T) := by
  rcases hT with rfl | rfl | rfl | rfl <;> cases d <;> simp only [isK, kindOf] <;> decide +kernel
/-- int and no truth -/
def isInt : PyData → Bool
  | .int _ => true
  | _ => false
def isTuple : PyData → Bool
  | .tuple _ => true
  | _ => false
theorem isK_int (d : PyData) : (isK d "int" && !isK d "bool") = isInt d := by
  cases d <;> simp only [isK, kindOf, isInt] <;> decide +kernel
theorem isK_tuple (d : PyData) : isK d "tuple" = isTuple d := by
  cases d <;> simp only [isK, kindOf, isTuple] <;> decide +kernel
section
variable {K : PySem.W.Frag} {σ : L2.St} {H H' : Hp} {ta tb tc te tl : TE} {x : V} {d : PyData}
theorem rc_isi {T : String} {r : Bool} (h : Dq K H x d) (hT : kitB (kindOf d) T = some r) : Evl.RC (rIsi K) [x, .ty T] H (.bl r) := fun H1 e Q q =>
  ⟨x, .ty T, _, _, r, rfl, .ty T, tyx_of (dq_same e h), kit_ty hT, q H1 (Evl.Ex.refl H1)⟩
/-- isinstance(x, T) -/
theorem ev_isi {T : String} (hT : T = "int" ∨ T = "bool" ∨ T = "tuple" ∨ T = "list") (hx : Evl.Ev ta σ H x) (h : Dq K H x d) : Evl.Ev (tCB (rIsi K) (tCons ta (tCons (tC (.ty T)) tNil))) σ H (.bl (isK d T)) :=
  Evl.ev_cb (Evl.ea_cons hx (Evl.ea_cons Evl.ev_c Evl.ea_nil)) (rc_isi h (kit_any d hT))
/-- isinstance(x, int) and not isinstance(x, bool), as a value -/
theorem ev_isInt (hx : ∀ H1, Evl.Ex H H1 → Evl.Ev ta σ H1 x) (h : Dq K H x d) :
    Evl.Ev (tAndV (tCB (rIsi K) (tCons ta (tCons (tC (.ty "int")) tNil))) (tNotV (tCB (rIsi K) (tCons ta (tCons (tC (.ty "bool")) tNil))))) σ H (.bl (isInt d)) :=
  Evl.ev_is (Evl.ev_andV (ev_isi (by simp) (hx H (Evl.Ex.refl H)) h) fun _ => Evl.ev_notV (ev_isi (by simp) (hx H (Evl.Ex.refl H)) h)) (by rw [isK_int])
theorem ev_chain {le lt : Int → Int → Bool} {a b c : Int} (h1 : Evl.Ev ta σ H (.int a)) (h2 : Evl.Ev tb σ H (.int b)) (h3 : Evl.Ev tc σ H (.int c)) :
    Evl.Ev (tChain (rI0 fun i j => .bl (le i j)) (rI0 fun i j => .bl (lt i j)) ta tb tc) σ H (.bl (le a b && lt b c)) := fun H1 e Q q =>
  h1 H1 e _ fun H2 e2 => h2 H2 (e.trans e2) _ fun H3 e3 => ⟨a, b, rfl, rfl, le a b, rfl, by
    cases hle : le a b with
    | true =>
      rw [if_pos rfl]
      refine h3 H3 ((e.trans e2).trans e3) _ fun H4 e4 => ⟨b, c, rfl, rfl, ?_⟩
      have y := q H4 ((e2.trans e3).trans e4)
      rw [hle] at y
      exact y
    | false =>
      rw [if_neg Bool.false_ne_true]
      have y := q H3 (e2.trans e3)
      rw [hle] at y
      exact y⟩
theorem et_chain {le lt : Int → Int → Bool} {a b c : Int} (h1 : Evl.Ev ta σ H (.int a)) (h2 : Evl.Ev tb σ H (.int b)) (h3 : Evl.Ev tc σ H (.int c)) :
    Evl.EvT (tTest (tChain (rI0 fun i j => .bl (le i j)) (rI0 fun i j => .bl (lt i j)) ta tb tc)) σ H (le a b && lt b c) := Evl.et_test (ev_chain h1 h2 h3)
/-- len of a tuple -/
theorem rc_lenT {a : Addr} {xs : List V} (h : H a = some (.tup xs)) : Evl.RC (fun vs H Q => ∃ p ys, vs = [V.ref p] ∧ (SqL K H p ys ∨ SqT K H p ys) ∧ Q (.int ys.length) H) [.ref a] H (.int xs.length) := fun H1 e Q q =>
  ⟨a, xs, rfl, .inr (SqT.of (e _ _ h)), q H1 (Evl.Ex.refl H1)⟩
theorem rc_lenL {a : Addr} {xs : List V} (h : H a = some (.lst xs)) : Evl.RC (fun vs H Q => ∃ p ys, vs = [V.ref p] ∧ (SqL K H p ys ∨ SqT K H p ys) ∧ Q (.int ys.length) H) [.ref a] H (.int xs.length) := fun H1 e Q q =>
  ⟨a, xs, rfl, .inl (SqL.of (e _ _ h)), q H1 (Evl.Ex.refl H1)⟩
/-! ### all([t for x in tuple]), all([t for k in range(n)]) -/
theorem given_bl (n : Nat) (f : Nat → Bool) : Evl.given n (fun _ => true) (fun i => V.bl (f i)) = ((List.range n).map f).map V.bl := by
  unfold Evl.given
  rw [List.filter_eq_self.mpr (fun _ _ => rfl), List.map_map]
  rfl
theorem et_yes : Evl.EvT tYes σ H true := fun H1 _ _ q => q H1 (Evl.Ex.refl H1)
theorem el_lcT {a : Addr} {xs : List V} {j : Nat} {vs : List Nat} {t : TT} (f : Nat → Bool) (v : Nat → V) (h : Evl.Ev tl σ H (.ref a)) (hx : SqT K H a xs) (hz : xs.length ≤ 40000) (hw : ∀ x, wipe ((wipe σ vs).set j (some x)) vs = wipe σ vs)
    (ht : ∀ (i : Nat) (x : V) H1, Evl.Ex H H1 → xs[i]? = some x → Evl.EvT t ((wipe σ vs).set j (some x)) H1 (f i)) (he : ∀ (i : Nat) (x : V) H1, Evl.Ex H H1 → xs[i]? = some x → f i = true → Evl.Ev te ((wipe σ vs).set j (some x)) H1 (v i)) :
    Evl.EvL (tLc (iTup K tl) (gName j) t te vs) σ H (Evl.given xs.length f v) := by
  intro H0 e Q q
  refine h H0 e _ fun H1 e1 => ⟨a, rfl, ⟨xs, Evl.ex_t (e.trans e1) hx⟩, fun Dl hD => ?_⟩
  refine lc_tup (xs := xs) (Evl.Cw H1 f v Dl) ⟨hD, Evl.Ex.new hD, upd_same⟩ (fun i H' _ p => Evl.ex_t ((e.trans e1).trans p.2.1) hx) (fun i x H' hi p => ⟨hw x, ?_⟩) (fun H' p => q Dl H' (Evl.fresh_back e1 p.1) (e1.trans p.2.1) p.2.2)
  have hl := (List.getElem?_eq_some_iff.mp hi).1
  exact Evl.cw_turn p (by omega) (ht i x H1 (e.trans e1) hi) fun hf => he i x H1 (e.trans e1) hi hf
theorem all_id (n : Nat) (f : Nat → Bool) : ((List.range n).map f).all id = (List.range n).all f := by
  rw [List.all_map]
  rfl
theorem ev_allT {a : Addr} {xs : List V} {j : Nat} {vs : List Nat} (f : Nat → Bool) (h : Evl.Ev tl σ H (.ref a)) (hx : SqT K H a xs) (hz : xs.length ≤ 40000) (hw : ∀ x, wipe ((wipe σ vs).set j (some x)) vs = wipe σ vs)
    (he : ∀ (i : Nat) (x : V) H1, Evl.Ex H H1 → xs[i]? = some x → Evl.Ev te ((wipe σ vs).set j (some x)) H1 (.bl (f i))) :
    Evl.Ev (tCB (rAll K) (tCons (tLc (iTup K tl) (gName j) tYes te vs) tNil)) σ H (.bl ((List.range xs.length).all f)) := by
  intro H1 e Q q
  refine to_cb (to_cons ?_)
  refine el_lcT (fun _ => true) (fun i => .bl (f i)) h hx hz hw (fun i x H1 _ _ => et_yes) (fun i x H1 e1 hi _ => he i x H1 e1 hi) H1 e _ fun p H2 np e2 hp => ⟨p, (List.range xs.length).map f, rfl, ?_, ?_⟩
  · rw [given_bl] at hp
    exact SqL.of hp
  · rw [all_id]
    exact q H2 e2
theorem all_at (ds : List PyData) (g : PyData → Bool) : ((List.range ds.length).all fun i => g (ds.getD i .none)) = ds.all g := by
  apply Bool.eq_iff_iff.mpr
  simp only [List.all_eq_true, List.mem_range]
  constructor
  · intro h d hd
    obtain ⟨i, hi, e⟩ := List.mem_iff_getElem.mp hd
    have z := h i hi
    rw [List.getD_eq_getElem?_getD, List.getElem?_eq_getElem hi] at z
    rw [← e]
    exact z
  · intro h i hi
    rw [List.getD_eq_getElem?_getD, List.getElem?_eq_getElem hi]
    exact h _ (List.getElem_mem hi)
end
section
variable {K : PySem.W.Frag} {H : Hp} {vs : List V} {ds : List PyData}
theorem dq1 (h : DqAll K H vs ds) (hl : vs.length = 1) : ∃ x d, vs = [x] ∧ ds = [d] ∧ Dq K H x d := by
  match h, hl with
  | .cons a .nil, _ => exact ⟨_, _, rfl, rfl, a⟩
theorem dq2 (h : DqAll K H vs ds) (hl : vs.length = 2) : ∃ x d y e, vs = [x, y] ∧ ds = [d, e] ∧ Dq K H x d ∧ Dq K H y e := by
  match h, hl with
  | .cons a (.cons b .nil), _ => exact ⟨_, _, _, _, rfl, rfl, a, b⟩
theorem dq3 (h : DqAll K H vs ds) (hl : vs.length = 3) : ∃ x d y e z g, vs = [x, y, z] ∧ ds = [d, e, g] ∧ Dq K H x d ∧ Dq K H y e ∧ Dq K H z g := by
  match h, hl with
  | .cons a (.cons b (.cons c .nil)), _ => exact ⟨_, _, _, _, _, _, rfl, rfl, a, b, c⟩
end
theorem el_lcR {K : PySem.W.Frag} {σ : L2.St} {H : Hp} {te : TE} {t : TT} {ta' : TA} {j : Nat} {vs : List Nat} {n : Int} (f : Nat → Bool) (v : Nat → V) (h : Evl.EvA ta' σ H [.int n]) (hn : -10 ≤ n ∧ n ≤ 40000) (hw : ∀ x, wipe ((wipe σ vs).set j (some x)) vs = wipe σ vs)
    (ht : ∀ (i : Nat) H1, Evl.Ex H H1 → (i : Int) < n → Evl.EvT t ((wipe σ vs).set j (some (.int (i : Int)))) H1 (f i)) (he : ∀ (i : Nat) H1, Evl.Ex H H1 → (i : Int) < n → f i = true → Evl.Ev te ((wipe σ vs).set j (some (.int (i : Int)))) H1 (v i)) :
    Evl.EvL (tLc (iRng1 ta') (gName j) t te vs) σ H (Evl.given n.toNat f v) := by
  intro H0 e Q q
  refine h H0 e _ fun H1 e1 => ⟨n, rfl, by omega, by omega, fun Dl hD => ?_⟩
  refine lc_range (lo := 0) (n := n.toNat) (Evl.Cw H1 f v Dl) ⟨hD, Evl.Ex.new hD, upd_same⟩ (fun i H' hi p => ?_) (fun H' p => q Dl H' (Evl.fresh_back e1 p.1) (e1.trans p.2.1) p.2.2)
  have e0 : (0 : Int) + (i : Int) = (i : Int) := Int.zero_add _
  rw [e0]
  exact ⟨hw _, Evl.cw_turn p (by omega) (ht i H1 (e.trans e1) (by omega)) fun hf => he i H1 (e.trans e1) (by omega) hf⟩
section
variable {K : PySem.W.Frag} {σ : L2.St} {H H' : Hp} {ta tb tc te tl : TE} {x : V} {d : PyData}
theorem ev_allR {ta' : TA} {n : Int} {j : Nat} {vs : List Nat} (f : Nat → Bool) (h : Evl.EvA ta' σ H [.int n]) (hn : -10 ≤ n ∧ n ≤ 40000) (hw : ∀ x, wipe ((wipe σ vs).set j (some x)) vs = wipe σ vs)
    (he : ∀ (i : Nat) H1, Evl.Ex H H1 → (i : Int) < n → Evl.Ev te ((wipe σ vs).set j (some (.int (i : Int)))) H1 (.bl (f i))) :
    Evl.Ev (tCB (rAll K) (tCons (tLc (iRng1 ta') (gName j) tYes te vs) tNil)) σ H (.bl ((List.range n.toNat).all f)) := by
  intro H1 e Q q
  refine to_cb (to_cons ?_)
  refine el_lcR (K := K) (fun _ => true) (fun i => .bl (f i)) h hn hw (fun i H1 _ _ => et_yes) (fun i H1 e1 hi _ => he i H1 e1 hi) H1 e _ fun p H2 np e2 hp => ⟨p, (List.range n.toNat).map f, rfl, ?_, ?_⟩
  · rw [given_bl] at hp
    exact SqL.of hp
  · rw [all_id]
    exact q H2 e2
end
/-- a def that tells the truth f of its arguments' data -/
def spB (K : PySem.W.Frag) (n : Nat) (f : List PyData → Option Bool) : Sp := fun vs H Q _ => ∃ (ds : List PyData) (r : Bool), DqAll K H vs ds ∧ vs.length = n ∧ f ds = some r ∧ ∀ H', Same H H' → Q (.bl r) H'
theorem spv_B {K : PySem.W.Frag} {n : Nat} {f : List PyData → Option Bool} {vs : List V} {H : Hp} {ds : List PyData} {r : Bool} (h : DqAll K H vs ds) (hl : vs.length = n) (e : f ds = some r) : Evl.SpV (spB K n f) vs H (.bl r) := fun H1 e1 Q q E =>
  ⟨ds, r, dqAll_same e1 h, hl, e, fun H' s => q H' s⟩
end On

/-! Lists of pairs of ints: made, filtered by a comprehension. -/
namespace On
open PySem PySem.Spec PyProof.Rows L2
section
variable {K : PySem.W.Frag} {H H' : Hp}
mutual
theorem dq_keep (k : ∀ a xs, H a = some (.tup xs) → H' a = some (.tup xs)) : ∀ {v : V} {d : PyData}, Dq K H v d → tup d = true → Dq K H' v d
  | _, _, .non, _ => .non
  | _, _, .bl b, _ => .bl b
  | _, _, .int i, _ => .int i
  | _, _, .str x, _ => .str x
  | _, _, .lst h1 h2 h3, h => by simp [tup] at h
  | _, _, .tup h1 h3, h => .tup (k _ _ h1) (dqAll_keep k h3 (by simpa [tup] using h))
  | _, _, .dct h1 h3, h => by simp [dictD, tup] at h
theorem dqAll_keep (k : ∀ a xs, H a = some (.tup xs) → H' a = some (.tup xs)) : ∀ {vs : List V} {ds : List PyData}, DqAll K H vs ds → tups ds = true → DqAll K H' vs ds
  | _, _, .nil, _ => .nil
  | _, _, .cons a b, h => by
    rw [tups, Bool.and_eq_true] at h
    exact .cons (dq_keep k a h.1) (dqAll_keep k b h.2)
end
/-- a list changes: the tuples stay -/
theorem keep_lst {a : Addr} {xs ys : List V} (h : H a = some (.lst xs)) : ∀ b zs, H b = some (.tup zs) → upd H a (.lst ys) b = some (.tup zs) := fun b zs e => by
  rw [upd_ne (fun z => by rw [z, h] at e; cases e)]
  exact e
end
def pairD (p : Int × Int) : PyData := .tuple [.int p.1, .int p.2]
theorem pairD_tup (ps : List (Int × Int)) : tups (ps.map pairD) = true := by
  rw [tups_iff]
  intro d hd
  obtain ⟨p, _, rfl⟩ := List.mem_map.mp hd
  simp [pairD, tup, tups]
theorem dq_pair {K : PySem.W.Frag} {H : Hp} {v : V} {p : Int × Int} (h : Dq K H v (pairD p)) : ∃ a, v = .ref a ∧ H a = some (.tup [.int p.1, .int p.2]) := by
  obtain ⟨a, xs, rfl, h1, h2⟩ := dq_tup h
  match h2 with
  | .cons (.int _) (.cons (.int _) .nil) => exact ⟨a, rfl, h1⟩
theorem dq_mk {K : PySem.W.Frag} {H : Hp} {a : Addr} {v w : Int} (h : H a = some (.tup [.int v, .int w])) : Dq K H (.ref a) (pairD (v, w)) := .tup h (.cons (.int v) (.cons (.int w) .nil))
/-- a new list of data -/
def EvD (K : PySem.W.Frag) (te : TE) (σ : L2.St) (H : Hp) (ds : List PyData) : Prop := ∀ H1, Evl.Ex H H1 → ∀ Q : VK, (∀ p ys H2, H1 p = Option.none → Evl.Ex H1 H2 → H2 p = some (.lst ys) → DqAll K H2 ys ds → Q (.ref p) H2) → te σ H1 Q
section
variable {K : PySem.W.Frag} {σ : L2.St} {H : Hp}
/-- [(v, w) for v, w in pairs if test] -/
theorem ed_pairs {tl : TE} {tt : TT} {i j : Nat} {vs : List Nat} {a : Addr} {xs : List V} (ps : List (Int × Int)) (f : Int × Int → Bool) (h : ∀ H1, Evl.Ex H H1 → Evl.Ev tl σ H1 (.ref a)) (hx : H a = some (.lst xs)) (hd : DqAll K H xs (ps.map pairD)) (hz : ps.length ≤ 1000)
    (hw : ∀ x y, wipe (((wipe σ vs).set i (some x)).set j (some y)) vs = wipe σ vs)
    (hi : ∀ x y, (((wipe σ vs).set i (some x)).set j (some y))[i]? = some (some x)) (hj : ∀ x y, (((wipe σ vs).set i (some x)).set j (some y))[j]? = some (some y))
    (ht : ∀ (p : Int × Int) H1, p ∈ ps → Evl.Ex H H1 → Evl.EvT tt (((wipe σ vs).set i (some (.int p.1))).set j (some (.int p.2))) H1 (f p)) :
    EvD K (tLc (iList K tl) (gTup K 2 (gCons (gName i) (gCons (gName j) gNil))) tt (tTup (tCons (tVar i) (tCons (tVar j) tNil))) vs) σ H ((ps.filter f).map pairD) := by
  intro H0 e Q q
  have hlen : xs.length = ps.length := by rw [dqAll_len hd, List.length_map]
  refine h H0 e H0 (Evl.Ex.refl H0) _ fun H1 e1 => ⟨a, rfl, ⟨xs, SqL.of ((e.trans e1) _ _ hx)⟩, fun Dl hD => ?_⟩
  have e01 := e.trans e1
  refine lc_list (xs := xs) (fun n H' => Evl.Ex H1 H' ∧ ∃ ys, H' Dl = some (.lst ys) ∧ ys.length ≤ n ∧ DqAll K H' ys (((ps.take n).filter f).map pairD)) ⟨Evl.Ex.new hD, [], upd_same, Nat.le_refl _, .nil⟩
    (fun n H' _ p => SqL.of (p.1 _ _ (e01 _ _ hx))) (fun n x H' hx' p => ?_) (fun H' p => ?_)
  · obtain ⟨e2, ys, hys, hl, hds⟩ := p
    obtain ⟨d, hd', qd⟩ := dqAll_vat hd hx'
    rw [List.getElem?_map] at hd'
    obtain ⟨pp, hp, rfl⟩ : ∃ pp, ps[n]? = some pp ∧ pairD pp = d := by
      cases z : ps[n]? with
      | none =>
        rw [z] at hd'
        cases hd'
      | some pp =>
        rw [z] at hd'
        exact ⟨pp, rfl, Option.some.inj hd'⟩
    obtain ⟨c, rfl, hc⟩ := dq_pair qd
    have hn : n < ps.length := (List.getElem?_eq_some_iff.mp hp).1
    have htake : ps.take (n + 1) = ps.take n ++ [pp] := by
      rw [List.take_add_one, hp]
      rfl
    refine ⟨c, _, rfl, SqT.of (e2 _ _ (e01 _ _ hc)), rfl, _, _, rfl, _, _, rfl, rfl, ?_⟩
    refine ⟨hw _ _, ?_⟩
    refine ht pp H' (List.mem_of_getElem? hp) (e01.trans e2) H' (Evl.Ex.refl H') _ fun H3 e3 => ?_
    cases hf : f pp with
    | true =>
      rw [if_pos rfl]
      refine ⟨_, hi _ _, _, hj _ _, (by show 2 ≤ sizeLine; decide), fun p np => ?_⟩
      have npD : Dl ≠ p := ne_of_none (e3 _ _ hys) np
      have hys3 := e3 _ _ hys
      refine ⟨ys, (by rw [upd_ne npD]; exact hys3), (by rw [sizeLine_eq]; omega), ?_, ys ++ [.ref p], upd_same, by rw [List.length_append]; show _ + 1 ≤ _; omega, ?_⟩
      · intro b o eb
        have eb3 := e3 _ _ (e2 _ _ eb)
        rw [upd_ne (ne_of_none eb hD), upd_ne (ne_of_none eb3 np)]
        exact eb3
      · rw [htake, List.filter_append, List.map_append]
        have e5 : [pp].filter f = [pp] := by simp [hf]
        rw [e5]
        have hkp := keep_lst (H := upd H3 p (.tup [.int pp.1, .int pp.2])) (a := Dl) (xs := ys) (ys := ys ++ [.ref p]) (by rw [upd_ne npD]; exact hys3)
        refine dqAll_app (dqAll_keep hkp (dqAll_same (same_upd np) (dqAll_same e3 hds)) (pairD_tup _)) (.cons (dq_mk ?_) .nil)
        exact hkp _ _ upd_same
    | false =>
      rw [if_neg Bool.false_ne_true]
      refine ⟨e2.trans e3, ys, e3 _ _ hys, by omega, ?_⟩
      rw [htake, List.filter_append]
      have e5 : [pp].filter f = [] := by simp [hf]
      rw [e5, List.append_nil]
      exact dqAll_same e3 hds
  · obtain ⟨e2, ys, hys, hl, hds⟩ := p
    rw [hlen, List.take_length] at hds
    exact q Dl ys H' (Evl.fresh_back e1 hD) (e1.trans e2) hys hds
/-- [(v, w) for w in range(many) if test] -/
theorem ed_row {ta' : TA} {tt : TT} {iv j : Nat} {vs : List Nat} {many : Nat} {v : Int} (f : Nat → Bool) (h : ∀ H1, Evl.Ex H H1 → Evl.EvA ta' σ H1 [.int (many : Int)]) (hm : many ≤ 1000)
    (hw : ∀ x, wipe ((wipe σ vs).set j (some x)) vs = wipe σ vs) (hv : ∀ x, ((wipe σ vs).set j (some x))[iv]? = some (some (.int v))) (hj : ∀ x, ((wipe σ vs).set j (some x))[j]? = some (some x))
    (ht : ∀ (w : Nat) H1, w < many → Evl.Ex H H1 → Evl.EvT tt ((wipe σ vs).set j (some (.int (w : Int)))) H1 (f w)) :
    EvD K (tLc (iRng1 ta') (gName j) tt (tTup (tCons (tVar iv) (tCons (tVar j) tNil))) vs) σ H (((List.range many).filter f).map fun (w : Nat) => pairD (v, (w : Int))) := by
  intro H0 e Q q
  refine h H0 e H0 (Evl.Ex.refl H0) _ fun H1 e1 => ⟨_, rfl, by omega, by omega, fun Dl hD => ?_⟩
  have e01 := e.trans e1
  refine lc_range (lo := 0) (n := (many : Int).toNat) (fun n H' => Evl.Ex H1 H' ∧ ∃ ys, H' Dl = some (.lst ys) ∧ ys.length ≤ n ∧ DqAll K H' ys (((List.range n).filter f).map fun (w : Nat) => pairD (v, (w : Int)))) ⟨Evl.Ex.new hD, [], upd_same, Nat.le_refl _, .nil⟩
    (fun n H' hn p => ?_) (fun H' p => ?_)
  · obtain ⟨e2, ys, hys, hl, hds⟩ := p
    have hn' : n < many := by omega
    have e0 : (0 : Int) + (n : Int) = (n : Int) := Int.zero_add _
    rw [e0]
    refine ⟨hw _, ?_⟩
    refine ht n H' hn' (e01.trans e2) H' (Evl.Ex.refl H') _ fun H3 e3 => ?_
    have htup : ∀ l : List Nat, tups (l.map fun (w : Nat) => pairD (v, (w : Int))) = true := fun l => by
      rw [tups_iff]
      intro d hd
      obtain ⟨p, _, rfl⟩ := List.mem_map.mp hd
      simp [pairD, tup, tups]
    cases hf : f n with
    | true =>
      rw [if_pos rfl]
      refine ⟨_, hv _, _, hj _, (by show 2 ≤ sizeLine; decide), fun p np => ?_⟩
      have npD : Dl ≠ p := ne_of_none (e3 _ _ hys) np
      have hys3 := e3 _ _ hys
      refine ⟨ys, (by rw [upd_ne npD]; exact hys3), (by rw [sizeLine_eq]; omega), ?_, ys ++ [.ref p], upd_same, by rw [List.length_append]; show _ + 1 ≤ _; omega, ?_⟩
      · intro b o eb
        have eb3 := e3 _ _ (e2 _ _ eb)
        rw [upd_ne (ne_of_none eb hD), upd_ne (ne_of_none eb3 np)]
        exact eb3
      · rw [List.range_succ, List.filter_append, List.map_append]
        have e5 : [n].filter f = [n] := by simp [hf]
        rw [e5]
        have hkp := keep_lst (H := upd H3 p (.tup [.int v, .int (n : Int)])) (a := Dl) (xs := ys) (ys := ys ++ [.ref p]) (by rw [upd_ne npD]; exact hys3)
        refine dqAll_app (dqAll_keep hkp (dqAll_same (same_upd np) (dqAll_same e3 hds)) (htup _)) (.cons (dq_mk ?_) .nil)
        exact hkp _ _ upd_same
    | false =>
      rw [if_neg Bool.false_ne_true]
      refine ⟨e2.trans e3, ys, e3 _ _ hys, by omega, ?_⟩
      rw [List.range_succ, List.filter_append]
      have e5 : [n].filter f = [] := by simp [hf]
      rw [e5, List.append_nil]
      exact dqAll_same e3 hds
  · obtain ⟨e2, ys, hys, hl, hds⟩ := p
    have e3 : (many : Int).toNat = many := by omega
    rw [e3] at hds
    exact q Dl ys H' (Evl.fresh_back e1 hD) (e1.trans e2) hys hds
end
end On

/-! enumerate over a tuple. -/
namespace On
open PySem PySem.Spec PyProof.Rows L2
/-- enumerate(v): v's iterator, then the counter -/
theorem enum_new {v : Value} {o : Obj} {G : Heap → Prop} (B : Begins v o G) : Meets (Builtin.«enumerate.__new__» ⟨[.type "enumerate", v], []⟩) fun _ R s =>
    G s.heap ∧ R (.ok (.ret (.ref (s.heap.push o).objs.size)))
      { s with heap := (s.heap.push o).push { cls := .type "enumerate", data := .fields #[.none, .bool false, .ref s.heap.objs.size, rawInt 0, .none, .none] } } :=
  .of_wp fun P w A R s ⟨g, r⟩ => by
    cases s with
    | mk hp gs dr tk os =>
      have sb := sub_enumerate
      have start : ∀ {A' : Around} {E Q : Value → Shared → Prop}, Q (.ref hp.objs.size) ⟨hp.push o, gs, dr, tk, os⟩ → wpAny (model P w) A' (pyIter v) Q E ⟨hp, gs, dr, tk, os⟩ := fun q => B.iter P w _ _ ⟨hp, gs, dr, tk, os⟩ _ g q
      wp_walk using start
      refine wpAny_stack_any fun _ => wpAny_pure ?_
      split
      · rename_i c _ _ _ _ _
        cases (c == Value.type "enumerate") <;> (wp_walk using start; exact ⟨_, rfl, r⟩)
      · wp_walk using start
        exact ⟨_, rfl, r⟩
theorem enum_call {P : Program} {w : World} {A : Around} {E Q : Value → Shared → Prop} {s : Shared} {v : Value} {o : Obj} {G : Heap → Prop} (B : Begins v o G) (g : G s.heap)
    (q : ∀ h', IsEnum h' (s.heap.objs.size + 1) s.heap.objs.size 0 .none → h'.get? s.heap.objs.size = some o → (∀ b u, s.heap.get? b = some u → h'.get? b = some u) → Q (.ref (s.heap.objs.size + 1)) { s with heap := h' }) :
    wpAny (model P w) A (call (.type "enumerate") [v]) Q E s := by
  refine callType_new F.called_enumerate (by decide) (F.typeCall_enumerate_1 _) (F.newCall_enumerate_1 _) (fun x => F.args_object_init_2 x _) F.entry_enumerate_new (enum_new B) ⟨g, ?_⟩
  have z : (s.heap.push o).objs.size = s.heap.objs.size + 1 := Heap.size_push ..
  show _ ∧ _
  rw [z]
  have e : IsEnum ((s.heap.push o).push { cls := .type "enumerate", data := .fields #[.none, .bool false, .ref s.heap.objs.size, rawInt 0, .none, .none] }) (s.heap.objs.size + 1) s.heap.objs.size 0 .none := by
    have y := Heap.get?_push_size (s.heap.push o) (o := { cls := .type "enumerate", data := .fields #[.none, .bool false, .ref s.heap.objs.size, rawInt 0, .none, .none] }) rfl
    rwa [z] at y
  exact ⟨⟨_, e, rfl⟩, q _ e (Heap.get?_push_of_some _ (Heap.get?_push_size _ B.free)) fun b u x => Heap.get?_push_of_some _ (Heap.get?_push_of_some _ x)⟩
/-- the tuple at a, each item in a new pair with its place -/
def IteT (K : PySem.W.Frag) (a : Addr) : It where
  go i H := ∃ (xs : List V) (x : V), SqT K H a xs ∧ xs[i]? = some x
  yld i H v H' := ∃ T x, v = .ref T ∧ H T = Option.none ∧ H' = upd H T (.tup [.int (i : Nat), x]) ∧ ∀ xs, SqT K H a xs → xs[i]? = some x
  stop i H := ∃ xs : List V, SqT K H a xs ∧ xs.length = i
theorem tupIter_ne {h : Heap} {it a : Addr} {i : Nat} {items : Array Value} (p : h.IsTupleIter it a i) (q : h.IsTuple a items) : a ≠ it := by
  rintro rfl
  obtain ⟨o, e, c, _⟩ := p
  obtain ⟨u, e2, c2, _⟩ := q
  rw [e] at e2
  cases e2
  rw [c] at c2
  injection c2 with c3
  exact absurd c3 (by decide)
theorem turnT {P : Program} {w : World} {K : PySem.W.Frag} {elts : List Expr} {kk : Nat} {tpos : Pos} (a e it : Addr) :
    Turn P w K (.Tuple elts kk tpos) (IteT K a) [e, it] e (fun i h => (∃ old, IsEnum h e it ((i : Nat) : Int) old) ∧ h.IsTupleIter it a i ∧ e ≠ it) where
  mem := List.mem_cons_self
  obj := fun i h ⟨⟨old, he⟩, ⟨o, ho, _, hd⟩, _⟩ b hb => by
    rcases List.mem_cons.mp hb with z | z
    · subst z
      exact ⟨_, he, fun v q => nomatch q⟩
    · rw [List.mem_singleton] at z
      subst z
      refine ⟨o, ho, fun v q => ?_⟩
      rw [hd] at q
      cases q
  keep := fun i h h' ⟨⟨old, he⟩, hi, n⟩ k => ⟨⟨old, k e (by simp) _ he⟩, hi.at fun o q => k it (by simp) o q, n⟩
  item := by
    intro X hP hw hK hc i pins s σ H E I hf st hg
    subst hP hw hK
    obtain ⟨⟨old, he⟩, hit, n⟩ := st
    obtain ⟨xs, x, hq, hx⟩ := hg
    obtain ⟨its, rv, p, _⟩ := I.tuple hq
    obtain ⟨u, hu, ru⟩ := rv.get hx
    have pt : s.heap.IsTuple a its.toArray := p
    have D := Draws.tuple (prog := X.prog) (w := X.w) (A := X.A.in1) (I.ok.hd hc) it a (tupIter_ne hit pt) its.toArray
    have le : e < s.heap.objs.size := Heap.lt_size he
    have li : it < s.heap.objs.size := by
      obtain ⟨_, q, _⟩ := hit
      exact Heap.lt_size q
    have na : e ≠ a := by
      rintro rfl
      obtain ⟨o2, e2, c2, _⟩ := pt
      have e1 : s.heap.get? e = some _ := he
      rw [e1] at e2
      cases e2
      injection c2 with c3
      exact absurd c3 (by decide)
    have hlt : i < its.toArray.size := by
      have y := (List.getElem?_eq_some_iff.mp hu).1
      simpa using y
    refine wpAny_pyNext_enum_itemD D he ⟨hit, pt⟩ hlt n (by simp [n, na]) fun x' h' tk hP ho st' hT hz hk => ?_
    have ex : x' = u := by
      have y : its[i]? = some x' := by simpa using hP
      rw [hu] at y
      exact (Option.some.inj y).symm
    subst ex
    refine ⟨_, rfl, wpAny_letOwnedTupleGo_enum (s := { s with heap := h', toks := tk + 1 }) ho fun h2 he' sb => ?_⟩
    have hT2 : h2.get? s.heap.objs.size = some { cls := .type "tuple", data := .seq #[.int i tk, x'] } := (sb.2 _ (Nat.ne_of_gt le)).trans hT
    have new : ObjOk X.prog X.w (upd H s.heap.objs.size (.tup [.int (i : Nat), x])) h2 s.heap.objs.size (.tup [.int (i : Nat), x]) := ⟨by show 2 ≤ sizeLine; decide, [.int i tk, x'], .cons ⟨_, rfl⟩ (.cons ru .nil), ⟨_, hT2, rfl, _, rfl⟩⟩
    have I1 : Inv X pins σ (upd H s.heap.objs.size (.tup [.int (i : Nat), x])) { s with heap := h2, toks := tk + 1 } :=
      I.turnedNew (ch := [e, it]) (fun b o hb q => (sb.2 b fun z => hb (by simp [z])).trans (hk b o (fun z => hb (by simp [z])) (fun z => hb (by simp [z])) q)) hf (Nat.le_refl _) new
    refine ⟨.ref s.heap.objs.size, _, I1, rfl, ⟨_, x, rfl, I.hok.fresh (Nat.le_refl _), rfl, fun ys hy => ?_⟩, ⟨⟨x', ?_⟩, st'.1.at fun o q => (sb.2 it (Ne.symm n)).trans q, n⟩, fun b hb => ?_⟩
    · rw [I.tuple_inj hy hq]
      exact hx
    · have y : ((i + 1 : Nat) : Int) = (i : Int) + 1 := by omega
      rw [y]
      exact he'
    · have lb : b < s.heap.objs.size := by
        rcases List.mem_cons.mp hb with z | z
        · rw [z]
          exact le
        · rw [List.mem_singleton] at z
          rw [z]
          exact li
      rw [upd_ne (Nat.ne_of_lt lb)]
      exact (hf b hb).1
  done := by
    intro X hP hw hK hc i pins s σ H E I hf st hg
    subst hP hw hK
    obtain ⟨⟨old, he⟩, hit, n⟩ := st
    obtain ⟨xs, hq, hx⟩ := hg
    obtain ⟨its, rv, p, _⟩ := I.tuple hq
    have pt : s.heap.IsTuple a its.toArray := p
    have D := Draws.tuple (prog := X.prog) (w := X.w) (A := X.A.in1) (I.ok.hd hc) it a (tupIter_ne hit pt) its.toArray
    obtain ⟨f0, f1, f2, f3, f4, f5⟩ := hf it (by simp)
    have z : i = its.toArray.size := by
      rw [List.size_toArray, ← rv.length]
      exact hx.symm
    rw [z] at he hit
    exact wpAny_pyNext_enum_endD D he ⟨hit, pt⟩ fun h' eb => ⟨rfl, I.turned (t' := s.toks) (fun b o hb q => eb b o hb q) f0 f1 f3 f4 f5⟩
  self := fun A i s Q E ⟨⟨_, he⟩, _⟩ h => wpAny_pyIter_enum he h
/-- enumerate(tuple) -/
def iEnumT (K : PySem.W.Frag) (t : TA) : TI := fun σ H R => t σ H fun vs H1 => ∃ a xs, vs = [.ref a] ∧ SqT K H1 a xs ∧ R (IteT K a) H1
theorem pi_enumT {X : Cx} {e : Expr} {t : TA} {p pos tpos : Pos} {elts : List Expr} {kk : Nat} (hg : Gl X "enumerate") (hm : X.mg "enumerate" = Option.none) (ha : PA X [e] t) (hs : starEach [e] X.env = [(false, eval e X.env)] := by rfl) :
    PI X (.Tuple elts kk tpos) (.Call (.Name "enumerate" p) [e] [] pos) (iEnumT X.K t) := by
  constructor
  intro pins s σ H R I h
  apply Call_ (ld_blt I hg hm boot_enumerate (PyProof.Rows.callWith_type1 (thn (ha.run pos pins s σ H _ I h) ?_) hs rfl))
  rintro us s1 ⟨vs, H1, I1, r1, a, xs, rfl, hq, q⟩
  match us, r1 with
  | [_], .cons r .nil =>
    cases r
    obtain ⟨its, rv, pt, _⟩ := I1.tuple hq
    refine enum_call (begins_tuple a its.toArray) pt fun h' he hi hk => wpAny_pyIter_enum he ?_
    have I2 : Inv X pins σ H1 { s1 with heap := h' } := I1.kept (t' := s1.toks) hk
    refine ⟨s1.heap.objs.size + 1, [s1.heap.objs.size + 1, s1.heap.objs.size], _, _, H1, rfl, I2, turnT a (s1.heap.objs.size + 1) s1.heap.objs.size, ⟨⟨.none, he⟩, ⟨_, hi, rfl, rfl⟩, Nat.succ_ne_self _⟩, fun b hb => ?_, q⟩
    have le : s1.heap.objs.size ≤ b := by
      rcases List.mem_cons.mp hb with z | z
      · rw [z]
        exact Nat.le_add_right _ _
      · rw [List.mem_singleton] at z
        rw [z]
        exact Nat.le_refl _
    exact I1.fpOk le (I1.hok.fresh le)
/-- a loop over enumerate of a tuple that stays -/
theorem for_enumT {K : PySem.W.Frag} {a : Addr} {xs : List V} {g : TG} {tb : TS} {D : Ends} {σ : L2.St} {H : Hp} (Pv : Nat → L2.St → Hp → Prop) (h0 : Pv 0 σ H) (hl : ∀ i σ H, i ≤ xs.length → Pv i σ H → SqT K H a xs)
    (hs : ∀ i x σ H T, xs[i]? = some x → Pv i σ H → H T = Option.none → g (.ref T) σ (upd H T (.tup [.int (i : Nat), x])) fun σ2 H2 => tb { D with nx := Pv (i + 1), ct := Pv (i + 1), bk := D.nx } σ2 H2) (hd : ∀ σ H, Pv xs.length σ H → D.nx σ H) :
    ∃ W : Nat → Nat → L2.St → Hp → Prop, (∃ m, W 0 m σ H) ∧ ∀ i m σ H, W i m σ H →
      ((IteT K a).stop i H ∧ D.nx σ H) ∨ ((IteT K a).go i H ∧ ∃ N : L2.St → Hp → Prop, (∀ σ' H', N σ' H' → ∃ m', m' < m ∧ W (i + 1) m' σ' H') ∧ ∀ x H', (IteT K a).yld i H x H' → g x σ H' fun σ2 H2 => tb { D with nx := N, ct := N, bk := D.nx } σ2 H2) := by
  refine ⟨fun i m σ H => m = xs.length - i ∧ i ≤ xs.length ∧ Pv i σ H, ⟨xs.length, by simp, Nat.zero_le _, h0⟩, ?_⟩
  rintro i m σ H ⟨rfl, hi, p⟩
  have q := hl i σ H hi p
  by_cases lt : i < xs.length
  · refine .inr ⟨⟨xs, xs[i], q, by simp [lt]⟩, Pv (i + 1), fun σ' H' p' => ⟨xs.length - (i + 1), by omega, rfl, lt, p'⟩, ?_⟩
    rintro v H' ⟨T, x, rfl, nT, rfl, e⟩
    exact hs i x σ H T (e xs q) p nT
  · have z : xs.length = i := by omega
    exact .inl ⟨⟨xs, q, z⟩, hd σ H (z ▸ p)⟩
/-- x in a tuple or a list of data -/
def rInQ (K : PySem.W.Frag) : R2 := fun x y H Q => ∃ d ds, Dq K H x d ∧ (Dq K H y (.tuple ds) ∨ Dq K H y (.list ds)) ∧ PyData.canLayAll0 ds = true ∧ d.canLay0 = true ∧ d.depth ≤ 60 ∧ Q (.bl (ds.any fun z => PyData.eqv z d)) H
theorem op_inQ {X : Cx} (hu : X.A.units + 65 < cLine) : OpR X (compareOp .In) (rInQ X.K) := by
  intro pins s σ H x y v u Q I rx ry h
  obtain ⟨d, ds, hd, he, c1, c2, dp, q⟩ := h
  obtain ⟨as, r1, _⟩ := dq_reads I hd rx
  have room : X.A.units + 1 + min (PyData.depthAll ds) d.depth < cLine := by omega
  rcases he with he | he
  · obtain ⟨bs, r2, _⟩ := dq_reads I he ry
    exact SeqAt.in_tuple_reads r2 r1 c1 c2 room ⟨.bl _, H, I, rfl, q⟩
  · obtain ⟨bs, r2, _⟩ := dq_reads I he ry
    exact SeqAt.in_list_reads r2 r1 c1 c2 room ⟨.bl _, H, I, rfl, q⟩
section
variable {X : Cx} {K : PySem.W.Frag}
theorem kInQ (hu : X.A.units + 66 < cLine) (h : X.K = K := by rfl) : OpR X (compareOp .In) (rInQ K) := h ▸ op_inQ (by omega)
theorem kEnT {e : Expr} {t : TA} {p pos tpos : Pos} {elts : List Expr} {kk : Nat} (hg : Gl X "enumerate") (hm : X.mg "enumerate" = Option.none) (ha : PA X [e] t) (hs : starEach [e] X.env = [(false, eval e X.env)] := by rfl) (h : X.K = K := by rfl) :
    PI X (.Tuple elts kk tpos) (.Call (.Name "enumerate" p) [e] [] pos) (iEnumT K t) := h ▸ pi_enumT hg hm ha hs
theorem kZipA {e e2 : Expr} {t : TA} {p pos tpos : Pos} {elts : List Expr} {kk : Nat} (hg : Gl X "zip") (hm : X.mg "zip" = Option.none) (ha : PA X [e, e2] t)
    (hs : starEach [e, e2] X.env = (false, eval e X.env) :: starEach [e2] X.env := by rfl) (hp : (backTo pos (starEach [e2] X.env)).any (·.1) = false := by rfl) (h : X.K = K := by rfl) :
    PI X (.Tuple elts kk tpos) (.Call (.Name "zip" p) [e, e2] [] pos) (RZ.iZipA K t) := h ▸ RZ.pi_zipA hg hm ha hs hp
end
/-- a comprehension over zip of two tuples of one length -/
theorem lc_zipT {K : PySem.W.Frag} {a b : Addr} {xs ys : List V} {g : TG} {tt : TT} {te : TE} {vs : List Nat} {σ : L2.St} {H1 : Hp} {D : Addr} {Qd : Hp → Prop} (hxy : xs.length = ys.length) (Pv : Nat → Hp → Prop) (h0 : Pv 0 (upd H1 D (.lst []))) (hl : ∀ i H, i ≤ xs.length → Pv i H → SqT K H a xs ∧ SqT K H b ys)
    (hs : ∀ i x y H T, xs[i]? = some x → ys[i]? = some y → Pv i H → H T = Option.none → g (.ref T) (wipe σ vs) (upd H T (.tup [x, y])) fun σ2 H2 => wipe σ2 vs = wipe σ vs ∧ tt σ2 H2 fun b H3 =>
      if b = true then te σ2 H3 fun y H4 => ∃ acc, H4 D = some (.lst acc) ∧ acc.length < sizeLine ∧ Pv (i + 1) (upd H4 D (.lst (acc ++ [y]))) else Pv (i + 1) H3) (hd : ∀ H, Pv xs.length H → Qd H) :
    ∃ W : Nat → Nat → Hp → Prop, (∃ m, W 0 m (upd H1 D (.lst []))) ∧ ∀ i m H, W i m H →
      ((RZ.ItzT K a b).stop i H ∧ Qd H) ∨ ((RZ.ItzT K a b).go i H ∧ ∃ Nx : Hp → Prop, (∀ H', Nx H' → ∃ m', m' < m ∧ W (i + 1) m' H') ∧ ∀ x H', (RZ.ItzT K a b).yld i H x H' → g x (wipe σ vs) H' fun σ2 H2 => wipe σ2 vs = wipe σ vs ∧ tt σ2 H2 fun b H3 =>
        if b = true then te σ2 H3 fun y H4 => ∃ acc, H4 D = some (.lst acc) ∧ acc.length < sizeLine ∧ Nx (upd H4 D (.lst (acc ++ [y]))) else Nx H3) := by
  refine ⟨fun i m H => m = xs.length - i ∧ i ≤ xs.length ∧ Pv i H, ⟨xs.length, rfl, Nat.zero_le _, h0⟩, ?_⟩
  rintro i m H ⟨rfl, hi, p⟩
  obtain ⟨qx, qy⟩ := hl i H hi p
  by_cases lt : i < xs.length
  · have lt2 : i < ys.length := by omega
    have ex : xs[i]? = some xs[i] := List.getElem?_eq_getElem lt
    have ey : ys[i]? = some ys[i] := List.getElem?_eq_getElem lt2
    refine .inr ⟨⟨xs, ys, _, _, qx, qy, ex, ey⟩, Pv (i + 1), fun H' p' => ⟨xs.length - (i + 1), by omega, rfl, lt, p'⟩, ?_⟩
    rintro v H' ⟨T, x, y, rfl, nT, rfl, f1, f2⟩
    exact hs i x y H T (f1 xs qx) (f2 ys qy) p nT
  · have z : i = xs.length := by omega
    rw [z]
    exact .inl ⟨⟨xs, ys, qx, qy, .inl (Nat.le_refl _)⟩, hd H (z ▸ p)⟩
theorem yes_go {p q : Hp → Prop} {σ : L2.St} {H : Hp} (h : p H) : tYes σ H fun b H3 => if b = true then p H3 else q H3 := by
  unfold tYes
  simpa using h
/-- all([t for x, y in zip(tuple, tuple)]) -/
theorem ev_allZ {K : PySem.W.Frag} {σ : L2.St} {H : Hp} {te : TE} {ta : TA} {a b : Addr} {xs ys : List V} {i j : Nat} {vs : List Nat} (f : Nat → Bool) (h : ∀ H1, Evl.Ex H H1 → Evl.EvA ta σ H1 [.ref a, .ref b]) (hx : SqT K H a xs) (hy : SqT K H b ys) (hxy : xs.length = ys.length) (hz : xs.length ≤ 40000)
    (hw : ∀ x y, wipe (((wipe σ vs).set i (some x)).set j (some y)) vs = wipe σ vs)
    (he : ∀ (k : Nat) (x y : V) H1, Evl.Ex H H1 → xs[k]? = some x → ys[k]? = some y → Evl.Ev te (((wipe σ vs).set i (some x)).set j (some y)) H1 (.bl (f k))) :
    Evl.Ev (tCB (rAll K) (tCons (tLc (RZ.iZipA K ta) (gTup K 2 (gCons (gName i) (gCons (gName j) gNil))) tYes te vs) tNil)) σ H (.bl ((List.range xs.length).all f)) := by
  intro H0 e0 Q q
  refine to_cb (to_cons (h H0 e0 H0 (Evl.Ex.refl _) _ fun H1 e1 => ?_))
  have e01 := e0.trans e1
  refine ⟨a, b, xs, ys, rfl, .inr ⟨Evl.ex_t e01 hx, Evl.ex_t e01 hy, fun D hD => ?_⟩⟩
  refine lc_zipT (xs := xs) (ys := ys) hxy (fun n H' => Evl.Ex H1 H' ∧ H' D = some (.lst (((List.range n).map f).map V.bl))) ⟨Evl.Ex.new hD, upd_same⟩ (fun n H' _ p => ⟨Evl.ex_t (e01.trans p.1) hx, Evl.ex_t (e01.trans p.1) hy⟩) (fun n x y H' T hx' hy' p nT => ?_) (fun H' p => ?_)
  · obtain ⟨e2, hp⟩ := p
    have lt := (List.getElem?_eq_some_iff.mp hx').1
    have eT : Evl.Ex H' (upd H' T (.tup [x, y])) := Evl.Ex.new nT
    refine ⟨T, _, rfl, SqT.of upd_same, rfl, _, _, rfl, _, _, rfl, rfl, hw x y, ?_⟩
    refine yes_go ?_
    refine he n x y _ ((e01.trans e2).trans eT) hx' hy' _ (Evl.Ex.refl _) _ fun H3 e3 => ⟨_, e3 _ _ (eT _ _ hp), by rw [List.length_map, List.length_map, List.length_range, sizeLine_eq]; omega, ?_, ?_⟩
    · intro c o ec
      rw [upd_ne (ne_of_none ec hD)]
      exact e3 _ _ (eT _ _ (e2 _ _ ec))
    · rw [upd_same, List.range_succ, List.map_append, List.map_append]
      rfl
  · obtain ⟨e2, hp⟩ := p
    refine ⟨D, (List.range xs.length).map f, rfl, SqL.of hp, ?_⟩
    rw [all_id]
    exact q H' (e1.trans e2)
/-- a tuple, new or not -/
def EvP (te : TE) (σ : L2.St) (H : Hp) (xs : List V) : Prop := ∀ H1, Evl.Ex H H1 → ∀ Q : VK, (∀ p H2, Evl.Ex H1 H2 → H2 p = some (.tup xs) → Q (.ref p) H2) → te σ H1 Q
section
variable {K : PySem.W.Frag} {σ : L2.St} {H : Hp} {ta tb te : TE} {tl th : TO} {xs ys : List V}
theorem ep_of {a : Addr} (h : Evl.Ev te σ H (.ref a)) (ha : H a = some (.tup xs)) : EvP te σ H xs := fun H1 e Q q => h H1 e _ fun H2 e2 => q a H2 e2 ((e.trans e2) _ _ ha)
theorem ep_new (h : Evl.EvU te σ H xs) : EvP te σ H xs := fun H1 e Q q => h H1 e _ fun p H2 _ e2 hp => q p H2 e2 hp
theorem ep_cat (h1 : EvP ta σ H xs) (h2 : EvP tb σ H ys) (hz : xs.length + ys.length ≤ 100000) : EvP (tOp (rCatA K) ta tb) σ H (xs ++ ys) := fun H1 e Q q =>
  h1 H1 e _ fun p H2 e2 hp => h2 H2 (e.trans e2) _ fun p2 H3 e3 hp2 => ⟨p, p2, xs, ys, rfl, rfl, SqT.of (e3 _ _ hp), SqT.of hp2, by rw [sizeLine_eq]; omega,
    fun z => q p2 H3 (e2.trans e3) (by rw [z, List.nil_append]; exact hp2), fun _ z => q p H3 (e2.trans e3) (by rw [z, List.append_nil]; exact e3 _ _ hp), fun _ _ n nn => q n _ ((e2.trans e3).trans (Evl.Ex.new nn)) upd_same⟩
theorem ep_sl {lo hi : Option Int} (h : EvP te σ H xs) (h1 : ∀ H1, Evl.Ex H H1 → Evl.EvO tl σ H1 lo) (h2 : ∀ H1, Evl.Ex H H1 → Evl.EvO th σ H1 hi) : EvP (tSl (rSlA K) te tl th) σ H (cutV xs lo hi) := fun H1 e Q q =>
  h H1 e _ fun p H2 e2 hp => h1 H2 (e.trans e2) H2 (Evl.Ex.refl _) _ fun H3 e3 => h2 H3 ((e.trans e2).trans e3) H3 (Evl.Ex.refl _) _ fun H4 e4 => by
    have e24 := e3.trans e4
    refine ⟨p, xs, rfl, SqT.of (e24 _ _ hp), fun w => ?_, fun _ n nn => q n _ ((e2.trans e24).trans (Evl.Ex.new nn)) upd_same⟩
    refine q p H4 (e2.trans e24) ?_
    rw [show cutV xs lo hi = xs from ?_]
    · exact e24 _ _ hp
    · unfold cutV
      rw [w.1, w.2, List.drop_zero, Nat.sub_zero, List.take_length]
theorem cut_to (xs : List V) (i : Nat) (h : i ≤ xs.length) : cutV xs Option.none (some (i : Int)) = xs.take i := by
  unfold cutV
  rw [HT.sIx_nat]
  show (xs.drop 0).take (min i xs.length - 0) = _
  rw [List.drop_zero, Nat.sub_zero, Nat.min_eq_left h]
theorem cut_from (xs : List V) (i : Nat) (h : i ≤ xs.length) : cutV xs (some (i : Int)) Option.none = xs.drop i := by
  unfold cutV
  rw [HT.sIx_nat, Nat.min_eq_left h]
  show (xs.drop i).take (xs.length - i) = _
  rw [List.take_of_length_le (by rw [List.length_drop]; omega)]
theorem cut_set (xs : List V) (i : Nat) (w : V) (h : i < xs.length) : xs.take i ++ [w] ++ xs.drop (i + 1) = xs.set i w := by
  rw [List.set_eq_take_append_cons_drop, if_pos h, List.append_assoc]
  rfl
end
end On

/-! Du: defs read on data alone. What lies in the heap is said once, here; a def's body then is a relation between data. -/
namespace Du
open PySem PySem.Spec PyProof.Rows L2 On
mutual
/-- data as a key of a dict: ints, None, tuples of such -/
def keyOf : PyData → Option NestedKey
  | .none => some .none
  | .int i => some (.num i)
  | .tuple ds => (keysOf ds).map .tup
  | .bool _ => Option.none
  | .str _ => Option.none
  | .list _ => Option.none
  | .dict _ => Option.none
def keysOf : List PyData → Option (List NestedKey)
  | [] => some []
  | d :: ds => (keyOf d).bind fun k => (keysOf ds).map (k :: ·)
end
def keyT (d : PyData) : Option NestedKey := if d.depth ≤ 8 then keyOf d else Option.none
/-- a dict whose keys are such tuples, its things in order -/
def dictN (p : Addr) (ents : List (NestedKey × Addr × V)) : Heap → Prop := fun h => ∃ o es ep us, h.get? p = some o ∧ o.ExactDict ∧ o.data = .dict es ep ∧ Vals (ents.map fun e => e.2.2) us ∧ ∀ w, es.toList = (ents.zip us).map fun x => (⟨x.1.1.hash w, .ref x.1.2.1, x.2⟩ : DictEntry)
mutual
/-- v is data d in the heap H -/
inductive Da (K : PySem.W.Frag) (H : Hp) : V → PyData → Prop
  | non : Da K H .non .none
  | bl (b : Bool) : Da K H (.bl b) (.bool b)
  | int (i : Int) : Da K H (.int i) (.int i)
  | str (x : Str) : Da K H (.str x) (.str x)
  | lst {a : Addr} {xs : List V} {ds : List PyData} : H a = some (.lst xs) → a ≠ sysModules → DaAll K H xs ds → Da K H (.ref a) (.list ds)
  | tup {a : Addr} {xs : List V} {ds : List PyData} : SqT K H a xs → DaAll K H xs ds → Da K H (.ref a) (.tuple ds)
  | dct {a : Addr} {kvs : List (Key × V)} {ds : List PyData} : H a = some (.dK kvs) → DaAll K H (kvs.map Prod.snd) ds → Da K H (.ref a) (dictD (kvs.map Prod.fst) ds)
  | dtt {a : Addr} {ents : List (NestedKey × Addr × V)} {ps : List (PyData × PyData)} : H a = some (.ext (dictN a ents)) → a ≠ sysModules → DaAll K H (ents.map fun e => V.ref e.2.1) (ps.map Prod.fst) → DaAll K H (ents.map fun e => e.2.2) (ps.map Prod.snd) →
      ps.map (fun p => keyT p.1) = ents.map (fun e => some e.1) → (ents.map fun e => e.1).Nodup → ps ≠ [] → Da K H (.ref a) (.dict ps)
inductive DaAll (K : PySem.W.Frag) (H : Hp) : List V → List PyData → Prop
  | nil : DaAll K H [] []
  | cons {v : V} {vs : List V} {d : PyData} {ds : List PyData} : Da K H v d → DaAll K H vs ds → DaAll K H (v :: vs) (d :: ds)
end
section
variable {K : PySem.W.Frag} {H H' : Hp}
theorem daAll_len : ∀ {vs : List V} {ds : List PyData}, DaAll K H vs ds → vs.length = ds.length
  | _, _, .nil => rfl
  | _, _, .cons _ t => congrArg (· + 1) (daAll_len t)
theorem daAll_vat : ∀ {vs : List V} {ds : List PyData} {i : Nat} {v : V}, DaAll K H vs ds → vs[i]? = some v → ∃ d, ds[i]? = some d ∧ Da K H v d
  | _, _, _, _, .nil, e => by simp at e
  | _, _, 0, _, .cons h _, e => by
    simp at e
    subst e
    exact ⟨_, rfl, h⟩
  | _, _, i + 1, v, .cons _ t, e => by
    obtain ⟨d, h1, h2⟩ := daAll_vat (i := i) (v := v) t (by simpa using e)
    exact ⟨d, by simpa using h1, h2⟩
theorem daAll_at : ∀ {vs : List V} {ds : List PyData} {i : Nat} {d : PyData}, DaAll K H vs ds → ds[i]? = some d → ∃ v, vs[i]? = some v ∧ Da K H v d
  | _, _, _, _, .nil, e => by simp at e
  | _, _, 0, _, .cons h _, e => by
    simp at e
    subst e
    exact ⟨_, rfl, h⟩
  | _, _, i + 1, d, .cons _ t, e => by
    obtain ⟨v, h1, h2⟩ := daAll_at (i := i) (d := d) t (by simpa using e)
    exact ⟨v, by simpa using h1, h2⟩
theorem daAll_app : ∀ {vs ws : List V} {ds es : List PyData}, DaAll K H vs ds → DaAll K H ws es → DaAll K H (vs ++ ws) (ds ++ es)
  | _, _, _, _, .nil, h => h
  | _, _, _, _, .cons a b, h => .cons a (daAll_app b h)
theorem daAll_take : ∀ (n : Nat) {vs : List V} {ds : List PyData}, DaAll K H vs ds → DaAll K H (vs.take n) (ds.take n)
  | 0, _, _, _ => .nil
  | _ + 1, _, _, .nil => .nil
  | n + 1, _, _, .cons a b => .cons a (daAll_take n b)
theorem daAll_drop : ∀ (n : Nat) {vs : List V} {ds : List PyData}, DaAll K H vs ds → DaAll K H (vs.drop n) (ds.drop n)
  | 0, _, _, h => h
  | _ + 1, _, _, .nil => .nil
  | n + 1, _, _, .cons _ b => daAll_drop n b
theorem daAll_set : ∀ {vs : List V} {ds : List PyData} (i : Nat) {v : V} {d : PyData}, DaAll K H vs ds → Da K H v d → DaAll K H (vs.set i v) (ds.set i d)
  | _, _, _, _, _, .nil, _ => .nil
  | _, _, 0, _, _, .cons _ b, h => .cons h b
  | _, _, i + 1, _, _, .cons a b, h => .cons a (daAll_set i b h)
theorem daAll_erase : ∀ {vs : List V} {ds : List PyData} (i : Nat), DaAll K H vs ds → DaAll K H (vs.eraseIdx i) (ds.eraseIdx i)
  | _, _, _, .nil => .nil
  | _, _, 0, .cons _ b => b
  | _, _, i + 1, .cons a b => .cons a (daAll_erase i b)
theorem daAll_ints : ∀ (ns : List Int), DaAll K H (ns.map V.int) (ns.map PyData.int)
  | [] => .nil
  | n :: ns => .cons (.int n) (daAll_ints ns)
theorem da_tup {v : V} {ds : List PyData} (h : Da K H v (.tuple ds)) : ∃ a xs, v = .ref a ∧ SqT K H a xs ∧ DaAll K H xs ds := by
  cases h with
  | tup h1 h2 => exact ⟨_, _, rfl, h1, h2⟩
theorem da_lst {v : V} {ds : List PyData} (h : Da K H v (.list ds)) : ∃ a xs, v = .ref a ∧ H a = some (.lst xs) ∧ a ≠ sysModules ∧ DaAll K H xs ds := by
  cases h with
  | lst h1 h2 h3 => exact ⟨_, _, rfl, h1, h2, h3⟩
theorem da_int {v : V} {i : Int} (h : Da K H v (.int i)) : v = .int i := by
  cases h
  rfl
theorem da_bl {v : V} {i : Bool} (h : Da K H v (.bool i)) : v = .bl i := by
  cases h
  rfl
mutual
theorem da_same (k : Same H H') : ∀ {v : V} {d : PyData}, Da K H v d → Da K H' v d
  | _, _, .non => .non
  | _, _, .bl b => .bl b
  | _, _, .int i => .int i
  | _, _, .str x => .str x
  | _, _, .lst h1 h2 h3 => .lst (k _ _ h1) h2 (daAll_same k h3)
  | _, _, .tup h1 h3 => .tup (Evl.ex_t k h1) (daAll_same k h3)
  | _, _, .dct h1 h3 => .dct (k _ _ h1) (daAll_same k h3)
  | _, _, .dtt h1 h2 h3 h4 h5 h6 h7 => .dtt (k _ _ h1) h2 (daAll_same k h3) (daAll_same k h4) h5 h6 h7
theorem daAll_same (k : Same H H') : ∀ {vs : List V} {ds : List PyData}, DaAll K H vs ds → DaAll K H' vs ds
  | _, _, .nil => .nil
  | _, _, .cons a b => .cons (da_same k a) (daAll_same k b)
end
end

/-! ### what the library's Reads says of it -/
section
variable {X : Cx} {pins : List (Addr × Obj)} {σ : L2.St} {H : Hp} {s : Shared}
theorem vals_ents : ∀ ents : List (NestedKey × Addr × V), Vals (ents.map fun e => V.ref e.2.1) (ents.map fun e => Value.ref e.2.1)
  | [] => .nil
  | e :: ents => .cons rfl (vals_ents ents)
mutual
theorem da_reads (I : Inv X pins σ H s) : ∀ {v : V} {d : PyData} {u : Value}, Da X.K H v d → RelV v u → ∃ as, Reads s.heap u d as ∧ sysModules ∉ as
  | _, _, _, .non, r => by
    cases r
    exact ⟨_, Reads.none, by simp⟩
  | _, _, _, .bl b, r => by
    cases r
    exact ⟨_, Reads.bool b, by simp⟩
  | _, _, _, .int i, r => by
    obtain ⟨t, rfl⟩ := r
    exact ⟨_, Reads.int i t, by simp⟩
  | _, _, _, .str x, r => by
    obtain ⟨t, rfl⟩ := r
    exact ⟨_, Reads.str x t, by simp⟩
  | _, _, _, .lst h1 h2 h3, r => by
    cases r
    obtain ⟨its, rv, ⟨o, n, ho, hc, _, hd⟩, _⟩ := I.list (SqL.of h1)
    obtain ⟨as, hr, hn⟩ := daAll_reads I h3 rv
    refine ⟨_, Reads.list ho hc hd hr, fun z => ?_⟩
    rcases List.mem_cons.mp z with z | z
    · exact h2 z.symm
    · exact hn z
  | _, _, _, .tup h1 h3, r => by
    cases r
    obtain ⟨its, rv, ⟨o, ho, hc, n, hd⟩, _⟩ := I.tuple h1
    obtain ⟨as, hr, hn⟩ := daAll_reads I h3 rv
    exact ⟨_, Reads.tuple ho hc hd hr, hn⟩
  | _, _, _, @Da.dct _ _ a kvs ds h1 h3, r => by
    cases r
    obtain ⟨_, hm, vs, kv, o, es, ep, ho, hx, hd, hk, hp, _⟩ := dk_of I.hok h1
    obtain ⟨as, hr, hn⟩ := daAll_reads I h3 (pairs_vals hp kv)
    have hl : ((kvs.map Prod.fst).map keyD).length = ds.length := by
      rw [← daAll_len h3, List.length_map, List.length_map, List.length_map]
    refine ⟨a :: [] ++ as, Reads.dict ho hx.1 hd ?_ ?_, ?_⟩
    · rw [zip_fst hl]
      exact reads_keys hp kv
    · rw [zip_snd hl]
      exact hr
    · intro z
      have z : sysModules ∈ a :: as := z
      rcases List.mem_cons.mp z with z | z
      · rw [← z] at hm
        exact absurd hm (by decide)
      · exact hn z
  | _, _, _, @Da.dtt _ _ a ents ps h1 h2 h3 h4 h5 h6 h7, r => by
    cases r
    obtain ⟨⟨o, es, ep, us, g1, g2, g3, rv, hw⟩, _⟩ := (show ObjOk X.prog X.w H s.heap a (.ext (dictN a ents)) from I.hok a _ h1)
    have hl : ents.length = us.length := by
      have z := rv.length
      rwa [List.length_map] at z
    have e1 : es.toList.map (·.key) = ents.map fun e => Value.ref e.2.1 := by
      rw [hw X.w, List.map_map]
      show (ents.zip us).map ((fun e : NestedKey × Addr × V => Value.ref e.2.1) ∘ Prod.fst) = _
      rw [← List.map_map, List.map_fst_zip (by omega)]
    have e2 : es.toList.map (·.val) = us := by
      rw [hw X.w, List.map_map]
      show (ents.zip us).map Prod.snd = _
      rw [List.map_snd_zip (by omega)]
    obtain ⟨as, q1, n1⟩ := daAll_reads I h3 (vals_ents ents)
    obtain ⟨bs, q2, n2⟩ := daAll_reads I h4 rv
    refine ⟨a :: as ++ bs, Reads.dict g1 g2.1 g3 (by rw [e1]; exact q1) (by rw [e2]; exact q2), fun z => ?_⟩
    rcases List.mem_append.mp z with z | z
    · rcases List.mem_cons.mp z with z | z
      · exact h2 z.symm
      · exact n1 z
    · exact n2 z
theorem daAll_reads (I : Inv X pins σ H s) : ∀ {vs : List V} {ds : List PyData} {us : List Value}, DaAll X.K H vs ds → Vals vs us → ∃ as, ReadsAll s.heap us ds as ∧ sysModules ∉ as
  | _, _, _, .nil, .nil => ⟨_, ReadsAll.nil, by simp⟩
  | _, _, _, .cons a b, .cons r1 r2 => by
    obtain ⟨as, q1, n1⟩ := da_reads I a r1
    obtain ⟨bs, q2, n2⟩ := daAll_reads I b r2
    refine ⟨_, ReadsAll.cons q1 q2, fun z => ?_⟩
    rcases List.mem_append.mp z with z | z
    · exact n1 z
    · exact n2 z
end
end

/-! ### the heap without what may change -/
def offs (O : List Addr) (H : Hp) : Hp := fun a => if a ∈ O then Option.none else H a
section
variable {O O' : List Addr} {H H' : Hp} {a : Addr} {o : HO}
theorem offs_ne (h : a ∉ O) : offs O H a = H a := if_neg h
theorem offs_in (h : a ∈ O) : offs O H a = Option.none := if_pos h
theorem offs_some (e : offs O H a = some o) : a ∉ O ∧ H a = some o := by
  by_cases h : a ∈ O
  · rw [offs_in h] at e
    cases e
  · rw [offs_ne h] at e
    exact ⟨h, e⟩
theorem offs_sub : Same (offs O H) H := fun _ _ e => (offs_some e).2
theorem offs_same (h : ∀ a o, a ∉ O → H a = some o → H' a = some o) (hs : ∀ a, a ∈ O' → H a ≠ Option.none → a ∈ O) : Same (offs O H) (offs O' H') := fun a o e => by
  obtain ⟨n, e⟩ := offs_some e
  rw [offs_ne fun z => n (hs a z (by rw [e]; simp))]
  exact h a o n e
theorem offs_less (h : ∀ a, a ∈ O' → a ∈ O) : Same (offs O H) (offs O' H) := offs_same (fun _ _ _ e => e) fun a z _ => h a z
theorem offs_new {p : Addr} (n : H p = Option.none) (k : Same H H') : Same (offs O H) (offs (p :: O) H') := offs_same (fun a o _ e => k a o e) fun a z nn => by
  rcases List.mem_cons.mp z with z | z
  · rw [z] at nn
    exact absurd n nn
  · exact z
end
/-- what a def's body stands on: the heap at its entry, what may change there (the bag too), the bag, its cells -/
structure Bs where
  H0 : Hp
  O0 : List Addr
  b : List Addr
  l : Addr
/-- what is known of a name: nothing; data; a list of its own; the bag -/
inductive DV where
  | un
  | v (d : PyData)
  | own (ds : List PyData)
  | bag
  | od (ps : List (PyData × PyData))
  | dd (ps : List (PyData × PyData))
  | tab (P : Program) (w : World) (kvs : List (List Int × PyData))
/-- a dict whose keys are tuples of ints: the things it was made of, what its object is, what its values are -/
def tabXs (ents : List (List Int × Addr × Addr)) : List (List L2.Key × Addr × Value) := ents.map fun e => (e.1.map Sum.inl, e.2.1, .ref e.2.2)
def dictAt (P : Program) (w : World) (p : Addr) (ents : List (List Int × Addr × Addr)) : Heap → Prop := fun h => ∃ o es ep, h.get? p = some o ∧ o.ExactDict ∧ o.data = .dict es ep ∧ es.toList = (tabXs ents).map (entryOfKey (tupleKind (mixKind P w)))
structure TabR (K : PySem.W.Frag) (P : Program) (w : World) (H : Hp) (p : Addr) (ents : List (List Int × Addr × Addr)) (kvs : List (List Int × PyData)) : Prop where
  here : H p = some (.ext (dictAt P w p ents))
  nsys : p ≠ sysModules
  nd : (ents.map (·.1)).Nodup
  en : Paired (fun e kv => e.1 = kv.1 ∧ SqT K H e.2.1 (e.1.map V.int) ∧ Da K H (.ref e.2.2) kv.2) ents kvs
theorem TabR.same {K : PySem.W.Frag} {P : Program} {w : World} {H H' : Hp} {p : Addr} {ents : List (List Int × Addr × Addr)} {kvs : List (List Int × PyData)} (t : TabR K P w H p ents kvs) (k : Same H H') : TabR K P w H' p ents kvs :=
  ⟨k _ _ t.here, t.nsys, t.nd, Paired.mapP t.en fun _ _ z => ⟨z.1, Evl.ex_t k z.2.1, da_same k z.2.2⟩⟩
def mine : DV → Bool
  | .own _ => true
  | .od _ => true
  | _ => false
/-- what a dict of one's own stands on -/
structure EntR (K : PySem.W.Frag) (G : Hp) (ents : List (NestedKey × Addr × V)) (ps : List (PyData × PyData)) : Prop where
  kd : DaAll K G (ents.map fun e => V.ref e.2.1) (ps.map Prod.fst)
  vd : DaAll K G (ents.map fun e => e.2.2) (ps.map Prod.snd)
  ky : ps.map (fun p => keyT p.1) = ents.map (fun e => some e.1)
  nd : (ents.map fun e => e.1).Nodup
theorem EntR.same {K : PySem.W.Frag} {G G' : Hp} {ents : List (NestedKey × Addr × V)} {ps : List (PyData × PyData)} (t : EntR K G ents ps) (k : Same G G') : EntR K G' ents ps := ⟨daAll_same k t.kd, daAll_same k t.vd, t.ky, t.nd⟩
def Nq (K : PySem.W.Frag) (O : List Addr) (H : Hp) (v : V) (d : PyData) : Prop :=
  Da K (offs O H) v d ∨ ∃ a xs ds, v = .ref a ∧ d = .list ds ∧ a ≠ sysModules ∧ H a = some (.lst xs) ∧ DaAll K (offs O H) xs ds
def Nr (K : PySem.W.Frag) (c : Bs) (O : List Addr) (H : Hp) (v : V) (d : PyData) : Prop :=
  Da K (offs O H) v d ∨ ∃ a xs ds, v = .ref a ∧ d = .list ds ∧ a ≠ sysModules ∧ c.H0 a = Option.none ∧ H a = some (.lst xs) ∧ DaAll K (offs O H) xs ds
theorem Nr.nq {K : PySem.W.Frag} {c : Bs} {O : List Addr} {H : Hp} {v : V} {d : PyData} (h : Nr K c O H v d) : Nq K O H v d := by
  rcases h with h | ⟨a, xs, ds, h1, h2, h3, _, h4, h5⟩
  · exact .inl h
  · exact .inr ⟨a, xs, ds, h1, h2, h3, h4, h5⟩
theorem Nq.da {K : PySem.W.Frag} {O : List Addr} {H : Hp} {v : V} {d : PyData} (h : Nq K O H v d) : Da K H v d := by
  rcases h with h | ⟨a, xs, ds, rfl, rfl, h3, h4, h5⟩
  · exact da_same offs_sub h
  · exact .lst h4 h3 (daAll_same offs_sub h5)
def SlotR (K : PySem.W.Frag) (c : Bs) (O : List Addr) (H : Hp) : DV → Option (Option V) → Prop
  | .un, _ => True
  | .v d, s => ∃ x, s = some (some x) ∧ Da K (offs O H) x d
  | .own ds, s => ∃ a xs, s = some (some (.ref a)) ∧ a ∈ O ∧ c.H0 a = Option.none ∧ a ≠ sysModules ∧ H a = some (.lst xs) ∧ DaAll K (offs O H) xs ds
  | .bag, s => ∃ a, s = some (some (.ref a)) ∧ c.b = [a]
  | .od ps, s => ∃ a ents, s = some (some (.ref a)) ∧ a ∈ O ∧ c.H0 a = Option.none ∧ a ≠ sysModules ∧ H a = some (.ext (dictN a ents)) ∧ EntR K (offs O H) ents ps
  | .dd ps, s => ∃ a ents, s = some (some (.ref a)) ∧ a ≠ sysModules ∧ offs O H a = some (.ext (dictN a ents)) ∧ EntR K (offs O H) ents ps
  | .tab P w kvs, s => ∃ p ents, s = some (some (.ref p)) ∧ TabR K P w (offs O H) p ents kvs
structure Rel (K : PySem.W.Frag) (c : Bs) (F : Hp) (env : List DV) (O : List Addr) (σ : L2.St) (H : Hp) : Prop where
  dom : ∀ a ∈ O, ∃ o, H a = some o
  sub : ∀ a ∈ c.O0, a ∈ O
  ent : ∀ a ∈ c.O0, ∃ o, c.H0 a = some o
  but : ∀ a o, a ∉ c.b → c.H0 a = some o → H a = some o
  bg : ∀ a ∈ c.b, a ∈ c.O0 ∧ Bag H a c.l ∧ c.l ∉ O
  sys : Sys H
  nsys : sysModules ∉ O
  fz : Same F (offs O H)
  sl : ∀ (i : Nat) (e : DV), env[i]? = some e → SlotR K c O H e (σ[i]?)
  ap : ∀ (i j : Nat) (e f : DV) (a : Addr), i ≠ j → env[i]? = some e → env[j]? = some f → mine e = true → mine f = true → σ[i]? = some (some (.ref a)) → σ[j]? ≠ some (some (.ref a))
  len : σ.length = env.length
/-- what an expression may do: lay new things, turn the bag -/
structure Gx (c : Bs) (H H' : Hp) : Prop where
  kp : ∀ a o, a ∉ c.b → H a = some o → H' a = some o
  bg : ∀ a ∈ c.b, Bag H' a c.l
section
variable {K : PySem.W.Frag} {c : Bs} {F : Hp} {env : List DV} {O : List Addr} {σ : L2.St} {H H' H1 H2 : Hp} {v : V} {d : PyData}
theorem Rel.refl (R : Rel K c F env O σ H) : Gx c H H := ⟨fun _ _ _ e => e, fun a h => (R.bg a h).2.1⟩
theorem Gx.trans (g : Gx c H H1) (g' : Gx c H1 H2) : Gx c H H2 := ⟨fun a o n e => g'.kp a o n (g.kp a o n e), g'.bg⟩
theorem Rel.same (R : Rel K c F env O σ H) (k : Same H H') : Gx c H H' := ⟨fun a o _ e => k a o e, fun a h => (R.bg a h).2.1.same k⟩
theorem Rel.bO (R : Rel K c F env O σ H) : ∀ a ∈ c.b, a ∈ O := fun a h => R.sub a (R.bg a h).1
theorem Rel.nb (R : Rel K c F env O σ H) {a : Addr} (n : a ∉ O) : a ∉ c.b := fun z => n (R.bO a z)
theorem Rel.go (R : Rel K c F env O σ H) (g : Gx c H H') : Same (offs O H) (offs O H') := offs_same (fun a o n e => g.kp a o (R.nb n) e) fun _ z _ => z
theorem Rel.n0 (R : Rel K c F env O σ H) {a : Addr} (h : c.H0 a = Option.none) : a ∉ c.O0 ∧ a ∉ c.b := by
  have h1 : a ∉ c.O0 := fun z => by
    obtain ⟨o, e⟩ := R.ent a z
    rw [h] at e
    cases e
  exact ⟨h1, fun z => h1 (R.bg a z).1⟩
theorem Rel.h0 (R : Rel K c F env O σ H) {a : Addr} (h : H a = Option.none) : c.H0 a = Option.none := by
  cases e : c.H0 a with
  | none => rfl
  | some o =>
    by_cases hb : a ∈ c.b
    · obtain ⟨o, e⟩ := R.dom a (R.bO a hb)
      rw [h] at e
      cases e
    · have e2 := R.but a o hb e
      rw [h] at e2
      cases e2
theorem Rel.gx (R : Rel K c F env O σ H) (g : Gx c H H') : Rel K c F env O σ H' where
  dom := fun a h => by
    by_cases hb : a ∈ c.b
    · obtain ⟨⟨p, q, r, cs, e, _⟩, _⟩ := g.bg a hb
      exact ⟨_, e⟩
    · obtain ⟨o, e⟩ := R.dom a h
      exact ⟨o, g.kp a o hb e⟩
  sub := R.sub
  ent := R.ent
  but := fun a o n e => g.kp a o n (R.but a o n e)
  bg := fun a h => ⟨(R.bg a h).1, g.bg a h, (R.bg a h).2.2⟩
  sys := by
    obtain ⟨φ, e⟩ := R.sys
    exact ⟨φ, g.kp _ _ (R.nb R.nsys) e⟩
  nsys := R.nsys
  fz := R.fz.trans (R.go g)
  sl := fun i e he => by
    have q := R.sl i e he
    cases e with
    | un => trivial
    | v d =>
      obtain ⟨x, h1, h2⟩ := q
      exact ⟨x, h1, da_same (R.go g) h2⟩
    | own ds =>
      obtain ⟨a, xs, h1, h2, h3, h5, h6, h7⟩ := q
      exact ⟨a, xs, h1, h2, h3, h5, g.kp _ _ (R.n0 h3).2 h6, daAll_same (R.go g) h7⟩
    | bag => exact q
    | tab P w kvs =>
      obtain ⟨p', ents, h1, h2⟩ := q
      exact ⟨p', ents, h1, h2.same (R.go g)⟩
    | dd ps =>
      obtain ⟨a, ents, h1, h2, h3, h4⟩ := q
      exact ⟨a, ents, h1, h2, (R.go g) _ _ h3, h4.same (R.go g)⟩
    | od ps =>
      obtain ⟨a, ents, h1, h2, h3, h5, h6, h7⟩ := q
      exact ⟨a, ents, h1, h2, h3, h5, g.kp _ _ (R.n0 h3).2 h6, h7.same (R.go g)⟩
  ap := R.ap
  len := R.len
theorem Nr.gx (h : Nr K c O H v d) (R : Rel K c F env O σ H) (g : Gx c H H') : Nr K c O H' v d := by
  rcases h with h | ⟨a, xs, ds, h1, h2, h3, h4, h6, h7⟩
  · exact .inl (da_same (R.go g) h)
  · exact .inr ⟨a, xs, ds, h1, h2, h3, h4, g.kp _ _ (R.n0 h4).2 h6, daAll_same (R.go g) h7⟩
theorem Rel.mineO (R : Rel K c F env O σ H) {i : Nat} {e : DV} {a : Addr} (he : env[i]? = some e) (m : mine e = true) (hs : σ[i]? = some (some (.ref a))) : a ∈ O := by
  have q := R.sl i e he
  cases e with
  | own ds =>
    obtain ⟨a', xs, q1, q2, _⟩ := q
    rw [hs] at q1
    cases q1
    exact q2
  | od ps =>
    obtain ⟨a', xs, q1, q2, _⟩ := q
    rw [hs] at q1
    cases q1
    exact q2
  | _ => cases m
theorem Rel.fzm {F' : Hp} (R : Rel K c F' env O σ H) (k : Same F F') : Rel K c F env O σ H := { R with fz := k.trans R.fz }
theorem Rel.fzn (R : Rel K c F env O σ H) : Rel K c (offs O H) env O σ H := { R with fz := fun _ _ e => e }
/-- a name is stored -/
theorem Rel.set (R : Rel K c F env O σ H) (i : Nat) {x : V} (h : Da K (offs O H) x d) : Rel K c F (env.set i (.v d)) O (σ.set i (some x)) H :=
  { R with
    sl := fun j e he => by
      by_cases hj : j = i
      · subst hj
        by_cases hl : j < env.length
        · rw [List.getElem?_set_self hl] at he
          cases he
          exact ⟨x, by rw [List.getElem?_set_self (by rw [R.len]; exact hl)], h⟩
        · rw [List.getElem?_eq_none (by rw [List.length_set]; omega)] at he
          cases he
      · rw [List.getElem?_set_ne (Ne.symm hj)] at he ⊢
        exact R.sl j e he
    ap := fun j k ds es a hjk h1 h2 m1 m2 h3 => by
      by_cases hj : j = i
      · subst hj
        by_cases hl : j < env.length
        · rw [List.getElem?_set_self hl] at h1
          cases h1
          cases m1
        · rw [List.getElem?_eq_none (by rw [List.length_set]; omega)] at h1
          cases h1
      · by_cases hk : k = i
        · subst hk
          by_cases hl : k < env.length
          · rw [List.getElem?_set_self hl] at h2
            cases h2
            cases m2
          · rw [List.getElem?_eq_none (by rw [List.length_set]; omega)] at h2
            cases h2
        · rw [List.getElem?_set_ne (Ne.symm hj)] at h1 h3
          rw [List.getElem?_set_ne (Ne.symm hk)] at h2 ⊢
          exact R.ap j k ds es a hjk h1 h2 m1 m2 h3
    len := by rw [List.length_set, List.length_set, R.len] }
/-- a new list of one's own is stored -/
theorem Rel.setL (R : Rel K c F env O σ H) (i : Nat) {p : Addr} {ys : List V} {ds : List PyData} (g : Gx c H H') (n : H p = Option.none) (e : H' p = some (.lst ys)) (hp : p ≠ sysModules) (h : DaAll K (offs (p :: O) H') ys ds) :
    Rel K c F (env.set i (.own ds)) (p :: O) (σ.set i (some (.ref p))) H' := by
  have R' := R.gx g
  have pO : p ∉ O := fun z => by
    obtain ⟨o, eo⟩ := R.dom p z
    rw [n] at eo
    cases eo
  have k : Same (offs O H) (offs (p :: O) H') := offs_same (fun a o n' e' => g.kp a o (R.nb n') e') fun a z nn => by
    rcases List.mem_cons.mp z with z | z
    · rw [z] at nn
      exact absurd n nn
    · exact z
  exact {
    dom := fun a h => by
      rcases List.mem_cons.mp h with z | z
      · rw [z]
        exact ⟨_, e⟩
      · exact R'.dom a z
    sub := fun a h => List.mem_cons_of_mem _ (R.sub a h)
    ent := R.ent
    but := R'.but
    bg := fun a h => ⟨(R.bg a h).1, g.bg a h, fun z => by
      rcases List.mem_cons.mp z with z | z
      · obtain ⟨⟨_, _, _, cs, _, e2, _⟩, _⟩ := (R.bg a h).2.1
        rw [z, n] at e2
        cases e2
      · exact (R.bg a h).2.2 z⟩
    sys := R'.sys
    nsys := fun z => by
      rcases List.mem_cons.mp z with z | z
      · exact hp z.symm
      · exact R.nsys z
    fz := R.fz.trans k
    sl := fun j e0 he => by
      by_cases hj : j = i
      · subst hj
        by_cases hl : j < env.length
        · rw [List.getElem?_set_self hl] at he
          cases he
          exact ⟨p, ys, by rw [List.getElem?_set_self (by rw [R.len]; exact hl)], List.mem_cons_self, R.h0 n, hp, e, h⟩
        · rw [List.getElem?_eq_none (by rw [List.length_set]; omega)] at he
          cases he
      · rw [List.getElem?_set_ne (Ne.symm hj)] at he ⊢
        have q := R.sl j e0 he
        cases e0 with
        | un => trivial
        | v d =>
          obtain ⟨x, h1, h2⟩ := q
          exact ⟨x, h1, da_same k h2⟩
        | own ds =>
          obtain ⟨a, xs, h1, h2, h3, h5, h6, h7⟩ := q
          exact ⟨a, xs, h1, List.mem_cons_of_mem _ h2, h3, h5, g.kp _ _ (R.n0 h3).2 h6, daAll_same k h7⟩
        | bag => exact q
        | tab P w kvs =>
          obtain ⟨p', ents, h1, h2⟩ := q
          exact ⟨p', ents, h1, h2.same k⟩
        | dd ps =>
          obtain ⟨a, ents, h1, h2, h3, h4⟩ := q
          exact ⟨a, ents, h1, h2, k _ _ h3, h4.same k⟩
        | od ps =>
          obtain ⟨a, ents, h1, h2, h3, h5, h6, h7⟩ := q
          exact ⟨a, ents, h1, List.mem_cons_of_mem _ h2, h3, h5, g.kp _ _ (R.n0 h3).2 h6, h7.same k⟩
    ap := fun j m ds es a hjk h1 h2 m1 m2 h3 => by
      by_cases hj : j = i
      · subst hj
        have hm : m ≠ j := fun z => hjk z.symm
        rw [List.getElem?_set_ne (Ne.symm hm)] at h2 ⊢
        intro z
        by_cases hl : j < σ.length
        · rw [List.getElem?_set_self hl] at h3
          cases h3
          exact pO (R.mineO h2 m2 z)
        · rw [List.getElem?_eq_none (by rw [List.length_set]; omega)] at h3
          cases h3
      · rw [List.getElem?_set_ne (Ne.symm hj)] at h1 h3
        by_cases hm : m = i
        · subst hm
          intro z
          by_cases hl : m < σ.length
          · rw [List.getElem?_set_self hl] at z
            cases z
            exact pO (R.mineO h1 m1 h3)
          · rw [List.getElem?_eq_none (by rw [List.length_set]; omega)] at z
            cases z
        · rw [List.getElem?_set_ne (Ne.symm hm)] at h2 ⊢
          exact R.ap j m ds es a hjk h1 h2 m1 m2 h3
    len := by rw [List.length_set, List.length_set, R.len] }
/-- a list of one's own changes -/
theorem Rel.mut (R : Rel K c F env O σ H) {i : Nat} {ds es : List PyData} {a : Addr} {ys : List V} (hi : env[i]? = some (.own ds)) (hs : σ[i]? = some (some (.ref a))) (h : DaAll K (offs O H) ys es) :
    Rel K c F (env.set i (.own es)) O σ (upd H a (.lst ys)) := by
  obtain ⟨a', xs, q1, q2, q3, q5, q6, q7⟩ := R.sl i _ hi
  have q4 := (R.n0 q3).2
  rw [hs] at q1
  cases q1
  have hl : i < env.length := (List.getElem?_eq_some_iff.mp hi).1
  have k : Same (offs O H) (offs O (upd H a (.lst ys))) := offs_same (fun b o n e => by
    rw [upd_ne (fun z => n (by rw [z]; exact q2))]
    exact e) fun _ z _ => z
  have ns : a ≠ sysModules := q5
  exact {
    dom := fun b hb => by
      by_cases z : b = a
      · exact ⟨.lst ys, by rw [z, upd_same]⟩
      · rw [upd_ne z]
        exact R.dom b hb
    sub := R.sub
    ent := R.ent
    but := fun b o n e => by
      by_cases z : b = a
      · rw [z, q3] at e
        cases e
      · rw [upd_ne z]
        exact R.but b o n e
    bg := fun b hb => ⟨(R.bg b hb).1, (R.bg b hb).2.1.upd (fun z => q4 (by rw [z]; exact hb)) (fun z => (R.bg b hb).2.2 (by rw [← z]; exact q2)) q6, (R.bg b hb).2.2⟩
    sys := by
      obtain ⟨φ, e⟩ := R.sys
      exact ⟨φ, by rw [upd_ne (Ne.symm ns)]; exact e⟩
    nsys := R.nsys
    fz := R.fz.trans k
    sl := fun j e0 he => by
      by_cases hj : j = i
      · subst hj
        rw [List.getElem?_set_self hl] at he
        cases he
        exact ⟨a, ys, hs, q2, q3, q5, upd_same, daAll_same k h⟩
      · rw [List.getElem?_set_ne (Ne.symm hj)] at he
        have q := R.sl j e0 he
        cases e0 with
        | un => trivial
        | v d =>
          obtain ⟨x, h1, h2⟩ := q
          exact ⟨x, h1, da_same k h2⟩
        | own ds' =>
          obtain ⟨b, zs, h1, h2, h3, h5, h6, h7⟩ := q
          have nba : b ≠ a := fun z => by
            rw [z] at h1
            exact R.ap i j _ _ a (Ne.symm hj) hi he rfl rfl hs h1
          exact ⟨b, zs, h1, h2, h3, h5, by rw [upd_ne nba]; exact h6, daAll_same k h7⟩
        | bag => exact q
        | tab P w kvs =>
          obtain ⟨p', ents, h1, h2⟩ := q
          exact ⟨p', ents, h1, h2.same k⟩
        | dd ps =>
          obtain ⟨a, ents, h1, h2, h3, h4⟩ := q
          exact ⟨a, ents, h1, h2, k _ _ h3, h4.same k⟩
        | od ps =>
          obtain ⟨a, ents, h1, h2, h3, h5, h6, h7⟩ := q
          exact ⟨a, ents, h1, h2, h3, h5, (by rw [upd_ne (fun z => by rw [z, q6] at h6; cases h6)]; exact h6), h7.same k⟩
    ap := fun j m e f b hjm h1 h2 m1 m2 h3 => by
      have back : ∀ (j : Nat) (e : DV), (env.set i (.own es))[j]? = some e → mine e = true → ∃ e2, env[j]? = some e2 ∧ mine e2 = true := fun j e he me => by
        by_cases z : j = i
        · exact ⟨.own ds, by rw [z]; exact hi, rfl⟩
        · rw [List.getElem?_set_ne (Ne.symm z)] at he
          exact ⟨_, he, me⟩
      obtain ⟨_, g1, k1⟩ := back j _ h1 m1
      obtain ⟨_, g2, k2⟩ := back m _ h2 m2
      exact R.ap j m _ _ b hjm g1 g2 k1 k2 h3
    len := by rw [List.length_set, R.len] }
end
end Du

/-! Readings on data: expressions, tests, arguments, statements, loops, comprehensions. -/
namespace Du
open PySem PySem.Spec PyProof.Rows L2 On
/-- what an expression does on data: it comes to some value that the wish takes -/
abbrev ME := List DV → (PyData → Prop) → Prop
abbrev MT := List DV → (Bool → Prop) → Prop
abbrev MA := List DV → (List DV → Prop) → Prop
abbrev MI := List DV → (List PyData → Prop) → Prop
abbrev MG := PyData → List DV → (List DV → Prop) → Prop
abbrev MGs := List PyData → List DV → (List DV → Prop) → Prop
structure DE where
  nx : List DV → Prop
  rt : PyData → Prop
  bk : List DV → Prop := fun _ => False
  ct : List DV → Prop := fun _ => False
abbrev MS := List DV → DE → Prop
section
variable (K : PySem.W.Frag) (c : Bs)
def up (m : ME) : TE := fun σ H Q => ∃ F env O k, Rel K c F env O σ H ∧ m env k ∧ ∀ d x H', k d → Gx c H H' → Da K (offs O H') x d → Q x H'
def upN (m : ME) : TE := fun σ H Q => ∃ F env O k, Rel K c F env O σ H ∧ m env k ∧ ∀ d x H', k d → Gx c H H' → Nr K c O H' x d → Q x H'
/-- a new list -/
def upL (m : ME) : TE := fun σ H Q => ∃ F env O k, Rel K c F env O σ H ∧ m env k ∧ ∀ d p ys ds H', k d → d = .list ds → Gx c H H' → H p = Option.none → H' p = some (.lst ys) → p ≠ sysModules → DaAll K (offs (p :: O) H') ys ds → Q (.ref p) H'
def upT (m : MT) : TT := fun σ H Q => ∃ F env O k, Rel K c F env O σ H ∧ m env k ∧ ∀ b H', k b → Gx c H H' → Q b H'
def ArgR (O : List Addr) (H : Hp) (x : V) : DV → Prop
  | .v d => Da K (offs O H) x d
  | .bag => ∃ a, x = .ref a ∧ c.b = [a]
  | .dd ps => ∃ a ents, x = .ref a ∧ a ≠ sysModules ∧ offs O H a = some (.ext (dictN a ents)) ∧ EntR K (offs O H) ents ps
  | _ => False
def ArgN (O : List Addr) (H : Hp) (x : V) : DV → Prop
  | .v d => Nr K c O H x d
  | _ => False
def upA (m : MA) : TA := fun σ H Q => ∃ F env O k, Rel K c F env O σ H ∧ m env k ∧ ∀ as xs H', k as → Gx c H H' → Paired (ArgR K c O H') xs as → Q xs H'
def upAN (m : MA) : TA := fun σ H Q => ∃ F env O k, Rel K c F env O σ H ∧ m env k ∧ ∀ as xs H', k as → Gx c H H' → Paired (ArgN K c O H') xs as → Q xs H'
/-- what a loop goes over, as long as the things stay -/
def Walk (O : List Addr) (H : Hp) (J : It) (ds : List PyData) : Prop := ∀ O2 H2, (∀ a ∈ O2, ∃ o, H2 a = some o) → Same (offs O H) (offs O2 H2) →
  (∀ (i : Nat) d, ds[i]? = some d → J.go i H2 ∧ ∀ x H3, J.yld i H2 x H3 → Same H2 H3 ∧ Da K (offs O2 H3) x d) ∧ J.stop ds.length H2
def upI (m : MI) : TI := fun σ H R => ∃ F env O k, Rel K c F env O σ H ∧ m env k ∧ ∀ ds J H', k ds → Gx c H H' → Walk K O H' J ds → R J H'
def upG (ss : List Nat) (g : MG) : TG := fun x σ H Q => ∃ F env O d k, Rel K c F env O σ H ∧ Da K (offs O H) x d ∧ g d env k ∧ ∀ env' σ', k env' → Rel K c F env' O σ' H → (∀ j : Nat, j ∉ ss → σ'[j]? = σ[j]?) → σ'.length = σ.length → Q σ' H
def upGs (ss : List Nat) (g : MGs) : TGs := fun xs σ H Q => ∃ F env O ds k, Rel K c F env O σ H ∧ DaAll K (offs O H) xs ds ∧ g ds env k ∧ ∀ env' σ', k env' → Rel K c F env' O σ' H → (∀ j : Nat, j ∉ ss → σ'[j]? = σ[j]?) → σ'.length = σ.length → Q σ' H
structure RetR (x : V) (d : PyData) (H' : Hp) : Prop where
  but : ∀ a o, a ∉ c.b → c.H0 a = some o → H' a = some o
  bg : ∀ a ∈ c.b, Bag H' a c.l
  da : Da K (offs c.O0 H') x d
def upS (B : MS) : TS := fun D σ H => ∃ F env O DD, Rel K c F env O σ H ∧ B env DD ∧ (∀ env' O' σ' H', DD.nx env' → Rel K c F env' O' σ' H' → D.nx σ' H') ∧
  (∀ env' O' σ' H', DD.bk env' → Rel K c F env' O' σ' H' → D.bk σ' H') ∧ (∀ env' O' σ' H', DD.ct env' → Rel K c F env' O' σ' H' → D.ct σ' H') ∧ (∀ d x H', DD.rt d → RetR K c x d H' → D.rt x H')
end
/-! ### weaker readings -/
section
variable {X : Cx}
theorem pe_mono {e : Expr} {t t' : TE} (h : PE X e t) (w : ∀ σ H Q, t' σ H Q → t σ H Q) : PE X e t' := ⟨fun pins s σ H Q I q => h.run pins s σ H Q I (w _ _ _ q)⟩
theorem pt_mono {e : Expr} {t t' : TT} (h : PT X e t) (w : ∀ σ H Q, t' σ H Q → t σ H Q) : PT X e t' := ⟨fun pins s σ H Q I q => h.run pins s σ H Q I (w _ _ _ q)⟩
theorem pw_mono {e : Expr} {t t' : TT} (h : PW X e t) (w : ∀ σ H Q, t' σ H Q → t σ H Q) : PW X e t' := ⟨fun wh pins s σ H Q I q => h.run wh pins s σ H Q I (w _ _ _ q)⟩
theorem pa_mono {e : List Expr} {t t' : TA} (h : PA X e t) (w : ∀ σ H Q, t' σ H Q → t σ H Q) : PA X e t' := ⟨fun pos pins s σ H Q I q => h.run pos pins s σ H Q I (w _ _ _ q)⟩
theorem ps_mono {e : Stmt} {t t' : TS} (h : PS X e t) (w : ∀ D σ H, t' D σ H → t D σ H) : PS X e t' := ⟨fun pins s σ H D I q => h.run pins s σ H D I (w _ _ _ q)⟩
theorem pss_mono {e : List Stmt} {t t' : TS} (h : PSs X e t) (w : ∀ D σ H, t' D σ H → t D σ H) : PSs X e t' := ⟨fun pins s σ H D I q => h.run pins s σ H D I (w _ _ _ q)⟩
theorem pi_mono {a b : Expr} {t t' : TI} (h : PI X a b t) (w : ∀ σ H R, t' σ H R → t σ H R) : PI X a b t' := ⟨fun pins s σ H R I q => h.run pins s σ H R I (w _ _ _ q)⟩
theorem pg_mono {a : Expr} {t t' : TG} (h : PG X a t) (w : ∀ x σ H Q, t' x σ H Q → t x σ H Q) : PG X a t' := ⟨fun pins s σ H v u Q I r q => h.run pins s σ H v u Q I r (w _ _ _ _ q)⟩
theorem pgs_mono {a : List Expr} {t t' : TGs} (h : PGs X a t) (w : ∀ x σ H Q, t' x σ H Q → t x σ H Q) : PGs X a t' := ⟨fun pins s σ H v u Q I r q => h.run pins s σ H v u Q I r (w _ _ _ _ q)⟩
end
section
variable {K : PySem.W.Frag} {c : Bs} {X : Cx} {e : Expr}
theorem de_n {m : ME} (h : PE X e (up K c m)) : PE X e (upN K c m) := pe_mono h fun σ H Q ⟨F, env, O, k, R, hm, q⟩ => ⟨F, env, O, k, R, hm, fun d x H' kd g da => q d x H' kd g (.inl da)⟩
theorem de_l {m : ME} (h : PE X e (upL K c m)) : PE X e (up K c m) := pe_mono h fun σ H Q ⟨F, env, O, k, R, hm, q⟩ => ⟨F, env, O, k, R, hm, fun d p ys ds H' kd ed g n e hp da => by
  have pO : p ∉ O := fun z => by
    obtain ⟨o, eo⟩ := R.dom p z
    rw [n] at eo
    cases eo
  rw [ed] at kd
  exact q _ _ H' kd g (.lst (by rw [offs_ne pO]; exact e) hp (daAll_same (offs_less fun a z => List.mem_cons_of_mem _ z) da))⟩
theorem de_ln {m : ME} (h : PE X e (upL K c m)) : PE X e (upN K c m) := de_n (de_l h)
/-! ### names, constants -/
def mVar (i : Nat) : ME := fun env k => match env[i]? with
  | some (.v d) => k d
  | _ => False
def mVarN (i : Nat) : ME := fun env k => match env[i]? with
  | some (.v d) => k d
  | some (.own ds) => k (.list ds)
  | _ => False
def mC (d : PyData) : ME := fun _ k => k d
theorem de_var {i : Nat} (h : PE X e (tVar i)) : PE X e (up K c (mVar i)) := pe_mono h fun σ H Q ⟨F, env, O, k, R, hm, q⟩ => by
  unfold mVar at hm
  split at hm
  · rename_i d hd
    obtain ⟨x, h1, h2⟩ := R.sl i _ hd
    exact ⟨x, h1, q d x H hm R.refl h2⟩
  · exact hm.elim
theorem dn_var {i : Nat} (h : PE X e (tVar i)) : PE X e (upN K c (mVarN i)) := pe_mono h fun σ H Q ⟨F, env, O, k, R, hm, q⟩ => by
  unfold mVarN at hm
  split at hm
  · rename_i d hd
    obtain ⟨x, h1, h2⟩ := R.sl i _ hd
    exact ⟨x, h1, q d x H hm R.refl (.inl h2)⟩
  · rename_i ds hd
    obtain ⟨a, xs, h1, h2, h3, h5, h6, h7⟩ := R.sl i _ hd
    exact ⟨_, h1, q _ _ H hm R.refl (.inr ⟨a, xs, ds, rfl, rfl, h5, h3, h6, h7⟩)⟩
  · exact hm.elim
theorem de_c {v : V} {d : PyData} (h : PE X e (tC v)) (hv : ∀ H, Da K H v d) : PE X e (up K c (mC d)) := pe_mono h fun σ H Q ⟨F, env, O, k, R, hm, q⟩ => q d v H hm R.refl (hv _)
/-! ### operations -/
/-- a two-place operation on data: what it comes to is new -/
def OpD (K : PySem.W.Frag) (r : R2) (f : PyData → PyData → (PyData → Prop) → Prop) : Prop := ∀ O H x y d e k (Q : VK), (∀ a ∈ O, ∃ o, H a = some o) → Sys H → Nq K O H x d → Nq K O H y e → f d e k →
  (∀ z v H', k z → Same H H' → Da K (offs O H') v z → Q v H') → r x y H Q
def UnD (K : PySem.W.Frag) (r : V → Hp → VK → Prop) (f : PyData → (PyData → Prop) → Prop) : Prop := ∀ O H x d k (Q : VK), (∀ a ∈ O, ∃ o, H a = some o) → Sys H → Nq K O H x d → f d k →
  (∀ z v H', k z → Same H H' → Da K (offs O H') v z → Q v H') → r x H Q
def m2 (f : PyData → PyData → (PyData → Prop) → Prop) (ma mb : ME) : ME := fun env k => ma env fun d => mb env fun e => f d e k
def m1 (f : PyData → (PyData → Prop) → Prop) (ma : ME) : ME := fun env k => ma env fun d => f d k
theorem up_op {r : R2} {f : PyData → PyData → (PyData → Prop) → Prop} {ma mb : ME} (hf : OpD K r f) (σ : L2.St) (H : Hp) (Q : VK) (h : up K c (m2 f ma mb) σ H Q) : tOp r (upN K c ma) (upN K c mb) σ H Q := by
  obtain ⟨F, env, O, k, R, hm, q⟩ := h
  refine ⟨F, env, O, _, R, hm, fun d x H1 h1 g1 n1 => ⟨F, env, O, _, R.gx g1, h1, fun e y H2 h2 g2 n2 => ?_⟩⟩
  have R1 := R.gx g1
  have R2 := R1.gx g2
  exact hf O H2 x y d e k Q R2.dom R2.sys (n1.gx R1 g2).nq n2.nq h2 fun z v H' kz s da => q z v H' kz ((g1.trans g2).trans (R2.same s)) da
theorem up_un {r : V → Hp → VK → Prop} {f : PyData → (PyData → Prop) → Prop} {ma : ME} (hf : UnD K r f) (σ : L2.St) (H : Hp) (Q : VK) (h : up K c (m1 f ma) σ H Q) : tUn r (upN K c ma) σ H Q := by
  obtain ⟨F, env, O, k, R, hm, q⟩ := h
  refine ⟨F, env, O, _, R, hm, fun d x H1 h1 g1 n1 => ?_⟩
  have R1 := R.gx g1
  exact hf O H1 x d k Q R1.dom R1.sys n1.nq h1 fun z v H' kz s da => q z v H' kz (g1.trans (R1.same s)) da
variable {pos : Pos}
theorem de_op {op : Operator} {r : R2} {f : PyData → PyData → (PyData → Prop) → Prop} {a b : Expr} {ma mb : ME} (ho : OpR X (binaryOp op) r) (hf : OpD K r f) (ha : PE X a (upN K c ma)) (hb : PE X b (upN K c mb)) : PE X (.BinOp a op b pos) (up K c (m2 f ma mb)) :=
  pe_mono (pe_op ho ha hb) (up_op hf)
theorem de_un {op : UnaryOp} {r : V → Hp → VK → Prop} {f : PyData → (PyData → Prop) → Prop} {a : Expr} {ma : ME} (ho : UnR X (unaryOp op) r) (hf : UnD K r f) (ha : PE X a (upN K c ma)) : PE X (.UnaryOp op a pos) (up K c (m1 f ma)) :=
  pe_mono (pe_un ho ha) (up_un hf)
theorem de_cmp {op : CmpOp} {r : R2} {f : PyData → PyData → (PyData → Prop) → Prop} {a b : Expr} {ma mb : ME} (ho : OpR X (compareOp op) r) (hf : OpD K r f) (ha : PE X a (upN K c ma)) (hb : PE X b (upN K c mb)) (hm : behindInMarks op b = false) :
    PE X (.Compare a [op] [b] pos) (up K c (m2 f ma mb)) := pe_mono (pe_cmpR ho ha hb hm) (up_op hf)
/-- .. whose value is a truth, as a test -/
def mTst (m : ME) : MT := fun env k => m env fun d => match d with
  | .bool b => k b
  | _ => False
theorem up_tst {r : R2} {f : PyData → PyData → (PyData → Prop) → Prop} {ma mb : ME} (hf : OpD K r f) (σ : L2.St) (H : Hp) (Q : Bool → Hp → Prop) (h : upT K c (mTst (m2 f ma mb)) σ H Q) : tTest (tOp r (upN K c ma) (upN K c mb)) σ H Q := by
  obtain ⟨F, env, O, k, R, hm, q⟩ := h
  refine up_op hf σ H _ ⟨F, env, O, _, R, hm, fun d x H' kd g da => ?_⟩
  split at kd
  · cases da
    exact ⟨_, rfl, q _ _ kd g⟩
  · exact kd.elim
theorem dt_cmp {op : CmpOp} {r : R2} {f : PyData → PyData → (PyData → Prop) → Prop} {a b : Expr} {ma mb : ME} (ho : OpR X (compareOp op) r) (hf : OpD K r f) (ha : PE X a (upN K c ma)) (hb : PE X b (upN K c mb)) (hm : behindInMarks op b = false) :
    PT X (.Compare a [op] [b] pos) (upT K c (mTst (m2 f ma mb))) := pt_mono (pt_cmpR ho ha hb hm) (up_tst hf)
def mChain (f g : PyData → PyData → (PyData → Prop) → Prop) (ma mb mc : ME) : ME := fun env k => ma env fun d => mb env fun e => f d e fun z => match z with
  | .bool true => mc env fun w => g e w k
  | .bool false => k (.bool false)
  | _ => False
theorem up_chain {r r' : R2} {f g : PyData → PyData → (PyData → Prop) → Prop} {ma mb mc : ME} (hf : OpD K r f) (hg : OpD K r' g) (σ : L2.St) (H : Hp) (Q : VK) (h : up K c (mChain f g ma mb mc) σ H Q) :
    tChain r r' (upN K c ma) (upN K c mb) (upN K c mc) σ H Q := by
  obtain ⟨F, env, O, k, R, hm, q⟩ := h
  refine ⟨F, env, O, _, R, hm, fun d x H1 h1 g1 n1 => ⟨F, env, O, _, R.gx g1, h1, fun e y H2 h2 g2 n2 => ?_⟩⟩
  have R1 := R.gx g1
  have R2 := R1.gx g2
  refine hf O H2 x y d e _ _ R2.dom R2.sys (n1.gx R1 g2).nq n2.nq h2 fun z v H3 kz s da => ?_
  have g3 := R2.same s
  have R3 := R2.gx g3
  split at kz
  · cases da
    refine ⟨true, rfl, ?_⟩
    rw [if_pos rfl]
    refine ⟨F, env, O, _, R3, kz, fun w u H4 h4 g4 n4 => ?_⟩
    have R4 := R3.gx g4
    exact hg O H4 y u e w k Q R4.dom R4.sys ((n2.gx R2 g3).gx R3 g4).nq n4.nq h4 fun z v H' kz s da => q z v H' kz ((((g1.trans g2).trans g3).trans g4).trans (R4.same s)) da
  · cases da
    refine ⟨false, rfl, ?_⟩
    rw [if_neg Bool.false_ne_true]
    exact q _ _ _ kz ((g1.trans g2).trans g3) (.bl false)
  · exact kz.elim
theorem de_chain {op op' : CmpOp} {r r' : R2} {f g : PyData → PyData → (PyData → Prop) → Prop} {a b d : Expr} {ma mb mc : ME} (ho : OpR X (compareOp op) r) (hf : OpD K r f) (ho' : OpR X (compareOp op') r') (hg : OpD K r' g) (ha : PE X a (upN K c ma)) (hb : PE X b (upN K c mb)) (hc : PE X d (upN K c mc))
    (hm : lastMarks [op, op'] [b, d] = false := by with_unfolding_all rfl) : PE X (.Compare a [op, op'] [b, d] pos) (up K c (mChain f g ma mb mc)) := pe_mono (pe_chain ho ho' ha hb hc hm) (up_chain hf hg)
theorem dt_chain {op op' : CmpOp} {r r' : R2} {f g : PyData → PyData → (PyData → Prop) → Prop} {a b d : Expr} {ma mb mc : ME} (ho : OpR X (compareOp op) r) (hf : OpD K r f) (ho' : OpR X (compareOp op') r') (hg : OpD K r' g) (ha : PE X a (upN K c ma)) (hb : PE X b (upN K c mb)) (hc : PE X d (upN K c mc))
    (hm : lastMarks [op, op'] [b, d] = false := by with_unfolding_all rfl) : PT X (.Compare a [op, op'] [b, d] pos) (upT K c (mTst (mChain f g ma mb mc))) := pt_mono (pt_chain ho ho' ha hb hc hm) fun σ H Q h => by
  obtain ⟨F, env, O, k, R, hm, q⟩ := h
  refine up_chain hf hg σ H _ ⟨F, env, O, _, R, hm, fun d x H' kd g da => ?_⟩
  split at kd
  · cases da
    exact ⟨_, rfl, q _ _ kd g⟩
  · exact kd.elim
/-! ### tests -/
def mNot (m : MT) : MT := fun env k => m env fun b => k (!b)
def mAnd (m n : MT) : MT := fun env k => m env fun b => match b with
  | true => n env k
  | false => k false
def mOr (m n : MT) : MT := fun env k => m env fun b => match b with
  | true => k true
  | false => n env k
theorem dt_not {a : Expr} {m : MT} (h : PT X a (upT K c m)) : PT X (.UnaryOp .Not a pos) (upT K c (mNot m)) := pt_mono (pt_not h) fun σ H Q ⟨F, env, O, k, R, hm, q⟩ => ⟨F, env, O, _, R, hm, fun b H' kb g => q _ _ kb g⟩
theorem up_and {m n : MT} (σ : L2.St) (H : Hp) (Q : Bool → Hp → Prop) (h : upT K c (mAnd m n) σ H Q) : tAnd (upT K c m) (upT K c n) σ H Q := by
  obtain ⟨F, env, O, k, R, hm, q⟩ := h
  refine ⟨F, env, O, _, R, hm, fun b H' kb g => ?_⟩
  cases b with
  | true => exact ⟨F, env, O, _, R.gx g, kb, fun b H2 kb g2 => q b H2 kb (g.trans g2)⟩
  | false => exact q _ _ kb g
theorem up_or {m n : MT} (σ : L2.St) (H : Hp) (Q : Bool → Hp → Prop) (h : upT K c (mOr m n) σ H Q) : tOr (upT K c m) (upT K c n) σ H Q := by
  obtain ⟨F, env, O, k, R, hm, q⟩ := h
  refine ⟨F, env, O, _, R, hm, fun b H' kb g => ?_⟩
  cases b with
  | false => exact ⟨F, env, O, _, R.gx g, kb, fun b H2 kb g2 => q b H2 kb (g.trans g2)⟩
  | true => exact q _ _ kb g
variable {a b : Expr} {rest : List Expr}
theorem dw_and1 {m : MT} (h : PT X a (upT K c m)) : PW X (.BoolOp .And [a] pos) (upT K c m) := pw_and1 h
theorem dw_or1 {m : MT} (h : PT X a (upT K c m)) : PW X (.BoolOp .Or [a] pos) (upT K c m) := pw_or1 h
theorem dw_and {m n : MT} (h : PT X a (upT K c m)) (h2 : PW X (.BoolOp .And (b :: rest) pos) (upT K c n)) : PW X (.BoolOp .And (a :: b :: rest) pos) (upT K c (mAnd m n)) := pw_mono (pw_and h h2) up_and
theorem dw_or {m n : MT} (h : PT X a (upT K c m)) (h2 : PW X (.BoolOp .Or (b :: rest) pos) (upT K c n)) : PW X (.BoolOp .Or (a :: b :: rest) pos) (upT K c (mOr m n)) := pw_mono (pw_or h h2) up_or
/-! ### truths as values -/
def mAndV (m n : ME) : ME := fun env k => m env fun d => match d with
  | .bool true => n env k
  | .bool false => k (.bool false)
  | _ => False
def mOrV (m n : ME) : ME := fun env k => m env fun d => match d with
  | .bool true => k (.bool true)
  | .bool false => n env k
  | _ => False
def mNotV (m : ME) : ME := fun env k => m env fun d => match d with
  | .bool b => k (.bool (!b))
  | _ => False
theorem de_one {op : BoolOp} {m : ME} (h : PE X a (up K c m)) : PE X (.BoolOp op [a] pos) (up K c m) := pe_one h
theorem de_and {m n : ME} (h : PE X a (up K c m)) (h2 : PE X (.BoolOp .And (b :: rest) pos) (up K c n)) : PE X (.BoolOp .And (a :: b :: rest) pos) (up K c (mAndV m n)) := pe_mono (pe_and h h2) fun σ H Q ⟨F, env, O, k, R, hm, q⟩ => by
  refine ⟨F, env, O, _, R, hm, fun d x H' kd g da => ?_⟩
  split at kd
  · cases da
    exact ⟨true, rfl, F, env, O, _, R.gx g, kd, fun d x H2 kb g2 da => q d x H2 kb (g.trans g2) da⟩
  · cases da
    exact ⟨false, rfl, q _ _ _ kd g (.bl false)⟩
  · exact kd.elim
theorem de_or {m n : ME} (h : PE X a (up K c m)) (h2 : PE X (.BoolOp .Or (b :: rest) pos) (up K c n)) : PE X (.BoolOp .Or (a :: b :: rest) pos) (up K c (mOrV m n)) := pe_mono (pe_or h h2) fun σ H Q ⟨F, env, O, k, R, hm, q⟩ => by
  refine ⟨F, env, O, _, R, hm, fun d x H' kd g da => ?_⟩
  split at kd
  · cases da
    exact ⟨true, rfl, q _ _ _ kd g (.bl true)⟩
  · cases da
    exact ⟨false, rfl, F, env, O, _, R.gx g, kd, fun d x H2 kb g2 da => q d x H2 kb (g.trans g2) da⟩
  · exact kd.elim
/-- not e, as a value: e a test -/
def mNotT (m : MT) : ME := fun env k => m env fun b => k (.bool (!b))
def mIf (t : MT) (m n : ME) : ME := fun env k => t env fun b => match b with
  | true => m env k
  | false => n env k
theorem de_if {cn : Expr} {t : MT} {m n : ME} (hc : PT X cn (upT K c t)) (ha : PE X a (up K c m)) (hb : PE X b (up K c n)) : PE X (.IfExp cn a b pos) (up K c (mIf t m n)) := pe_mono (pe_ifExp hc ha hb) fun σ H Q ⟨F, env, O, k, R, hm, q⟩ => by
  refine ⟨F, env, O, _, R, hm, fun bb H' kb g => ?_⟩
  cases bb with
  | true => exact ⟨F, env, O, _, R.gx g, kb, fun d x H2 kb g2 da => q d x H2 kb (g.trans g2) da⟩
  | false => exact ⟨F, env, O, _, R.gx g, kb, fun d x H2 kb g2 da => q d x H2 kb (g.trans g2) da⟩
/-! ### arguments -/
def mNil : MA := fun _ k => k []
def mCons (m : ME) (ms : MA) : MA := fun env k => m env fun d => ms env fun as => k (.v d :: as)
def mBag (i : Nat) (ms : MA) : MA := fun env k => match env[i]? with
  | some .bag => ms env fun as => k (.bag :: as)
  | _ => False
theorem paired_gx {O : List Addr} {F : Hp} {env : List DV} {σ : L2.St} {H H' : Hp} (R : Rel K c F env O σ H) (g : Gx c H H') : ∀ {xs : List V} {as : List DV}, Paired (ArgR K c O H) xs as → Paired (ArgR K c O H') xs as
  | _, _, .nil => .nil
  | _, _, .cons r t => .cons (by
      rename_i x dv _ _
      cases dv with
      | v d => exact da_same (R.go g) r
      | bag => exact r
      | tab _ _ _ => exact r
      | od _ => exact r
      | dd ps =>
        obtain ⟨a, ents, h1, h2, h3, h4⟩ := r
        exact ⟨a, ents, h1, h2, R.go g _ _ h3, h4.same (R.go g)⟩
      | un => exact r
      | own _ => exact r) (paired_gx R g t)
variable {es : List Expr}
theorem da_nil : PA X [] (upA K c mNil) := pa_mono pa_nil fun σ H Q ⟨F, env, O, k, R, hm, q⟩ => q [] [] H hm R.refl .nil
theorem da_cons {m : ME} {ms : MA} (ha : PE X e (up K c m)) (hr : PA X es (upA K c ms)) (hs : starEach (e :: es) X.env = (false, eval e X.env) :: starEach es X.env := by rfl) : PA X (e :: es) (upA K c (mCons m ms)) :=
  pa_mono (pa_cons ha hr hs) fun σ H Q ⟨F, env, O, k, R, hm, q⟩ => ⟨F, env, O, _, R, hm, fun d x H1 kd g da => ⟨F, env, O, _, R.gx g, kd, fun as xs H2 ks g2 ps => q _ _ H2 ks (g.trans g2) (.cons (da_same ((R.gx g).go g2) da) ps)⟩⟩
theorem da_bag {i : Nat} {ms : MA} (ha : PE X e (tVar i)) (hr : PA X es (upA K c ms)) (hs : starEach (e :: es) X.env = (false, eval e X.env) :: starEach es X.env := by rfl) : PA X (e :: es) (upA K c (mBag i ms)) :=
  pa_mono (pa_cons ha hr hs) fun σ H Q ⟨F, env, O, k, R, hm, q⟩ => by
    unfold mBag at hm
    split at hm
    · rename_i hd
      obtain ⟨a, h1, h2⟩ := R.sl i _ hd
      exact ⟨_, h1, F, env, O, _, R, hm, fun as xs H2 ks g2 ps => q _ _ H2 ks g2 (.cons ⟨a, rfl, h2⟩ ps)⟩
    · exact hm.elim
theorem dan_nil : PA X [] (upAN K c mNil) := pa_mono pa_nil fun σ H Q ⟨F, env, O, k, R, hm, q⟩ => q [] [] H hm R.refl .nil
theorem dan_cons {m : ME} {ms : MA} (ha : PE X e (upN K c m)) (hr : PA X es (upAN K c ms)) (hs : starEach (e :: es) X.env = (false, eval e X.env) :: starEach es X.env := by rfl) : PA X (e :: es) (upAN K c (mCons m ms)) :=
  pa_mono (pa_cons ha hr hs) fun σ H Q ⟨F, env, O, k, R, hm, q⟩ => ⟨F, env, O, _, R, hm, fun d x H1 kd g da => ⟨F, env, O, _, R.gx g, kd, fun as xs H2 ks g2 ps => q _ _ H2 ks (g.trans g2) (.cons (da.gx (R.gx g) g2) ps)⟩⟩
/-- tuples, lists written out -/
def dataOf : List DV → Option (List PyData)
  | [] => some []
  | .v d :: r => (dataOf r).map (d :: ·)
  | _ :: _ => Option.none
def mTup (ms : MA) : ME := fun env k => ms env fun as => match dataOf as with
  | some ds => ds.length ≤ 100000 ∧ k (.tuple ds)
  | Option.none => False
def mLst (ms : MA) : ME := fun env k => ms env fun as => match dataOf as with
  | some ds => ds.length ≤ 100000 ∧ k (.list ds)
  | Option.none => False
theorem paired_data {O : List Addr} {H : Hp} : ∀ {xs : List V} {as : List DV} {ds : List PyData}, Paired (ArgR K c O H) xs as → dataOf as = some ds → DaAll K (offs O H) xs ds
  | _, _, _, .nil, e => by
    cases e
    exact .nil
  | _, _, _, .cons (b := dv) r t, e => by
    cases dv with
    | v d =>
      unfold dataOf at e
      obtain ⟨ds', e1, e2⟩ := Option.map_eq_some_iff.mp e
      subst e2
      exact .cons r (paired_data t e1)
    | _ => cases e
theorem de_tup {x1} {ms : MA} (h : PA X es (upA K c ms)) : PE X (.Tuple es x1 pos) (up K c (mTup ms)) := pe_mono (pe_tup h) fun σ H Q ⟨F, env, O, k, R, hm, q⟩ => by
  refine ⟨F, env, O, _, R, hm, fun as xs H' kd g ps => ?_⟩
  split at kd
  · rename_i ds hd
    have R' := R.gx g
    have da := paired_data ps hd
    have hl := daAll_len da
    refine ⟨Evl.sz_of (by omega), fun p np => ?_⟩
    have pO : p ∉ O := fun z => by
      obtain ⟨o, eo⟩ := R'.dom p z
      rw [np] at eo
      cases eo
    have s : Same H' (upd H' p (.tup xs)) := Evl.Ex.new np
    exact q _ _ _ kd.2 (g.trans (R'.same s)) (.tup (SqT.of (by rw [offs_ne pO]; exact upd_same)) (daAll_same (R'.go (R'.same s)) da))
  · exact kd.elim
theorem de_lst {ms : MA} (h : PA X es (upA K c ms)) : PE X (.List es pos) (upL K c (mLst ms)) := pe_mono (pe_lst h) fun σ H Q ⟨F, env, O, k, R, hm, q⟩ => by
  refine ⟨F, env, O, _, R, hm, fun as xs H' kd g ps => ?_⟩
  split at kd
  · rename_i ds hd
    have R' := R.gx g
    have da := paired_data ps hd
    have hl := daAll_len da
    refine ⟨Evl.sz_of (by omega), fun p np => ?_⟩
    have s : Same H' (upd H' p (.lst xs)) := Evl.Ex.new np
    have nH : H p = Option.none := by
      cases e : H p with
      | none => rfl
      | some o =>
        by_cases hb : p ∈ c.b
        · obtain ⟨o, eo⟩ := R'.dom p (R.bO p hb)
          rw [np] at eo
          cases eo
        · rw [g.kp p o hb e] at np
          cases np
    have nsys : p ≠ sysModules := fun z => by
      obtain ⟨φ, e⟩ := R'.sys
      rw [z, e] at np
      cases np
    exact q _ p xs ds _ kd.2 rfl (g.trans (R'.same s)) nH upd_same nsys (daAll_same (offs_new np s) da)
  · exact kd.elim
/-! ### calls -/
/-- a builtin, a type -/
def CallD (K : PySem.W.Frag) (r : List V → Hp → VK → Prop) (f : List PyData → (PyData → Prop) → Prop) : Prop := ∀ O H xs ds k (Q : VK), (∀ a ∈ O, ∃ o, H a = some o) → Sys H → Paired (Nq K O H) xs ds → f ds k →
  (∀ z v H', k z → Same H H' → Da K (offs O H') v z → Q v H') → r xs H Q
/-- .. that lays a new list -/
def CallL (K : PySem.W.Frag) (r : List V → Hp → VK → Prop) (f : List PyData → (PyData → Prop) → Prop) : Prop := ∀ O H xs ds k (Q : VK), (∀ a ∈ O, ∃ o, H a = some o) → Sys H → Paired (Nq K O H) xs ds → f ds k →
  (∀ z es p ys H', k z → z = .list es → Same H H' → H p = Option.none → H' p = some (.lst ys) → DaAll K (offs (p :: O) H') ys es → Q (.ref p) H') → r xs H Q
def mB (f : List PyData → (PyData → Prop) → Prop) (ms : MA) : ME := fun env k => ms env fun as => match dataOf as with
  | some ds => f ds k
  | Option.none => False
theorem paired_nq {O : List Addr} {H : Hp} : ∀ {xs : List V} {as : List DV} {ds : List PyData}, Paired (ArgN K c O H) xs as → dataOf as = some ds → Paired (Nq K O H) xs ds
  | _, _, _, .nil, e => by
    cases e
    exact .nil
  | _, _, _, .cons (b := dv) r t, e => by
    cases dv with
    | v d =>
      unfold dataOf at e
      obtain ⟨ds', e1, e2⟩ := Option.map_eq_some_iff.mp e
      subst e2
      exact .cons (Nr.nq r) (paired_nq t e1)
    | _ => cases e
theorem up_cb {r : List V → Hp → VK → Prop} {f : List PyData → (PyData → Prop) → Prop} {ms : MA} (hf : CallD K r f) (σ : L2.St) (H : Hp) (Q : VK) (h : up K c (mB f ms) σ H Q) : tCB r (upAN K c ms) σ H Q := by
  obtain ⟨F, env, O, k, R, hm, q⟩ := h
  refine ⟨F, env, O, _, R, hm, fun as xs H' kd g ps => ?_⟩
  split at kd
  · rename_i ds hd
    have R' := R.gx g
    exact hf O H' xs ds k Q R'.dom R'.sys (paired_nq ps hd) kd fun z v H2 kz s da => q z v H2 kz (g.trans (R'.same s)) da
  · exact kd.elim
theorem up_cbl {r : List V → Hp → VK → Prop} {f : List PyData → (PyData → Prop) → Prop} {ms : MA} (hf : CallL K r f) (σ : L2.St) (H : Hp) (Q : VK) (h : upL K c (mB f ms) σ H Q) : tCB r (upAN K c ms) σ H Q := by
  obtain ⟨F, env, O, k, R, hm, q⟩ := h
  refine ⟨F, env, O, _, R, hm, fun as xs H' kd g ps => ?_⟩
  split at kd
  · rename_i ds hd
    have R' := R.gx g
    refine hf O H' xs ds k Q R'.dom R'.sys (paired_nq ps hd) kd fun z es p ys H2 kz ez s np ep da => ?_
    have nH : H p = Option.none := by
      cases e : H p with
      | none => rfl
      | some o =>
        by_cases hb : p ∈ c.b
        · obtain ⟨o, eo⟩ := R'.dom p (R.bO p hb)
          rw [np] at eo
          cases eo
        · rw [g.kp p o hb e] at np
          cases np
    have nsys : p ≠ sysModules := fun z => by
      obtain ⟨φ, e⟩ := R'.sys
      rw [z, e] at np
      cases np
    exact q z p ys es H2 kz ez (g.trans (R'.same s)) nH ep nsys da
  · exact kd.elim
end
end Du

/-! Readings on data: statements, targets, loops, comprehensions, defs. -/
namespace Du
open PySem PySem.Spec PyProof.Rows L2 On
section
variable {K : PySem.W.Frag} {c : Bs} {X : Cx} {e : Expr} {pos : Pos} {st : Stmt} {rest : List Stmt}
/-! ### blocks -/
def dNext : MS := fun env D => D.nx env
def dSeq (a b : MS) : MS := fun env D => a env { D with nx := fun env' => b env' D }
def dRet (m : ME) : MS := fun env D => m env D.rt
def dRetN : MS := fun _ D => D.rt .none
def dIf (t : MT) (a b : MS) : MS := fun env D => t env fun x => match x with
  | true => a env D
  | false => b env D
def dDrop (m : ME) : MS := fun env D => m env fun _ => D.nx env
def dBrk : MS := fun env D => D.bk env
def dCnt : MS := fun env D => D.ct env
theorem dss_nil : PSs X [] (upS K c dNext) := pss_mono pss_nil fun D σ H ⟨F, env, O, DD, R, hb, h1, h2, h3, h4⟩ => h1 env O σ H hb R
theorem dss_cons {a b : MS} (h : PS X st (upS K c a)) (h' : PSs X rest (upS K c b)) : PSs X (st :: rest) (upS K c (dSeq a b)) := pss_mono (pss_cons h h') fun D σ H ⟨F, env, O, DD, R, hb, h1, h2, h3, h4⟩ =>
  ⟨F, env, O, _, R, hb, fun env' O' σ' H' n R' => ⟨F, env', O', DD, R', n, h1, h2, h3, h4⟩, h2, h3, h4⟩
theorem dss_one {a : MS} (h : PS X st (upS K c a)) : PSs X [st] (upS K c a) := pss_one h
theorem ds_pass : PS X (.Pass pos) (upS K c dNext) := ps_mono ps_pass fun D σ H ⟨F, env, O, DD, R, hb, h1, h2, h3, h4⟩ => h1 env O σ H hb R
theorem ds_break : PS X (.Break pos) (upS K c dBrk) := ps_mono ps_break fun D σ H ⟨F, env, O, DD, R, hb, h1, h2, h3, h4⟩ => h2 env O σ H hb R
theorem ds_cont : PS X (.Continue pos) (upS K c dCnt) := ps_mono ps_continue fun D σ H ⟨F, env, O, DD, R, hb, h1, h2, h3, h4⟩ => h3 env O σ H hb R
theorem retR {F : Hp} {env : List DV} {O : List Addr} {σ : L2.St} {H H' : Hp} {x : V} {d : PyData} (R : Rel K c F env O σ H) (g : Gx c H H') (h : Nr K c O H' x d) : RetR K c x d H' where
  but := (R.gx g).but
  bg := g.bg
  da := by
    rcases h with h | ⟨a, xs, ds, rfl, rfl, h3, h4, h6, h7⟩
    · exact da_same (offs_less fun a z => R.sub a z) h
    · exact .lst (by rw [offs_ne (R.n0 h4).1]; exact h6) h3 (daAll_same (offs_less fun a z => R.sub a z) h7)
theorem ds_ret {m : ME} (h : PE X e (upN K c m)) : PS X (.Return (some e) pos) (upS K c (dRet m)) := ps_mono (ps_ret h) fun D σ H ⟨F, env, O, DD, R, hb, h1, h2, h3, h4⟩ =>
  ⟨F, env, O, _, R, hb, fun d x H' kd g n => h4 d x H' kd (retR R g n)⟩
theorem ds_retN : PS X (.Return Option.none pos) (upS K c dRetN) := ps_mono ps_retN fun D σ H ⟨F, env, O, DD, R, hb, h1, h2, h3, h4⟩ => h4 .none _ H hb (retR R R.refl (.inl .non))
theorem ds_if {cn : Expr} {a b : List Stmt} {t : MT} {u v : MS} (hc : PT X cn (upT K c t)) (ha : PSs X a (upS K c u)) (hb : PSs X b (upS K c v)) : PS X (.If cn a b pos) (upS K c (dIf t u v)) := ps_mono (ps_if hc ha hb) fun D σ H ⟨F, env, O, DD, R, hb, h1, h2, h3, h4⟩ => by
  refine ⟨F, env, O, _, R, hb, fun b H' kb g => ?_⟩
  cases b with
  | true => exact ⟨F, env, O, DD, R.gx g, kb, h1, h2, h3, h4⟩
  | false => exact ⟨F, env, O, DD, R.gx g, kb, h1, h2, h3, h4⟩
theorem ds_expr {m : ME} (h : PE X e (upN K c m)) (hs : swapsWith e Option.none pos.line X.env = pure false := by rfl) : PS X (.Expr e pos) (upS K c (dDrop m)) := ps_mono (ps_expr h hs) fun D σ H ⟨F, env, O, DD, R, hb, h1, h2, h3, h4⟩ =>
  ⟨F, env, O, _, R, hb, fun d x H' kd g n => h1 env O σ H' kd (R.gx g)⟩
/-! ### targets, stores -/
def gNm (i : Nat) : MG := fun d env k => k (env.set i (.v d))
def gsNil : MGs := fun ds env k => match ds with
  | [] => k env
  | _ :: _ => False
def gsCons (g : MG) (gs : MGs) : MGs := fun ds env k => match ds with
  | [] => False
  | d :: r => g d env fun env' => gs r env' k
def gTp (n : Nat) (gs : MGs) : MG := fun d env k => match d with
  | .tuple ds => ds.length = n ∧ gs ds env k
  | _ => False
theorem set_frame {σ : L2.St} {i : Nat} {v : Option V} : (∀ j : Nat, j ∉ [i] → (σ.set i v)[j]? = σ[j]?) := fun j h => by
  rw [List.getElem?_set_ne (fun z => h (by rw [z]; simp))]
theorem dg_name {i : Nat} {tg : Expr} (h : PG X tg (gName i)) : PG X tg (upG K c [i] (gNm i)) := pg_mono h fun x σ H Q ⟨F, env, O, d, k, R, da, hg, q⟩ => q _ _ hg (R.set i da) set_frame (by rw [List.length_set])
theorem dgs_nil : PGs X [] (upGs K c [] gsNil) := pgs_mono pgs_nil fun xs σ H Q ⟨F, env, O, ds, k, R, da, hg, q⟩ => by
  unfold gsNil at hg
  split at hg
  · cases da
    exact ⟨rfl, q _ _ hg R (fun _ _ => rfl) rfl⟩
  · exact hg.elim
theorem dgs_cons {tg : Expr} {ts : List Expr} {s1 s2 : List Nat} {g : MG} {gs : MGs} (h1 : PG X tg (upG K c s1 g)) (h2 : PGs X ts (upGs K c s2 gs)) (hs : (assignEach (tg :: ts) X.env).map (·.2) = assign tg X.env :: (assignEach ts X.env).map (·.2) := by rfl) :
    PGs X (tg :: ts) (upGs K c (s1 ++ s2) (gsCons g gs)) := pgs_mono (pgs_cons h1 h2 hs) fun xs σ H Q ⟨F, env, O, ds, k, R, da, hg, q⟩ => by
  unfold gsCons at hg
  split at hg
  · exact hg.elim
  · cases da with
    | cons d1 d2 =>
      refine ⟨_, _, rfl, F, env, O, _, _, R, d1, hg, fun env' σ' k' R' f l => ⟨F, env', O, _, k, R', d2, k', fun env2 σ2 k2 R2 f2 l2 => q env2 σ2 k2 R2 (fun j hj => ?_) (l2.trans l)⟩⟩
      rw [f2 j fun z => hj (List.mem_append_right _ z), f j fun z => hj (List.mem_append_left _ z)]
theorem dg_tup {es : List Expr} {kk : Nat} {ss : List Nat} {gs : MGs} {n : Nat} (hc : X.calm = true) (hK : X.K = K) (h : PGs X es (upGs K c ss gs)) (hn : (assignEach es X.env).length = n := by rfl) (hst : (assignEach es X.env).findIdx? (·.1) = Option.none := by rfl) :
    PG X (.Tuple es kk pos) (upG K c ss (gTp n gs)) := by
  subst hK
  refine pg_mono (pg_tup hc h hn hst) fun x σ H Q ⟨F, env, O, d, k, R, da, hg, q⟩ => ?_
  unfold gTp at hg
  split at hg
  · obtain ⟨a, xs, rfl, h1, h2⟩ := da_tup da
    exact ⟨a, xs, rfl, Evl.ex_t offs_sub h1, (daAll_len h2).trans hg.1, F, env, O, _, k, R, h2, hg.2, q⟩
  · exact hg.elim
/-- target = e -/
def dAsg (m : ME) (g : MG) : MS := fun env D => m env fun d => g d env D.nx
theorem ds_set {i : Nat} {x : Str} {m : ME} {pos' : Pos} (hN : X.N.Nodup) (hi : X.N[i]? = some x) (hx : Loc X.env.scope x) (he : PE X e (up K c m)) (hs : swapsWith e (some (.Name x pos')) pos.line X.env = pure false := by rfl) (hf : X.fn x = true ∨ X.env.scope.names.lookup x = some .local := by first | exact .inl rfl | exact .inr rfl | assumption) :
    PS X (.Assign [.Name x pos'] e pos) (upS K c (dAsg m (gNm i))) := ps_mono (ps_set hN hi hx he hs hf) fun D σ H ⟨F, env, O, DD, R, hb, h1, h2, h3, h4⟩ => ⟨F, env, O, _, R, hb, fun d x H' kd g da => h1 _ O _ H' kd ((R.gx g).set i da)⟩
theorem ds_asg {tg : Expr} {m : ME} {ss : List Nat} {g : MG} (he : PE X e (up K c m)) (hg : PG X tg (upG K c ss g)) (hs : swapsWithSole [tg] e pos.line X.env = pure false := by rfl) (hw : swappedStores [tg] e X.env = pure Option.none := by rfl)
    (h1 : (assignEach [tg] X.env).map (·.2) = [assign tg X.env] := by rfl) : PS X (.Assign [tg] e pos) (upS K c (dAsg m g)) := ps_mono (ps_asg he hg hs hw h1) fun D σ H ⟨F, env, O, DD, R, hb, h1, h2, h3, h4⟩ =>
  ⟨F, env, O, _, R, hb, fun d x H' kd gx da => ⟨F, env, O, d, _, R.gx gx, da, kd, fun env' σ' k' R' _ _ => h1 env' O σ' H' k' R'⟩⟩
/-- name = a new list that is its own -/
def dAsgL (i : Nat) (m : ME) : MS := fun env D => m env fun d => match d with
  | .list ds => D.nx (env.set i (.own ds))
  | _ => False
theorem asgL {i : Nat} {m : ME} (D : Ends) (σ : L2.St) (H : Hp) (h : upS K c (dAsgL i m) D σ H) : tAsg (upL K c m) (gName i) D σ H := by
  obtain ⟨F, env, O, DD, R, hb, h1, h2, h3, h4⟩ := h
  refine ⟨F, env, O, _, R, hb, fun d p ys ds H' kd ed g n ep hp da => ?_⟩
  subst ed
  exact h1 _ _ _ H' kd (R.setL i g n ep hp da)
theorem ds_setL {i : Nat} {x : Str} {m : ME} {pos' : Pos} (hN : X.N.Nodup) (hi : X.N[i]? = some x) (hx : Loc X.env.scope x) (he : PE X e (upL K c m)) (hs : swapsWith e (some (.Name x pos')) pos.line X.env = pure false := by rfl) (hf : X.fn x = true ∨ X.env.scope.names.lookup x = some .local := by first | exact .inl rfl | exact .inr rfl | assumption) :
    PS X (.Assign [.Name x pos'] e pos) (upS K c (dAsgL i m)) := ps_mono (ps_set hN hi hx he hs hf) asgL
/-- a, b = x, y -/
def dPar (i j : Nat) (ms : MA) : MS := fun env D => ms env fun as => match as with
  | [.v d, .v e] => D.nx ((env.set i (.v d)).set j (.v e))
  | _ => False
theorem ds_par {i j : Nat} {x y : Str} {a b : Expr} {ms : MA} {px py pt : Pos} {kt k2 pt2} (hc : X.calm = true) (hN : X.N.Nodup) (hi : X.N[i]? = some x) (hj : X.N[j]? = some y) (hij : i ≠ j)
    (hx : X.env.scope.names.lookup x = some .local) (hy : X.env.scope.names.lookup y = some .local) (ha : PA X [a, b] (upA K c ms))
    (hw : swappedStores [.Tuple [.Name x px, .Name y py] kt pt] (.Tuple [a, b] k2 pt2) X.env = pure (some [x, y]))
    (hs : swapsWithSole [.Tuple [.Name x px, .Name y py] kt pt] (.Tuple [a, b] k2 pt2) pos.line X.env = pure false := by rfl) :
    PS X (.Assign [.Tuple [.Name x px, .Name y py] kt pt] (.Tuple [a, b] k2 pt2) pos) (upS K c (dPar i j ms)) := ps_mono (ps_par hc hN hi hj hij hx hy ha hw hs) fun D σ H ⟨F, env, O, DD, R, hb, h1, h2, h3, h4⟩ => by
  refine ⟨F, env, O, _, R, hb, fun as xs H' kd g ps => ?_⟩
  split at kd
  · match ps with
    | .cons (a := u) r1 (.cons (a := w) r2 .nil) => exact ⟨u, w, rfl, h1 _ O _ H' kd (((R.gx g).set i r1).set j r2)⟩
  · exact kd.elim
/-- name op= e, intsD -/
def dAug (i : Nat) (f : Int → Int → Int) (m : ME) : MS := fun env D => match env[i]? with
  | some (.v (.int a)) => m env fun d => match d with
    | .int b => D.nx (env.set i (.v (.int (f a b))))
    | _ => False
  | _ => False
theorem ds_aug {i : Nat} {x : Str} {m : ME} {op : Operator} {f : Int → Int → Int} {pos' : Pos} (hN : X.N.Nodup) (hi : X.N[i]? = some x) (hx : Loc X.env.scope x) (he : PE X e (up K c m)) (ho : PIp X op (ipI f)) (hf : X.fn x = true ∨ X.env.scope.names.lookup x = some .local := by first | exact .inl rfl | exact .inr rfl | assumption) :
    PS X (.AugAssign (.Name x pos') op e pos) (upS K c (dAug i f m)) := ps_mono (ps_aug hN hi hx he ho hf) fun D σ H ⟨F, env, O, DD, R, hb, h1, h2, h3, h4⟩ => by
  unfold dAug at hb
  split at hb
  · rename_i a hd
    obtain ⟨x, e1, da⟩ := R.sl i _ hd
    cases da
    refine ⟨_, e1, F, env, O, _, R, hb, fun d x H' kd g da => ?_⟩
    split at kd
    · cases da
      exact ⟨_, _, rfl, rfl, h1 _ O _ H' kd ((R.gx g).set i (.int _))⟩
    · exact kd.elim
  · exact hb.elim
/-! ### methods of lists of one's own -/
/-- x.append(e) -/
def dApp (i : Nat) (m : ME) : MS := fun env D => match env[i]? with
  | some (.own ds) => ds.length < 100000 ∧ m env fun d => D.nx (env.set i (.own (ds ++ [d])))
  | _ => False
theorem app_st {i : Nat} {m : ME} (D : Ends) (σ : L2.St) (H : Hp) (h : upS K c (dApp i m) D σ H) : tDrop (tBM K "list" rAppend (tVar i) (tCons (up K c m) tNil)) D σ H := by
  obtain ⟨F, env, O, DD, R, hb, h1, h2, h3, h4⟩ := h
  unfold dApp at hb
  split at hb
  · rename_i ds hd
    obtain ⟨a, xs, e1, q2, q3, q5, q6, q7⟩ := R.sl i _ hd
    refine ⟨_, e1, .inl ⟨rfl, xs, SqL.of q6⟩, F, env, O, _, R, hb.2, fun d x H' kd g da => ?_⟩
    have hl := daAll_len q7
    refine ⟨a, xs, x, rfl, rfl, g.kp _ _ (R.n0 q3).2 q6, Evl.sz_lt (by omega), ?_⟩
    have R' := R.gx g
    exact h1 _ O _ _ kd (R'.mut hd e1 (daAll_app (daAll_same (R.go g) q7) (.cons da .nil)))
  · exact hb.elim
theorem ds_app {i : Nat} {m : ME} (h : PS X st (tDrop (tBM K "list" rAppend (tVar i) (tCons (up K c m) tNil)))) : PS X st (upS K c (dApp i m)) := ps_mono h app_st
/-- x.extend(e), e another list -/
def dExt (i : Nat) (m : ME) : MS := fun env D => match env[i]? with
  | some (.own ds) => m env fun d => match d with
    | .list es => ds.length + es.length ≤ 100000 ∧ D.nx (env.set i (.own (ds ++ es)))
    | _ => False
  | _ => False
theorem ext_st {i : Nat} {m : ME} (D : Ends) (σ : L2.St) (H : Hp) (h : upS K c (dExt i m) D σ H) : tDrop (tBM K "list" rExtend (tVar i) (tCons (up K c m) tNil)) D σ H := by
  obtain ⟨F, env, O, DD, R, hb, h1, h2, h3, h4⟩ := h
  unfold dExt at hb
  split at hb
  · rename_i ds hd
    obtain ⟨a, xs, e1, q2, q3, q5, q6, q7⟩ := R.sl i _ hd
    refine ⟨_, e1, .inl ⟨rfl, xs, SqL.of q6⟩, F, env, O, _, R, hb, fun d x H' kd g da => ?_⟩
    split at kd
    · rename_i es
      obtain ⟨p, zs, rfl, f1, f2, f3⟩ := da_lst da
      have hl := daAll_len q7
      have hl2 := daAll_len f3
      have R' := R.gx g
      exact ⟨a, p, xs, zs, rfl, rfl, g.kp _ _ (R.n0 q3).2 q6, (offs_some f1).2, Evl.sz_of (by omega), h1 _ O _ _ kd.2 (R'.mut hd e1 (daAll_app (daAll_same (R.go g) q7) f3))⟩
    · exact kd.elim
  · exact hb.elim
theorem ds_ext {i : Nat} {m : ME} (h : PS X st (tDrop (tBM K "list" rExtend (tVar i) (tCons (up K c m) tNil)))) : PS X st (upS K c (dExt i m)) := ps_mono h ext_st
/-- x.insert(i, e) -/
def dIns (i : Nat) (m n : ME) : MS := fun env D => match env[i]? with
  | some (.own ds) => ds.length < 100000 ∧ m env fun d => match d with
    | .int j => (0 ≤ j ∧ j < 1000000) ∧ n env fun d => D.nx (env.set i (.own (ds.take j.toNat ++ [d] ++ ds.drop j.toNat)))
    | _ => False
  | _ => False
theorem ds_ins {i : Nat} {m n : ME} (h : PS X st (tDrop (tBM K "list" (fun x vs H Q => ∃ (l : Addr) (xs : List V) (i : Int) (y : V), x = .ref l ∧ vs = [.int i, y] ∧ H l = some (.lst xs) ∧ xs.length < sizeLine ∧ 0 ≤ i ∧ i < 2 ^ 63 ∧
    Q .non (upd H l (.lst (xs.take i.toNat ++ [y] ++ xs.drop i.toNat)))) (tVar i) (tCons (up K c m) (tCons (up K c n) tNil))))) : PS X st (upS K c (dIns i m n)) := ps_mono h fun D σ H h => by
  obtain ⟨F, env, O, DD, R, hb, h1, h2, h3, h4⟩ := h
  unfold dIns at hb
  split at hb
  · rename_i ds hd
    obtain ⟨a, xs, e1, q2, q3, q5, q6, q7⟩ := R.sl i _ hd
    refine ⟨_, e1, .inl ⟨rfl, xs, SqL.of q6⟩, F, env, O, _, R, hb.2, fun d x H1 kd g1 da => ?_⟩
    split at kd
    · cases da
      have R1 := R.gx g1
      refine ⟨F, env, O, _, R1, kd.2, fun d2 y H2 kd2 g2 da2 => ?_⟩
      have g := g1.trans g2
      have R2 := R1.gx g2
      have hl := daAll_len q7
      have q7' := daAll_same (R.go g) q7
      exact ⟨a, xs, _, y, rfl, rfl, g.kp _ _ (R.n0 q3).2 q6, Evl.sz_lt (by omega), kd.1.1, by omega, h1 _ O _ _ kd2 (R2.mut hd e1 (daAll_app (daAll_app (daAll_take _ q7') (.cons da2 .nil)) (daAll_drop _ q7')))⟩
    · exact kd.elim
  · exact hb.elim
/-- x.pop(i), dropped -/
def dPopAt (i : Nat) (m : ME) : MS := fun env D => match env[i]? with
  | some (.own ds) => m env fun d => match d with
    | .int j => (0 ≤ j ∧ j < ds.length ∧ ds.length ≤ 100000) ∧ D.nx (env.set i (.own (ds.eraseIdx j.toNat)))
    | _ => False
  | _ => False
theorem seqIx {n : Nat} {j : Int} (h : 0 ≤ j) (h2 : j < n) : seqIndex? j n = some j.toNat := by
  have e : ixN n j = some j.toNat := by
    unfold ixN
    rw [if_pos h, if_pos h2]
  exact (ixN_seq e).1
theorem ds_popAt {i : Nat} {m : ME} (h : PS X st (tDrop (tBM K "list" rPopAt (tVar i) (tCons (up K c m) tNil)))) : PS X st (upS K c (dPopAt i m)) := ps_mono h fun D σ H h => by
  obtain ⟨F, env, O, DD, R, hb, h1, h2, h3, h4⟩ := h
  unfold dPopAt at hb
  split at hb
  · rename_i ds hd
    obtain ⟨a, xs, e1, q2, q3, q5, q6, q7⟩ := R.sl i _ hd
    refine ⟨_, e1, .inl ⟨rfl, xs, SqL.of q6⟩, F, env, O, _, R, hb, fun d x H1 kd g1 da => ?_⟩
    split at kd
    · cases da
      rename_i j
      have R1 := R.gx g1
      have hl := daAll_len q7
      obtain ⟨⟨k1, k2, k3⟩, k4⟩ := kd
      have lt : j.toNat < xs.length := by omega
      exact ⟨a, xs, j, j.toNat, xs[j.toNat], rfl, rfl, g1.kp _ _ (R.n0 q3).2 q6, by omega, by omega, seqIx k1 (by omega), List.getElem?_eq_getElem lt, h1 _ O _ _ k4 (R1.mut hd e1 (daAll_erase _ (daAll_same (R.go g1) q7)))⟩
    · exact kd.elim
  · exact hb.elim
/-- x[i] = e -/
def dSetIx (i : Nat) (n m : ME) : MS := fun env D => m env fun d => match env[i]? with
  | some (.own ds) => n env fun z => match z with
    | .int j => (0 ≤ j ∧ j < ds.length) ∧ D.nx (env.set i (.own (ds.set j.toNat d)))
    | _ => False
  | _ => False
theorem ds_setIx {i : Nat} {n m : ME} (h : PS X st (tAsg (up K c m) (gSub (tVar i) (up K c n) rSetL))) : PS X st (upS K c (dSetIx i n m)) := ps_mono h fun D σ H h => by
  obtain ⟨F, env, O, DD, R, hb, h1, h2, h3, h4⟩ := h
  refine ⟨F, env, O, _, R, hb, fun d x H1 kd g1 da => ?_⟩
  have R1 := R.gx g1
  split at kd
  · rename_i ds hd
    obtain ⟨a, xs, e1, q2, q3, q5, q6, q7⟩ := R1.sl i _ hd
    refine ⟨_, e1, F, env, O, _, R1, kd, fun z y H2 kz g2 da2 => ?_⟩
    split at kz
    · cases da2
      rename_i j
      have R2 := R1.gx g2
      have hl := daAll_len q7
      obtain ⟨⟨k1, k2⟩, k4⟩ := kz
      refine ⟨a, xs, j, j.toNat, rfl, rfl, g2.kp _ _ (R1.n0 q3).2 q6, ?_, h1 _ O _ _ k4 (R2.mut hd e1 (daAll_set _ (daAll_same (R1.go g2) q7) (da_same (R1.go g2) da)))⟩
      unfold ixN
      rw [if_pos k1, if_pos (by omega)]
    · exact kz.elim
  · exact kd.elim
/-! ### loops -/
/-- the turns of a loop, one after the other -/
def dLoop (g : MG) (B : MS) (D : DE) : List PyData → List DV → Prop
  | [], env => D.nx env
  | d :: ds, env => g d env fun e1 => B e1 { nx := dLoop g B D ds, rt := D.rt, bk := D.nx, ct := dLoop g B D ds }
/-- .. by a word W of the turn and of what is known -/
def dLoopI (g : MG) (B : MS) (D : DE) (ds : List PyData) (env : List DV) : Prop := ∃ W : Nat → List DV → Prop, W 0 env ∧
  (∀ (i : Nat) d e, ds[i]? = some d → W i e → g d e fun e1 => B e1 { nx := W (i + 1), rt := D.rt, bk := D.nx, ct := W (i + 1) }) ∧ ∀ e, W ds.length e → D.nx e
theorem loopI_of {g : MG} {B : MS} {D : DE} {ds : List PyData} {env : List DV} (h : dLoop g B D ds env) : dLoopI g B D ds env := by
  refine ⟨fun i e => dLoop g B D (ds.drop i) e, h, fun i d e hd k => ?_, fun e k => ?_⟩
  · have lt := (List.getElem?_eq_some_iff.mp hd).1
    have ed : ds[i] = d := (List.getElem?_eq_some_iff.mp hd).2
    have k' : dLoop g B D (ds.drop i) e := k
    rw [List.drop_eq_getElem_cons lt, ed] at k'
    exact k'
  · have k' : dLoop g B D (ds.drop ds.length) e := k
    rw [List.drop_length] at k'
    exact k'
def dFor (mi : MI) (g : MG) (B : MS) : MS := fun env D => mi env fun ds => dLoopI g B D ds env
theorem ds_for {tg iter : Expr} {body : List Stmt} {mi : MI} {ss : List Nat} {g : MG} {B : MS} (hp : PassesOwn (model X.prog X.w) X.A X.env X.xe) (hc : X.calm = true) (hi : PI X tg iter (upI K c mi)) (hg : PG X tg (upG K c ss g)) (hb : PSs X body (upS K c B))
    (hs : ∀ x, foldedSetIterable iter X.env x = pure x := by intro _; rfl) : PS X (.For tg iter body [] pos) (upS K c (dFor mi g B)) := ps_mono (ps_for hp hc hi hg hb hs) fun D σ H ⟨F, env, O, DD, R, hm, h1, h2, h3, h4⟩ => by
  refine ⟨F, env, O, _, R, hm, fun ds J H1 kd gx W => ?_⟩
  have R1 := R.gx gx
  obtain ⟨V, v0, vs, vd⟩ := kd
  refine ⟨fun i m σ' H' => m = ds.length - i ∧ i ≤ ds.length ∧ ∃ env' O', Rel K c (offs O H1) env' O' σ' H' ∧ V i env', ⟨_, rfl, Nat.zero_le _, env, O, R1.fzn, v0⟩, ?_⟩
  rintro i m σ' H' ⟨rfl, hi', env', O', R', k'⟩
  obtain ⟨w1, w2⟩ := W O' H' R'.dom R'.fz
  by_cases lt : i < ds.length
  · obtain ⟨go, yl⟩ := w1 i ds[i] (List.getElem?_eq_getElem lt)
    refine .inr ⟨go, fun σ2 H2 => ∃ env2 O2, Rel K c (offs O H1) env2 O2 σ2 H2 ∧ V (i + 1) env2, fun σ2 H2 ⟨env2, O2, R2, k2⟩ => ⟨_, by omega, rfl, lt, env2, O2, R2, k2⟩, fun x H2 y => ?_⟩
    obtain ⟨s, da⟩ := yl x H2 y
    have R2 := R'.gx (R'.same s)
    refine ⟨_, env', O', _, _, R2, da, vs i _ env' (List.getElem?_eq_getElem lt) k', fun env3 σ3 k3 R3 _ _ => ⟨_, env3, O', _, R3, k3, fun env4 O4 σ4 H4 n R4 => ⟨env4, O4, R4, n⟩, fun env4 O4 σ4 H4 n R4 => h1 env4 O4 σ4 H4 n (R4.fzm R1.fz), fun env4 O4 σ4 H4 n R4 => ⟨env4, O4, R4, n⟩, h4⟩⟩
  · have z : i = ds.length := by omega
    subst z
    exact .inl ⟨w2, h1 env' O' σ' H' (vd env' k') (R'.fzm R1.fz)⟩
/-- while, by a word and a measure of what is known -/
def dWhile (t : MT) (B : MS) : MS := fun env D => ∃ W : Nat → List DV → Prop, (∃ m, W m env) ∧ ∀ m env, W m env → t env fun b => match b with
  | true => B env { nx := fun e => ∃ m', m' < m ∧ W m' e, rt := D.rt, bk := D.nx, ct := fun e => ∃ m', m' < m ∧ W m' e }
  | false => D.nx env
theorem ds_while {cn : Expr} {body : List Stmt} {t : MT} {B : MS} (hp : PassesOwn (model X.prog X.w) X.A X.env X.xe) (hc : PT X cn (upT K c t)) (hb : PSs X body (upS K c B)) : PS X (.While cn body [] pos) (upS K c (dWhile t B)) := ps_mono (ps_while hp hc hb) fun D σ H ⟨F, env, O, DD, R, hm, h1, h2, h3, h4⟩ => by
  obtain ⟨W, ⟨m0, w0⟩, turn⟩ := hm
  refine ⟨fun m σ' H' => ∃ env' O', Rel K c F env' O' σ' H' ∧ W m env', ⟨m0, env, O, R, w0⟩, ?_⟩
  rintro m σ' H' ⟨env', O', R', w⟩
  refine ⟨F, env', O', _, R', turn m env' w, fun b H2 kb g => ?_⟩
  have R2 := R'.gx g
  cases b with
  | true =>
    show ∃ N : L2.St → Hp → Prop, _ ∧ upS K c B _ σ' H2
    refine ⟨fun σ3 H3 => ∃ env3 O3, Rel K c F env3 O3 σ3 H3 ∧ ∃ m', m' < m ∧ W m' env3, fun σ3 H3 ⟨env3, O3, R3, m', lt, w3⟩ => ⟨m', lt, env3, O3, R3, w3⟩, F, env', O', _, R2, kb, fun env3 O3 σ3 H3 n R3 => ⟨env3, O3, R3, n⟩, h1, fun env3 O3 σ3 H3 n R3 => ⟨env3, O3, R3, n⟩, h4⟩
  | false =>
    show D.nx σ' H2
    exact h1 env' O' σ' H2 kb R2
/-! ### what a loop goes over -/
def miOf (m : ME) : MI := fun env k => m env fun d => match d with
  | .list ds => k ds
  | .tuple ds => k ds
  | _ => False
theorem walk_list {O : List Addr} {H : Hp} {a : Addr} {xs : List V} {ds : List PyData} (h : offs O H a = some (.lst xs)) (da : DaAll K (offs O H) xs ds) : Walk K O H (Itl K a) ds := fun O2 H2 _ s => by
  have e := (offs_some (s _ _ h)).2
  have da2 := daAll_same s da
  refine ⟨fun i d hd => ?_, xs, SqL.of e, Nat.le_of_eq (daAll_len da)⟩
  obtain ⟨v, hv, dv⟩ := daAll_at da2 hd
  exact ⟨⟨xs, v, SqL.of e, hv⟩, fun x H3 ⟨e3, y⟩ => by
    subst e3
    have z := y xs (SqL.of e)
    rw [hv] at z
    cases z
    exact ⟨Same.refl _, dv⟩⟩
theorem walk_tup {O : List Addr} {H : Hp} {a : Addr} {xs : List V} {ds : List PyData} (h : SqT K (offs O H) a xs) (da : DaAll K (offs O H) xs ds) : Walk K O H (Itt K a) ds := fun O2 H2 _ s => by
  have e : SqT K H2 a xs := Evl.ex_t offs_sub (Evl.ex_t s h)
  have da2 := daAll_same s da
  refine ⟨fun i d hd => ?_, xs, e, Nat.le_of_eq (daAll_len da)⟩
  obtain ⟨v, hv, dv⟩ := daAll_at da2 hd
  exact ⟨⟨xs, v, e, hv⟩, fun x H3 ⟨e3, y⟩ => by
    subst e3
    have z := y xs e
    rw [hv] at z
    cases z
    exact ⟨Same.refl _, dv⟩⟩
def miL (m : ME) : MI := fun env k => m env fun d => match d with
  | .list ds => k ds
  | _ => False
def miT (m : ME) : MI := fun env k => m env fun d => match d with
  | .tuple ds => k ds
  | _ => False
theorem di_list {tg l : Expr} {m : ME} (hK : X.K = K) (h : PE X l (up K c m)) : PI X tg l (upI K c (miL m)) := by
  subst hK
  refine pi_mono (pi_list h) fun σ H R ⟨F, env, O, k, RR, hm, q⟩ => ⟨F, env, O, _, RR, hm, fun d x H' kd g da => ?_⟩
  split at kd
  · obtain ⟨p, zs, rfl, f1, f2, f3⟩ := da_lst da
    exact ⟨p, rfl, ⟨zs, SqL.of (offs_some f1).2⟩, q _ _ H' kd g (walk_list f1 f3)⟩
  · exact kd.elim
theorem di_tup {tg l : Expr} {m : ME} (hK : X.K = K) (h : PE X l (up K c m)) : PI X tg l (upI K c (miT m)) := by
  subst hK
  refine pi_mono (pi_tup h) fun σ H R ⟨F, env, O, k, RR, hm, q⟩ => ⟨F, env, O, _, RR, hm, fun d x H' kd g da => ?_⟩
  split at kd
  · obtain ⟨p, zs, rfl, f1, f3⟩ := da_tup da
    exact ⟨p, rfl, ⟨zs, Evl.ex_t offs_sub f1⟩, q _ _ H' kd g (walk_tup f1 f3)⟩
  · exact kd.elim
def intsD (lo : Int) (n : Nat) : List PyData := (List.range n).map fun (i : Nat) => .int (lo + i)
theorem walk_rng {O : List Addr} {H : Hp} {lo : Int} {n : Nat} : Walk K O H (Itr lo n) (intsD lo n) := fun O2 H2 _ s => by
  have hl : (intsD lo n).length = n := by unfold intsD; rw [List.length_map, List.length_range]
  refine ⟨fun i d hd => ?_, by rw [hl]; exact Nat.le_refl n⟩
  have lt := (List.getElem?_eq_some_iff.mp hd).1
  rw [hl] at lt
  refine ⟨lt, fun x H3 ⟨e3, y⟩ => ?_⟩
  subst e3 y
  unfold intsD at hd
  rw [List.getElem?_map, List.getElem?_range lt] at hd
  cases hd
  exact ⟨Same.refl _, .int _⟩
def miR1 (ms : MA) : MI := fun env k => ms env fun as => match as with
  | [.v (.int j)] => (-1000000 ≤ j ∧ j ≤ 1000000) ∧ k (intsD 0 j.toNat)
  | _ => False
def miR2 (ms : MA) : MI := fun env k => ms env fun as => match as with
  | [.v (.int i), .v (.int j)] => (-1000000 ≤ i ∧ i ≤ 1000000 ∧ -1000000 ≤ j ∧ j ≤ 1000000) ∧ k (intsD i (j - i).toNat)
  | _ => False
theorem di_range1 {tg a : Expr} {ms : MA} {p pos : Pos} (hg : Gl X "range") (hm : X.mg "range" = Option.none) (ha : PA X [a] (upA K c ms)) (hs : starEach [a] X.env = [(false, eval a X.env)] := by rfl) : PI X tg (.Call (.Name "range" p) [a] [] pos) (upI K c (miR1 ms)) :=
  pi_mono (pi_range1 hg hm ha hs) fun σ H R ⟨F, env, O, k, RR, hm, q⟩ => ⟨F, env, O, _, RR, hm, fun as xs H' kd g ps => by
    split at kd
    · rename_i j
      cases ps with
      | cons r t =>
        cases t
        have r' : Da K (offs O H') _ (.int j) := r
        cases r'
        exact ⟨j, rfl, by omega, by omega, q _ _ H' kd.2 g walk_rng⟩
    · exact kd.elim⟩
theorem di_range2 {tg a b : Expr} {ms : MA} {p pos : Pos} (hg : Gl X "range") (hm : X.mg "range" = Option.none) (ha : PA X [a, b] (upA K c ms)) (hs : starEach [a, b] X.env = [(false, eval a X.env), (false, eval b X.env)] := by rfl) (hs2 : starEach [b] X.env = [(false, eval b X.env)] := by rfl) :
    PI X tg (.Call (.Name "range" p) [a, b] [] pos) (upI K c (miR2 ms)) := pi_mono (pi_range2 hg hm ha hs hs2) fun σ H R ⟨F, env, O, k, RR, hm, q⟩ => ⟨F, env, O, _, RR, hm, fun as xs H' kd g ps => by
    split at kd
    · rename_i i j
      cases ps with
      | cons r t =>
        cases t with
        | cons r2 t =>
          cases t
          have r' : Da K (offs O H') _ (.int i) := r
          have r2' : Da K (offs O H') _ (.int j) := r2
          cases r'
          cases r2'
          exact ⟨i, j, rfl, ⟨by omega, by omega, by omega, by omega⟩, q _ _ H' kd.2 g walk_rng⟩
    · exact kd.elim⟩
end
end Du

/-! Readings on data: comprehensions, calls, defs. -/
namespace Du
open PySem PySem.Spec PyProof.Rows L2 On
section
variable {K : PySem.W.Frag} {c : Bs} {X : Cx} {e : Expr} {pos : Pos} {st : Stmt} {rest : List Stmt}
/-! ### comprehensions -/
def wipeE (env : List DV) : List Nat → List DV
  | [] => env
  | v :: vs => (wipeE env vs).set v .un
section
variable {F : Hp} {env : List DV} {O : List Addr} {σ : L2.St} {H : Hp}
theorem Rel.un (R : Rel K c F env O σ H) (i : Nat) (x : Option V) : Rel K c F (env.set i .un) O (σ.set i x) H :=
  { R with
    sl := fun j e he => by
      by_cases hj : j = i
      · subst hj
        by_cases hl : j < env.length
        · rw [List.getElem?_set_self hl] at he
          cases he
          trivial
        · rw [List.getElem?_eq_none (by rw [List.length_set]; omega)] at he
          cases he
      · rw [List.getElem?_set_ne (Ne.symm hj)] at he ⊢
        exact R.sl j e he
    ap := fun j k ds es a hjk h1 h2 m1 m2 h3 => by
      by_cases hj : j = i
      · subst hj
        by_cases hl : j < env.length
        · rw [List.getElem?_set_self hl] at h1
          cases h1
          cases m1
        · rw [List.getElem?_eq_none (by rw [List.length_set]; omega)] at h1
          cases h1
      · by_cases hk : k = i
        · subst hk
          by_cases hl : k < env.length
          · rw [List.getElem?_set_self hl] at h2
            cases h2
            cases m2
          · rw [List.getElem?_eq_none (by rw [List.length_set]; omega)] at h2
            cases h2
        · rw [List.getElem?_set_ne (Ne.symm hj)] at h1 h3
          rw [List.getElem?_set_ne (Ne.symm hk)] at h2 ⊢
          exact R.ap j k ds es a hjk h1 h2 m1 m2 h3
    len := by rw [List.length_set, List.length_set, R.len] }
theorem Rel.wipe (R : Rel K c F env O σ H) : ∀ vs : List Nat, Rel K c F (wipeE env vs) O (L2.wipe σ vs) H
  | [] => R
  | v :: vs => (R.wipe vs).un v Option.none
/-- a thing that is made apart -/
theorem Rel.acc (R : Rel K c F env O σ H) {D : Addr} {o : HO} (n : H D = Option.none) : Rel K c F env (D :: O) σ (upd H D o) where
  dom := fun a h => by
    by_cases z : a = D
    · exact ⟨o, by rw [z, upd_same]⟩
    · rw [upd_ne z]
      exact R.dom a ((List.mem_cons.mp h).resolve_left z)
  sub := fun a h => List.mem_cons_of_mem _ (R.sub a h)
  ent := R.ent
  but := fun a u nb e => Evl.Ex.new n _ _ (R.but a u nb e)
  bg := fun a h => ⟨(R.bg a h).1, (R.bg a h).2.1.same (Evl.Ex.new n), fun z => by
    rcases List.mem_cons.mp z with z | z
    · obtain ⟨⟨_, _, _, cs, _, e2, _⟩, _⟩ := (R.bg a h).2.1
      rw [z, n] at e2
      cases e2
    · exact (R.bg a h).2.2 z⟩
  sys := by
    obtain ⟨φ, e⟩ := R.sys
    exact ⟨φ, Evl.Ex.new n _ _ e⟩
  nsys := fun z => by
    rcases List.mem_cons.mp z with z | z
    · obtain ⟨φ, e⟩ := R.sys
      rw [z, n] at e
      cases e
    · exact R.nsys z
  fz := R.fz.trans (offs_new n (Evl.Ex.new n))
  sl := fun j e he => by
    have k : Same (offs O H) (offs (D :: O) (upd H D o)) := offs_new n (Evl.Ex.new n)
    have q := R.sl j e he
    cases e with
    | un => trivial
    | v d =>
      obtain ⟨x, h1, h2⟩ := q
      exact ⟨x, h1, da_same k h2⟩
    | own ds =>
      obtain ⟨a, xs, h1, h2, h3, h5, h6, h7⟩ := q
      exact ⟨a, xs, h1, List.mem_cons_of_mem _ h2, h3, h5, Evl.Ex.new n _ _ h6, daAll_same k h7⟩
    | bag => exact q
    | tab P w kvs =>
      obtain ⟨p', ents, h1, h2⟩ := q
      exact ⟨p', ents, h1, h2.same k⟩
    | dd ps =>
      obtain ⟨a, ents, h1, h2, h3, h4⟩ := q
      exact ⟨a, ents, h1, h2, k _ _ h3, h4.same k⟩
    | od ps =>
      obtain ⟨a, ents, h1, h2, h3, h5, h6, h7⟩ := q
      exact ⟨a, ents, h1, List.mem_cons_of_mem _ h2, h3, h5, Evl.Ex.new n _ _ h6, h7.same k⟩
  ap := R.ap
  len := R.len
theorem Rel.turn (R : Rel K c F env O σ H) {D : Addr} {o : HO} {xs : List V} (hO : D ∈ O) (hD : H D = some (.lst xs)) (n0 : c.H0 D = Option.none) (ho : ∀ (i : Nat) ds, env[i]? = some (.own ds) → σ[i]? ≠ some (some (.ref D))) : Rel K c F env O σ (upd H D o) where
  dom := fun a h => by
    by_cases z : a = D
    · exact ⟨o, by rw [z, upd_same]⟩
    · rw [upd_ne z]
      exact R.dom a h
  sub := R.sub
  ent := R.ent
  but := fun a u nb e => by
    rw [upd_ne (fun z => by rw [z, n0] at e; cases e)]
    exact R.but a u nb e
  bg := fun a h => ⟨(R.bg a h).1, (R.bg a h).2.1.upd (fun z => (R.n0 n0).2 (by rw [z]; exact h)) (fun z => (R.bg a h).2.2 (by rw [← z]; exact hO)) hD, (R.bg a h).2.2⟩
  sys := by
    obtain ⟨φ, e⟩ := R.sys
    refine ⟨φ, ?_⟩
    rw [upd_ne (fun z => R.nsys (by rw [z]; exact hO))]
    exact e
  nsys := R.nsys
  fz := R.fz.trans (offs_same (fun b u n e => by rw [upd_ne (fun z => n (by rw [z]; exact hO))]; exact e) fun _ z _ => z)
  sl := fun j e he => by
    have k : Same (offs O H) (offs O (upd H D o)) := offs_same (fun b u n e => by rw [upd_ne (fun z => n (by rw [z]; exact hO))]; exact e) fun _ z _ => z
    have q := R.sl j e he
    cases e with
    | un => trivial
    | v d =>
      obtain ⟨x, h1, h2⟩ := q
      exact ⟨x, h1, da_same k h2⟩
    | own ds =>
      obtain ⟨a, xs', h1, h2, h3, h5, h6, h7⟩ := q
      exact ⟨a, xs', h1, h2, h3, h5, by rw [upd_ne (fun z => ho j ds he (by rw [h1, z]))]; exact h6, daAll_same k h7⟩
    | bag => exact q
    | tab P w kvs =>
      obtain ⟨p', ents, h1, h2⟩ := q
      exact ⟨p', ents, h1, h2.same k⟩
    | dd ps =>
      obtain ⟨a, ents, h1, h2, h3, h4⟩ := q
      exact ⟨a, ents, h1, h2, k _ _ h3, h4.same k⟩
    | od ps =>
      obtain ⟨a, ents, h1, h2, h3, h5, h6, h7⟩ := q
      exact ⟨a, ents, h1, h2, h3, h5, (by rw [upd_ne (fun z => by rw [z, hD] at h6; cases h6)]; exact h6), h7.same k⟩
  ap := R.ap
  len := R.len
end
theorem wipe_get {σ : L2.St} : ∀ {vs : List Nat} {j : Nat}, (wipe σ vs)[j]? = if j ∈ vs then (if j < σ.length then some Option.none else Option.none) else σ[j]?
  | [], j => by simp [wipe]
  | v :: vs, j => by
    rw [wipe]
    by_cases h : j = v
    · subst h
      rw [if_pos List.mem_cons_self]
      by_cases hl : j < σ.length
      · rw [List.getElem?_set_self (by rw [wipe_length]; exact hl), if_pos hl]
      · rw [List.getElem?_eq_none (by rw [List.length_set, wipe_length]; omega), if_neg hl]
    · rw [List.getElem?_set_ne (Ne.symm h), wipe_get]
      by_cases hm : j ∈ vs
      · rw [if_pos hm, if_pos (List.mem_cons_of_mem _ hm)]
      · rw [if_neg hm, if_neg (fun z => (List.mem_cons.mp z).elim h hm)]
theorem wipe_same {σ σ2 : L2.St} {vs : List Nat} (h : ∀ j : Nat, j ∉ vs → σ2[j]? = (wipe σ vs)[j]?) (hl : σ2.length = (wipe σ vs).length) : wipe σ2 vs = wipe σ vs := by
  refine List.ext_getElem? fun j => ?_
  rw [wipe_get]
  rw [wipe_length] at hl
  by_cases hj : j ∈ vs
  · rw [if_pos hj, wipe_get, if_pos hj, hl]
  · rw [if_neg hj, h j hj]
def lcGo (g : MG) (mt : MT) (me : ME) (env : List DV) : List PyData → List PyData → (PyData → Prop) → Prop
  | acc, [], k => k (.list acc)
  | acc, d :: ds, k => g d env fun e1 => mt e1 fun b => match b with
    | true => acc.length < 100000 ∧ me e1 fun r => lcGo g mt me env (acc ++ [r]) ds k
    | false => lcGo g mt me env acc ds k
def mLc (mi : MI) (g : MG) (mt : MT) (me : ME) (vs : List Nat) : ME := fun env k => mi env fun ds => lcGo g mt me (wipeE env vs) [] ds k
def mYes : MT := fun _ k => k true
theorem dts_nil : PTs X [] (upT K c mYes) := ⟨fun pins s σ H Q I ⟨F, env, O, k, R, hm, q⟩ => pts_nil.run pins s σ H Q I (q _ _ hm R.refl)⟩
theorem dts_one {cn : Expr} {t : MT} (h : PT X cn (upT K c t)) : PTs X [cn] (upT K c t) := pts_one h
theorem up_lc {mi : MI} {ss : List Nat} {g : MG} {mt : MT} {me : ME} {vs : List Nat} (hss : ∀ j ∈ ss, j ∈ vs) (σ : L2.St) (H : Hp) (Q : VK) (h : upL K c (mLc mi g mt me vs) σ H Q) : tLc (upI K c mi) (upG K c ss g) (upT K c mt) (up K c me) vs σ H Q := by
  obtain ⟨F, env, O, k, R, hm, q⟩ := h
  refine ⟨F, env, O, _, R, hm, fun ds J H1 kd gx W D nD => ?_⟩
  have R1 := R.gx gx
  have nO : D ∉ O := fun z => by
    obtain ⟨o, eo⟩ := R1.dom D z
    rw [nD] at eo
    cases eo
  have n0 : c.H0 D = Option.none := R1.h0 nD
  have nb : D ∉ c.b := (R1.n0 n0).2
  have nsys : D ≠ sysModules := fun z => by
    obtain ⟨φ, e⟩ := R1.sys
    rw [← z, nD] at e
    cases e
  have nH : H D = Option.none := by
    cases e : H D with
    | none => rfl
    | some o =>
      have z := gx.kp D o nb e
      rw [nD] at z
      cases z
  have own1 : ∀ (i : Nat) ds, (wipeE env vs)[i]? = some (.own ds) → (wipe σ vs)[i]? ≠ some (some (.ref D)) := fun i ds hi z => by
    obtain ⟨a, xs, h1, h2, _⟩ := (R1.wipe vs).sl i _ hi
    rw [z] at h1
    cases h1
    exact nO h2
  refine ⟨fun i m H' => m = ds.length - i ∧ i ≤ ds.length ∧ ∃ acc ys, H' D = some (.lst ys) ∧ DaAll K (offs (D :: O) H') ys acc ∧ Rel K c F (wipeE env vs) (D :: O) (wipe σ vs) H' ∧ Gx c H1 H' ∧ Same (offs O H1) (offs (D :: O) H') ∧ lcGo g mt me (wipeE env vs) acc (ds.drop i) k,
    ⟨_, rfl, Nat.zero_le _, [], [], upd_same, .nil, (R1.wipe vs).acc nD, R1.same (Evl.Ex.new nD), offs_new nD (Evl.Ex.new nD), kd⟩, ?_⟩
  rintro i m H' ⟨rfl, hi, acc, ys, hy, da, R', g', s', k'⟩
  obtain ⟨w1, w2⟩ := W (D :: O) H' R'.dom s'
  by_cases lt : i < ds.length
  · obtain ⟨go, yl⟩ := w1 i ds[i] (List.getElem?_eq_getElem lt)
    rw [List.drop_eq_getElem_cons lt] at k'
    refine .inr ⟨go, fun H' => ∃ acc ys, H' D = some (.lst ys) ∧ DaAll K (offs (D :: O) H') ys acc ∧ Rel K c F (wipeE env vs) (D :: O) (wipe σ vs) H' ∧ Gx c H1 H' ∧ Same (offs O H1) (offs (D :: O) H') ∧ lcGo g mt me (wipeE env vs) acc (ds.drop (i + 1)) k,
      fun H2 hh => ⟨_, by omega, rfl, lt, hh⟩, fun x H2 y => ?_⟩
    obtain ⟨s, dx⟩ := yl x H2 y
    have g2 := R'.same s
    have R2 := R'.gx g2
    refine ⟨F, _, D :: O, _, _, R2, dx, k', fun e1 σ2 k2 R3 f l => ⟨wipe_same (fun j hj => f j fun z => hj (hss j z)) l, F, e1, D :: O, _, R3, k2, fun b H3 kb g3 => ?_⟩⟩
    have R4 := R3.gx g3
    cases b with
    | true =>
      show up K c me σ2 H3 _
      refine ⟨F, e1, D :: O, _, R4, kb.2, fun r v H4 kr g4 dv => ?_⟩
      have gg := (g2.trans g3).trans g4
      have hy4 := gg.kp _ _ nb hy
      have R5 := R'.gx gg
      have hl := daAll_len da
      have hlt : acc.length < 100000 := kb.1
      have k5 : Same (offs (D :: O) H4) (offs (D :: O) (upd H4 D (.lst (ys ++ [v])))) := offs_same (fun b u n e => by rw [upd_ne (fun z => n (by rw [z]; exact List.mem_cons_self))]; exact e) fun _ z _ => z
      have da4 := daAll_same (R'.go gg) da
      refine ⟨ys, hy4, Evl.sz_lt (by omega), acc ++ [r], ys ++ [v], upd_same, daAll_same k5 (daAll_app da4 (.cons dv .nil)), R5.turn List.mem_cons_self hy4 n0 own1, ⟨fun a o n e => ?_, fun a h => ?_⟩, ?_, kr⟩
      · rw [upd_ne (fun z => by rw [z, nD] at e; cases e)]
        exact gg.kp a o n (g'.kp a o n e)
      · exact ((R5.turn (o := .lst (ys ++ [v])) List.mem_cons_self hy4 n0 own1).bg a h).2.1
      · exact (s'.trans (R'.go gg)).trans k5
    | false =>
      have gg := g2.trans g3
      exact ⟨acc, ys, gg.kp _ _ nb hy, daAll_same (R'.go gg) da, R'.gx gg, g'.trans gg, s'.trans (R'.go gg), kb⟩
  · have z : i = ds.length := by omega
    subst z
    rw [List.drop_length] at k'
    exact .inl ⟨w2, q _ D ys acc H' k' rfl (gx.trans g') nH hy nsys da⟩
theorem de_lc {elt tg iter : Expr} {ifs : List Expr} {scope : Scope} {own : List (Str × Nat)} {mi : MI} {ss : List Nat} {g : MG} {mt : MT} {me : ME} (hc : X.calm = true) (hN : X.N.Nodup) (hi : PI X tg iter (upI K c mi)) (ok : BlkOk X.N X.env.scope scope own)
    (hg : ∀ (s : Shared) (H : Hp) (C : Addr) (cl : List (Str × Addr)) (fp : List Addr), PG (X.blk s H scope (compEnvC scope cl C X.env) fp) tg (upG K c ss g)) (ht : ∀ (s : Shared) (H : Hp) (C : Addr) (cl : List (Str × Addr)) (fp : List Addr), PTs (X.blk s H scope (compEnvC scope cl C X.env) fp) ifs (upT K c mt))
    (he : ∀ (s : Shared) (H : Hp) (C : Addr) (cl : List (Str × Addr)) (fp : List Addr), PE (X.blk s H scope (compEnvC scope cl C X.env) fp) elt (up K c me)) (hss : ∀ j ∈ ss, j ∈ own.map (·.2)) (hs : ∀ x, foldedSetIterable iter X.env x = pure x := by intro _; rfl) :
    PE X (.ListComp elt [⟨tg, iter, ifs, 0⟩] scope pos) (upL K c (mLc mi g mt me (own.map (·.2)))) := pe_mono (pe_lc hc hN hi ok hg ht he hs) (up_lc hss)
/-- name = [..] on one line -/
theorem ds_setLc {i : Nat} {y : Str} {py : Pos} {elt tg iter : Expr} {ifs : List Expr} {scope : Scope} {own : List (Str × Nat)} {spos : Pos} {mi : MI} {ss : List Nat} {g : MG} {mt : MT} {me : ME} (hc : X.calm = true) (hN : X.N.Nodup) (hy : X.N[i]? = some y) (hyl : X.env.scope.names.lookup y = some .local)
    (hsw : swapsWith (.ListComp elt [⟨tg, iter, ifs, 0⟩] scope pos) (some (.Name y py)) spos.line X.env = pure true) (hi : PI X tg iter (upI K c mi)) (ok : BlkOk X.N X.env.scope scope own)
    (hg : ∀ (s : Shared) (H : Hp) (C : Addr) (cl : List (Str × Addr)) (fp : List Addr), PG (X.blk s H scope (compEnvC scope cl C X.env) fp) tg (upG K c ss g)) (ht : ∀ (s : Shared) (H : Hp) (C : Addr) (cl : List (Str × Addr)) (fp : List Addr), PTs (X.blk s H scope (compEnvC scope cl C X.env) fp) ifs (upT K c mt))
    (he : ∀ (s : Shared) (H : Hp) (C : Addr) (cl : List (Str × Addr)) (fp : List Addr), PE (X.blk s H scope (compEnvC scope cl C X.env) fp) elt (up K c me)) (hss : ∀ j ∈ ss, j ∈ own.map (·.2)) (hs : ∀ x, foldedSetIterable iter X.env x = pure x := by intro _; rfl) :
    PS X (.Assign [.Name y py] (.ListComp elt [⟨tg, iter, ifs, 0⟩] scope pos) spos) (upS K c (dAsgL i (mLc mi g mt me (own.map (·.2))))) := ps_mono (ps_setLc hc hN hy hyl hsw hi ok hg ht he hs) fun D σ H h => by
  obtain ⟨F, env, O, DD, R, hb, h1, h2, h3, h4⟩ := h
  refine up_lc hss σ H _ ⟨F, env, O, _, R, hb, fun d p ys ds H' kd ed g n ep hp da => ?_⟩
  subst ed
  exact h1 _ _ _ H' kd (R.setL i g n ep hp da)
/-- .. held as data -/
theorem ds_setLcV {i : Nat} {y : Str} {py : Pos} {elt tg iter : Expr} {ifs : List Expr} {scope : Scope} {own : List (Str × Nat)} {spos : Pos} {mi : MI} {ss : List Nat} {g : MG} {mt : MT} {me : ME} (hc : X.calm = true) (hN : X.N.Nodup) (hy : X.N[i]? = some y) (hyl : X.env.scope.names.lookup y = some .local)
    (hsw : swapsWith (.ListComp elt [⟨tg, iter, ifs, 0⟩] scope pos) (some (.Name y py)) spos.line X.env = pure true) (hi : PI X tg iter (upI K c mi)) (ok : BlkOk X.N X.env.scope scope own)
    (hg : ∀ (s : Shared) (H : Hp) (C : Addr) (cl : List (Str × Addr)) (fp : List Addr), PG (X.blk s H scope (compEnvC scope cl C X.env) fp) tg (upG K c ss g)) (ht : ∀ (s : Shared) (H : Hp) (C : Addr) (cl : List (Str × Addr)) (fp : List Addr), PTs (X.blk s H scope (compEnvC scope cl C X.env) fp) ifs (upT K c mt))
    (he : ∀ (s : Shared) (H : Hp) (C : Addr) (cl : List (Str × Addr)) (fp : List Addr), PE (X.blk s H scope (compEnvC scope cl C X.env) fp) elt (up K c me)) (hss : ∀ j ∈ ss, j ∈ own.map (·.2)) (hs : ∀ x, foldedSetIterable iter X.env x = pure x := by intro _; rfl) :
    PS X (.Assign [.Name y py] (.ListComp elt [⟨tg, iter, ifs, 0⟩] scope pos) spos) (upS K c (dAsg (mLc mi g mt me (own.map (·.2))) (gNm i))) := ps_mono (ps_setLc hc hN hy hyl hsw hi ok hg ht he hs) fun D σ H h => by
  obtain ⟨F, env, O, DD, R, hb, h1, h2, h3, h4⟩ := h
  refine up_lc hss σ H _ ⟨F, env, O, _, R, hb, fun d p ys ds H' kd ed g n ep hp da => ?_⟩
  subst ed
  have pO : p ∉ O := fun z => by
    obtain ⟨o, eo⟩ := R.dom p z
    rw [n] at eo
    cases eo
  exact h1 _ O _ H' kd ((R.gx g).set i (.lst (by rw [offs_ne pO]; exact ep) hp (daAll_same (offs_less fun a z => List.mem_cons_of_mem _ z) da)))
/-! ### defs -/
def ArgB (K : PySem.W.Frag) (b : List Addr) (O : List Addr) (H : Hp) (x : V) : DV → Prop
  | .v d => Da K (offs O H) x d
  | .dd ps => ∃ a ents, x = .ref a ∧ a ≠ sysModules ∧ offs O H a = some (.ext (dictN a ents)) ∧ EntR K (offs O H) ents ps
  | .bag => ∃ a, x = .ref a ∧ b = [a]
  | _ => False
/-- a def of n parameters that does f on data -/
def spF (K : PySem.W.Frag) (n : Nat) (f : List DV → (PyData → Prop) → Prop) : Sp := fun vs H Q _ => ∃ (O b : List Addr) (l : Addr) (as : List DV) (k : PyData → Prop),
  (∀ a ∈ O, ∃ o, H a = some o) ∧ (∀ a ∈ b, a ∈ O ∧ Bag H a l ∧ l ∉ O) ∧ Sys H ∧ sysModules ∉ O ∧ Paired (ArgB K b O H) vs as ∧ as.length = n ∧ f as k ∧
  ∀ d x H', k d → (∀ a o, a ∉ b → H a = some o → H' a = some o) → (∀ a ∈ b, Bag H' a l) → Da K (offs O H') x d → Q x H'
def mCall (n : Nat) (f : List DV → (PyData → Prop) → Prop) (ms : MA) : ME := fun env k => ms env fun as => as.length = n ∧ f as k
theorem paired_argb {O : List Addr} {H : Hp} : ∀ {xs : List V} {as : List DV}, Paired (ArgR K c O H) xs as → Paired (ArgB K c.b O H) xs as
  | _, _, .nil => .nil
  | _, _, .cons (b := dv) r t => .cons (by
      cases dv with
      | v d => exact r
      | bag => exact r
      | dd ps => exact r
      | _ => exact r) (paired_argb t)
theorem up_call {n : Nat} {f : List DV → (PyData → Prop) → Prop} {ms : MA} {E : XK} (σ : L2.St) (H : Hp) (Q : VK) (h : up K c (mCall n f ms) σ H Q) : tCall (spF K n f) [] E (upA K c ms) σ H Q := by
  obtain ⟨F, env, O, k, R, hm, q⟩ := h
  refine ⟨F, env, O, _, R, hm, fun as xs H' kd g ps => ?_⟩
  have R' := R.gx g
  refine ⟨O, c.b, c.l, as, k, R'.dom, fun a h => ⟨R'.bO a h, (R'.bg a h).2⟩, R'.sys, R'.nsys, by rw [List.append_nil]; exact paired_argb ps, kd.1, kd.2, fun d x H2 kx k1 k2 da => q d x H2 kx (g.trans ⟨k1, k2⟩) da⟩
theorem de_call {n : Nat} {f : List DV → (PyData → Prop) → Prop} {ms : MA} {E : XK} (h : PE X e (tCall (spF K n f) [] E (upA K c ms))) : PE X e (up K c (mCall n f ms)) := pe_mono h up_call
theorem paired_get {α β : Type} {R : α → β → Prop} : ∀ {xs : List α} {ys : List β} {i : Nat} {y : β}, Paired R xs ys → ys[i]? = some y → ∃ x, xs[i]? = some x ∧ R x y
  | _, _, _, _, .nil, e => by simp at e
  | _, _, 0, _, .cons r _, e => by
    simp at e
    subst e
    exact ⟨_, rfl, r⟩
  | _, _, i + 1, _, .cons _ t, e => by
    obtain ⟨x, h1, h2⟩ := paired_get (i := i) t (by simpa using e)
    exact ⟨x, by simpa using h1, h2⟩
def envOf (N : List Str) (as : List DV) : List DV := as ++ List.replicate (N.length - as.length) .un
theorem rel_start {N : List Str} {H : Hp} {O b : List Addr} {l : Addr} {vs : List V} {as : List DV} (h1 : ∀ a ∈ O, ∃ o, H a = some o) (h2 : ∀ a ∈ b, a ∈ O ∧ Bag H a l ∧ l ∉ O) (h3 : Sys H) (h4 : sysModules ∉ O) (h5 : Paired (ArgB K b O H) vs as) :
    Rel K ⟨H, O, b, l⟩ (offs O H) (envOf N as) O (L2.start N vs) H where
  dom := h1
  sub := fun _ h => h
  ent := h1
  but := fun _ _ _ e => e
  bg := h2
  sys := h3
  nsys := h4
  fz := fun _ _ e => e
  sl := fun i e he => by
    have hl := h5.length
    by_cases lt : i < as.length
    · unfold envOf at he
      rw [List.getElem?_append_left lt] at he
      obtain ⟨x, hx, r⟩ := paired_get h5 he
      have es : (L2.start N vs)[i]? = some (some x) := by
        unfold L2.start
        rw [List.getElem?_append_left (by rw [List.length_map]; omega), List.getElem?_map, hx]
        rfl
      cases e with
      | un => trivial
      | v d => exact ⟨x, es, r⟩
      | own ds => exact r.elim
      | bag =>
        obtain ⟨a, rfl, hb⟩ := r
        exact ⟨a, es, hb⟩
      | tab _ _ _ => exact r.elim
      | od _ => exact r.elim
      | dd ps =>
        obtain ⟨a, ents, rfl, h1, h2, h3⟩ := r
        exact ⟨a, ents, es, h1, h2, h3⟩
    · unfold envOf at he
      rw [List.getElem?_append_right (by omega)] at he
      rw [List.getElem?_replicate] at he
      split at he
      · cases he
        trivial
      · cases he
  ap := fun i j e f a _ hi _ m1 _ _ => by
    exfalso
    by_cases lt : i < as.length
    · unfold envOf at hi
      rw [List.getElem?_append_left lt] at hi
      obtain ⟨x, hx, r⟩ := paired_get h5 hi
      cases e with
      | own ds => exact r
      | od ps => exact r
      | _ => cases m1
    · unfold envOf at hi
      rw [List.getElem?_append_right (by omega), List.getElem?_replicate] at hi
      split at hi
      · cases hi
        cases m1
      · cases hi
  len := by
    unfold L2.start envOf
    rw [List.length_append, List.length_append, List.length_map, List.length_replicate, List.length_replicate, h5.length]
/-- the rule for a def: its body B does f -/
theorem okD {P : Program} {w : World} {mg : Str → Option Value} {base : Heap} {k : Nat} {f : Addr} {fd : FuncData} {N ps : List Str} {x qual : Str} {st : Stmt} {m : List DV → (PyData → Prop) → Prop} {B : MS} (F : Fun K x qual st f fd) (S : FnScope N ps (defScope st))
    (hb : ∀ (c : Bs) (cdv : Value) (A : Around) (outer : List Env) (s : Shared) (H : Hp) (E : XK), A.guards = some [] → Room k (A.deeper (envOfC qual (defScope st) s.heap.objs.size f cdv)) →
      PSs (cxOf CX0 P w K mg base N qual (defScope st) f cdv A outer s H E).nox (defBody st) (upS K c B))
    (hm : ∀ as q, as.length = ps.length → m as q → B (envOf N as) { nx := fun _ => q .none, rt := q }) : FnG P w K mg base (k + 1) f fd ps (spF K ps.length m) := by
  refine okG F S (fun vs H Q E h => ?_) (fun cdv A' outer s H vs Q E hg hr h => ?_)
  · obtain ⟨O, b, l, as, q, _, _, _, _, h5, h6, _⟩ := h
    rw [h5.length, h6]
  · obtain ⟨O, b, l, as, q, h1, h2, h3, h4, h5, h6, h7, h8⟩ := h
    refine ⟨_, hb ⟨H, O, b, l⟩ cdv A' outer s H E hg hr, _, _, O, _, rel_start h1 h2 h3 h4 h5, hm as q h6 h7, ?_, ?_, ?_, ?_⟩
    · intro env' O' σ' H' n R
      exact h8 _ _ H' n R.but (fun a h => (R.bg a h).2.1) .non
    · exact fun _ _ _ _ z => z.elim
    · exact fun _ _ _ _ z => z.elim
    · intro d x H' kd r
      exact h8 d x H' kd r.but r.bg r.da
end
end Du

/-! == of data, one side of which is made of ints and tuples: the other may hold dicts. -/
namespace PySem.SeqAt
open AutoSeq1 (wpAny_loadPart')
open MeetsSeq
theorem dict_eq_declines_int (l : Addr) (es : Array DictEntry) (ep : Nat) (dd : Option Addr) (sl : Array (Option Value)) (b : Int) (u : Tok) :
    Meets (Builtin.«dict.__eq__» ⟨[.ref l, .int b u], []⟩) (fun _ R s => s.heap.get? l = some { cls := .type "dict", dict := dd, data := .dict es ep, slots := sl } ∧ R (.ok (.ret .notImplemented)) s) :=
  .of_wp fun prog w A R s h => by obtain ⟨hp, g, d, tk, os⟩ := s; obtain ⟨hl, h⟩ := h; have f1 := F.sub_int_dict; wp_walk using wpAny_loadPart' hl, wpAny_load hl; exact ⟨_, rfl, h⟩
theorem dict_eq_declines_tuple (l b : Addr) (es : Array DictEntry) (ep : Nat) (dd dd2 : Option Addr) (sl sl2 : Array (Option Value)) (items : Array Value) (n : Nat) :
    Meets (Builtin.«dict.__eq__» ⟨[.ref l, .ref b], []⟩) (fun _ R s => s.heap.get? l = some { cls := .type "dict", dict := dd, data := .dict es ep, slots := sl } ∧ s.heap.get? b = some { cls := .type "tuple", dict := dd2, data := .seq items n, slots := sl2 } ∧ R (.ok (.ret .notImplemented)) s) :=
  .of_wp fun prog w A R s h => by obtain ⟨hp, g, d, tk, os⟩ := s; obtain ⟨hl, hb, h⟩ := h; have f1 := F.sub_tuple_dict; wp_walk using wpAny_loadPart' hl, wpAny_loadPart' hb, wpAny_load hl, wpAny_load hb; exact ⟨_, rfl, h⟩
theorem tuple_eq_declines_dict (l b : Addr) (es : Array DictEntry) (ep : Nat) (dd dd2 : Option Addr) (sl sl2 : Array (Option Value)) (items : Array Value) (n : Nat) :
    Meets (Builtin.«tuple.__eq__» ⟨[.ref b, .ref l], []⟩) (fun _ R s => s.heap.get? l = some { cls := .type "dict", dict := dd, data := .dict es ep, slots := sl } ∧ s.heap.get? b = some { cls := .type "tuple", dict := dd2, data := .seq items n, slots := sl2 } ∧ R (.ok (.ret .notImplemented)) s) :=
  .of_wp fun prog w A R s h => by obtain ⟨hp, g, d, tk, os⟩ := s; obtain ⟨hl, hb, h⟩ := h; have f1 := F.sub_dict_tuple; wp_walk using wpAny_loadPart' hl, wpAny_loadPart' hb, wpAny_load hl, wpAny_load hb; exact ⟨_, rfl, h⟩
theorem int_eq_declines_dict (b : Int) (u : Tok) (l : Addr) (es : Array DictEntry) (ep : Nat) (dd : Option Addr) (sl : Array (Option Value)) :
    Meets (Builtin.«int.__eq__» ⟨[.int b u, .ref l], []⟩) (fun _ R s => s.heap.get? l = some { cls := .type "dict", dict := dd, data := .dict es ep, slots := sl } ∧ R (.ok (.ret .notImplemented)) s) :=
  .of_wp fun prog w A R s h => by obtain ⟨hp, g, d, tk, os⟩ := s; obtain ⟨hl, h⟩ := h; wp_walk using wpAny_loadPart' hl, wpAny_load hl; exact ⟨_, rfl, h⟩
/-- a dict -/
def IsD (h : Heap) (l : Addr) : Prop := ∃ o es n, h.get? l = some o ∧ o.cls = .type "dict" ∧ o.data = .dict es n
section
variable {A : Around} {s : Shared}
theorem RcAt.dict_int {l : Addr} (b : Int) (u : Tok) (hl : IsD s.heap l) (hu : A.units < cLine) : RcAt A s (.ref l) (.int b u) false := fun prog w E Q h => by
  obtain ⟨⟨cls, dd, data, sl⟩, es, n, ho, hc, hd⟩ := id hl
  simp only at hc hd
  subst hc hd
  exact rc_eq_decline_or (k := false) ⟨_, ho, rfl⟩ (typeIs_int s b u) (by decide) F.sub_int_dict F.slot_dict_eq F.slot_int_eq_refl
    (fun _ hq => call_meets F.slot_dict_eq ⟨_, ho, rfl⟩ F.entry_dict_eq (F.args_dict_eq_2 _ _) (dict_eq_declines_int l es n dd sl b u) ⟨ho, hq⟩)
    (fun _ hq => call_meets F.slot_int_eq_refl (typeIs_int s b u) F.entry_int_eq (F.args_int_eq_2 _ _) (int_eq_declines_dict b u l es n dd sl) ⟨ho, hq⟩)
    (fun _ hq => wpAny_of_eq (rfl : isSame (.ref l) (.int b u) = pure false) hq) (.inr hu) h
theorem EqAt.dict_int {l : Addr} (b : Int) (u : Tok) (hl : IsD s.heap l) (hu : A.units < cLine) : EqAt A s (.ref l) (.int b u) false := fun prog w E Q h => by
  unfold eqBool
  refine wpAny_holding ?_
  refine wpAny_ite_split (fun hab => absurd (eq_of_beq hab) nofun) (fun _ => ?_)
  exact wpAny_bind (RcAt.dict_int b u hl hu prog w E _ (wpAny_truthy_bool h))
theorem RcAt.int_dict {l : Addr} (b : Int) (u : Tok) (hl : IsD s.heap l) (hu : A.units < cLine) : RcAt A s (.int b u) (.ref l) false := fun prog w E Q h => by
  obtain ⟨⟨cls, dd, data, sl⟩, es, n, ho, hc, hd⟩ := id hl
  simp only at hc hd
  subst hc hd
  exact rc_eq_decline_or (k := false) (typeIs_int s b u) ⟨_, ho, rfl⟩ (by decide) F.sub_dict_int F.slot_int_eq F.slot_dict_eq_refl
    (fun _ hq => call_meets F.slot_int_eq (typeIs_int s b u) F.entry_int_eq (F.args_int_eq_2 _ _) (int_eq_declines_dict b u l es n dd sl) ⟨ho, hq⟩)
    (fun _ hq => call_meets F.slot_dict_eq_refl ⟨_, ho, rfl⟩ F.entry_dict_eq (F.args_dict_eq_2 _ _) (dict_eq_declines_int l es n dd sl b u) ⟨ho, hq⟩)
    (fun _ hq => wpAny_of_eq (rfl : isSame (.int b u) (.ref l) = pure false) hq) (.inr hu) h
theorem EqAt.int_dict {l : Addr} (b : Int) (u : Tok) (hl : IsD s.heap l) (hu : A.units < cLine) : EqAt A s (.int b u) (.ref l) false := fun prog w E Q h => by
  unfold eqBool
  refine wpAny_holding ?_
  refine wpAny_ite_split (fun hab => absurd (eq_of_beq hab) nofun) (fun _ => ?_)
  exact wpAny_bind (RcAt.int_dict b u hl hu prog w E _ (wpAny_truthy_bool h))
theorem ne_of_dict_tuple {l b : Addr} {items : Array Value} (hl : IsD s.heap l) (hb : s.heap.IsTuple b items) : l ≠ b := fun e => by
  subst e
  obtain ⟨o, _, _, ho, hc, _⟩ := hl
  obtain ⟨o2, ho2, hc2, _⟩ := hb
  rw [ho] at ho2
  cases ho2
  rw [hc] at hc2
  exact absurd hc2 (by simp)
theorem EqAt.dict_tuple {l b : Addr} {items : Array Value} (hl : IsD s.heap l) (hb : s.heap.IsTuple b items) (hu : A.units < cLine) : EqAt A s (.ref l) (.ref b) false := .of_refs (ne_of_dict_tuple hl hb) fun prog w E Q h => by
  have hne : l ≠ b := ne_of_dict_tuple hl hb
  obtain ⟨⟨cls, dd, data, sl⟩, es, n, ho, hc, hd⟩ := id hl
  obtain ⟨⟨cls2, dd2, data2, sl2⟩, ho2, hc2, n2, hd2⟩ := id hb
  simp only at hc hd hc2 hd2
  subst hc hd hc2 hd2
  exact (rc_eq_decline_or (k := false) ⟨_, ho, rfl⟩ ⟨_, ho2, rfl⟩ (by decide) F.sub_tuple_dict F.slot_dict_eq F.slot_tuple_eq_refl
    (fun _ hq => call_meets F.slot_dict_eq ⟨_, ho, rfl⟩ F.entry_dict_eq (F.args_dict_eq_2 _ _) (dict_eq_declines_tuple l b es n dd dd2 sl sl2 items n2) ⟨ho, ho2, hq⟩)
    (fun _ hq => call_meets F.slot_tuple_eq_refl ⟨_, ho2, rfl⟩ F.entry_tuple_eq (F.args_tuple_eq_2 _ _) (tuple_eq_declines_dict l b es n dd dd2 sl sl2 items n2) ⟨ho, ho2, hq⟩)
    (fun _ hq => wpAny_isSame_ref_other hne ho ho2 (by simp) hq) (.inr hu) h)
theorem EqAt.tuple_dict {l b : Addr} {items : Array Value} (hl : IsD s.heap l) (hb : s.heap.IsTuple b items) (hu : A.units < cLine) : EqAt A s (.ref b) (.ref l) false := .of_refs (ne_of_dict_tuple hl hb).symm fun prog w E Q h => by
  have hne : b ≠ l := (ne_of_dict_tuple hl hb).symm
  obtain ⟨⟨cls, dd, data, sl⟩, es, n, ho, hc, hd⟩ := id hl
  obtain ⟨⟨cls2, dd2, data2, sl2⟩, ho2, hc2, n2, hd2⟩ := id hb
  simp only at hc hd hc2 hd2
  subst hc hd hc2 hd2
  exact (rc_eq_decline_or (k := false) ⟨_, ho2, rfl⟩ ⟨_, ho, rfl⟩ (by decide) F.sub_dict_tuple F.slot_tuple_eq F.slot_dict_eq_refl
    (fun _ hq => call_meets F.slot_tuple_eq ⟨_, ho2, rfl⟩ F.entry_tuple_eq (F.args_tuple_eq_2 _ _) (tuple_eq_declines_dict l b es n dd dd2 sl sl2 items n2) ⟨ho, ho2, hq⟩)
    (fun _ hq => call_meets F.slot_dict_eq_refl ⟨_, ho, rfl⟩ F.entry_dict_eq (F.args_dict_eq_2 _ _) (dict_eq_declines_tuple l b es n dd dd2 sl sl2 items n2) ⟨ho, ho2, hq⟩)
    (fun _ hq => wpAny_isSame_ref_other' hne ho2 ho (by simp) hq) (.inr hu) h)
end
mutual
/-- made of ints and tuples -/
def ti : PyData → Bool
  | .int _ => true
  | .tuple xs => tis xs
  | _ => false
def tis : List PyData → Bool
  | [] => true
  | x :: xs => ti x && tis xs
end
mutual
theorem ti_lay : ∀ d : PyData, ti d = true → d.canLay0 = true
  | .int _, _ => by rw [PyData.canLay0]
  | .tuple xs, h => by
    rw [ti] at h
    rw [PyData.canLay0]
    exact tis_lay xs h
  | .none, h => by simp [ti] at h
  | .bool _, h => by simp [ti] at h
  | .str _, h => by simp [ti] at h
  | .list _, h => by simp [ti] at h
  | .dict _, h => by simp [ti] at h
theorem tis_lay : ∀ xs : List PyData, tis xs = true → PyData.canLayAll0 xs = true
  | [], _ => by rw [PyData.canLayAll0]
  | x :: xs, h => by
    rw [tis, Bool.and_eq_true] at h
    rw [PyData.canLayAll0, ti_lay x h.1, tis_lay xs h.2] <;> rfl
end
mutual
theorem eqTD : ∀ (da db : PyData) (A : Around) (s : Shared) (a b : Value) (as bs : List Addr), Reads s.heap a da as → Reads s.heap b db bs → ti da = true →
    A.units + min da.depth db.depth < cLine → EqAt A s a b (PyData.eqv da db)
  | .int x, _, A, s, _, _, _, _, ra, rb, _, hu => by
    cases ra with
    | int _ t =>
      cases rb with
      | none => exact EqAt.int_none x t
      | bool y => exact EqAt.int_bool x t y
      | int y u => exact EqAt.int_int x t y u
      | str y u => exact EqAt.int_str x t y u
      | list k1 k2 k3 k4 => exact EqAt.int_list x t ⟨_, k1, k2, _, k3⟩ (room_here hu)
      | tuple k1 k2 k3 k4 => exact EqAt.int_tuple x t ⟨_, k1, k2, _, k3⟩ (room_here hu)
      | dict k1 k2 k3 k4 k5 => exact EqAt.int_dict x t ⟨_, _, _, k1, k2, k3⟩ (room_here hu)
  | .tuple xs, db, A, s, _, _, _, _, ra, rb, ha, hu => by
    cases ra with
    | @tuple l o vs n _ as₁ h1 h2 h3 h4 =>
      have hl : s.heap.IsTuple l vs := ⟨_, h1, h2, _, h3⟩
      cases rb with
      | none => exact EqAt.tuple_none hl (room_here hu)
      | bool y => exact EqAt.tuple_bool y hl (room_here hu)
      | int y u => exact EqAt.tuple_int y u hl (room_here hu)
      | str y u => exact EqAt.tuple_str y u hl (room_here hu)
      | list k1 k2 k3 k4 => exact EqAt.tuple_list hl ⟨_, k1, k2, _, k3⟩ (room_here hu)
      | dict k1 k2 k3 k4 k5 => exact EqAt.tuple_dict ⟨_, _, _, k1, k2, k3⟩ hl (room_here hu)
      | @tuple l' o' vs' n' ys bs₁ k1 k2 k3 k4 =>
        have hl' : s.heap.IsTuple l' vs' := ⟨_, k1, k2, _, k3⟩
        have n1 : vs.size = xs.length := by simpa using ReadsAll.length _ _ _ h4
        have n2 : vs'.size = ys.length := by simpa using ReadsAll.length _ _ _ k4
        have ht : tis xs = true := by simpa [ti] using ha
        show EqAt A s (.ref l) (.ref l') (PyData.eqvAll xs ys)
        by_cases hll : l = l'
        · subst hll
          have e : PyData.tuple xs = PyData.tuple ys := Reads.unique (.tuple xs) (.tuple ys) _ _ _ (ti_lay _ ha) (.tuple h1 h2 h3 h4) (.tuple k1 k2 k3 k4)
          injection e with e
          subst e
          rw [eqvAll_refl xs (tis_lay _ ht)]
          exact EqAt.same _
        · rw [← eqvAll_eq xs ys, ← n1, ← n2]
          refine EqAt.of_refs hll (RcAt.tuples hl hl' (room_here hu) fun j j1 j2 => ?_)
          have := eqTDs xs ys A.in1 s vs.toList vs'.toList _ _ h4 k4 ht (room_in hu) j (by simpa using j1) (by simpa using j2)
          simpa using this
  | .none, _, _, _, _, _, _, _, _, _, h, _ => by simp [ti] at h
  | .bool _, _, _, _, _, _, _, _, _, _, h, _ => by simp [ti] at h
  | .str _, _, _, _, _, _, _, _, _, _, h, _ => by simp [ti] at h
  | .list _, _, _, _, _, _, _, _, _, _, h, _ => by simp [ti] at h
  | .dict _, _, _, _, _, _, _, _, _, _, h, _ => by simp [ti] at h
theorem eqTDs : ∀ (xs ys : List PyData) (A : Around) (s : Shared) (vs ws : List Value) (as bs : List Addr), ReadsAll s.heap vs xs as → ReadsAll s.heap ws ys bs → tis xs = true →
    A.units + min (PyData.depthAll xs) (PyData.depthAll ys) < cLine → ∀ j (h1 : j < vs.length) (h2 : j < ws.length), EqAt A s vs[j] ws[j] (pairEq xs ys j)
  | [], _, _, _, _, _, _, _, ra, _, _, _, j, h1, _ => by cases ra; exact absurd h1 (Nat.not_lt_zero _)
  | _ :: _, [], _, _, _, _, _, _, _, rb, _, _, j, _, h2 => by cases rb; exact absurd h2 (Nat.not_lt_zero _)
  | x :: xs, y :: ys, A, s, _, _, _, _, ra, rb, ha, hu, j, h1, h2 => by
    have ha' : ti x = true ∧ tis xs = true := by simpa [tis] using ha
    cases ra with
    | cons r rs =>
      cases rb with
      | cons r' rs' =>
        cases j with
        | zero => exact eqTD x y A s _ _ _ _ r r' ha'.1 (room_head hu)
        | succ j => exact eqTDs xs ys A s _ _ _ _ rs rs' ha'.2 (room_tail hu) j (Nat.lt_of_succ_lt_succ h1) (Nat.lt_of_succ_lt_succ h2)
end
mutual
theorem eqDT : ∀ (da db : PyData) (A : Around) (s : Shared) (a b : Value) (as bs : List Addr), Reads s.heap a da as → Reads s.heap b db bs → ti db = true →
    A.units + min da.depth db.depth < cLine → EqAt A s a b (PyData.eqv da db)
  | _, .int x, A, s, _, _, _, _, rb, ra, _, hu => by
    cases ra with
    | int _ t =>
      cases rb with
      | none => exact EqAt.none_int x t
      | bool y => exact EqAt.bool_int y x t
      | int y u => exact EqAt.int_int y u x t
      | str y u => exact EqAt.str_int y u x t
      | list k1 k2 k3 k4 => exact EqAt.list_int x t ⟨_, k1, k2, _, k3⟩ (room_here hu)
      | tuple k1 k2 k3 k4 => exact EqAt.tuple_int x t ⟨_, k1, k2, _, k3⟩ (room_here hu)
      | dict k1 k2 k3 k4 k5 => exact EqAt.dict_int x t ⟨_, _, _, k1, k2, k3⟩ (room_here hu)
  | db, .tuple xs, A, s, _, _, _, _, rb, ra, ha, hu => by
    cases ra with
    | @tuple l o vs n _ as₁ h1 h2 h3 h4 =>
      have hl : s.heap.IsTuple l vs := ⟨_, h1, h2, _, h3⟩
      cases rb with
      | none => exact EqAt.none_tuple hl (room_here hu)
      | bool y => exact EqAt.bool_tuple y hl (room_here hu)
      | int y u => exact EqAt.int_tuple y u hl (room_here hu)
      | str y u => exact EqAt.str_tuple y u hl (room_here hu)
      | list k1 k2 k3 k4 => exact EqAt.list_tuple ⟨_, k1, k2, _, k3⟩ hl (room_here hu)
      | dict k1 k2 k3 k4 k5 => exact EqAt.dict_tuple ⟨_, _, _, k1, k2, k3⟩ hl (room_here hu)
      | @tuple l' o' vs' n' ys bs₁ k1 k2 k3 k4 =>
        have hl' : s.heap.IsTuple l' vs' := ⟨_, k1, k2, _, k3⟩
        have n1 : vs.size = xs.length := by simpa using ReadsAll.length _ _ _ h4
        have n2 : vs'.size = ys.length := by simpa using ReadsAll.length _ _ _ k4
        have ht : tis xs = true := by simpa [ti] using ha
        show EqAt A s (.ref l') (.ref l) (PyData.eqvAll ys xs)
        by_cases hll : l = l'
        · subst hll
          have e : PyData.tuple xs = PyData.tuple ys := Reads.unique (.tuple xs) (.tuple ys) _ _ _ (ti_lay _ ha) (.tuple h1 h2 h3 h4) (.tuple k1 k2 k3 k4)
          injection e with e
          subst e
          rw [eqvAll_refl xs (tis_lay _ ht)]
          exact EqAt.same _
        · rw [← eqvAll_eq ys xs, ← n1, ← n2]
          refine EqAt.of_refs (Ne.symm hll) (RcAt.tuples hl' hl (room_here hu) fun j j1 j2 => ?_)
          have := eqDTs ys xs A.in1 s vs'.toList vs.toList _ _ k4 h4 ht (room_in hu) j (by simpa using j1) (by simpa using j2)
          simpa using this
  | _, .none, _, _, _, _, _, _, _, _, h, _ => by simp [ti] at h
  | _, .bool _, _, _, _, _, _, _, _, _, h, _ => by simp [ti] at h
  | _, .str _, _, _, _, _, _, _, _, _, h, _ => by simp [ti] at h
  | _, .list _, _, _, _, _, _, _, _, _, h, _ => by simp [ti] at h
  | _, .dict _, _, _, _, _, _, _, _, _, h, _ => by simp [ti] at h
theorem eqDTs : ∀ (xs ys : List PyData) (A : Around) (s : Shared) (vs ws : List Value) (as bs : List Addr), ReadsAll s.heap vs xs as → ReadsAll s.heap ws ys bs → tis ys = true →
    A.units + min (PyData.depthAll xs) (PyData.depthAll ys) < cLine → ∀ j (h1 : j < vs.length) (h2 : j < ws.length), EqAt A s vs[j] ws[j] (pairEq xs ys j)
  | [], _, _, _, _, _, _, _, ra, _, _, _, j, h1, _ => by cases ra; exact absurd h1 (Nat.not_lt_zero _)
  | _ :: _, [], _, _, _, _, _, _, _, rb, _, _, j, _, h2 => by cases rb; exact absurd h2 (Nat.not_lt_zero _)
  | x :: xs, y :: ys, A, s, _, _, _, _, ra, rb, ha, hu, j, h1, h2 => by
    have ha' : ti y = true ∧ tis ys = true := by simpa [tis] using ha
    cases ra with
    | cons r rs =>
      cases rb with
      | cons r' rs' =>
        cases j with
        | zero => exact eqDT x y A s _ _ _ _ r r' ha'.1 (room_head hu)
        | succ j => exact eqDTs xs ys A s _ _ _ _ rs rs' ha'.2 (room_tail hu) j (Nat.lt_of_succ_lt_succ h1) (Nat.lt_of_succ_lt_succ h2)
end
end PySem.SeqAt

/-! The operations on data. -/
namespace Du
open PySem PySem.Spec PyProof.Rows L2 On
abbrev F2 := PyData → PyData → (PyData → Prop) → Prop
section
variable {K : PySem.W.Frag} {c : Bs} {X : Cx} {e : Expr} {pos : Pos}
theorem opOr {f : Value → Value → Sem Value} {r r' : R2} (h : OpR X f r) (h' : OpR X f r') : OpR X f (fun x y H Q => r x y H Q ∨ r' x y H Q) := fun pins s σ H x y v u Q I rx ry q => q.elim (h pins s σ H x y v u Q I rx ry) (h' pins s σ H x y v u Q I rx ry)
theorem nq_int {O : List Addr} {H : Hp} {x : V} {i : Int} (h : Nq K O H x (.int i)) : x = .int i := by
  rcases h with h | ⟨a, xs, ds, rfl, e, _⟩
  · exact da_int h
  · cases e
theorem nq_bl {O : List Addr} {H : Hp} {x : V} {i : Bool} (h : Nq K O H x (.bool i)) : x = .bl i := by
  rcases h with h | ⟨a, xs, ds, rfl, e, _⟩
  · exact da_bl h
  · cases e
theorem nq_str {O : List Addr} {H : Hp} {x : V} {i : Str} (h : Nq K O H x (.str i)) : x = .str i := by
  rcases h with h | ⟨a, xs, ds, rfl, e, _⟩
  · cases h
    rfl
  · cases e
theorem nq_non {O : List Addr} {H : Hp} {x : V} (h : Nq K O H x .none) : x = .non := by
  rcases h with h | ⟨a, xs, ds, rfl, e, _⟩
  · cases h
    rfl
  · cases e
theorem nq_lst {O : List Addr} {H : Hp} {x : V} {ds : List PyData} (h : Nq K O H x (.list ds)) : ∃ a xs, x = .ref a ∧ H a = some (.lst xs) ∧ a ≠ sysModules ∧ DaAll K (offs O H) xs ds := by
  rcases h with h | ⟨a, xs, ds', rfl, e, h1, h2, h3⟩
  · obtain ⟨a, xs, rfl, h1, h2, h3⟩ := da_lst h
    exact ⟨a, xs, rfl, (offs_some h1).2, h2, h3⟩
  · cases e
    exact ⟨a, xs, rfl, h2, h1, h3⟩
theorem nq_tup {O : List Addr} {H : Hp} {x : V} {ds : List PyData} (h : Nq K O H x (.tuple ds)) : ∃ a xs, x = .ref a ∧ SqT K H a xs ∧ SqT K (offs O H) a xs ∧ DaAll K (offs O H) xs ds := by
  rcases h with h | ⟨a, xs, ds', rfl, e, _⟩
  · obtain ⟨a, xs, rfl, h1, h3⟩ := da_tup h
    exact ⟨a, xs, rfl, Evl.ex_t offs_sub h1, h1, h3⟩
  · cases e
theorem new_tup {O : List Addr} {H : Hp} {p : Addr} {xs : List V} {ds : List PyData} (hd : ∀ a ∈ O, ∃ o, H a = some o) (n : H p = Option.none) (h : DaAll K (offs O H) xs ds) : Da K (offs O (upd H p (.tup xs))) (.ref p) (.tuple ds) := by
  have pO : p ∉ O := fun z => by
    obtain ⟨o, eo⟩ := hd p z
    rw [n] at eo
    cases eo
  exact .tup (SqT.of (by rw [offs_ne pO]; exact upd_same)) (daAll_same (offs_same (fun a o _ e => Evl.Ex.new n a o e) fun _ z _ => z) h)
theorem new_lst {O : List Addr} {H : Hp} {p : Addr} {xs : List V} {ds : List PyData} (hd : ∀ a ∈ O, ∃ o, H a = some o) (hs : Sys H) (n : H p = Option.none) (h : DaAll K (offs O H) xs ds) : Da K (offs O (upd H p (.lst xs))) (.ref p) (.list ds) := by
  have pO : p ∉ O := fun z => by
    obtain ⟨o, eo⟩ := hd p z
    rw [n] at eo
    cases eo
  refine .lst (by rw [offs_ne pO]; exact upd_same) (fun z => ?_) (daAll_same (offs_same (fun a o _ e => Evl.Ex.new n a o e) fun _ z _ => z) h)
  obtain ⟨φ, e⟩ := hs
  rw [← z, n] at e
  cases e
/-! ### + - * % // -/
def rAdd (K : PySem.W.Frag) : R2 := fun x y H Q => rI0 (fun i j => .int (i + j)) x y H Q ∨ (rCat x y H Q ∨ rCatA K x y H Q)
theorem op_addD (hK : X.K = K := by rfl) : OpR X (binaryOp .Add) (rAdd K) := opOr op_add (opOr op_cat (hK ▸ op_catA))
def fAdd : F2 := fun d e k => match d, e with
  | .int i, .int j => k (.int (i + j))
  | .list xs, .list ys => xs.length + ys.length ≤ 100000 ∧ k (.list (xs ++ ys))
  | .tuple xs, .tuple ys => xs.length + ys.length ≤ 100000 ∧ k (.tuple (xs ++ ys))
  | _, _ => False
theorem od_add : OpD K (rAdd K) fAdd := fun O H x y d e k Q hd hs nx ny hf q => by
  unfold fAdd at hf
  split at hf
  · cases nq_int nx
    cases nq_int ny
    exact .inl ⟨_, _, rfl, rfl, q _ _ H hf (Same.refl H) (.int _)⟩
  · obtain ⟨a, xs', rfl, h1, _, h3⟩ := nq_lst nx
    obtain ⟨b, ys', rfl, g1, _, g3⟩ := nq_lst ny
    have l1 := daAll_len h3
    have l2 := daAll_len g3
    exact .inr (.inl ⟨a, b, xs', ys', rfl, rfl, h1, g1, Evl.sz_of (by omega), fun p n => q _ _ _ hf.2 (Evl.Ex.new n) (new_lst hd hs n (daAll_app h3 g3))⟩)
  · obtain ⟨a, xs', rfl, h1, h2, h3⟩ := nq_tup nx
    obtain ⟨b, ys', rfl, g1, g2, g3⟩ := nq_tup ny
    have l1 := daAll_len h3
    have l2 := daAll_len g3
    refine .inr (.inr ⟨a, b, xs', ys', rfl, rfl, h1, g1, Evl.sz_of (by omega), fun e => ?_, fun _ e => ?_, fun _ _ p n => q _ _ _ hf.2 (Evl.Ex.new n) (new_tup hd n (daAll_app h3 g3))⟩)
    · subst e
      cases h3
      exact q _ _ H hf.2 (Same.refl H) (.tup g2 g3)
    · subst e
      cases g3
      exact q _ _ H hf.2 (Same.refl H) (by rw [List.append_nil]; exact .tup h2 h3)
  · exact hf.elim
def fI (C : Int → Int → Prop) (g : Int → Int → Int) : F2 := fun d e k => match d, e with
  | .int i, .int j => C i j ∧ k (.int (g i j))
  | _, _ => False
theorem od_I {C : Int → Int → Prop} {g : Int → Int → Int} : OpD K (rI C fun i j => .int (g i j)) (fI C g) := fun O H x y d e k Q hd hs nx ny hf q => by
  unfold fI at hf
  split at hf
  · cases nq_int nx
    cases nq_int ny
    exact ⟨_, _, rfl, rfl, hf.1, q _ _ H hf.2 (Same.refl H) (.int _)⟩
  · exact hf.elim
def fI0 (g : Int → Int → Int) : F2 := fun d e k => match d, e with
  | .int i, .int j => k (.int (g i j))
  | _, _ => False
theorem od_I0 {g : Int → Int → Int} : OpD K (rI0 fun i j => .int (g i j)) (fI0 g) := fun O H x y d e k Q hd hs nx ny hf q => by
  unfold fI0 at hf
  split at hf
  · cases nq_int nx
    cases nq_int ny
    exact ⟨_, _, rfl, rfl, q _ _ H hf (Same.refl H) (.int _)⟩
  · exact hf.elim
abbrev fSub : F2 := fI0 fun i j => i - j
abbrev fMod : F2 := fI (fun _ j => 0 < j) fun i j => i % j
abbrev fDiv : F2 := fI CDivW fun i j => i / j
abbrev fPow : F2 := fI CPow fun i j => i ^ j.toNat
/-- ints; a list some times -/
def rMulD : R2 := fun x y H Q => rI CMulW (fun i j => .int (i * j)) x y H Q ∨ rRep x y H Q
theorem op_mulD : OpR X (binaryOp .Mult) rMulD := opOr op_mulW op_rep
def fMul : F2 := fun d e k => match d, e with
  | .int i, .int j => CMulW i j ∧ k (.int (i * j))
  | .list xs, .int j => (-1000000 ≤ j ∧ j ≤ 1000000 ∧ xs.length * j.toNat ≤ 100000) ∧ k (.list (List.replicate j.toNat xs).flatten)
  | _, _ => False
theorem daAll_rep {H : Hp} {xs : List V} {ds : List PyData} (h : DaAll K H xs ds) : ∀ n : Nat, DaAll K H (List.replicate n xs).flatten (List.replicate n ds).flatten
  | 0 => .nil
  | n + 1 => by
    rw [List.replicate_succ, List.replicate_succ, List.flatten_cons, List.flatten_cons]
    exact daAll_app h (daAll_rep h n)
theorem od_mul : OpD K rMulD fMul := fun O H x y d e k Q hd hs nx ny hf q => by
  unfold fMul at hf
  split at hf
  · cases nq_int nx
    cases nq_int ny
    exact .inl ⟨_, _, rfl, rfl, hf.1, q _ _ H hf.2 (Same.refl H) (.int _)⟩
  · obtain ⟨a, xs', rfl, h1, _, h3⟩ := nq_lst nx
    cases nq_int ny
    have l1 := daAll_len h3
    obtain ⟨⟨k1, k2, k3⟩, k4⟩ := hf
    exact .inr ⟨a, _, xs', rfl, rfl, h1, by omega, by omega, Evl.sz_of (by rw [l1]; exact k3), fun p n => q _ _ _ k4 (Evl.Ex.new n) (new_lst hd hs n (daAll_rep h3 _))⟩
  · exact hf.elim
/-! ### comparisons of ints -/
def fB (g : Int → Int → Bool) : F2 := fun d e k => match d, e with
  | .int i, .int j => k (.bool (g i j))
  | _, _ => False
theorem od_B {g : Int → Int → Bool} : OpD K (rI0 fun i j => .bl (g i j)) (fB g) := fun O H x y d e k Q hd hs nx ny hf q => by
  unfold fB at hf
  split at hf
  · cases nq_int nx
    cases nq_int ny
    exact ⟨_, _, rfl, rfl, q _ _ H hf (Same.refl H) (.bl _)⟩
  · exact hf.elim
abbrev fLt : F2 := fB fun i j => decide (i < j)
abbrev fLe : F2 := fB fun i j => decide (i ≤ j)
abbrev fGt : F2 := fB fun i j => decide (j < i)
abbrev fGe : F2 := fB fun i j => decide (j ≤ i)
/-! ### == != in -/
/-- what can be held against each other -/
def okEq (d e : PyData) : Bool := ((d.canLay0 && e.canLay0) || (SeqAt.ti d || SeqAt.ti e)) && decide (min d.depth e.depth ≤ 60)
theorem okEq_at {A : Around} {s : Shared} {a b : Value} {as bs : List Addr} {d e : PyData} (hu : A.units + 60 < cLine) (h : okEq d e = true) (ra : Reads s.heap a d as) (rb : Reads s.heap b e bs) : SeqAt.EqAt A s a b (PyData.eqv d e) := by
  unfold okEq at h
  rw [Bool.and_eq_true, Bool.or_eq_true, Bool.or_eq_true, Bool.and_eq_true] at h
  have hd := of_decide_eq_true h.2
  rcases h.1 with h | h | h
  · exact SeqAt.eqAt_reads d e A s a b as bs ra rb h.1 h.2 (by omega)
  · exact SeqAt.eqTD d e A s a b as bs ra rb h (by omega)
  · exact SeqAt.eqDT d e A s a b as bs ra rb h (by omega)
def rEqQ (K : PySem.W.Frag) : R2 := fun x y H Q => ∃ d e, Da K H x d ∧ Da K H y e ∧ d.canLay0 = true ∧ e.canLay0 = true ∧ min d.depth e.depth ≤ 60 ∧ Q (.bl (PyData.eqv d e)) H
theorem op_eqQ (hu : X.A.units + 66 < cLine) (hK : X.K = K := by rfl) : OpR X (compareOp .Eq) (rEqQ K) := by
  subst hK
  intro pins s σ H x y v u Q I rx ry h
  obtain ⟨d, e, hd, he, c1, c2, dp, q⟩ := h
  obtain ⟨as, r1, _⟩ := da_reads I hd rx
  obtain ⟨bs, r2, _⟩ := da_reads I he ry
  exact SeqAt.compareEq_reads r1 r2 c1 c2 (by omega) ⟨.bl _, H, I, rfl, q⟩
def fEq : F2 := fun d e k => (d.canLay0 = true ∧ e.canLay0 = true ∧ min d.depth e.depth ≤ 60) ∧ k (.bool (PyData.eqv d e))
theorem od_eq : OpD K (rEqQ K) fEq := fun O H x y d e k Q hd hs nx ny hf q => ⟨d, e, nx.da, ny.da, hf.1.1, hf.1.2.1, hf.1.2.2, q _ _ H hf.2 (Same.refl H) (.bl _)⟩
/-- !=: data without dicts, or two tuples of which one is made of ints and tuples -/
def okNe : PyData → PyData → Bool
  | .tuple xs, .tuple ys => ((PyData.canLayAll0 xs && PyData.canLayAll0 ys) || (SeqAt.tis xs || SeqAt.tis ys)) && decide (min (PyData.tuple xs).depth (PyData.tuple ys).depth ≤ 60)
  | d, e => d.canLay0 && (e.canLay0 && decide (min d.depth e.depth ≤ 60))
def rNeQ (K : PySem.W.Frag) : R2 := fun x y H Q => ∃ d e, Da K H x d ∧ Da K H y e ∧ okNe d e = true ∧ Q (.bl (!PyData.eqv d e)) H
theorem op_neQ (hu : X.A.units + 66 < cLine) (hK : X.K = K := by rfl) : OpR X (compareOp .NotEq) (rNeQ K) := by
  subst hK
  intro pins s σ H x y v u Q I rx ry h
  obtain ⟨d, e, hd, he, ok, q⟩ := h
  obtain ⟨as, r1, _⟩ := da_reads I hd rx
  obtain ⟨bs, r2, _⟩ := da_reads I he ry
  unfold okNe at ok
  split at ok
  · rename_i xs ys
    rw [Bool.and_eq_true, Bool.or_eq_true, Bool.or_eq_true, Bool.and_eq_true] at ok
    have hdp := of_decide_eq_true ok.2
    have fin : wpAny (model X.prog X.w) X.A (compareOp .NotEq v u) (EP X pins σ Q) X.xe s := by
      cases r1 with
      | @tuple l o vs n _ _ h1 h2 h3 h4 =>
        cases r2 with
        | @tuple l' o' vs' n' _ _ k1 k2 k3 k4 =>
          have hl : s.heap.IsTuple l vs := ⟨_, h1, h2, _, h3⟩
          have hl' : s.heap.IsTuple l' vs' := ⟨_, k1, k2, _, k3⟩
          have n1 : vs.size = xs.length := by simpa using SeqAt.ReadsAll.length _ _ _ h4
          have n2 : vs'.size = ys.length := by simpa using SeqAt.ReadsAll.length _ _ _ k4
          have room : X.A.in1.units + min (PyData.depthAll xs) (PyData.depthAll ys) < cLine := by
            have e1 : (PyData.tuple xs).depth = PyData.depthAll xs + 1 := rfl
            have e2 : (PyData.tuple ys).depth = PyData.depthAll ys + 1 := rfl
            show X.A.units + 1 + _ < _
            omega
          have he : ∀ j (j1 : j < vs.size) (j2 : j < vs'.size), SeqAt.EqAt X.A.in1 s vs[j] vs'[j] (SeqAt.pairEq xs ys j) := fun j j1 j2 => by
            rcases ok.1 with ok | ok | ok
            · have := SeqAt.eqAt_readsAll xs ys X.A.in1 s vs.toList vs'.toList _ _ h4 k4 ok.1 ok.2 room j (by simpa using j1) (by simpa using j2)
              simpa using this
            · have := SeqAt.eqTDs xs ys X.A.in1 s vs.toList vs'.toList _ _ h4 k4 ok room j (by simpa using j1) (by simpa using j2)
              simpa using this
            · have := SeqAt.eqDTs xs ys X.A.in1 s vs.toList vs'.toList _ _ h4 k4 ok room j (by simpa using j1) (by simpa using j2)
              simpa using this
          have z := SeqAt.RcNeAt.tuples hl hl' (by omega) he
          rw [n1, n2, SeqAt.eqvAll_eq xs ys] at z
          exact z X.prog X.w X.xe _ ⟨.bl _, H, I, rfl, q⟩
    exact fin
  · rw [Bool.and_eq_true, Bool.and_eq_true] at ok
    have hdp := of_decide_eq_true ok.2.2
    exact SeqAt.neOverData X.prog X.w X.A X.xe s v u d e as bs _ r1 r2 ok.1 ok.2.1 (by omega) ⟨.bl _, H, I, rfl, q⟩
def fNe : F2 := fun d e k => okNe d e = true ∧ k (.bool (!PyData.eqv d e))
theorem od_ne : OpD K (rNeQ K) fNe := fun O H x y d e k Q hd hs nx ny hf q => ⟨d, e, nx.da, ny.da, hf.1, q _ _ H hf.2 (Same.refl H) (.bl _)⟩
def okIn (d : PyData) (ds : List PyData) : Bool := ((PyData.canLayAll0 ds && d.canLay0) || (SeqAt.tis ds || SeqAt.ti d)) && decide (d.depth ≤ 60 ∨ PyData.depthAll ds ≤ 60)
theorem tis_mem : ∀ {xs : List PyData} {d : PyData}, SeqAt.tis xs = true → d ∈ xs → SeqAt.ti d = true
  | x :: xs, d, h, m => by
    rw [SeqAt.tis, Bool.and_eq_true] at h
    rcases List.mem_cons.mp m with rfl | m
    · exact h.1
    · exact tis_mem h.2 m
theorem depth_mem : ∀ {xs : List PyData} {d : PyData}, d ∈ xs → d.depth ≤ PyData.depthAll xs
  | x :: xs, d, m => by
    rw [PyData.depthAll]
    rcases List.mem_cons.mp m with rfl | m
    · exact Nat.le_max_left _ _
    · exact Nat.le_trans (depth_mem m) (Nat.le_max_right _ _)
theorem readsAll_get {h : Heap} : ∀ {xs : List PyData} {vs : List Value} {as : List Addr} {i : Nat} {y : Value}, ReadsAll h vs xs as → vs[i]? = some y → ∃ d bs, xs[i]? = some d ∧ Reads h y d bs
  | _, _, _, _, _, .nil, e => by simp at e
  | _, _, _, 0, _, .cons r _, e => by
    simp at e
    subst e
    exact ⟨_, _, rfl, r⟩
  | _, _, _, i + 1, _, .cons _ t, e => by
    obtain ⟨d, bs, h1, h2⟩ := readsAll_get (i := i) t (by simpa using e)
    exact ⟨d, bs, by simpa using h1, h2⟩
mutual
theorem reads_eqv {h : Heap} : ∀ (d : PyData) {y : Value} {z1 z2 : PyData} {as bs : List Addr}, SeqAt.ti d = true → Reads h y z1 as → Reads h y z2 bs → PyData.eqv z1 d = PyData.eqv z2 d
  | .int i, y, z1, z2, _, _, _, r1, r2 => by
    cases r1 <;> cases r2 <;> simp [PyData.eqv]
  | .tuple ds, y, z1, z2, _, _, ht, r1, r2 => by
    have hts : SeqAt.tis ds = true := by simpa [SeqAt.ti] using ht
    cases r1 with
    | tuple h1 h2 h3 h4 =>
      cases r2 with
      | tuple k1 k2 k3 k4 =>
        rw [h1] at k1
        cases k1
        rw [h3] at k3
        cases k3
        show PyData.eqvAll _ ds = PyData.eqvAll _ ds
        exact reads_eqvs ds hts h4 k4
      | list k1 k2 k3 k4 =>
        rw [h1] at k1
        cases k1
        rw [h2] at k2
        exact absurd k2 (by simp)
      | dict k1 k2 k3 k4 k5 =>
        rw [h1] at k1
        cases k1
        rw [h2] at k2
        exact absurd k2 (by simp)
    | list h1 h2 h3 h4 =>
      cases r2 with
      | tuple k1 k2 k3 k4 =>
        rw [h1] at k1
        cases k1
        rw [h2] at k2
        exact absurd k2 (by simp)
      | _ => simp [PyData.eqv]
    | dict h1 h2 h3 h4 h5 =>
      cases r2 with
      | tuple k1 k2 k3 k4 =>
        rw [h1] at k1
        cases k1
        rw [h2] at k2
        exact absurd k2 (by simp)
      | _ => simp [PyData.eqv]
    | _ => cases r2 <;> simp [PyData.eqv]
  | .none, _, _, _, _, _, h, _, _ => by simp [SeqAt.ti] at h
  | .bool _, _, _, _, _, _, h, _, _ => by simp [SeqAt.ti] at h
  | .str _, _, _, _, _, _, h, _, _ => by simp [SeqAt.ti] at h
  | .list _, _, _, _, _, _, h, _, _ => by simp [SeqAt.ti] at h
  | .dict _, _, _, _, _, _, h, _, _ => by simp [SeqAt.ti] at h
theorem reads_eqvs {h : Heap} : ∀ (ds : List PyData) {ys : List Value} {zs ws : List PyData} {as bs : List Addr}, SeqAt.tis ds = true → ReadsAll h ys zs as → ReadsAll h ys ws bs → PyData.eqvAll zs ds = PyData.eqvAll ws ds
  | [], _, _, _, _, _, _, r1, r2 => by
    cases r1 with
    | nil =>
      cases r2
      rfl
    | cons a b =>
      cases r2
      simp [PyData.eqvAll]
  | d :: ds, _, _, _, _, _, h, r1, r2 => by
    rw [SeqAt.tis, Bool.and_eq_true] at h
    cases r1 with
    | nil =>
      cases r2
      rfl
    | cons a b =>
      cases r2 with
      | cons a' b' =>
        rw [PyData.eqvAll, PyData.eqvAll, reads_eqv d h.1 a a', reads_eqvs ds h.2 b b']
end
/-- what the items of a container answer when they are held against x -/
theorem items_at {A : Around} {s : Shared} {vs : Array Value} {xs : List PyData} {as bs : List Addr} {x : Value} {d : PyData} (rs : ReadsAll s.heap vs.toList xs as) (rx : Reads s.heap x d bs) (ok : okIn d xs = true) (hu : A.units + 62 < cLine) :
    ∃ e : Value → Bool, (∀ y, y ∈ vs → SeqAt.EqAt A.in1 s y x (e y)) ∧ vs.any e = xs.any fun y => PyData.eqv y d := by
  have at_ : ∀ (i : Nat) y, vs.toList[i]? = some y → ∃ z, xs[i]? = some z ∧ SeqAt.EqAt A.in1 s y x (PyData.eqv z d) := fun i y hy => by
    obtain ⟨z, cs, hz, rz⟩ := readsAll_get rs hy
    have hm := List.mem_of_getElem? hz
    unfold okIn at ok
    rw [Bool.and_eq_true, Bool.or_eq_true, Bool.or_eq_true, Bool.and_eq_true] at ok
    have hdp := of_decide_eq_true ok.2
    have dm := depth_mem hm
    have room : A.in1.units + min z.depth d.depth < cLine := by
      show A.units + 1 + _ < _
      omega
    refine ⟨z, hz, ?_⟩
    rcases ok.1 with ok | ok | ok
    · have hz0 : z.canLay0 = true := by
        have : ∀ {ys : List PyData}, PyData.canLayAll0 ys = true → ∀ z ∈ ys, z.canLay0 = true := fun {ys} => by
          induction ys with
          | nil => intro _ z h; cases h
          | cons y ys ih =>
            intro h z m
            rw [PyData.canLayAll0, Bool.and_eq_true] at h
            rcases List.mem_cons.mp m with rfl | m
            · exact h.1
            · exact ih h.2 z m
        exact this ok.1 z hm
      exact SeqAt.eqAt_reads z d A.in1 s y x _ _ rz rx hz0 ok.2 room
    · exact SeqAt.eqTD z d A.in1 s y x _ _ rz rx (tis_mem ok hm) room
    · exact SeqAt.eqDT z d A.in1 s y x _ _ rz rx ok room
  classical
  have uniq : ∀ (i j : Nat) (y : Value) z w, vs.toList[i]? = some y → vs.toList[j]? = some y → xs[i]? = some z → xs[j]? = some w → PyData.eqv z d = PyData.eqv w d := fun i j y z w h1 h2 h3 h4 => by
    obtain ⟨z', cs, hz, rz⟩ := readsAll_get rs h1
    obtain ⟨w', cs', hw, rw'⟩ := readsAll_get rs h2
    rw [h3] at hz
    rw [h4] at hw
    cases hz
    cases hw
    unfold okIn at ok
    rw [Bool.and_eq_true, Bool.or_eq_true, Bool.or_eq_true, Bool.and_eq_true] at ok
    rcases ok.1 with ok | ok | ok
    · have hz0 : z.canLay0 = true := by
        have : ∀ {ys : List PyData}, PyData.canLayAll0 ys = true → ∀ z ∈ ys, z.canLay0 = true := fun {ys} => by
          induction ys with
          | nil => intro _ z h; cases h
          | cons y ys ih =>
            intro h z m
            rw [PyData.canLayAll0, Bool.and_eq_true] at h
            rcases List.mem_cons.mp m with rfl | m
            · exact h.1
            · exact ih h.2 z m
        exact this ok.1 z (List.mem_of_getElem? h3)
      rw [SeqAt.Reads.unique z w _ _ _ hz0 rz rw']
    · rw [SeqAt.Reads.unique z w _ _ _ (SeqAt.ti_lay _ (tis_mem ok (List.mem_of_getElem? h3))) rz rw']
    · exact reads_eqv d ok rz rw'
  have hlen : vs.toList.length = xs.length := SeqAt.ReadsAll.length _ _ _ rs
  let e : Value → Bool := fun y => if hx : ∃ (i : Nat) (z : PyData), vs.toList[i]? = some y ∧ xs[i]? = some z then PyData.eqv hx.choose_spec.choose d else false
  have he : ∀ (i : Nat) y z, vs.toList[i]? = some y → xs[i]? = some z → e y = PyData.eqv z d := fun i y z hy hz => by
    have hx : ∃ (i : Nat) (z : PyData), vs.toList[i]? = some y ∧ xs[i]? = some z := ⟨i, z, hy, hz⟩
    show (if hx : ∃ (i : Nat) (z : PyData), vs.toList[i]? = some y ∧ xs[i]? = some z then PyData.eqv hx.choose_spec.choose d else false) = _
    rw [dif_pos hx]
    exact uniq _ i y _ z hx.choose_spec.choose_spec.1 hy hx.choose_spec.choose_spec.2 hz
  refine ⟨e, fun y hy => ?_, ?_⟩
  · obtain ⟨i, hi, hv⟩ := List.mem_iff_getElem.mp (show y ∈ vs.toList by simpa using hy)
    have hy' : vs.toList[i]? = some y := by rw [List.getElem?_eq_getElem hi, hv]
    obtain ⟨z, hz, q⟩ := at_ i y hy'
    rw [he i y z hy' hz]
    exact q
  · rw [← Array.any_toList]
    apply Bool.eq_iff_iff.mpr
    rw [List.any_eq_true, List.any_eq_true]
    constructor
    · rintro ⟨y, hy, hq⟩
      obtain ⟨i, hi, hv⟩ := List.mem_iff_getElem.mp hy
      have hy' : vs.toList[i]? = some y := by rw [List.getElem?_eq_getElem hi, hv]
      obtain ⟨z, hz, _⟩ := at_ i y hy'
      exact ⟨z, List.mem_of_getElem? hz, by rw [← he i y z hy' hz]; exact hq⟩
    · rintro ⟨z, hz, hq⟩
      obtain ⟨i, hi, hv⟩ := List.mem_iff_getElem.mp hz
      have hi' : i < vs.toList.length := by omega
      have hy' : vs.toList[i]? = some vs.toList[i] := List.getElem?_eq_getElem hi'
      have hz' : xs[i]? = some z := by rw [List.getElem?_eq_getElem hi, hv]
      exact ⟨vs.toList[i], List.getElem_mem hi', by rw [he i _ z hy' hz']; exact hq⟩
end
end Du

namespace PySem.SeqAt
open AutoSeq1 (wpAny_loadPart')
open MeetsSeq
theorem int_le_bool_int (a : Bool) (b : Int) (u : Tok) : Gives (Builtin.«int.__le__» ⟨[.bool a, .int b u], []⟩) (.val (Value.bool (decide ((if a = true then (1 : Int) else 0) ≤ b)))) :=
  .of_wp fun M A E s Q h => by obtain ⟨hp, g, d, tk, os⟩ := s; wp_walk; exact ⟨_, rfl, h⟩
theorem int_ge_bool_int (a : Bool) (b : Int) (u : Tok) : Gives (Builtin.«int.__ge__» ⟨[.bool a, .int b u], []⟩) (.val (Value.bool (decide ((if a = true then (1 : Int) else 0) ≥ b)))) :=
  .of_wp fun M A E s Q h => by obtain ⟨hp, g, d, tk, os⟩ := s; wp_walk; exact ⟨_, rfl, h⟩
theorem int_ge_bool_bool (a b : Bool) : Gives (Builtin.«int.__ge__» ⟨[.bool a, .bool b], []⟩) (.val (Value.bool (decide ((if a = true then (1 : Int) else 0) ≥ (if b = true then (1 : Int) else 0))))) :=
  .of_wp fun M A E s Q h => by obtain ⟨hp, g, d, tk, os⟩ := s; wp_walk; exact ⟨_, rfl, h⟩
end PySem.SeqAt
/-! The operations on data: in, order, is, places, slices, truth, builtins. -/
namespace Du
open PySem PySem.Spec PyProof.Rows L2 On
section
variable {K : PySem.W.Frag} {c : Bs} {X : Cx} {e a b : Expr} {pos : Pos}
def rInG (K : PySem.W.Frag) (neg : Bool) : R2 := fun x y H Q => ∃ d ds, Da K H x d ∧ (Da K H y (.tuple ds) ∨ Da K H y (.list ds)) ∧ okIn d ds = true ∧ Q (.bl (neg != ds.any fun z => PyData.eqv z d)) H
theorem op_inG (hu : X.A.units + 66 < cLine) (hK : X.K = K := by rfl) : OpR X (compareOp .In) (rInG K false) := by
  subst hK
  intro pins s σ H x y v u Q I rx ry h
  obtain ⟨d, ds, hd, he, ok, q⟩ := h
  obtain ⟨as, r1, _⟩ := da_reads I hd rx
  rcases he with he | he
  · obtain ⟨bs, r2, _⟩ := da_reads I he ry
    cases r2 with
    | tuple h1 h2 h3 h4 =>
      obtain ⟨e, e1, e2⟩ := items_at (A := X.A) h4 r1 ok (by omega)
      refine SeqAt.in_tupleAt e ⟨_, h1, h2, _, h3⟩ e1 ⟨.bl _, H, I, rfl, ?_⟩
      rw [e2]
      simpa using q
  · obtain ⟨bs, r2, _⟩ := da_reads I he ry
    cases r2 with
    | list h1 h2 h3 h4 =>
      obtain ⟨e, e1, e2⟩ := items_at (A := X.A) h4 r1 ok (by omega)
      refine SeqAt.in_listAt e ⟨_, h1, h2, _, h3⟩ e1 ⟨.bl _, H, I, rfl, ?_⟩
      rw [e2]
      simpa using q
theorem op_notInG (hu : X.A.units + 66 < cLine) (hK : X.K = K := by rfl) : OpR X (compareOp .NotIn) (rInG K true) := by
  subst hK
  intro pins s σ H x y v u Q I rx ry h
  obtain ⟨d, ds, hd, he, ok, q⟩ := h
  obtain ⟨as, r1, _⟩ := da_reads I hd rx
  rcases he with he | he
  · obtain ⟨bs, r2, _⟩ := da_reads I he ry
    cases r2 with
    | tuple h1 h2 h3 h4 =>
      obtain ⟨e, e1, e2⟩ := items_at (A := X.A) h4 r1 ok (by omega)
      refine SeqAt.notIn_tupleAt e ⟨_, h1, h2, _, h3⟩ e1 ⟨.bl _, H, I, rfl, ?_⟩
      rw [e2]
      simpa using q
  · obtain ⟨bs, r2, _⟩ := da_reads I he ry
    cases r2 with
    | list h1 h2 h3 h4 =>
      obtain ⟨e, e1, e2⟩ := items_at (A := X.A) h4 r1 ok (by omega)
      refine SeqAt.notIn_listAt e ⟨_, h1, h2, _, h3⟩ e1 ⟨.bl _, H, I, rfl, ?_⟩
      rw [e2]
      simpa using q
def fIn (neg : Bool) : F2 := fun d e k => match e with
  | .tuple ds => okIn d ds = true ∧ k (.bool (neg != ds.any fun z => PyData.eqv z d))
  | .list ds => okIn d ds = true ∧ k (.bool (neg != ds.any fun z => PyData.eqv z d))
  | _ => False
theorem od_in {neg : Bool} : OpD K (rInG K neg) (fIn neg) := fun O H x y d e k Q hd hs nx ny hf q => by
  unfold fIn at hf
  split at hf
  · exact ⟨d, _, nx.da, .inl ny.da, hf.1, q _ _ H hf.2 (Same.refl H) (.bl _)⟩
  · exact ⟨d, _, nx.da, .inr ny.da, hf.1, q _ _ H hf.2 (Same.refl H) (.bl _)⟩
  · exact hf.elim
/-! ### order of tuples of ints and truths -/
def numD : PyData → Option Int
  | .int i => some i
  | .bool b => some (if b then 1 else 0)
  | _ => Option.none
/-- d >= e, where it can be asked -/
def geNum (d e : PyData) : Option Bool := match numD d, numD e with
  | some i, some j => some (decide (j ≤ i))
  | _, _ => Option.none
def geAll : List PyData → List PyData → Option Bool
  | _, [] => some true
  | [], _ :: _ => some false
  | x :: xs, y :: ys => if PyData.eqv x y = true then geAll xs ys else geNum x y
def numsD (xs : List PyData) : Bool := xs.all fun d => (numD d).isSome
theorem ge_num {A : Around} {s : Shared} {a b : Value} {as bs : List Addr} {d e : PyData} {r : Bool} (ra : Reads s.heap a d as) (rb : Reads s.heap b e bs) (h : geNum d e = some r) : Ob.RcOp .GtE A s a b r := by
  cases ra with
  | int i t =>
    cases rb with
    | int j u =>
      have h' : some (decide (j ≤ i)) = some r := h
      cases h'
      exact Ob.RcOp.ge_int i j t u
    | bool y =>
      have h' : some (decide ((if y = true then (1 : Int) else 0) ≤ i)) = some r := h
      cases h'
      intro prog w E Q h
      exact SeqAt.rc_sub_first_or (typeIs_int s i t) rfl (by decide) F.sub_bool_int F.slot_bool_le_refl
        (call_gives F.slot_bool_le_refl rfl F.entry_int_le (F.args_int_le_2 _ _) (SeqAt.int_le_bool_int y i t) ⟨nofun, h⟩) (.inl rfl)
    | _ => cases h
  | bool x =>
    cases rb with
    | int j u =>
      have h' : some (decide (j ≤ (if x = true then (1 : Int) else 0))) = some r := h
      cases h'
      intro prog w E Q h
      exact SeqAt.rc_left_or rfl (typeIs_int s j u) (by decide) F.sub_int_bool F.slot_bool_ge
        (call_gives F.slot_bool_ge rfl F.entry_int_ge (F.args_int_ge_2 _ _) (SeqAt.int_ge_bool_int x j u) ⟨nofun, h⟩) (.inl rfl)
    | bool y =>
      have h' : some (decide ((if y = true then (1 : Int) else 0) ≤ (if x = true then (1 : Int) else 0))) = some r := h
      cases h'
      intro prog w E Q h
      exact richCompare_gives (T := "bool") rfl rfl F.slot_bool_ge F.entry_int_ge (F.args_int_ge_2 _ _) (SeqAt.int_ge_bool_bool x y) (fun x => nomatch x) h
    | _ => cases h
  | _ => cases h
theorem lexAt_geAll : ∀ (xs ys pre pre2 : List PyData) (r : Bool), pre.length = pre2.length → geAll xs ys = some r →
    Ob.lexAt (SeqAt.pairEq (pre ++ xs) (pre2 ++ ys)) (fun j => (geNum ((pre ++ xs).getD j .none) ((pre2 ++ ys).getD j .none)).getD false) (decide ((pre ++ xs).length ≥ (pre2 ++ ys).length)) pre.length (min xs.length ys.length) = r
  | xs, [], pre, pre2, r, hl, h => by
    have h' : some true = some r := by
      cases xs <;> exact h
    cases h'
    rw [List.length_nil, Nat.min_zero, Ob.lexAt_zero]
    simp [hl]
  | [], y :: ys, pre, pre2, r, hl, h => by
    have h' : some false = some r := h
    cases h'
    rw [List.length_nil, Nat.zero_min, Ob.lexAt_zero]
    simp [hl]
  | x :: xs, y :: ys, pre, pre2, r, hl, h => by
    have e1 : min (x :: xs).length (y :: ys).length = min xs.length ys.length + 1 := by simp only [List.length_cons]; omega
    have g1 : (pre ++ x :: xs).getD pre.length .none = x := by simp
    have g2 : (pre2 ++ y :: ys).getD pre.length .none = y := by rw [hl]; simp
    rw [e1, Ob.lexAt_succ]
    have ep : SeqAt.pairEq (pre ++ x :: xs) (pre2 ++ y :: ys) pre.length = PyData.eqv x y := by
      show PyData.eqv _ _ = _
      rw [g1, g2]
    rw [ep]
    have h' : (if PyData.eqv x y = true then geAll xs ys else geNum x y) = some r := h
    by_cases hq : PyData.eqv x y = true
    · rw [if_pos hq] at h' ⊢
      have ih := lexAt_geAll xs ys (pre ++ [x]) (pre2 ++ [y]) r (by simp [hl]) h'
      simpa using ih
    · rw [if_neg hq] at h' ⊢
      show (geNum ((pre ++ x :: xs).getD pre.length .none) ((pre2 ++ y :: ys).getD pre.length .none)).getD false = r
      rw [g1, g2, h']
      rfl
/-- >= of ints, of tuples of ints and truths -/
def geD (d e : PyData) : Option Bool := match d, e with
  | .int i, .int j => some (decide (j ≤ i))
  | .tuple xs, .tuple ys => if numsD xs && numsD ys then geAll xs ys else Option.none
  | _, _ => Option.none
theorem nums_lay : ∀ {xs : List PyData}, numsD xs = true → PyData.canLayAll0 xs = true ∧ PyData.depthAll xs ≤ 1
  | [], _ => ⟨by rw [PyData.canLayAll0], by rw [PyData.depthAll]; exact Nat.zero_le _⟩
  | x :: xs, h => by
    rw [numsD, List.all_cons, Bool.and_eq_true] at h
    have ih := nums_lay (xs := xs) h.2
    have hx : x.canLay0 = true ∧ x.depth ≤ 1 := by
      cases x with
      | int i => exact ⟨by rw [PyData.canLay0], by simp [PyData.depth]⟩
      | bool i => exact ⟨by rw [PyData.canLay0], by simp [PyData.depth]⟩
      | _ => simp [numD] at h
    refine ⟨by rw [PyData.canLayAll0, hx.1, ih.1] <;> rfl, ?_⟩
    rw [PyData.depthAll]
    exact Nat.max_le.mpr ⟨hx.2, ih.2⟩
def rGeD (K : PySem.W.Frag) : R2 := fun x y H Q => ∃ d e r, Da K H x d ∧ Da K H y e ∧ geD d e = some r ∧ Q (.bl r) H
theorem geNum_some {x y : PyData} (hx : (numD x).isSome = true) (hy : (numD y).isSome = true) : ∃ r, geNum x y = some r := by
  unfold geNum
  cases h1 : numD x with
  | none => rw [h1] at hx; cases hx
  | some i =>
    cases h2 : numD y with
    | none => rw [h2] at hy; cases hy
    | some j => exact ⟨_, rfl⟩
theorem op_geD (hu : X.A.units + 66 < cLine) (hK : X.K = K := by rfl) : OpR X (compareOp .GtE) (rGeD K) := by
  subst hK
  intro pins s σ H x y v u Q I rx ry h
  obtain ⟨d, e, r, hd, he, ok, q⟩ := h
  obtain ⟨as, r1, _⟩ := da_reads I hd rx
  obtain ⟨bs, r2, _⟩ := da_reads I he ry
  unfold geD at ok
  split at ok
  · cases ok
    cases r1
    cases r2
    exact Ob.RcOp.ge_int _ _ _ _ X.prog X.w X.xe _ ⟨.bl _, H, I, rfl, q⟩
  · rename_i xs ys
    split at ok
    · rename_i hn
      rw [Bool.and_eq_true] at hn
      cases r1 with
      | @tuple l o vs n _ _ h1 h2 h3 h4 =>
        cases r2 with
        | @tuple l' o' vs' n' _ _ k1 k2 k3 k4 =>
          have hl : s.heap.IsTuple l vs := ⟨_, h1, h2, _, h3⟩
          have hl' : s.heap.IsTuple l' vs' := ⟨_, k1, k2, _, k3⟩
          have n1 : vs.size = xs.length := by simpa using SeqAt.ReadsAll.length _ _ _ h4
          have n2 : vs'.size = ys.length := by simpa using SeqAt.ReadsAll.length _ _ _ k4
          have l1 := nums_lay hn.1
          have l2 := nums_lay hn.2
          have room : X.A.in1.units + min (PyData.depthAll xs) (PyData.depthAll ys) < cLine := by
            show X.A.units + 1 + _ < _
            omega
          have z := Ob.RcOp.tuples_ge (A := X.A) (e := SeqAt.pairEq xs ys) (r := fun j => (geNum (xs.getD j .none) (ys.getD j .none)).getD false) hl hl' (by omega) (fun j j1 j2 => by
            have := SeqAt.eqAt_readsAll xs ys X.A.in1 s vs.toList vs'.toList _ _ h4 k4 l1.1 l2.1 room j (by simpa using j1) (by simpa using j2)
            simpa using this) (fun j j1 j2 _ => by
            have e1 : vs.toList[j]? = some vs[j] := by simp [j1]
            have e2 : vs'.toList[j]? = some vs'[j] := by simp [j2]
            obtain ⟨dx, cs, hx, rx'⟩ := readsAll_get h4 e1
            obtain ⟨dy, cs', hy, ry'⟩ := readsAll_get k4 e2
            have p1 : (numD dx).isSome = true := List.all_eq_true.mp hn.1 dx (List.mem_of_getElem? hx)
            have p2 : (numD dy).isSome = true := List.all_eq_true.mp hn.2 dy (List.mem_of_getElem? hy)
            obtain ⟨r, hr⟩ := geNum_some p1 p2
            have g := ge_num (A := X.A.in1) rx' ry' hr
            show Ob.RcOp .GtE X.A.in1 s vs[j] vs'[j] ((geNum (xs.getD j .none) (ys.getD j .none)).getD false)
            rw [List.getD_eq_getElem?_getD, List.getD_eq_getElem?_getD, hx, hy]
            show Ob.RcOp .GtE X.A.in1 s vs[j] vs'[j] ((geNum dx dy).getD false)
            rw [hr]
            exact g)
          have el := lexAt_geAll xs ys [] [] r rfl ok
          rw [List.nil_append, List.nil_append, List.length_nil] at el
          rw [n1, n2, el] at z
          exact z X.prog X.w X.xe _ ⟨.bl _, H, I, rfl, q⟩
    · cases ok
  · cases ok
def fGeD : F2 := fun d e k => match geD d e with
  | some r => k (.bool r)
  | Option.none => False
theorem od_geD : OpD K (rGeD K) fGeD := fun O H x y d e k Q hd hs nx ny hf q => by
  unfold fGeD at hf
  split at hf
  · rename_i r hr
    exact ⟨d, e, r, nx.da, ny.da, hr, q _ _ H hf (Same.refl H) (.bl _)⟩
  · exact hf.elim
/-! ### is -/
theorem is_bool_gen {M : Model} {A : Around} {E : Value → Shared → Prop} {s : Shared} {v : Value} {b : Bool} {Q : Value → Shared → Prop} (hv : ∀ n, v ≠ .builtin n) (h : Q (.bool (v == .bool b)) s) : wpAny M A (compareOp .Is v (.bool b)) Q E s := by
  cases v <;> first | exact wpAny_pure h | exact absurd rfl (hv _)
theorem isnot_bool_gen {M : Model} {A : Around} {E : Value → Shared → Prop} {s : Shared} {v : Value} {b : Bool} {Q : Value → Shared → Prop} (hv : ∀ n, v ≠ .builtin n) (h : Q (.bool (!(v == .bool b))) s) : wpAny M A (compareOp .IsNot v (.bool b)) Q E s := by
  cases v <;> first | exact wpAny_pure h | exact absurd rfl (hv _)
def isB (b : Bool) : V → Bool
  | .bl a => a == b
  | _ => false
theorem rel_isB {x : V} {v : Value} {b : Bool} (r : RelV x v) : (v == Value.bool b) = isB b x ∧ ∀ n, v ≠ .builtin n := by
  cases x with
  | non => cases r; exact ⟨rfl, fun _ => nofun⟩
  | bl a =>
    cases r
    refine ⟨?_, fun _ => nofun⟩
    show (Value.bool a == Value.bool b) = (a == b)
    by_cases e : a = b
    · subst e
      rw [beq_self_eq_true, beq_self_eq_true]
    · rw [beq_eq_false_iff_ne.mpr (fun z => e (Value.bool.inj z)), beq_eq_false_iff_ne.mpr e]
  | int _ => obtain ⟨t, rfl⟩ := r; exact ⟨rfl, fun _ => nofun⟩
  | str _ => obtain ⟨t, rfl⟩ := r; exact ⟨rfl, fun _ => nofun⟩
  | byt _ => obtain ⟨t, rfl⟩ := r; exact ⟨rfl, fun _ => nofun⟩
  | flt _ => obtain ⟨t, rfl⟩ := r; exact ⟨rfl, fun _ => nofun⟩
  | ref _ => cases r; exact ⟨rfl, fun _ => nofun⟩
  | ty _ => cases r; exact ⟨rfl, fun _ => nofun⟩
def rIsG (neg : Bool) : R2 := fun x y H Q => ∃ b, y = .bl b ∧ Q (.bl (neg != isB b x)) H
theorem op_isG : OpR X (compareOp .Is) (rIsG false) := by
  intro pins s σ H x y v u Q I rx ry h
  obtain ⟨b, rfl, q⟩ := h
  cases (show u = Value.bool b from ry)
  refine is_bool_gen (rel_isB rx (b := b)).2 ⟨.bl _, H, I, rfl, ?_⟩
  rw [(rel_isB rx).1]
  simpa using q
theorem op_isNotG : OpR X (compareOp .IsNot) (rIsG true) := by
  intro pins s σ H x y v u Q I rx ry h
  obtain ⟨b, rfl, q⟩ := h
  cases (show u = Value.bool b from ry)
  refine isnot_bool_gen (rel_isB rx (b := b)).2 ⟨.bl _, H, I, rfl, ?_⟩
  rw [(rel_isB rx).1]
  simpa using q
def isBd (b : Bool) : PyData → Bool
  | .bool a => a == b
  | _ => false
def fIs (neg : Bool) : F2 := fun d e k => match e with
  | .bool b => k (.bool (neg != isBd b d))
  | _ => False
theorem isB_d {O : List Addr} {H : Hp} {x : V} {d : PyData} {b : Bool} (h : Nq K O H x d) : isB b x = isBd b d := by
  have h := h.da
  cases h <;> rfl
theorem od_is {neg : Bool} : OpD K (rIsG neg) (fIs neg) := fun O H x y d e k Q hd hs nx ny hf q => by
  unfold fIs at hf
  split at hf
  · cases nq_bl ny
    exact ⟨_, rfl, by rw [isB_d nx]; exact q _ _ H hf (Same.refl H) (.bl _)⟩
  · exact hf.elim
/-- is None -/
def isNd : PyData → Bool
  | .none => true
  | _ => false
def fIsN (neg : Bool) : F2 := fun d e k => match e with
  | .none => k (.bool (neg != isNd d))
  | _ => False
theorem isN_d {O : List Addr} {H : Hp} {x : V} {d : PyData} (h : Nq K O H x d) : decide (x = .non) = isNd d := by
  have h := h.da
  cases h <;> rfl
theorem od_isN : OpD K (fun x y H Q => y = .non ∧ Q (.bl (decide (x = .non))) H) (fIsN false) := fun O H x y d e k Q hd hs nx ny hf q => by
  unfold fIsN at hf
  split at hf
  · exact ⟨nq_non ny, by rw [isN_d nx]; exact q _ _ H (by simpa using hf) (Same.refl H) (.bl _)⟩
  · exact hf.elim
theorem od_isNotN : OpD K (fun x y H Q => y = .non ∧ Q (.bl (!decide (x = .non))) H) (fIsN true) := fun O H x y d e k Q hd hs nx ny hf q => by
  unfold fIsN at hf
  split at hf
  · exact ⟨nq_non ny, by rw [isN_d nx]; exact q _ _ H (by simpa using hf) (Same.refl H) (.bl _)⟩
  · exact hf.elim
def fNeg : PyData → (PyData → Prop) → Prop := fun d k => match d with
  | .int i => k (.int (-i))
  | _ => False
theorem od_neg : UnD K (rU fun i => .int (-i)) fNeg := fun O H x d k Q hd hs nx hf q => by
  unfold fNeg at hf
  split at hf
  · cases nq_int nx
    exact ⟨_, rfl, q _ _ H hf (Same.refl H) (.int _)⟩
  · exact hf.elim
/-! ### places, slices -/
def fIx : F2 := fun d e k => match d, e with
  | .list ds, .int i => match atI ds i with
    | some z => k z
    | Option.none => False
  | .tuple ds, .int i => match atI ds i with
    | some z => k z
    | Option.none => False
  | _, _ => False
theorem atI_all {H : Hp} {xs : List V} {ds : List PyData} {i : Int} {z : PyData} (h : DaAll K H xs ds) (e : atI ds i = some z) : ∃ x, atI xs i = some x ∧ Da K H x z := by
  unfold atI at e ⊢
  rw [daAll_len h]
  cases hj : ixN ds.length i with
  | none => rw [hj] at e; cases e
  | some j =>
    rw [hj] at e
    exact daAll_at h e
theorem od_ix : OpD K (rIx K) fIx := fun O H x y d e k Q hd hs nx ny hf q => by
  unfold fIx at hf
  split at hf
  · cases nq_int ny
    obtain ⟨a, xs, rfl, h1, _, h3⟩ := nq_lst nx
    split at hf
    · rename_i z hz
      obtain ⟨v, hv, dv⟩ := atI_all h3 hz
      exact .inl ⟨a, xs, _, v, rfl, rfl, SqL.of h1, hv, q _ _ H hf (Same.refl H) dv⟩
    · exact hf.elim
  · cases nq_int ny
    obtain ⟨a, xs, rfl, h1, _, h3⟩ := nq_tup nx
    split at hf
    · rename_i z hz
      obtain ⟨v, hv, dv⟩ := atI_all h3 hz
      exact .inr (.inl ⟨a, xs, _, v, rfl, rfl, h1, hv, q _ _ H hf (Same.refl H) dv⟩)
    · exact hf.elim
  · exact hf.elim
theorem de_ix {ma mb : ME} (hr : IxR X (rIx K)) (ha : PE X a (upN K c ma)) (hb : PE X b (upN K c mb)) (hs : PlainIx b) : PE X (.Subscript a b pos) (up K c (m2 fIx ma mb)) := pe_mono (pe_ix hr ha hb hs) (up_op od_ix)
abbrev MO := List DV → (Option Int → Prop) → Prop
def upO (K : PySem.W.Frag) (c : Bs) (m : MO) : TO := fun σ H Q => ∃ F env O k, Rel K c F env O σ H ∧ m env k ∧ ∀ o H', k o → Gx c H H' → Q o H'
def mNoP : MO := fun _ k => k Option.none
def mPart (m : ME) : MO := fun env k => m env fun d => match d with
  | .int i => k (some i)
  | _ => False
theorem po_mono {o : Option Expr} {t t' : TO} (h : PO X o t) (w : ∀ σ H Q, t' σ H Q → t σ H Q) : PO X o t' := ⟨fun pins s σ H Q I q => h.run pins s σ H Q I (w _ _ _ q)⟩
theorem do_none : PO X Option.none (upO K c mNoP) := po_mono po_none fun σ H Q ⟨F, env, O, k, R, hm, q⟩ => q _ H hm R.refl
theorem do_some {m : ME} (h : PE X e (upN K c m)) : PO X (some e) (upO K c (mPart m)) := po_mono (po_some h) fun σ H Q ⟨F, env, O, k, R, hm, q⟩ => ⟨F, env, O, _, R, hm, fun d x H' kd g n => by
  split at kd
  · cases nq_int n.nq
    exact ⟨_, rfl, q _ H' kd g⟩
  · exact kd.elim⟩
def cutD (ds : List PyData) (lo hi : Option Int) : List PyData := (ds.drop (HT.sIx ds.length 0 lo)).take (HT.sIx ds.length ds.length hi - HT.sIx ds.length 0 lo)
theorem cut_all {H : Hp} {xs : List V} {ds : List PyData} {lo hi : Option Int} (h : DaAll K H xs ds) : DaAll K H (cutV xs lo hi) (cutD ds lo hi) := by
  unfold cutV cutD
  rw [daAll_len h]
  exact daAll_take _ (daAll_drop _ h)
def mSl (m : ME) (l h : MO) : ME := fun env k => m env fun d => l env fun lo => h env fun hi => match d with
  | .list ds => k (.list (cutD ds lo hi))
  | .tuple ds => k (.tuple (cutD ds lo hi))
  | _ => False
def mSlL (m : ME) (l h : MO) : ME := fun env k => m env fun d => l env fun lo => h env fun hi => match d with
  | .list ds => k (.list (cutD ds lo hi))
  | _ => False
def mSlT (m : ME) (l h : MO) : ME := fun env k => m env fun d => l env fun lo => h env fun hi => match d with
  | .tuple ds => k (.tuple (cutD ds lo hi))
  | _ => False
variable {lo hi : Option Expr} {p2 : Pos}
theorem de_slL {m : ME} {l h : MO} (hr : SlR X (rSlL K)) (he : PE X e (upN K c m)) (hl : PO X lo (upO K c l)) (hu : PO X hi (upO K c h)) : PE X (.Subscript e (.Slice lo hi Option.none p2) pos) (upL K c (mSlL m l h)) := pe_mono (pe_slice hr he hl hu) fun σ H Q ⟨F, env, O, k, R, hm, q⟩ => by
  refine ⟨F, env, O, _, R, hm, fun d x H1 kd g1 n => ⟨F, env, O, _, R.gx g1, kd, fun lo H2 k2 g2 => ⟨F, env, O, _, (R.gx g1).gx g2, k2, fun hi H3 k3 g3 => ?_⟩⟩⟩
  have R1 := R.gx g1
  have R2 := R1.gx g2
  have R3 := R2.gx g3
  split at k3
  · have n3 := ((n.gx R1 g2).gx R2 g3).nq
    obtain ⟨a, xs, rfl, h1, _, h3⟩ := nq_lst n3
    refine ⟨a, xs, rfl, SqL.of h1, fun p np => ?_⟩
    have g := (g1.trans g2).trans g3
    have s : Same H3 (upd H3 p (.lst (cutV xs lo hi))) := Evl.Ex.new np
    have nH : H p = Option.none := by
      cases e : H p with
      | none => rfl
      | some o =>
        by_cases hb : p ∈ c.b
        · obtain ⟨o, eo⟩ := R3.dom p (R.bO p hb)
          rw [np] at eo
          cases eo
        · rw [g.kp p o hb e] at np
          cases np
    have nsys : p ≠ sysModules := fun z => by
      obtain ⟨φ, e⟩ := R3.sys
      rw [← z, np] at e
      cases e
    exact q _ p _ _ _ k3 rfl (g.trans (R3.same s)) nH upd_same nsys (daAll_same (offs_new np s) (cut_all h3))
  · exact k3.elim
theorem de_slT {m : ME} {l h : MO} (hr : SlR X (rSlA K)) (he : PE X e (upN K c m)) (hl : PO X lo (upO K c l)) (hu : PO X hi (upO K c h)) : PE X (.Subscript e (.Slice lo hi Option.none p2) pos) (up K c (mSlT m l h)) := pe_mono (pe_slice hr he hl hu) fun σ H Q ⟨F, env, O, k, R, hm, q⟩ => by
  refine ⟨F, env, O, _, R, hm, fun d x H1 kd g1 n => ⟨F, env, O, _, R.gx g1, kd, fun lo H2 k2 g2 => ⟨F, env, O, _, (R.gx g1).gx g2, k2, fun hi H3 k3 g3 => ?_⟩⟩⟩
  have R1 := R.gx g1
  have R2 := R1.gx g2
  have R3 := R2.gx g3
  split at k3
  · have n3 := ((n.gx R1 g2).gx R2 g3).nq
    obtain ⟨a, xs, rfl, h1, h2, h3⟩ := nq_tup n3
    have g := (g1.trans g2).trans g3
    refine ⟨a, xs, rfl, h1, fun w => ?_, fun _ p np => ?_⟩
    · refine q _ _ H3 k3 g ?_
      have e : ∀ ds : List PyData, DaAll K (offs O H3) xs ds → cutD ds lo hi = ds := fun ds hds => by
        unfold cutD
        rw [← daAll_len hds, w.1, w.2, List.drop_zero, Nat.sub_zero, daAll_len hds, List.take_length]
      rw [e _ h3]
      exact .tup h2 h3
    · exact q _ _ _ k3 (g.trans (R3.same (Evl.Ex.new np))) (new_tup R3.dom np (cut_all h3))
  · exact k3.elim
/-! ### truth -/
def truD : PyData → Option Bool
  | .none => some false
  | .bool b => some b
  | .int i => some (i != 0)
  | .str x => if x.length ≤ 100000 then some ((x.length : Int) != 0) else Option.none
  | .list ds => some (!ds.isEmpty)
  | .tuple ds => some (!ds.isEmpty)
  | .dict _ => Option.none
theorem truV_of {O : List Addr} {H : Hp} {x : V} {d : PyData} {b : Bool} (h : Nq K O H x d) (e : truD d = some b) : TruV K x H b := by
  cases d with
  | none => cases nq_non h; cases e; rfl
  | bool _ => cases nq_bl h; cases e; rfl
  | int _ => cases nq_int h; cases e; rfl
  | str y =>
    cases nq_str h
    have e' : (if y.length ≤ 100000 then some ((y.length : Int) != 0) else Option.none) = some b := e
    split at e'
    · cases e'
      exact ⟨Evl.sz_of (by assumption), rfl⟩
    · cases e'
  | list ds =>
    obtain ⟨a, xs, rfl, h1, _, h3⟩ := nq_lst h
    cases e
    refine .inl ⟨xs, SqL.of h1, ?_⟩
    cases h3 <;> rfl
  | tuple ds =>
    obtain ⟨a, xs, rfl, h1, _, h3⟩ := nq_tup h
    cases e
    refine .inr (.inl ⟨xs, h1, ?_⟩)
    cases h3 <;> rfl
  | dict _ => cases e
def mTru (m : ME) : MT := fun env k => m env fun d => match truD d with
  | some b => k b
  | Option.none => False
theorem dt_val {m : ME} (hK : X.K = K) (h : PE X a (upN K c m)) (he : ∀ whole, isTrue a X.env whole = (do let v ← whole; standAt a.pos; holding [v] (truthy v)) := by intro _; rfl) : PT X a (upT K c (mTru m)) := by
  subst hK
  refine pt_mono (pt_truth h he) fun σ H Q ⟨F, env, O, k, R, hm, q⟩ => ⟨F, env, O, _, R, hm, fun d x H' kd g n => ?_⟩
  split at kd
  · rename_i b hb
    exact ⟨b, truV_of n.nq hb, q _ _ kd g⟩
  · exact kd.elim
def mNotD (m : ME) : ME := fun env k => m env fun d => match truD d with
  | some b => k (.bool (!b))
  | Option.none => False
theorem de_not {m : ME} (hK : X.K = K) (h : PE X a (upN K c m)) : PE X (.UnaryOp .Not a pos) (up K c (mNotD m)) := by
  subst hK
  refine pe_mono (pe_notT h) fun σ H Q ⟨F, env, O, k, R, hm, q⟩ => ⟨F, env, O, _, R, hm, fun d x H' kd g n => ?_⟩
  split at kd
  · rename_i b hb
    exact ⟨b, truV_of n.nq hb, q _ _ _ kd g (.bl _)⟩
  · exact kd.elim
end
end Du

/-! Builtins on data; enumerate, zip; two comprehensions in one. -/
namespace Du
open PySem PySem.Spec PyProof.Rows L2 On
abbrev FL := List PyData → (PyData → Prop) → Prop
section
variable {K : PySem.W.Frag} {c : Bs} {X : Cx} {e a b : Expr} {pos : Pos}
theorem pq1 {O : List Addr} {H : Hp} {xs : List V} {d : PyData} (h : Paired (Nq K O H) xs [d]) : ∃ x, xs = [x] ∧ Nq K O H x d := by
  cases h with
  | cons r t =>
    cases t
    exact ⟨_, rfl, r⟩
theorem pq2 {O : List Addr} {H : Hp} {xs : List V} {d e : PyData} (h : Paired (Nq K O H) xs [d, e]) : ∃ x y, xs = [x, y] ∧ Nq K O H x d ∧ Nq K O H y e := by
  cases h with
  | cons r t =>
    cases t with
    | cons r2 t =>
      cases t
      exact ⟨_, _, rfl, r, r2⟩
def fLen : FL := fun as k => match as with
  | [.list ds] => k (.int ds.length)
  | [.tuple ds] => k (.int ds.length)
  | _ => False
theorem cd_len : CallD K (On.rLen K) fLen := fun O H xs ds k Q hd hs ps hf q => by
  unfold fLen at hf
  split at hf
  · obtain ⟨x, rfl, n⟩ := pq1 ps
    obtain ⟨a, ys, rfl, h1, _, h3⟩ := nq_lst n
    exact ⟨a, ys, rfl, .inl (SqL.of h1), by rw [daAll_len h3]; exact q _ _ H hf (Same.refl H) (.int _)⟩
  · obtain ⟨x, rfl, n⟩ := pq1 ps
    obtain ⟨a, ys, rfl, h1, _, h3⟩ := nq_tup n
    exact ⟨a, ys, rfl, .inr h1, by rw [daAll_len h3]; exact q _ _ H hf (Same.refl H) (.int _)⟩
  · exact hf.elim
def fAbs : FL := fun as k => match as with
  | [.int i] => k (.int (if i < 0 then -i else i))
  | _ => False
theorem cd_abs : CallD K (fun xs H Q => ∃ i, xs = [.int i] ∧ Q (.int (if i < 0 then -i else i)) H) fAbs := fun O H xs ds k Q hd hs ps hf q => by
  unfold fAbs at hf
  split at hf
  · obtain ⟨x, rfl, n⟩ := pq1 ps
    cases nq_int n
    exact ⟨_, rfl, q _ _ H hf (Same.refl H) (.int _)⟩
  · exact hf.elim
def fInt : FL := fun as k => match as with
  | [.int i] => k (.int i)
  | [.bool b] => k (.int (if b then 1 else 0))
  | _ => False
theorem cd_int : CallD K (fun xs H Q => (∃ i, xs = [.int i] ∧ Q (.int i) H) ∨ ∃ k, xs = [.bl k] ∧ Q (.int (if k then 1 else 0)) H) fInt := fun O H xs ds k Q hd hs ps hf q => by
  unfold fInt at hf
  split at hf
  · obtain ⟨x, rfl, n⟩ := pq1 ps
    cases nq_int n
    exact .inl ⟨_, rfl, q _ _ H hf (Same.refl H) (.int _)⟩
  · obtain ⟨x, rfl, n⟩ := pq1 ps
    cases nq_bl n
    exact .inr ⟨_, rfl, q _ _ H hf (Same.refl H) (.int _)⟩
  · exact hf.elim
def fMin2 : FL := fun as k => match as with
  | [.int i, .int j] => k (.int (if j < i then j else i))
  | _ => False
theorem cd_min2 : CallD K (fun xs H Q => ∃ i j, xs = [.int i, .int j] ∧ Q (.int (if j < i then j else i)) H) fMin2 := fun O H xs ds k Q hd hs ps hf q => by
  unfold fMin2 at hf
  split at hf
  · obtain ⟨x, y, rfl, n1, n2⟩ := pq2 ps
    cases nq_int n1
    cases nq_int n2
    exact ⟨_, _, rfl, q _ _ H hf (Same.refl H) (.int _)⟩
  · exact hf.elim
def fTuple : FL := fun as k => match as with
  | [.list ds] => k (.tuple ds)
  | [.tuple ds] => k (.tuple ds)
  | _ => False
theorem cd_tuple : CallD K (rTupOf K) fTuple := fun O H xs ds k Q hd hs ps hf q => by
  unfold fTuple at hf
  split at hf
  · obtain ⟨x, rfl, n⟩ := pq1 ps
    obtain ⟨a, ys, rfl, h1, _, h3⟩ := nq_lst n
    exact ⟨a, ys, rfl, .inl ⟨SqL.of h1, fun p np => q _ _ _ hf (Evl.Ex.new np) (new_tup hd np h3)⟩⟩
  · obtain ⟨x, rfl, n⟩ := pq1 ps
    obtain ⟨a, ys, rfl, h1, h2, h3⟩ := nq_tup n
    exact ⟨a, ys, rfl, .inr ⟨h1, q _ _ H hf (Same.refl H) (.tup h2 h3)⟩⟩
  · exact hf.elim
def fList : FL := fun as k => match as with
  | [.list ds] => k (.list ds)
  | [.tuple ds] => k (.list ds)
  | _ => False
theorem cl_list : CallL K (rListOf K) fList := fun O H xs ds k Q hd hs ps hf q => by
  unfold fList at hf
  split at hf
  · obtain ⟨x, rfl, n⟩ := pq1 ps
    obtain ⟨a, ys, rfl, h1, _, h3⟩ := nq_lst n
    exact ⟨a, ys, rfl, .inl (SqL.of h1), fun p np => q _ _ p _ _ hf rfl (Evl.Ex.new np) np upd_same (daAll_same (offs_new np (Evl.Ex.new np)) h3)⟩
  · obtain ⟨x, rfl, n⟩ := pq1 ps
    obtain ⟨a, ys, rfl, h1, h2, h3⟩ := nq_tup n
    exact ⟨a, ys, rfl, .inr h1, fun p np => q _ _ p _ _ hf rfl (Evl.Ex.new np) np upd_same (daAll_same (offs_new np (Evl.Ex.new np)) h3)⟩
  · exact hf.elim
def boolsOf : List PyData → Option (List Bool)
  | [] => some []
  | .bool b :: r => (boolsOf r).map (b :: ·)
  | _ :: _ => Option.none
theorem bools_of {H : Hp} : ∀ {xs : List V} {ds : List PyData} {bs : List Bool}, DaAll K H xs ds → boolsOf ds = some bs → xs = bs.map V.bl
  | _, _, _, .nil, e => by
    cases e
    rfl
  | _, _, _, .cons (d := d) h t, e => by
    cases d with
    | bool b =>
      unfold boolsOf at e
      obtain ⟨r, e1, e2⟩ := Option.map_eq_some_iff.mp e
      subst e2
      rw [da_bl h, bools_of t e1] <;> rfl
    | _ => cases e
def fAll : FL := fun as k => match as with
  | [.list ds] => match boolsOf ds with
    | some bs => k (.bool (bs.all id))
    | Option.none => False
  | _ => False
def fAny : FL := fun as k => match as with
  | [.list ds] => match boolsOf ds with
    | some bs => k (.bool (bs.any id))
    | Option.none => False
  | _ => False
theorem cd_all : CallD K (rAll K) fAll := fun O H xs ds k Q hd hs ps hf q => by
  unfold fAll at hf
  split at hf
  · split at hf
    · rename_i bs hb
      obtain ⟨x, rfl, n⟩ := pq1 ps
      obtain ⟨a, ys, rfl, h1, _, h3⟩ := nq_lst n
      exact ⟨a, bs, rfl, by rw [← bools_of h3 hb]; exact SqL.of h1, q _ _ H hf (Same.refl H) (.bl _)⟩
    · exact hf.elim
  · exact hf.elim
theorem cd_any : CallD K (rAny K) fAny := fun O H xs ds k Q hd hs ps hf q => by
  unfold fAny at hf
  split at hf
  · split at hf
    · rename_i bs hb
      obtain ⟨x, rfl, n⟩ := pq1 ps
      obtain ⟨a, ys, rfl, h1, _, h3⟩ := nq_lst n
      exact ⟨a, bs, rfl, by rw [← bools_of h3 hb]; exact SqL.of h1, q _ _ H hf (Same.refl H) (.bl _)⟩
    · exact hf.elim
  · exact hf.elim
/-! ### isinstance -/
def tyN (T : String) : Bool := T == "int" || (T == "bool" || (T == "tuple" || T == "list"))
theorem tyN_or {T : String} (h : tyN T = true) : T = "int" ∨ T = "bool" ∨ T = "tuple" ∨ T = "list" := by
  unfold tyN at h
  simpa using h
theorem tyx_sqT {H : Hp} {p : Addr} {xs : List V} (h : SqT K H p xs) : TyX K H (.ref p) (.type "tuple") := by
  rcases h with (h | ⟨o, h⟩) | ⟨o, its, n, h, hc, _⟩
  · exact .base (.tup h)
  · exact .fTuple h
  · exact .kTuple h hc
/-- data that isinstance can be asked of -/
def isiOk : PyData → Bool
  | .dict ((.tuple _, _) :: _) => false
  | _ => true
theorem key_tup {H : Hp} {a : Addr} {d : PyData} {k : NestedKey} (h : Da K H (.ref a) d) (e : keyT d = some k) : ∃ ds, d = .tuple ds := by
  unfold keyT at e
  split at e
  · cases h with
    | tup _ _ => exact ⟨_, rfl⟩
    | lst _ _ _ => cases e
    | dct _ _ => cases e
    | dtt _ _ _ _ _ _ _ => cases e
  · cases e
theorem tyx_da {H : Hp} {v : V} {d : PyData} (h : Da K H v d) (ok : isiOk d = true) : TyX K H v (.type (kindOf d)) := by
  cases h with
  | non => exact .base .non
  | bl b => exact .base (.bl b)
  | int i => exact .base (.int i)
  | str x => exact .base (.str x)
  | lst h1 _ _ => exact .base (.lst h1)
  | tup h1 _ => exact tyx_sqT h1
  | dct h1 _ => exact .base (.dK h1)
  | @dtt a ents ps h1 h2 h3 h4 h5 h6 h7 =>
    cases ps with
    | nil => exact absurd rfl h7
    | cons p ps =>
      cases ents with
      | nil => cases h5
      | cons e ents =>
        obtain ⟨kd, vd⟩ := p
        have h3' : DaAll K H (.ref e.2.1 :: ents.map fun e => V.ref e.2.1) (kd :: ps.map Prod.fst) := h3
        cases h3' with
        | cons q _ =>
          have e5 : keyT kd = some e.1 := (List.cons.inj h5).1
          obtain ⟨ds, rfl⟩ := key_tup q e5
          cases ok
def mIsi (T : String) (m : ME) : ME := fun env k => m env fun d => (tyN T = true ∧ isiOk d = true) ∧ k (.bool (isK d T))
theorem up_isi {T : String} {m : ME} (σ : L2.St) (H : Hp) (Q : VK) (h : up K c (mIsi T m) σ H Q) : tCB (rIsi K) (tCons (upN K c m) (tCons (tC (.ty T)) tNil)) σ H Q := by
  obtain ⟨F, env, O, k, R, hm, q⟩ := h
  exact ⟨F, env, O, _, R, hm, fun d x H' kd g n => ⟨x, .ty T, _, _, _, rfl, .ty T, tyx_da n.nq.da kd.1.2, kit_ty (kit_any d (tyN_or kd.1.1)), q _ _ H' kd.2 g (.bl _)⟩⟩
theorem de_isi {T : String} {m : ME} (h : PE X e (tCB (rIsi K) (tCons (upN K c m) (tCons (tC (.ty T)) tNil)))) : PE X e (up K c (mIsi T m)) := pe_mono h up_isi
/-- isinstance(x, (T, U)) -/
def mIsi2 (T U : String) (m : ME) : ME := fun env k => m env fun d => ((tyN T = true ∧ tyN U = true) ∧ isiOk d = true) ∧ k (.bool (isK d T || isK d U))
theorem de_isi2 {T U : String} {m : ME} (h : PE X e (tCB (rIsiT K) (tCons (upN K c m) (tCons (tTup (tCons (tC (.ty T)) (tCons (tC (.ty U)) tNil))) tNil)))) : PE X e (up K c (mIsi2 T U m)) := pe_mono h fun σ H Q ⟨F, env, O, k, R, hm, q⟩ =>
  ⟨F, env, O, _, R, hm, fun d x H' kd g n => ⟨by show 2 ≤ sizeLine; decide, fun p np => by
    have s : Same H' (upd H' p (.tup [V.ty T, V.ty U])) := Evl.Ex.new np
    refine ⟨x, p, _, _, [Value.type T, Value.type U], isK d T || isK d U, rfl, upd_same, .cons (.ty T) (.cons (.ty U) .nil), tyx_da (da_same s n.nq.da) kd.1.2, ?_, q _ _ _ kd.2 (g.trans ((R.gx g).same s)) (.bl _)⟩
    refine kitAny_cons (kit_ty (kit_any d (tyN_or kd.1.1.1))) (fun e => ?_) (fun e => by rw [e, Bool.true_or])
    rw [e, Bool.false_or]
    refine kitAny_cons (kit_ty (kit_any d (tyN_or kd.1.1.2))) (fun e => ?_) (fun e => e)
    rw [e]
    rfl⟩⟩
/-! ### repr -/
def okShow (d : PyData) : Bool := d.showable && (decide (d.depth ≤ 64) && decide (d.shown.length ≤ 16000000))
def fRepr : FL := fun as k => match as with
  | [d] => (d.showable = true ∧ d.depth ≤ 64 ∧ d.shown.length ≤ sizeLine) ∧ k (.str d.shown)
  | _ => False
def rReprA (K : PySem.W.Frag) : List V → Hp → VK → Prop := fun xs H Q => ∃ x d, xs = [x] ∧ Da K H x d ∧ d.showable = true ∧ d.depth ≤ 64 ∧ d.shown.length ≤ sizeLine ∧ Q (.str d.shown) H
theorem call_reprA (hg : X.A.guards = some []) (hu : X.A.units + 66 < cLine) (hK : X.K = K := by rfl) : CallR X (.builtin "repr") (rReprA K) := by
  subst hK
  intro pins s σ H xs us Q I r h
  obtain ⟨x, d, rfl, hd, hs, h64, hz, q⟩ := h
  obtain ⟨u, rfl, ru⟩ := vals1 r
  obtain ⟨as, rd, hn⟩ := da_reads I hd ru
  cases hd with
  | non =>
    cases ru
    exact PySem.P.repr_of_none ⟨.str _, H, I.tok _, ⟨_, rfl⟩, by simpa only [PyData.shown] using q⟩
  | bl b =>
    cases ru
    exact PySem.P.repr_of_bool ⟨.str _, H, I.tok _, ⟨_, rfl⟩, by simpa only [PyData.shown] using q⟩
  | int i =>
    obtain ⟨t, rfl⟩ := ru
    exact PySem.P.repr_of_int (by simpa [PyData.showable] using hs) ⟨.str _, H, I.tok _, ⟨_, rfl⟩, by simpa only [PyData.shown] using q⟩
  | str z =>
    obtain ⟨t, rfl⟩ := ru
    exact PySem.P.repr_of_str ⟨.str _, H, I.tok _, ⟨_, rfl⟩, by simpa only [PyData.shown] using q⟩ (by simpa only [PyData.shown] using hz)
  | lst h1 h2 h3 =>
    cases ru
    exact repr_of_reads' rd hs (fun _ => hn) hg (by omega) (fun _ _ e => e) (fun h' u tk hk => ⟨.str _, H, I.kept (t' := tk) hk, ⟨u, rfl⟩, q⟩) hz
  | tup h1 h3 =>
    cases ru
    exact repr_of_reads' rd hs (fun _ => hn) hg (by omega) (fun _ _ e => e) (fun h' u tk hk => ⟨.str _, H, I.kept (t' := tk) hk, ⟨u, rfl⟩, q⟩) hz
  | dct h1 h3 =>
    cases ru
    exact repr_of_reads' rd hs (fun _ => hn) hg (by omega) (fun _ _ e => e) (fun h' u tk hk => ⟨.str _, H, I.kept (t' := tk) hk, ⟨u, rfl⟩, q⟩) hz
  | dtt h1 h2 h3 h4 h5 h6 h7 =>
    cases ru
    exact repr_of_reads' rd hs (fun _ => hn) hg (by omega) (fun _ _ e => e) (fun h' u tk hk => ⟨.str _, H, I.kept (t' := tk) hk, ⟨u, rfl⟩, q⟩) hz
theorem cd_repr : CallD K (rReprA K) fRepr := fun O H xs ds k Q hd hs ps hf q => by
  unfold fRepr at hf
  split at hf
  · obtain ⟨x, rfl, n⟩ := pq1 ps
    exact ⟨x, _, rfl, n.da, hf.1.1, hf.1.2.1, hf.1.2.2, q _ _ H hf.2 (Same.refl H) (.str _)⟩
  · exact hf.elim
/-! ### calls of builtins, of types -/
variable {es : List Expr}
theorem de_b {r : List V → Hp → VK → Prop} {f : FL} {ms : MA} (hf : CallD K r f) (h : PE X e (tCB r (upAN K c ms))) : PE X e (up K c (mB f ms)) := pe_mono h (up_cb hf)
theorem de_bl {r : List V → Hp → VK → Prop} {f : FL} {ms : MA} (hf : CallL K r f) (h : PE X e (tCB r (upAN K c ms))) : PE X e (upL K c (mB f ms)) := pe_mono h (up_cbl hf)
/-! ### enumerate, zip over tuples -/
def enumD (ds : List PyData) : List PyData := ds.zipIdx.map fun p => .tuple [.int (p.2 : Int), p.1]
theorem enum_get {ds : List PyData} {i : Nat} {d : PyData} (h : (enumD ds)[i]? = some d) : ∃ x, ds[i]? = some x ∧ d = .tuple [.int (i : Int), x] := by
  unfold enumD at h
  rw [List.getElem?_map, List.getElem?_zipIdx] at h
  cases hx : ds[i]? with
  | none => rw [hx] at h; cases h
  | some x =>
    rw [hx] at h
    refine ⟨x, rfl, ?_⟩
    simpa using h.symm
def miEn (ms : MA) : MI := fun env k => ms env fun as => match as with
  | [.v (.tuple ds)] => k (enumD ds)
  | _ => False
theorem walk_enum {O : List Addr} {H : Hp} {a : Addr} {xs : List V} {ds : List PyData} (h : SqT K (offs O H) a xs) (da : DaAll K (offs O H) xs ds) : Walk K O H (IteT K a) (enumD ds) := fun O2 H2 hd s => by
  have e : SqT K H2 a xs := Evl.ex_t offs_sub (Evl.ex_t s h)
  have da2 := daAll_same s da
  have hl : (enumD ds).length = xs.length := by
    unfold enumD
    rw [List.length_map, List.length_zipIdx, daAll_len da]
  refine ⟨fun i d hdd => ?_, xs, e, hl.symm⟩
  obtain ⟨x, hx, rfl⟩ := enum_get hdd
  obtain ⟨v, hv, dv⟩ := daAll_at da2 hx
  refine ⟨⟨xs, v, e, hv⟩, fun y H3 ⟨T, z, ey, nT, eH, ez⟩ => ?_⟩
  have zv : z = v := by
    have q := ez xs e
    rw [hv] at q
    exact (Option.some.inj q).symm
  subst ey eH zv
  exact ⟨Evl.Ex.new nT, new_tup hd nT (.cons (.int _) (.cons dv .nil))⟩
theorem di_enum {tg : Expr} {ms : MA} (hK : X.K = K) (h : ∀ {t : TA}, PA X es t → PI X tg e (iEnumT X.K t)) (ha : PA X es (upA K c ms)) : PI X tg e (upI K c (miEn ms)) := by
  subst hK
  refine pi_mono (h ha) fun σ H R ⟨F, env, O, k, RR, hm, q⟩ => ⟨F, env, O, _, RR, hm, fun as xs H' kd g ps => ?_⟩
  split at kd
  · rename_i ds
    cases ps with
    | cons r t =>
      cases t
      have r' : Da X.K (offs O H') _ (.tuple ds) := r
      obtain ⟨p, zs, rfl, f1, f3⟩ := da_tup r'
      exact ⟨p, zs, rfl, Evl.ex_t offs_sub f1, q _ _ H' kd g (walk_enum f1 f3)⟩
  · exact kd.elim
end
end Du

/-! A dict of the module's top with int keys; the bag as data; what comprehensions and loops come to. -/
namespace Du
open PySem PySem.Spec PyProof.Rows L2 On
section
variable {K : PySem.W.Frag} {c : Bs} {X : Cx} {e a b i : Expr} {pos p : Pos}
/-- a dict of the written part: int keys, data -/
structure KInt (K : PySem.W.Frag) (d : Addr) (rows : Int → Option PyData) : Prop where
  at_ : ∃ es n, K.lookup d = some ⟨.type "dict", Option.none, .dict es n, #[]⟩ ∧ (∀ e ∈ es, ∃ i t, e.key = .int i t ∧ e.hash = hashInt i) ∧
    ∀ (i : Int) z, rows i = some z → ∃ u, findBy Value.isInt es i = some u ∧ ∃ x, RelV x u ∧ ∀ H, Da K H x z
def rIxKI (K : PySem.W.Frag) : R2 := fun x y H Q => ∃ p i z rows, x = .ref p ∧ y = .int i ∧ KInt K p rows ∧ rows i = some z ∧ ∀ v, (∀ H, Da K H v z) → Q v H
theorem ix_kint (hK : X.K = K := by rfl) : IxR X (rIxKI K) := by
  subst hK
  intro value slice pins s σ H x y v u Q I rx ry h hs
  obtain ⟨p, i, z, rows, rfl, rfl, ⟨es, n, hl, hk, hr⟩, hz, q⟩ := h
  obtain rfl : v = Value.ref p := rx
  obtain ⟨t, rfl⟩ := ry
  obtain ⟨u0, hu, x0, r0, d0⟩ := hr i z hz
  have hm : s.heap.MapOf (intKind X.prog X.w) p (fun k => findBy Value.isInt es k) := ⟨_, es, n, I.kIn _ _ hl, ⟨rfl, rfl, rfl⟩, rfl, fun e he => by
    obtain ⟨j, t, e1, e2⟩ := hk e he
    exact ⟨j, by rw [e1]; show Value.isInt j (.int j t) = true; simp [Value.isInt], e2⟩, fun _ => rfl⟩
  exact tail_any hm.typeIs PySem.F.slot_dict_getitem.lookup (wpAny_getItem_of (knd := intKind X.prog X.w) (k := i) (by show Value.isInt i (.int i t) = true; simp [Value.isInt]) hm hu ⟨x0, H, I.tok _, r0, q x0 d0⟩) hs
def mRow (rows : Int → Option PyData) (m : ME) : ME := fun env k => m env fun d => match d with
  | .int i => match rows i with
    | some z => k z
    | Option.none => False
  | _ => False
theorem de_kint {x : Str} {d : Addr} {rows : Int → Option PyData} {m : ME} (hK : X.K = K) (hx : Gl X x) (hm : X.mg x = some (.ref d)) (hk : KInt K d rows) (hi : PE X i (upN K c m)) (hs : PlainIx i) (hd : (x == ("__debug__" : Str)) = false := by decide) :
    PE X (.Subscript (.Name x p) i pos) (up K c (mRow rows m)) := by
  subst hK
  refine pe_mono (pe_ix ix_kint (pe_glob (v := .ref d) hx hm rfl hd) hi hs) fun σ H Q ⟨F, env, O, k, R, hm, q⟩ => ?_
  refine ⟨F, env, O, _, R, hm, fun z y H' kd g n => ?_⟩
  split at kd
  · cases nq_int n.nq
    split at kd
    · rename_i z' hz
      exact ⟨d, _, z', rows, rfl, rfl, hk, hz, fun v hv => q _ _ H' kd g (hv _)⟩
    · exact kd.elim
  · exact kd.elim
end
/-! ### < of tuples of ints -/
section
variable {K : PySem.W.Frag}
def intsOf : List PyData → Option (List Int)
  | [] => some []
  | .int i :: r => (intsOf r).map (i :: ·)
  | _ :: _ => Option.none
theorem ints_of {H : Hp} : ∀ {xs : List V} {ds : List PyData} {ns : List Int}, DaAll K H xs ds → intsOf ds = some ns → xs = ns.map V.int
  | _, _, _, .nil, e => by
    cases e
    rfl
  | _, _, _, .cons (d := d) h t, e => by
    cases d with
    | int b =>
      unfold intsOf at e
      obtain ⟨r, e1, e2⟩ := Option.map_eq_some_iff.mp e
      subst e2
      rw [da_int h, ints_of t e1] <;> rfl
    | _ => cases e
def fLtT : F2 := fun d e k => match d, e with
  | .tuple xs, .tuple ys => match intsOf xs, intsOf ys with
    | some ns, some ms => k (.bool (HT.lexLt ns ms))
    | _, _ => False
  | _, _ => False
theorem od_ltT : OpD K (rLtT K) fLtT := fun O H x y d e k Q hd hs nx ny hf q => by
  unfold fLtT at hf
  split at hf
  · split at hf
    · rename_i ns ms h1 h2
      obtain ⟨a, xs, rfl, g1, _, g3⟩ := nq_tup nx
      obtain ⟨b, ys, rfl, k1, _, k3⟩ := nq_tup ny
      rw [ints_of g3 h1] at g1
      rw [ints_of k3 h2] at k1
      exact ⟨a, b, ns, ms, rfl, rfl, g1, k1, q _ _ H hf (Same.refl H) (.bl _)⟩
    · exact hf.elim
  · exact hf.elim
end
/-! ### what comprehensions come to -/
section
variable {g : MG} {mt : MT} {me : ME} {env : List DV}
/-- each turn is told by P, V -/
theorem lc_pure (E : PyData → List DV) (P : PyData → Bool) (V : PyData → PyData) : ∀ (ds acc : List PyData) (k : PyData → Prop), acc.length + ds.length ≤ 100000 → (∀ d ∈ ds, ∀ k', k' (E d) → g d env k') →
    (∀ d ∈ ds, ∀ k', k' (P d) → mt (E d) k') → (∀ d ∈ ds, P d = true → ∀ k', k' (V d) → me (E d) k') → k (.list (acc ++ (ds.filter P).map V)) → lcGo g mt me env acc ds k
  | [], acc, k, _, _, _, _, h => by
    have h' : k (.list (acc ++ [])) := h
    rw [List.append_nil] at h'
    exact h'
  | d :: ds, acc, k, hl, hg, ht, he, h => by
    rw [List.length_cons] at hl
    refine hg d List.mem_cons_self _ (ht d List.mem_cons_self _ ?_)
    cases hp : P d with
    | true =>
      refine ⟨by omega, he d List.mem_cons_self hp _ ?_⟩
      refine lc_pure E P V ds _ k (by rw [List.length_append, List.length_singleton]; omega) (fun d hd => hg d (List.mem_cons_of_mem _ hd)) (fun d hd => ht d (List.mem_cons_of_mem _ hd)) (fun d hd => he d (List.mem_cons_of_mem _ hd)) ?_
      rw [List.filter_cons, if_pos hp, List.map_cons] at h
      rw [List.append_assoc]
      exact h
    | false =>
      refine lc_pure E P V ds _ k (by omega) (fun d hd => hg d (List.mem_cons_of_mem _ hd)) (fun d hd => ht d (List.mem_cons_of_mem _ hd)) (fun d hd => he d (List.mem_cons_of_mem _ hd)) ?_
      rw [List.filter_cons, if_neg (by rw [hp]; decide)] at h
      exact h
theorem mLc_pure {mi : MI} {vs : List Nat} {q : PyData → Prop} (ds : List PyData) (E : PyData → List DV) (P : PyData → Bool) (V : PyData → PyData) (hm : ∀ k', k' ds → mi env k') (hl : ds.length ≤ 100000) (hg : ∀ d ∈ ds, ∀ k', k' (E d) → g d (wipeE env vs) k')
    (ht : ∀ d ∈ ds, ∀ k', k' (P d) → mt (E d) k') (he : ∀ d ∈ ds, P d = true → ∀ k', k' (V d) → me (E d) k') (h : q (.list ((ds.filter P).map V))) : mLc mi g mt me vs env q := by
  refine hm _ (lc_pure E P V ds [] _ (by simpa using hl) hg ht he ?_)
  rw [List.nil_append]
  exact h
theorem not_lc {mi : MI} {vs : List Nat} {q : PyData → Prop} (ds : List PyData) (E : PyData → List DV) (P : PyData → Bool) (V : PyData → PyData) (hm : ∀ k', k' ds → mi env k') (hl : ds.length ≤ 100000) (hg : ∀ d ∈ ds, ∀ k', k' (E d) → g d (wipeE env vs) k')
    (ht : ∀ d ∈ ds, ∀ k', k' (P d) → mt (E d) k') (he : ∀ d ∈ ds, P d = true → ∀ k', k' (V d) → me (E d) k') (h : q (.bool (ds.filter P).isEmpty)) : mNotD (mLc mi g mt me vs) env q := by
  refine hm _ (lc_pure E P V ds [] _ (by simpa using hl) hg ht he ?_)
  show q (.bool (!(!(([] : List PyData) ++ (ds.filter P).map V).isEmpty)))
  rw [List.nil_append, Bool.not_not]
  have e : ((ds.filter P).map V).isEmpty = (ds.filter P).isEmpty := by cases ds.filter P <;> rfl
  rw [e]
  exact h
theorem tru_lc {mi : MI} {vs : List Nat} {q : Bool → Prop} (ds : List PyData) (E : PyData → List DV) (P : PyData → Bool) (V : PyData → PyData) (hm : ∀ k', k' ds → mi env k') (hl : ds.length ≤ 100000) (hg : ∀ d ∈ ds, ∀ k', k' (E d) → g d (wipeE env vs) k')
    (ht : ∀ d ∈ ds, ∀ k', k' (P d) → mt (E d) k') (he : ∀ d ∈ ds, P d = true → ∀ k', k' (V d) → me (E d) k') (h : q (!(ds.filter P).isEmpty)) : mTru (mLc mi g mt me vs) env q := by
  refine hm _ (lc_pure E P V ds [] _ (by simpa using hl) hg ht he ?_)
  show q (!(([] : List PyData) ++ (ds.filter P).map V).isEmpty)
  rw [List.nil_append]
  have e : ((ds.filter P).map V).isEmpty = (ds.filter P).isEmpty := by cases ds.filter P <;> rfl
  rw [e]
  exact h
theorem filter_none {ds : List PyData} {P : PyData → Bool} : (ds.filter P).isEmpty = ds.all fun d => !P d := by
  induction ds with
  | nil => rfl
  | cons d ds ih =>
    rw [List.filter_cons, List.all_cons]
    cases P d with
    | true => rfl
    | false =>
      rw [if_neg Bool.false_ne_true]
      exact ih
/-- no test, each turn comes to something that R takes -/
theorem lc_any (E : PyData → List DV) (R : PyData → PyData → Prop) : ∀ (ds acc : List PyData) (k : PyData → Prop), acc.length + ds.length ≤ 100000 → (∀ d ∈ ds, ∀ k', k' (E d) → g d env k') →
    (∀ d ∈ ds, ∀ k' : Bool → Prop, k' true → mt (E d) k') → (∀ d ∈ ds, ∀ k' : PyData → Prop, (∀ r, R d r → k' r) → me (E d) k') → (∀ rs, Paired R ds rs → k (.list (acc ++ rs))) → lcGo g mt me env acc ds k
  | [], acc, k, _, _, _, _, h => by
    have h' : k (.list (acc ++ [])) := h [] .nil
    rw [List.append_nil] at h'
    exact h'
  | d :: ds, acc, k, hl, hg, ht, he, h => by
    rw [List.length_cons] at hl
    refine hg d List.mem_cons_self _ (ht d List.mem_cons_self _ ⟨by omega, he d List.mem_cons_self _ fun r hr => ?_⟩)
    refine lc_any E R ds _ k (by rw [List.length_append, List.length_singleton]; omega) (fun d hd => hg d (List.mem_cons_of_mem _ hd)) (fun d hd => ht d (List.mem_cons_of_mem _ hd)) (fun d hd => he d (List.mem_cons_of_mem _ hd)) fun rs hrs => ?_
    rw [List.append_assoc]
    exact h (r :: rs) (.cons hr hrs)
end
theorem okNe_int (i j : Int) : okNe (.int i) (.int j) = true := by
  show ((PyData.int i).canLay0 && ((PyData.int j).canLay0 && decide (min (PyData.int i).depth (PyData.int j).depth ≤ 60))) = true
  rw [PyData.canLay0, PyData.canLay0]
  simp [PyData.depth]
theorem okEq_int (i j : Int) : (PyData.int i).canLay0 = true ∧ (PyData.int j).canLay0 = true ∧ min (PyData.int i).depth (PyData.int j).depth ≤ 60 := ⟨by rw [PyData.canLay0], by rw [PyData.canLay0], by simp [PyData.depth]⟩
theorem eqv_int (i j : Int) : PyData.eqv (.int i) (.int j) = decide (i = j) := by
  show (i == j) = _
  rw [Bool.beq_eq_decide_eq]
/-- a pair of ints -/
def duo (p : Int × Int) : PyData := .tuple [.int p.1, .int p.2]
theorem mem_ints {lo : Int} {n : Nat} {d : PyData} (h : d ∈ intsD lo n) : ∃ i : Nat, i < n ∧ d = .int (lo + i) := by
  unfold intsD at h
  obtain ⟨i, hi, e⟩ := List.mem_map.mp h
  exact ⟨i, List.mem_range.mp hi, e.symm⟩
theorem ints_len (lo : Int) (n : Nat) : (intsD lo n).length = n := by
  unfold intsD
  rw [List.length_map, List.length_range]
theorem gd_at {α : Type} {xs : List α} {i : Nat} {d : α} (h : i < xs.length) : xs.getD i d = xs[i] := by
  rw [List.getD_eq_getElem?_getD, List.getElem?_eq_getElem h]
  rfl
theorem atI_gd {xs : List PyData} {i : Nat} (h : i < xs.length) : atI xs (i : Int) = some (xs.getD i .none) := by
  rw [gd_at h]
  exact atI_nat (List.getElem?_eq_getElem h)
theorem atI_gd1 {xs : List PyData} {i : Nat} (h : i + 1 < xs.length) : atI xs ((i : Int) + 1) = some (xs.getD (i + 1) .none) := atI_gd (i := i + 1) h
theorem bools_map (f : PyData → Bool) : ∀ ds : List PyData, boolsOf (ds.map fun d => .bool (f d)) = some (ds.map f)
  | [] => rfl
  | d :: ds => by
    show (boolsOf (ds.map fun d => .bool (f d))).map (f d :: ·) = _
    rw [bools_map f ds]
    rfl
theorem map_id' (ds : List PyData) : ds.map id = ds := by simp
/-! ### the bag -/
section
variable {P : Program} {w : World} {K : PySem.W.Frag} {mg : Str → Option Value} {base : Heap} {k : Nat} {f : Addr} {fd : FuncData} {ps : List Str}
theorem FnG.imp {sp sp' : Sp} (F : FnG P w K mg base k f fd ps sp) (h : ∀ vs H Q E, sp' vs H Q E → sp vs H Q E) : FnG P w K mg base k f fd ps sp' := ⟨fun vs H Q E q => F.ln vs H Q E (h _ _ _ _ q), fun A outer s H args us vs Q E hg hr e0 hb rv hq => F.go A outer s H args us vs Q E hg hr e0 hb rv (h _ _ _ _ hq)⟩
/-- a draw -/
def mTake : List DV → (PyData → Prop) → Prop := fun as k => match as with
  | [.bag, .v (.int n)] => (0 < n ∧ n.natAbs.log2 < 9000) ∧ ∀ v : Int, 0 ≤ v → v < n → k (.int v)
  | _ => False
theorem take_of (F : FnG P w K mg base k f fd ps spTake) : FnG P w K mg base k f fd ps (spF K 2 mTake) := FnG.imp F fun vs H Q E ⟨O, b, l, as, q, h1, h2, h3, h4, h5, h6, h7, h8⟩ => by
  unfold mTake at h7
  split at h7
  · rename_i n
    cases h5 with
    | cons r t =>
      cases t with
      | cons r2 t =>
        cases t
        obtain ⟨a, rfl, hb⟩ := r
        have r2' : Da K (offs O H) _ (.int n) := r2
        cases r2'
        refine ⟨a, l, n, rfl, (h2 a (by rw [hb]; simp)).2.1, h7.1.1, h7.1.2, fun v H' v0 v1 B k => h8 _ _ H' (h7.2 v v0 v1) (fun c o nc e => k c o (fun z => nc (by rw [hb, z]; simp)) e) (fun c hc => ?_) (.int v)⟩
        rw [hb, List.mem_singleton] at hc
        rw [hc]
        exact B
  · exact h7.elim
end
end Du

/-! zip of two, of three tuples; comprehensions of two walks. -/
namespace Du
open PySem PySem.Spec PyProof.Rows L2 On
/-! ### zip of three tuples -/
def Itz3 (K : PySem.W.Frag) (a b c : Addr) : It :=
  ⟨fun i H => ∃ (xs ys us : List V) (x y u : V), (SqT K H a xs ∧ SqT K H b ys ∧ SqT K H c us) ∧ xs[i]? = some x ∧ ys[i]? = some y ∧ us[i]? = some u,
    fun i H v H' => ∃ T x y u, v = .ref T ∧ H T = Option.none ∧ H' = upd H T (.tup [x, y, u]) ∧ (∀ xs, SqT K H a xs → xs[i]? = some x) ∧ (∀ ys, SqT K H b ys → ys[i]? = some y) ∧ ∀ us, SqT K H c us → us[i]? = some u,
    fun i H => ∃ xs ys us : List V, (SqT K H a xs ∧ SqT K H b ys ∧ SqT K H c us) ∧ i = min (min xs.length ys.length) us.length⟩
section
variable {P : Program} {w : World} {K : PySem.W.Frag} {elts : List Expr} {kk : Nat} {tpos : Pos} {a b c z TI TO i1 i2 i3 : Addr}
/-- the cells of the zip at turn i -/
def Zip3At (a b c z TI TO i1 i2 i3 : Addr) (i : Nat) (h : Heap) : Prop :=
  IsZip h z TI TO .none ∧ IsTupOf3 h TI (.ref i1) (.ref i2) (.ref i3) ∧ (∃ a1 a2 a3, IsTupOf3 h TO a1 a2 a3) ∧ h.IsTupleIter i1 a i ∧ h.IsTupleIter i2 b i ∧ h.IsTupleIter i3 c i
theorem turn_zip3 (S : ZipSep3 z TI TO i1 i2 i3 [i1, a] [i2, b] [i3, c]) (na : a ≠ i1) (nb : b ≠ i2) (nc : c ≠ i3) : Turn P w K (.Tuple elts kk tpos) (Itz3 K a b c) [z, TI, TO, i1, i2, i3] z (Zip3At a b c z TI TO i1 i2 i3) where
  mem := by simp
  obj := fun i h st d hd => by
    obtain ⟨hz, hTI, ⟨x, y, u, hTO⟩, ⟨o1, e1, _, d1⟩, ⟨o2, e2, _, d2⟩, ⟨o3, e3, _, d3⟩⟩ := st
    simp only [List.mem_cons, List.not_mem_nil, or_false] at hd
    rcases hd with rfl | rfl | rfl | rfl | rfl | rfl
    · exact ⟨_, hz, fun v q => nomatch q⟩
    · exact ⟨_, hTI, fun v q => nomatch q⟩
    · exact ⟨_, hTO, fun v q => nomatch q⟩
    · exact ⟨o1, e1, fun v q => by rw [d1] at q; cases q⟩
    · exact ⟨o2, e2, fun v q => by rw [d2] at q; cases q⟩
    · exact ⟨o3, e3, fun v q => by rw [d3] at q; cases q⟩
  keep := fun i h h' st k => by
    obtain ⟨hz, hTI, ⟨x, y, u, hTO⟩, h1, h2, h3⟩ := st
    exact ⟨k z (by simp) _ hz, k TI (by simp) _ hTI, ⟨x, y, u, k TO (by simp) _ hTO⟩, h1.at fun o q => k i1 (by simp) o q, h2.at fun o q => k i2 (by simp) o q, h3.at fun o q => k i3 (by simp) o q⟩
  item := by
    intro X hP hw hK hc i pins s σ H E I hf st hg
    subst hP hw hK
    obtain ⟨hz, hTI, hTO, h1, h2, h3⟩ := st
    obtain ⟨xs, ys, us, x, y, u, ⟨qx, qy, qu⟩, hx, hy, hu⟩ := hg
    obtain ⟨its1, r1, p1, _⟩ := I.tuple qx
    obtain ⟨its2, r2, p2, _⟩ := I.tuple qy
    obtain ⟨its3, r3, p3, _⟩ := I.tuple qu
    obtain ⟨x1, hx1, rx⟩ := r1.get hx
    obtain ⟨y1, hy1, ry⟩ := r2.get hy
    obtain ⟨u1, hu1, ru⟩ := r3.get hu
    have hd : X.A.in1.handled = none := show X.A.handled = none from I.ok.hd hc
    have G := GoesN.zip3 (w := X.w) (elts := elts) (x1 := kk) (pos := tpos) S (Draws.tuple (prog := X.prog) (w := X.w) (A := X.A.in1) hd i1 a na its1.toArray) (Draws.tuple hd i2 b nb its2.toArray) (Draws.tuple hd i3 c nc its3.toArray)
    have li1 := (List.getElem?_eq_some_iff.mp hx1).1
    have li2 := (List.getElem?_eq_some_iff.mp hy1).1
    have li3 := (List.getElem?_eq_some_iff.mp hu1).1
    refine G.goes i s (fun v s2 => ∃ x' H', Inv X pins σ H' s2 ∧ RelV x' v ∧ (Itz3 X.K a b c).yld i H x' H' ∧ Zip3At a b c z TI TO i1 i2 i3 (i + 1) s2.heap ∧ ∀ d ∈ [z, TI, TO, i1, i2, i3], H' d = none) E (by simp; omega) ⟨hz, hTI, hTO, ⟨h1, p1⟩, ⟨h2, p2⟩, ⟨h3, p3⟩⟩ fun v h' tk hY st' hk htk => ?_
    obtain ⟨T, x2, y2, u2, rfl, hT, ex, ey, eu, hIT⟩ := hY
    have ex' : x1 = x2 := by
      have e : its1[i]? = some x2 := by simpa using ex
      rw [hx1] at e
      exact Option.some.inj e
    have ey' : y1 = y2 := by
      have e : its2[i]? = some y2 := by simpa using ey
      rw [hy1] at e
      exact Option.some.inj e
    have eu' : u1 = u2 := by
      have e : its3[i]? = some u2 := by simpa using eu
      rw [hu1] at e
      exact Option.some.inj e
    subst ex' ey' eu'
    obtain ⟨z', TI', TO', ⟨g1, _⟩, ⟨g2, _⟩, ⟨g3, _⟩⟩ := st'
    have new : ObjOk X.prog X.w (upd H T (.tup [x, y, u])) h' T (.tup [x, y, u]) := ⟨by show 3 ≤ sizeLine; decide, [x1, y1, u1], .cons rx (.cons ry (.cons ru .nil)), hIT⟩
    have I1 : Inv X pins σ (upd H T (.tup [x, y, u])) { s with heap := h', toks := tk } :=
      I.turnedNew (t' := tk) (ch := [z, TI, TO, i1, i2, i3]) (fun d o hb q => hk d o (fun q' => hb (by
        simp only [List.mem_cons, List.not_mem_nil, or_false] at q' ⊢
        rcases q' with q' | q' | q' | q' | q' <;> simp [q'])) q) hf hT new
    refine ⟨.ref T, _, I1, rfl, ⟨T, x, y, u, rfl, I.hok.fresh hT, rfl, fun l hl => by rw [I.tuple_inj hl qx]; exact hx, fun l hl => by rw [I.tuple_inj hl qy]; exact hy, fun l hl => by rw [I.tuple_inj hl qu]; exact hu⟩, ⟨z', TI', TO', g1, g2, g3⟩, fun d hd' => ?_⟩
    have lt : d < s.heap.objs.size := by
      simp only [List.mem_cons, List.not_mem_nil, or_false] at hd'
      obtain ⟨_, _, _, hTO⟩ := hTO
      rcases hd' with rfl | rfl | rfl | rfl | rfl | rfl
      · exact Heap.lt_size hz
      · exact Heap.lt_size hTI
      · exact Heap.lt_size hTO
      · obtain ⟨_, e, _⟩ := h1; exact Heap.lt_size e
      · obtain ⟨_, e, _⟩ := h2; exact Heap.lt_size e
      · obtain ⟨_, e, _⟩ := h3; exact Heap.lt_size e
    rw [upd_ne (Nat.ne_of_lt (Nat.lt_of_lt_of_le lt hT))]
    exact (hf d hd').1
  done := by
    intro X hP hw hK hc i pins s σ H E I hf st hg
    subst hP hw hK
    obtain ⟨hz, hTI, hTO, h1, h2, h3⟩ := st
    obtain ⟨xs, ys, us, ⟨qx, qy, qu⟩, hi⟩ := hg
    obtain ⟨its1, r1, p1, _⟩ := I.tuple qx
    obtain ⟨its2, r2, p2, _⟩ := I.tuple qy
    obtain ⟨its3, r3, p3, _⟩ := I.tuple qu
    have hd : X.A.in1.handled = none := show X.A.handled = none from I.ok.hd hc
    have G := GoesN.zip3 (w := X.w) (elts := elts) (x1 := kk) (pos := tpos) S (Draws.tuple (prog := X.prog) (w := X.w) (A := X.A.in1) hd i1 a na its1.toArray) (Draws.tuple hd i2 b nb its2.toArray) (Draws.tuple hd i3 c nc its3.toArray)
    have e1 := r1.length
    have e2 := r2.length
    have e3 := r3.length
    have hi' : i = min (min its1.toArray.size its2.toArray.size) its3.toArray.size := by
      simp only [List.size_toArray]
      omega
    rw [hi'] at h1 h2 h3
    exact G.stops s (fun s1 => Inv X pins σ H s1) E ⟨hz, hTI, hTO, ⟨h1, p1⟩, ⟨h2, p2⟩, ⟨h3, p3⟩⟩ fun h' tk hk htk => I.turnedL (t' := tk) (ch := [z, TI, TO, i1, i2, i3]) (fun d o hb q => hk d o (fun q' => hb (by
      simp only [List.mem_cons, List.not_mem_nil, or_false] at q' ⊢
      rcases q' with q' | q' | q' | q' | q' <;> simp [q'])) q) hf
  self := fun A i s Q E st h => wpAny_pyIter_zip st.1 h
end
theorem ne3 {N a b c : Nat} (la : a < N) (lb : b < N) (lc : c < N) : a ≠ N ∧ b ≠ N + 1 ∧ c ≠ N + 2 := ⟨by omega, by omega, by omega⟩
theorem ge3 {N d : Nat} (h : d ∈ [N + 5, N + 3, N + 4, N, N + 1, N + 2]) : N ≤ d := by
  simp only [List.mem_cons, List.not_mem_nil, or_false] at h
  omega
def iZip3 (K : PySem.W.Frag) (ta : TA) : TI := fun σ H R => ta σ H fun vs H1 => ∃ a b c xs ys us, vs = [.ref a, .ref b, .ref c] ∧ (SqT K H1 a xs ∧ SqT K H1 b ys ∧ SqT K H1 c us) ∧ R (Itz3 K a b c) H1
theorem in1 {a N : Nat} (h : a < N) : ∀ d ∈ [a], d < N := fun d hd => by
  rw [List.mem_singleton] at hd
  rw [hd]
  exact h
theorem pi_zip3 {X : Cx} {e e2 e3 : Expr} {ta : TA} {p pos tpos : Pos} {elts : List Expr} {kk : Nat} (hg : Gl X "zip") (hm : X.mg "zip" = none) (ha : PA X [e, e2, e3] ta)
    (hs : starEach [e, e2, e3] X.env = (false, eval e X.env) :: starEach [e2, e3] X.env := by rfl) (hpl : (backTo pos (starEach [e2, e3] X.env)).any (·.1) = false := by rfl) :
    PI X (.Tuple elts kk tpos) (.Call (.Name "zip" p) [e, e2, e3] [] pos) (iZip3 X.K ta) := by
  refine ⟨fun pins s σ H R I h => ?_⟩
  refine Call_ (ld_blt I hg hm PyProof.Rows.boot_zip (PyProof.Rows.callWith_type1 (thn (ha.run pos pins s σ H _ I h) fun us s1 ⟨vs, H1, I1, r1, q1⟩ => ?_) hs hpl))
  obtain ⟨a, b, c, xs, ys, us, ex, ⟨qx, qy, qu⟩, q⟩ := q1
  subst ex
  cases r1 with
  | cons r rr =>
    cases rr with
    | cons r' rr =>
      cases rr with
      | cons r'' rr =>
        cases rr
        cases r
        cases r'
        cases r''
        obtain ⟨its1, v1, p1, _⟩ := I1.tuple qx
        obtain ⟨its2, v2, p2, _⟩ := I1.tuple qy
        obtain ⟨its3, v3, p3, _⟩ := I1.tuple qu
        have la : a < s1.heap.objs.size := by obtain ⟨_, e, _⟩ := id p1; exact Heap.lt_size e
        have lb : b < s1.heap.objs.size := by obtain ⟨_, e, _⟩ := id p2; exact Heap.lt_size e
        have lc : c < s1.heap.objs.size := by obtain ⟨_, e, _⟩ := id p3; exact Heap.lt_size e
        have n3 := ne3 la lb lc
        have S := zip_sep3 (N := s1.heap.objs.size) (fp1 := [a]) (fp2 := [b]) (fp3 := [c]) (in1 la) (in1 lb) (in1 lc)
        have T3 : Turn X.prog X.w X.K (.Tuple elts kk tpos) (Itz3 X.K a b c) _ _ _ := turn_zip3 S n3.1 n3.2.1 n3.2.2
        have fr : ∀ d ∈ [s1.heap.objs.size + 5, s1.heap.objs.size + 3, s1.heap.objs.size + 4, s1.heap.objs.size, s1.heap.objs.size + 1, s1.heap.objs.size + 2], FpOk X pins H1 d := fun d hd => I1.fpOk (ge3 hd) (I1.hok.fresh (ge3 hd))
        refine zip_begins3 (s := s1) (begins_tuple a its1.toArray) (begins_tuple b its2.toArray) (begins_tuple c its3.toArray) (show s1.heap.IsTuple a its1.toArray from p1) (show s1.heap.IsTuple b its2.toArray from p2) (show s1.heap.IsTuple c its3.toArray from p3) ?_
        intro h' hz hTI hTO g1 g2 g3 hsz hk
        refine wpAny_pyIter_zip hz ?_
        have I2 : Inv X pins σ H1 { s1 with heap := h' } := I1.kept (t' := s1.toks) hk
        have st : Zip3At a b c (s1.heap.objs.size + 5) (s1.heap.objs.size + 3) (s1.heap.objs.size + 4) s1.heap.objs.size (s1.heap.objs.size + 1) (s1.heap.objs.size + 2) 0 h' := ⟨hz, hTI, ⟨_, _, _, hTO⟩, ⟨_, g1, rfl, rfl⟩, ⟨_, g2, rfl, rfl⟩, ⟨_, g3, rfl, rfl⟩⟩
        exact ⟨_, _, _, _, H1, rfl, I2, T3, st, fr, q⟩
/-! ### on data -/
section
variable {K : PySem.W.Frag} {c : Bs} {X : Cx} {es : List Expr} {e : Expr}
def zipD : List PyData → List PyData → List PyData
  | x :: xs, y :: ys => .tuple [x, y] :: zipD xs ys
  | _, _ => []
def zipD3 : List PyData → List PyData → List PyData → List PyData
  | x :: xs, y :: ys, u :: us => .tuple [x, y, u] :: zipD3 xs ys us
  | _, _, _ => []
theorem zipD_len : ∀ {xs ys : List PyData}, (zipD xs ys).length = min xs.length ys.length
  | [], ys => by cases ys <;> simp [zipD]
  | _ :: _, [] => by simp [zipD]
  | _ :: xs, _ :: ys => by
    have := @zipD_len xs ys
    simp [zipD]
    omega
theorem zipD_get : ∀ {xs ys : List PyData} {i : Nat} {d : PyData}, (zipD xs ys)[i]? = some d → ∃ x y, xs[i]? = some x ∧ ys[i]? = some y ∧ d = .tuple [x, y]
  | [], ys, i, d, h => by cases ys <;> simp [zipD] at h
  | _ :: _, [], i, d, h => by simp [zipD] at h
  | x :: xs, y :: ys, 0, d, h => by
    simp [zipD] at h
    exact ⟨x, y, rfl, rfl, h.symm⟩
  | x :: xs, y :: ys, i + 1, d, h => by
    simp [zipD] at h
    obtain ⟨x', y', h1, h2, h3⟩ := zipD_get h
    exact ⟨x', y', by simpa using h1, by simpa using h2, h3⟩
theorem zipD3_len : ∀ {xs ys us : List PyData}, (zipD3 xs ys us).length = min (min xs.length ys.length) us.length
  | [], ys, us => by cases ys <;> cases us <;> simp [zipD3]
  | _ :: _, [], us => by cases us <;> simp [zipD3]
  | _ :: _, _ :: _, [] => by simp [zipD3]
  | _ :: xs, _ :: ys, _ :: us => by
    have := @zipD3_len xs ys us
    simp [zipD3]
    omega
theorem zipD3_get : ∀ {xs ys us : List PyData} {i : Nat} {d : PyData}, (zipD3 xs ys us)[i]? = some d → ∃ x y u, xs[i]? = some x ∧ ys[i]? = some y ∧ us[i]? = some u ∧ d = .tuple [x, y, u]
  | [], ys, us, i, d, h => by cases ys <;> cases us <;> simp [zipD3] at h
  | _ :: _, [], us, i, d, h => by cases us <;> simp [zipD3] at h
  | _ :: _, _ :: _, [], i, d, h => by simp [zipD3] at h
  | x :: xs, y :: ys, u :: us, 0, d, h => by
    simp [zipD3] at h
    exact ⟨x, y, u, rfl, rfl, rfl, h.symm⟩
  | x :: xs, y :: ys, u :: us, i + 1, d, h => by
    simp [zipD3] at h
    obtain ⟨x', y', u', h1, h2, h3, h4⟩ := zipD3_get h
    exact ⟨x', y', u', by simpa using h1, by simpa using h2, by simpa using h3, h4⟩
def miZip (ms : MA) : MI := fun env k => ms env fun as => match as with
  | [.v (.tuple xs), .v (.tuple ys)] => k (zipD xs ys)
  | _ => False
def miZip3 (ms : MA) : MI := fun env k => ms env fun as => match as with
  | [.v (.tuple xs), .v (.tuple ys), .v (.tuple us)] => k (zipD3 xs ys us)
  | _ => False
theorem some_eq {α : Type} {a b : α} {o : Option α} (h1 : o = some a) (h2 : o = some b) : a = b := Option.some.inj (h1.symm.trans h2)
theorem walk_zip {O : List Addr} {H : Hp} {a b : Addr} {vs ws : List V} {xs ys : List PyData} (h1 : SqT K (offs O H) a vs) (h2 : SqT K (offs O H) b ws) (d1 : DaAll K (offs O H) vs xs) (d2 : DaAll K (offs O H) ws ys) : Walk K O H (RZ.ItzT K a b) (zipD xs ys) := fun O2 H2 hd s => by
  have e1 : SqT K H2 a vs := Evl.ex_t offs_sub (Evl.ex_t s h1)
  have e2 : SqT K H2 b ws := Evl.ex_t offs_sub (Evl.ex_t s h2)
  have l1 := daAll_len d1
  have l2 := daAll_len d2
  refine ⟨fun i d hdd => ?_, vs, ws, e1, e2, by rw [zipD_len, l1, l2]; omega⟩
  obtain ⟨x, y, hx, hy, rfl⟩ := zipD_get hdd
  obtain ⟨v, hv, dv⟩ := daAll_at (daAll_same s d1) hx
  obtain ⟨w, hw, dw⟩ := daAll_at (daAll_same s d2) hy
  refine ⟨⟨vs, ws, v, w, e1, e2, hv, hw⟩, fun g H3 ⟨T, x', y', eg, nT, eH, q1, q2⟩ => ?_⟩
  have z1 := some_eq (q1 _ e1) hv
  have z2 := some_eq (q2 _ e2) hw
  subst eg eH z1 z2
  exact ⟨Evl.Ex.new nT, new_tup hd nT (.cons dv (.cons dw .nil))⟩
theorem walk_zip3 {O : List Addr} {H : Hp} {a b g : Addr} {vs ws ts : List V} {xs ys us : List PyData} (h1 : SqT K (offs O H) a vs) (h2 : SqT K (offs O H) b ws) (h3 : SqT K (offs O H) g ts) (d1 : DaAll K (offs O H) vs xs) (d2 : DaAll K (offs O H) ws ys) (d3 : DaAll K (offs O H) ts us) : Walk K O H (Itz3 K a b g) (zipD3 xs ys us) := fun O2 H2 hd s => by
  have e1 : SqT K H2 a vs := Evl.ex_t offs_sub (Evl.ex_t s h1)
  have e2 : SqT K H2 b ws := Evl.ex_t offs_sub (Evl.ex_t s h2)
  have e3 : SqT K H2 g ts := Evl.ex_t offs_sub (Evl.ex_t s h3)
  have l1 := daAll_len d1
  have l2 := daAll_len d2
  have l3 := daAll_len d3
  refine ⟨fun i d hdd => ?_, vs, ws, ts, ⟨e1, e2, e3⟩, by rw [zipD3_len, l1, l2, l3]⟩
  obtain ⟨x, y, u, hx, hy, hu, rfl⟩ := zipD3_get hdd
  obtain ⟨v, hv, dv⟩ := daAll_at (daAll_same s d1) hx
  obtain ⟨w, hw, dw⟩ := daAll_at (daAll_same s d2) hy
  obtain ⟨t, ht, dt⟩ := daAll_at (daAll_same s d3) hu
  refine ⟨⟨vs, ws, ts, v, w, t, ⟨e1, e2, e3⟩, hv, hw, ht⟩, fun g' H3 ⟨T, x', y', u', eg, nT, eH, q1, q2, q3⟩ => ?_⟩
  have z1 := some_eq (q1 _ e1) hv
  have z2 := some_eq (q2 _ e2) hw
  have z3 := some_eq (q3 _ e3) ht
  subst eg eH z1 z2 z3
  exact ⟨Evl.Ex.new nT, new_tup hd nT (.cons dv (.cons dw (.cons dt .nil)))⟩
theorem di_zip {tg : Expr} {ms : MA} (hK : X.K = K) (h : ∀ {t : TA}, PA X es t → PI X tg e (RZ.iZipA X.K t)) (ha : PA X es (upA K c ms)) : PI X tg e (upI K c (miZip ms)) := by
  subst hK
  refine pi_mono (h ha) fun σ H R ⟨F, env, O, k, RR, hm, q⟩ => ⟨F, env, O, _, RR, hm, fun as xs H' kd g ps => ?_⟩
  split at kd
  · cases ps with
    | cons r t =>
      cases t with
      | cons r2 t =>
        cases t
        obtain ⟨p, zs, rfl, f1, f3⟩ := da_tup (show Da X.K (offs O H') _ (.tuple _) from r)
        obtain ⟨p2, zs2, rfl, g1, g3⟩ := da_tup (show Da X.K (offs O H') _ (.tuple _) from r2)
        exact ⟨p, p2, zs, zs2, rfl, .inr ⟨Evl.ex_t offs_sub f1, Evl.ex_t offs_sub g1, q _ _ H' kd g (walk_zip f1 g1 f3 g3)⟩⟩
  · exact kd.elim
theorem di_zip3 {tg : Expr} {ms : MA} (hK : X.K = K) (h : ∀ {t : TA}, PA X es t → PI X tg e (iZip3 X.K t)) (ha : PA X es (upA K c ms)) : PI X tg e (upI K c (miZip3 ms)) := by
  subst hK
  refine pi_mono (h ha) fun σ H R ⟨F, env, O, k, RR, hm, q⟩ => ⟨F, env, O, _, RR, hm, fun as xs H' kd g ps => ?_⟩
  split at kd
  · cases ps with
    | cons r t =>
      cases t with
      | cons r2 t =>
        cases t with
        | cons r3 t =>
          cases t
          obtain ⟨p, zs, rfl, f1, f3⟩ := da_tup (show Da X.K (offs O H') _ (.tuple _) from r)
          obtain ⟨p2, zs2, rfl, g1, g3⟩ := da_tup (show Da X.K (offs O H') _ (.tuple _) from r2)
          obtain ⟨p3, zs3, rfl, j1, j3⟩ := da_tup (show Da X.K (offs O H') _ (.tuple _) from r3)
          exact ⟨p, p2, p3, zs, zs2, zs3, rfl, ⟨Evl.ex_t offs_sub f1, Evl.ex_t offs_sub g1, Evl.ex_t offs_sub j1⟩, q _ _ H' kd g (walk_zip3 f1 g1 j1 f3 g3 j3)⟩
  · exact kd.elim
end
end Du

/-! comprehensions of two walks, one within the other. -/
namespace Du
open PySem PySem.Spec PyProof.Rows L2 On
section
variable {K : PySem.W.Frag} {c : Bs} {X : Cx} {e : Expr} {pos : Pos}
/-- no list of one's own among the names -/
def noOwn (env : List DV) : Bool := env.all fun e => match e with
  | .own _ => false
  | .od _ => false
  | _ => true
theorem noMine_at {env : List DV} (h : noOwn env = true) {i : Nat} {e : DV} (he : env[i]? = some e) (m : mine e = true) : False := by
  have z := List.all_eq_true.mp h _ (List.mem_of_getElem? he)
  cases e with
  | own _ => cases z
  | od _ => cases z
  | _ => cases m
theorem noOwn_at {env : List DV} (h : noOwn env = true) {i : Nat} {ds : List PyData} (e : env[i]? = some (.own ds)) : False := by
  have z := List.all_eq_true.mp h _ (List.mem_of_getElem? e)
  cases z
theorem noOwn_wipe {env : List DV} (h : noOwn env = true) : ∀ vs : List Nat, noOwn (wipeE env vs) = true
  | [] => h
  | v :: vs => by
    have ih := noOwn_wipe h vs
    refine List.all_eq_true.mpr fun x hx => ?_
    rcases List.mem_or_eq_of_mem_set hx with h' | rfl
    · exact List.all_eq_true.mp ih x h'
    · rfl
def lcIn (g : MG) (mt : MT) (me : ME) (env : List DV) : List PyData → List PyData → (List PyData → Prop) → Prop
  | acc, [], k => k acc
  | acc, d :: ds, k => g d env fun e1 => mt e1 fun b => match b with
    | true => acc.length < 100000 ∧ me e1 fun r => lcIn g mt me env (acc ++ [r]) ds k
    | false => lcIn g mt me env acc ds k
def lcGo2 (g : MG) (mt : MT) (mi1 : MI) (g1 : MG) (mt1 : MT) (me : ME) (vs1 : List Nat) (env : List DV) : List PyData → List PyData → (PyData → Prop) → Prop
  | acc, [], k => k (.list acc)
  | acc, d :: ds, k => g d env fun e1 => mt e1 fun b => match b with
    | true => noOwn e1 = true ∧ mi1 e1 fun ds1 => lcIn g1 mt1 me (wipeE e1 vs1) acc ds1 fun acc' => lcGo2 g mt mi1 g1 mt1 me vs1 env acc' ds k
    | false => lcGo2 g mt mi1 g1 mt1 me vs1 env acc ds k
def mLc2 (mi : MI) (g : MG) (mt : MT) (mi1 : MI) (g1 : MG) (mt1 : MT) (me : ME) (vs vs1 : List Nat) : ME := fun env k => mi env fun ds => lcGo2 g mt mi1 g1 mt1 me vs1 (wipeE env vs) [] ds k
theorem up_lc2 {mi mi1 : MI} {ss ss1 : List Nat} {g g1 : MG} {mt mt1 : MT} {me : ME} {vs vs1 : List Nat} (hss : ∀ j ∈ ss, j ∈ vs) (hss1 : ∀ j ∈ ss1, j ∈ vs1) (σ : L2.St) (H : Hp) (Q : VK) (h : upL K c (mLc2 mi g mt mi1 g1 mt1 me vs vs1) σ H Q) :
    tLc2 (upI K c mi) (upG K c ss g) (upT K c mt) (upI K c mi1) (upG K c ss1 g1) (upT K c mt1) (up K c me) vs vs1 σ H Q := by
  obtain ⟨F, env, O, k, R, hm, q⟩ := h
  refine ⟨F, env, O, _, R, hm, fun ds J H1 kd gx W D nD => ?_⟩
  have R1 := R.gx gx
  have nO : D ∉ O := fun z => by
    obtain ⟨o, eo⟩ := R1.dom D z
    rw [nD] at eo
    cases eo
  have n0 : c.H0 D = Option.none := R1.h0 nD
  have nb : D ∉ c.b := (R1.n0 n0).2
  have nsys : D ≠ sysModules := fun z => by
    obtain ⟨φ, e⟩ := R1.sys
    rw [← z, nD] at e
    cases e
  have nH : H D = Option.none := by
    cases e : H D with
    | none => rfl
    | some o =>
      have z := gx.kp D o nb e
      rw [nD] at z
      cases z
  have own1 : ∀ (i : Nat) ds, (wipeE env vs)[i]? = some (.own ds) → (wipe σ vs)[i]? ≠ some (some (.ref D)) := fun i ds hi z => by
    obtain ⟨a, xs, h1, h2, _⟩ := (R1.wipe vs).sl i _ hi
    rw [z] at h1
    cases h1
    exact nO h2
  refine ⟨fun i m H' => m = ds.length - i ∧ i ≤ ds.length ∧ ∃ acc ys, H' D = some (.lst ys) ∧ DaAll K (offs (D :: O) H') ys acc ∧ Rel K c F (wipeE env vs) (D :: O) (wipe σ vs) H' ∧ Gx c H1 H' ∧ Same (offs O H1) (offs (D :: O) H') ∧ lcGo2 g mt mi1 g1 mt1 me vs1 (wipeE env vs) acc (ds.drop i) k,
    ⟨_, rfl, Nat.zero_le _, [], [], upd_same, .nil, (R1.wipe vs).acc nD, R1.same (Evl.Ex.new nD), offs_new nD (Evl.Ex.new nD), kd⟩, ?_⟩
  rintro i m H' ⟨rfl, hi, acc, ys, hy, da, R', g', s', k'⟩
  obtain ⟨w1, w2⟩ := W (D :: O) H' R'.dom s'
  by_cases lt : i < ds.length
  · obtain ⟨go, yl⟩ := w1 i ds[i] (List.getElem?_eq_getElem lt)
    rw [List.drop_eq_getElem_cons lt] at k'
    refine .inr ⟨go, fun H' => ∃ acc ys, H' D = some (.lst ys) ∧ DaAll K (offs (D :: O) H') ys acc ∧ Rel K c F (wipeE env vs) (D :: O) (wipe σ vs) H' ∧ Gx c H1 H' ∧ Same (offs O H1) (offs (D :: O) H') ∧ lcGo2 g mt mi1 g1 mt1 me vs1 (wipeE env vs) acc (ds.drop (i + 1)) k,
      fun H2 hh => ⟨_, by omega, rfl, lt, hh⟩, fun x H2 y => ?_⟩
    obtain ⟨s, dx⟩ := yl x H2 y
    have g2 := R'.same s
    have R2 := R'.gx g2
    refine ⟨F, _, D :: O, _, _, R2, dx, k', fun e1 σ2 k2 R3 f l => ⟨wipe_same (fun j hj => f j fun z => hj (hss j z)) l, F, e1, D :: O, _, R3, k2, fun b H3 kb g3 => ?_⟩⟩
    have R4 := R3.gx g3
    have g23 := g2.trans g3
    cases b with
    | false => exact ⟨acc, ys, g23.kp _ _ nb hy, daAll_same (R'.go g23) da, R'.gx g23, g'.trans g23, s'.trans (R'.go g23), kb⟩
    | true =>
      obtain ⟨hno, kb⟩ := kb
      show upI K c mi1 σ2 H3 _
      refine ⟨F, e1, D :: O, _, R4, kb, fun ds1 J1 H4 kd1 gx4 W1 => ?_⟩
      have g24 := g23.trans gx4
      have R5 := (R4.gx gx4).wipe vs1
      have own2 : ∀ (i : Nat) ds, (wipeE e1 vs1)[i]? = some (.own ds) → (wipe σ2 vs1)[i]? ≠ some (some (.ref D)) := fun i ds hi _ => noOwn_at (noOwn_wipe hno vs1) hi
      refine ⟨fun j m H' => m = ds1.length - j ∧ j ≤ ds1.length ∧ ∃ acc ys, H' D = some (.lst ys) ∧ DaAll K (offs (D :: O) H') ys acc ∧ Rel K c F (wipeE env vs) (D :: O) (wipe σ vs) H' ∧ Rel K c F (wipeE e1 vs1) (D :: O) (wipe σ2 vs1) H' ∧ Gx c H1 H' ∧ Same (offs O H1) (offs (D :: O) H') ∧ Same (offs (D :: O) H4) (offs (D :: O) H') ∧
          lcIn g1 mt1 me (wipeE e1 vs1) acc (ds1.drop j) (fun acc' => lcGo2 g mt mi1 g1 mt1 me vs1 (wipeE env vs) acc' (ds.drop (i + 1)) k),
        ⟨_, rfl, Nat.zero_le _, acc, ys, g24.kp _ _ nb hy, daAll_same (R'.go g24) da, R'.gx g24, R5, g'.trans g24, s'.trans (R'.go g24), Evl.Ex.refl _, kd1⟩, ?_⟩
      rintro j m1 H' ⟨rfl, hj, acc, ys, hy, da, Ra, Rb, ga, sa, sb, kk⟩
      obtain ⟨u1, u2⟩ := W1 (D :: O) H' Ra.dom sb
      by_cases lt1 : j < ds1.length
      · obtain ⟨go1, yl1⟩ := u1 j ds1[j] (List.getElem?_eq_getElem lt1)
        rw [List.drop_eq_getElem_cons lt1] at kk
        refine .inr ⟨go1, fun H' => ∃ acc ys, H' D = some (.lst ys) ∧ DaAll K (offs (D :: O) H') ys acc ∧ Rel K c F (wipeE env vs) (D :: O) (wipe σ vs) H' ∧ Rel K c F (wipeE e1 vs1) (D :: O) (wipe σ2 vs1) H' ∧ Gx c H1 H' ∧ Same (offs O H1) (offs (D :: O) H') ∧ Same (offs (D :: O) H4) (offs (D :: O) H') ∧
            lcIn g1 mt1 me (wipeE e1 vs1) acc (ds1.drop (j + 1)) (fun acc' => lcGo2 g mt mi1 g1 mt1 me vs1 (wipeE env vs) acc' (ds.drop (i + 1)) k),
          fun H2 hh => ⟨_, by omega, rfl, lt1, hh⟩, fun x H5 y1 => ?_⟩
        obtain ⟨s5, dx5⟩ := yl1 x H5 y1
        have g5 := Rb.same s5
        have R6 := Rb.gx g5
        refine ⟨F, _, D :: O, _, _, R6, dx5, kk, fun e2 σ3 k3 R7 f l => ⟨wipe_same (fun j hj => f j fun z => hj (hss1 j z)) l, F, e2, D :: O, _, R7, k3, fun b H6 kb g6 => ?_⟩⟩
        have R8 := R7.gx g6
        have g56 := g5.trans g6
        cases b with
        | false => exact ⟨acc, ys, g56.kp _ _ nb hy, daAll_same (Ra.go g56) da, Ra.gx g56, Rb.gx g56, ga.trans g56, sa.trans (Ra.go g56), sb.trans (Ra.go g56), kb⟩
        | true =>
          show up K c me σ3 H6 _
          refine ⟨F, e2, D :: O, _, R8, kb.2, fun r v H7 kr g7 dv => ?_⟩
          have gg := g56.trans g7
          have hy7 := gg.kp _ _ nb hy
          have R9 := Ra.gx gg
          have R10 := Rb.gx gg
          have hl := daAll_len da
          have hlt : acc.length < 100000 := kb.1
          have k5 : Same (offs (D :: O) H7) (offs (D :: O) (upd H7 D (.lst (ys ++ [v])))) := offs_same (fun b u n e => by rw [upd_ne (fun z => n (by rw [z]; exact List.mem_cons_self))]; exact e) fun _ z _ => z
          have da7 := daAll_same (Ra.go gg) da
          refine ⟨ys, hy7, Evl.sz_lt (by omega), acc ++ [r], ys ++ [v], upd_same, daAll_same k5 (daAll_app da7 (.cons dv .nil)), R9.turn List.mem_cons_self hy7 n0 own1, R10.turn List.mem_cons_self hy7 n0 own2, ⟨fun a o n e => ?_, fun a h => ?_⟩, ?_, ?_, kr⟩
          · rw [upd_ne (fun z => by rw [z, nD] at e; cases e)]
            exact gg.kp a o n (ga.kp a o n e)
          · exact ((R9.turn (o := .lst (ys ++ [v])) List.mem_cons_self hy7 n0 own1).bg a h).2.1
          · exact (sa.trans (Ra.go gg)).trans k5
          · exact (sb.trans (Ra.go gg)).trans k5
      · have z : j = ds1.length := by omega
        subst z
        rw [List.drop_length] at kk
        exact .inl ⟨u2, acc, ys, hy, da, Ra, ga, sa, kk⟩
  · have z : i = ds.length := by omega
    subst z
    rw [List.drop_length] at k'
    exact .inl ⟨w2, q _ D ys acc H' k' rfl (gx.trans g') nH hy nsys da⟩
theorem ds_setLc2V {i : Nat} {y : Str} {py : Pos} {elt tg iter tg1 iter1 : Expr} {ifs ifs1 : List Expr} {scope : Scope} {own : List (Str × Nat)} {vs1 : List Nat} {spos : Pos} {mi mi1 : MI} {ss ss1 : List Nat} {g g1 : MG} {mt mt1 : MT} {me : ME} (hc : X.calm = true) (hN : X.N.Nodup) (hy : X.N[i]? = some y) (hyl : X.env.scope.names.lookup y = some .local)
    (hsw : swapsWith (.ListComp elt [⟨tg, iter, ifs, 0⟩, ⟨tg1, iter1, ifs1, 0⟩] scope pos) (some (.Name y py)) spos.line X.env = pure true) (hi : PI X tg iter (upI K c mi)) (ok : BlkOk X.N X.env.scope scope own) (hv : ∀ i ∈ vs1, i ∈ own.map (·.2))
    (hg : ∀ (s : Shared) (H : Hp) (C : Addr) (cl : List (Str × Addr)) (fp : List Addr), PG (X.blk s H scope (compEnvC scope cl C X.env) fp) tg (upG K c ss g)) (ht : ∀ (s : Shared) (H : Hp) (C : Addr) (cl : List (Str × Addr)) (fp : List Addr), PTs (X.blk s H scope (compEnvC scope cl C X.env) fp) ifs (upT K c mt))
    (hi1 : ∀ (s : Shared) (H : Hp) (C : Addr) (cl : List (Str × Addr)) (fp : List Addr), PI (X.blk s H scope (compEnvC scope cl C X.env) fp) tg1 iter1 (upI K c mi1))
    (hg1 : ∀ (s : Shared) (H : Hp) (C : Addr) (cl : List (Str × Addr)) (fp : List Addr), PG (X.blk s H scope (compEnvC scope cl C X.env) fp) tg1 (upG K c ss1 g1)) (ht1 : ∀ (s : Shared) (H : Hp) (C : Addr) (cl : List (Str × Addr)) (fp : List Addr), PTs (X.blk s H scope (compEnvC scope cl C X.env) fp) ifs1 (upT K c mt1))
    (he : ∀ (s : Shared) (H : Hp) (C : Addr) (cl : List (Str × Addr)) (fp : List Addr), PE (X.blk s H scope (compEnvC scope cl C X.env) fp) elt (up K c me)) (hss : ∀ j ∈ ss, j ∈ own.map (·.2)) (hss1 : ∀ j ∈ ss1, j ∈ vs1) (hs : ∀ x, foldedSetIterable iter X.env x = pure x := by intro _; rfl) (hs1 : ∀ env x, foldedSetIterable iter1 env x = pure x := by intro _ _; rfl) :
    PS X (.Assign [.Name y py] (.ListComp elt [⟨tg, iter, ifs, 0⟩, ⟨tg1, iter1, ifs1, 0⟩] scope pos) spos) (upS K c (dAsg (mLc2 mi g mt mi1 g1 mt1 me (own.map (·.2)) vs1) (gNm i))) := ps_mono (ps_setLc2 hc hN hy hyl hsw hi ok hv hg ht hi1 hg1 ht1 he hs hs1) fun D σ H h => by
  obtain ⟨F, env, O, DD, R, hb, h1, h2, h3, h4⟩ := h
  refine up_lc2 hss hss1 σ H _ ⟨F, env, O, _, R, hb, fun d p ys ds H' kd ed g n ep hp da => ?_⟩
  subst ed
  have pO : p ∉ O := fun z => by
    obtain ⟨o, eo⟩ := R.dom p z
    rw [n] at eo
    cases eo
  exact h1 _ O _ H' kd ((R.gx g).set i (.lst (by rw [offs_ne pO]; exact ep) hp (daAll_same (offs_less fun a z => List.mem_cons_of_mem _ z) da)))
/-- a walk within, each of its turns told -/
theorem in_pure {g : MG} {mt : MT} {me : ME} {env : List DV} (E : PyData → List DV) (P : PyData → Bool) (V : PyData → PyData) : ∀ (ds acc : List PyData) (k : List PyData → Prop), acc.length + ds.length ≤ 100000 → (∀ d ∈ ds, ∀ k', k' (E d) → g d env k') →
    (∀ d ∈ ds, ∀ k', k' (P d) → mt (E d) k') → (∀ d ∈ ds, P d = true → ∀ k', k' (V d) → me (E d) k') → k (acc ++ (ds.filter P).map V) → lcIn g mt me env acc ds k
  | [], acc, k, _, _, _, _, h => by
    have h' : k (acc ++ []) := h
    rw [List.append_nil] at h'
    exact h'
  | d :: ds, acc, k, hl, hg, ht, he, h => by
    rw [List.length_cons] at hl
    refine hg d List.mem_cons_self _ (ht d List.mem_cons_self _ ?_)
    cases hp : P d with
    | true =>
      refine ⟨by omega, he d List.mem_cons_self hp _ ?_⟩
      refine in_pure E P V ds _ k (by rw [List.length_append, List.length_singleton]; omega) (fun d hd => hg d (List.mem_cons_of_mem _ hd)) (fun d hd => ht d (List.mem_cons_of_mem _ hd)) (fun d hd => he d (List.mem_cons_of_mem _ hd)) ?_
      rw [List.filter_cons, if_pos hp, List.map_cons] at h
      rw [List.append_assoc]
      exact h
    | false =>
      refine in_pure E P V ds _ k (by omega) (fun d hd => hg d (List.mem_cons_of_mem _ hd)) (fun d hd => ht d (List.mem_cons_of_mem _ hd)) (fun d hd => he d (List.mem_cons_of_mem _ hd)) ?_
      rw [List.filter_cons, if_neg (by rw [hp]; decide)] at h
      exact h
end
end Du

/-! comprehensions of two walks: the expression; both walks told. -/
namespace Du
open PySem PySem.Spec PyProof.Rows L2 On
section
variable {K : PySem.W.Frag} {c : Bs} {X : Cx} {e : Expr} {pos : Pos}
/-- the comprehension itself -/
theorem de_lc2 {elt tg iter tg1 iter1 : Expr} {ifs ifs1 : List Expr} {scope : Scope} {own : List (Str × Nat)} {vs1 : List Nat} {mi mi1 : MI} {ss ss1 : List Nat} {g g1 : MG} {mt mt1 : MT} {me : ME} (hc : X.calm = true) (hN : X.N.Nodup) (hi : PI X tg iter (upI K c mi)) (ok : BlkOk X.N X.env.scope scope own) (hv : ∀ i ∈ vs1, i ∈ own.map (·.2))
    (hg : ∀ (s : Shared) (H : Hp) (C : Addr) (cl : List (Str × Addr)) (fp : List Addr), PG (X.blk s H scope (compEnvC scope cl C X.env) fp) tg (upG K c ss g)) (ht : ∀ (s : Shared) (H : Hp) (C : Addr) (cl : List (Str × Addr)) (fp : List Addr), PTs (X.blk s H scope (compEnvC scope cl C X.env) fp) ifs (upT K c mt))
    (hi1 : ∀ (s : Shared) (H : Hp) (C : Addr) (cl : List (Str × Addr)) (fp : List Addr), PI (X.blk s H scope (compEnvC scope cl C X.env) fp) tg1 iter1 (upI K c mi1))
    (hg1 : ∀ (s : Shared) (H : Hp) (C : Addr) (cl : List (Str × Addr)) (fp : List Addr), PG (X.blk s H scope (compEnvC scope cl C X.env) fp) tg1 (upG K c ss1 g1)) (ht1 : ∀ (s : Shared) (H : Hp) (C : Addr) (cl : List (Str × Addr)) (fp : List Addr), PTs (X.blk s H scope (compEnvC scope cl C X.env) fp) ifs1 (upT K c mt1))
    (he : ∀ (s : Shared) (H : Hp) (C : Addr) (cl : List (Str × Addr)) (fp : List Addr), PE (X.blk s H scope (compEnvC scope cl C X.env) fp) elt (up K c me)) (hss : ∀ j ∈ ss, j ∈ own.map (·.2)) (hss1 : ∀ j ∈ ss1, j ∈ vs1) (hs : ∀ x, foldedSetIterable iter X.env x = pure x := by intro _; rfl) (hs1 : ∀ env x, foldedSetIterable iter1 env x = pure x := by intro _ _; rfl) :
    PE X (.ListComp elt [⟨tg, iter, ifs, 0⟩, ⟨tg1, iter1, ifs1, 0⟩] scope pos) (upL K c (mLc2 mi g mt mi1 g1 mt1 me (own.map (·.2)) vs1)) := pe_mono (pe_lc2 hc hN hi ok hv hg ht hi1 hg1 ht1 he hs hs1) (up_lc2 hss hss1)
/-- both walks told: the items of each inner walk behind one another -/
theorem go2_pure {g : MG} {mt : MT} {mi1 : MI} {g1 : MG} {mt1 : MT} {me : ME} {vs1 : List Nat} {env : List DV} (E : PyData → List DV) (W : PyData → List PyData) (F : PyData → PyData → List DV) (V : PyData → PyData → PyData) (B : PyData → PyData → Bool) (N : Nat) :
    ∀ (ds acc : List PyData) (k : PyData → Prop), acc.length + ds.length * N ≤ 100000 → (∀ d ∈ ds, (W d).length ≤ N) → (∀ d ∈ ds, ∀ k', k' (E d) → g d env k') → (∀ d ∈ ds, ∀ k' : Bool → Prop, k' true → mt (E d) k') → (∀ d ∈ ds, noOwn (E d) = true) → (∀ d ∈ ds, ∀ k', k' (W d) → mi1 (E d) k') →
    (∀ d ∈ ds, ∀ x ∈ W d, ∀ k', k' (F d x) → g1 x (wipeE (E d) vs1) k') → (∀ d ∈ ds, ∀ x ∈ W d, ∀ k', k' (B d x) → mt1 (F d x) k') → (∀ d ∈ ds, ∀ x ∈ W d, B d x = true → ∀ k', k' (V d x) → me (F d x) k') →
    k (.list (acc ++ ds.flatMap fun d => ((W d).filter (B d)).map (V d))) → lcGo2 g mt mi1 g1 mt1 me vs1 env acc ds k
  | [], acc, k, _, _, _, _, _, _, _, _, _, h => by
    have h' : k (.list (acc ++ [])) := h
    rw [List.append_nil] at h'
    exact h'
  | d :: ds, acc, k, hl, hN, hg, ht, ho, hi, hg1, ht1, he, h => by
    rw [List.length_cons, Nat.succ_mul] at hl
    have hw := hN d List.mem_cons_self
    refine hg d List.mem_cons_self _ (ht d List.mem_cons_self _ ⟨ho d List.mem_cons_self, hi d List.mem_cons_self _ ?_⟩)
    refine in_pure (F d) (B d) (V d) (W d) acc _ (by omega) (hg1 d List.mem_cons_self) (ht1 d List.mem_cons_self) (he d List.mem_cons_self) ?_
    have hf := List.length_filter_le (B d) (W d)
    refine go2_pure E W F V B N ds _ k (by rw [List.length_append, List.length_map]; omega) (fun d hd => hN d (List.mem_cons_of_mem _ hd)) (fun d hd => hg d (List.mem_cons_of_mem _ hd)) (fun d hd => ht d (List.mem_cons_of_mem _ hd)) (fun d hd => ho d (List.mem_cons_of_mem _ hd)) (fun d hd => hi d (List.mem_cons_of_mem _ hd))
      (fun d hd => hg1 d (List.mem_cons_of_mem _ hd)) (fun d hd => ht1 d (List.mem_cons_of_mem _ hd)) (fun d hd => he d (List.mem_cons_of_mem _ hd)) ?_
    rw [List.flatMap_cons, ← List.append_assoc] at h
    exact h
end
end Du

/-! sorted of tuples of ints; reverse. -/
namespace Du
open PySem PySem.Spec PyProof.Rows L2 On
def conD (n : List Int) : PyData := .tuple (n.map .int)
theorem map_int_inj : ∀ {a b : List Int}, a.map PyData.int = b.map PyData.int → a = b
  | [], [], _ => rfl
  | [], _ :: _, h => nomatch h
  | _ :: _, [], h => nomatch h
  | x :: a, y :: b, h => by
    rw [List.map_cons, List.map_cons] at h
    injection h with h1 h2
    injection h1 with h3
    rw [h3, map_int_inj h2]
theorem conD_inj {a b : List Int} (h : conD a = conD b) : a = b := by
  unfold conD at h
  injection h with h
  exact map_int_inj h
theorem code_rng : ∀ {a : List Int}, TS.Bd 6 a → 0 ≤ TS.code 6 a ∧ TS.code 6 a < 6 ^ a.length
  | [], _ => ⟨Int.le_refl _, by decide⟩
  | x :: a, h => by
    have ⟨c0, c1⟩ := code_rng h.tail
    have ⟨x0, x1⟩ := h.head
    have z := TS.num1 c0 c1 x0 x1
    rw [List.length_cons, Int.pow_succ]
    exact z
theorem code_inj : ∀ {a b : List Int}, a.length = b.length → TS.Bd 6 a → TS.Bd 6 b → TS.code 6 a = TS.code 6 b → a = b
  | [], [], _, _, _, _ => rfl
  | [], _ :: _, l, _, _, _ => nomatch l
  | _ :: _, [], l, _, _, _ => nomatch l
  | x :: a, y :: b, l, ha, hb, e => by
    have l' : a.length = b.length := Nat.succ.inj l
    have ⟨c0, c1⟩ := code_rng ha.tail
    have ⟨d0, d1⟩ := code_rng hb.tail
    have e' : x * 6 ^ a.length + TS.code 6 a = y * 6 ^ b.length + TS.code 6 b := e
    rw [← l'] at e' d1
    generalize (6 : Int) ^ a.length = p at *
    have hx : x = y := by
      rcases Int.lt_trichotomy x y with h | h | h
      · have q : (x + 1) * p ≤ y * p := Int.mul_le_mul_of_nonneg_right (by omega) (by omega)
        rw [Int.add_mul, Int.one_mul] at q
        omega
      · exact h
      · have q : (y + 1) * p ≤ x * p := Int.mul_le_mul_of_nonneg_right (by omega) (by omega)
        rw [Int.add_mul, Int.one_mul] at q
        omega
    subst hx
    rw [code_inj l' ha.tail hb.tail (by omega)]
def codeLe (a b : List Int) : Bool := decide (TS.code 6 a ≤ TS.code 6 b)
/-- the same, ascending -/
def srt (L : List (List Int)) : List (List Int) := L.mergeSort codeLe
theorem srt_perm (L : List (List Int)) : (srt L).Perm L := List.mergeSort_perm L codeLe
theorem srt_pw (L : List (List Int)) : (srt L).Pairwise fun a b => TS.code 6 a ≤ TS.code 6 b := by
  have h := List.pairwise_mergeSort (le := codeLe) (fun a b c h1 h2 => by unfold codeLe at *; simp at *; omega) (fun a b => by unfold codeLe; simp; omega) L
  exact h.imp fun z => by unfold codeLe at z; simpa using z
theorem pw_uniq {α : Type} {f : α → Int} : ∀ {a b : List α}, (∀ x ∈ a, ∀ y ∈ a, f x = f y → x = y) → a.Perm b → a.Pairwise (fun x y => f x ≤ f y) → b.Pairwise (fun x y => f x ≤ f y) → a = b
  | [], b, _, p, _, _ => (List.nil_perm.mp p).symm
  | x :: a, [], _, p, _, _ => nomatch (List.perm_nil.mp p)
  | x :: a, y :: b, inj, p, h1, h2 => by
    have hx : x ∈ y :: b := p.mem_iff.mp List.mem_cons_self
    have hy : y ∈ x :: a := p.mem_iff.mpr List.mem_cons_self
    have l1 : f y ≤ f x := by
      rcases List.mem_cons.mp hx with e | m
      · rw [e]; exact Int.le_refl _
      · exact (List.pairwise_cons.mp h2).1 x m
    have l2 : f x ≤ f y := by
      rcases List.mem_cons.mp hy with e | m
      · rw [e]; exact Int.le_refl _
      · exact (List.pairwise_cons.mp h1).1 y m
    have e : x = y := inj x List.mem_cons_self y hy (by omega)
    subst e
    rw [pw_uniq (fun u hu v hv => inj u (List.mem_cons_of_mem _ hu) v (List.mem_cons_of_mem _ hv)) ((List.perm_cons x).mp p) (List.pairwise_cons.mp h1).2 (List.pairwise_cons.mp h2).2]
theorem srt_eq {d : Nat} {L L' : List (List Int)} (hb : ∀ n ∈ L, n.length = d ∧ TS.Bd 6 n) (p : L'.Perm L) (h : L'.Pairwise fun a b => TS.code 6 a ≤ TS.code 6 b) : L' = srt L :=
  pw_uniq (fun x hx y hy e => by
    have h1 := hb x (p.mem_iff.mp hx)
    have h2 := hb y (p.mem_iff.mp hy)
    exact code_inj (h1.1.trans h2.1.symm) h1.2 h2.2 e) (p.trans (srt_perm L).symm) h (srt_pw L)
theorem srt_len (L : List (List Int)) : (srt L).length = L.length := (srt_perm L).length_eq
/-- of the same things the ascending list is one -/
theorem srt_congr {d : Nat} {L M : List (List Int)} (hb : ∀ n ∈ M, n.length = d ∧ TS.Bd 6 n) (p : L.Perm M) : srt L = srt M := srt_eq hb ((srt_perm L).trans p) (srt_pw L)
section
variable {K : PySem.W.Frag} {c : Bs} {X : Cx} {st : Stmt}
theorem daAll_perm {H : Hp} {ys xs : List V} (p : ys.Perm xs) : ∀ {ds : List PyData}, DaAll K H xs ds → ∃ es, es.Perm ds ∧ DaAll K H ys es := by
  induction p with
  | nil => exact fun h => ⟨_, List.Perm.refl _, h⟩
  | cons x p ih =>
    intro ds h
    cases h with
    | cons h t =>
      obtain ⟨es, h1, h2⟩ := ih t
      exact ⟨_, h1.cons _, .cons h h2⟩
  | swap x y l =>
    intro ds h
    cases h with
    | cons h t => cases t with
      | cons h' t => exact ⟨_, List.Perm.swap _ _ _, .cons h' (.cons h t)⟩
  | trans p q ih1 ih2 =>
    intro ds h
    obtain ⟨es, h1, h2⟩ := ih2 h
    obtain ⟨fs, h3, h4⟩ := ih1 h2
    exact ⟨fs, h3.trans h1, h4⟩
def unC : PyData → List Int
  | .tuple ds => ds.map fun d => match d with
    | .int i => i
    | _ => 0
  | _ => []
theorem unC_con (n : List Int) : unC (conD n) = n := by
  show ((n.map PyData.int).map fun d => match d with
    | .int i => i
    | _ => 0) = n
  rw [List.map_map]
  exact List.map_id n
theorem perm_con {es : List PyData} {L : List (List Int)} (p : es.Perm (L.map conD)) : ∃ L' : List (List Int), L'.Perm L ∧ es = L'.map conD := by
  refine ⟨es.map unC, ?_, ?_⟩
  · have q := p.map unC
    rw [List.map_map] at q
    have e : L.map (unC ∘ conD) = L := (List.map_congr_left (g := id) (f := unC ∘ conD) fun n _ => unC_con n).trans (List.map_id L)
    rwa [e] at q
  · rw [List.map_map]
    have e : es.map (conD ∘ unC) = es.map id := List.map_congr_left fun d hd => by
      obtain ⟨n, _, rfl⟩ := List.mem_map.mp (p.mem_iff.mp hd)
      show conD (unC (conD n)) = _
      rw [unC_con]
      rfl
    rw [e, List.map_id]
theorem ints_da {H : Hp} : ∀ {n : List Int} {xs : List V}, DaAll K H xs (n.map PyData.int) → xs = n.map V.int
  | [], [], _ => rfl
  | i :: n, x :: xs, .cons p q => by rw [da_int p, ints_da q]; rfl
theorem da_con {H : Hp} {v : V} {n : List Int} (h : Da K H v (conD n)) : TupI K H v n := by
  obtain ⟨a, xs, rfl, h1, h2⟩ := da_tup h
  rw [ints_da h2] at h1
  exact ⟨a, rfl, h1⟩
def rSortE (K : PySem.W.Frag) : List V → Hp → VK → Prop := fun vs H Q => ∃ d, 1 ≤ d ∧ rSortU K d 6 vs H Q
theorem kSortE (h : X.K = K := by rfl) : CallR X (.builtin "sorted") (rSortE K) := by
  subst h
  exact fun pins s σ H vs us Q I r ⟨d, hd, q⟩ => cr_sortT hd pins s σ H vs us Q I r q
/-- sorted(tuples of ints) -/
def fSortE : FL := fun as k => match as with
  | [.list xs] => ∃ L : List (List Int), xs = L.map conD ∧ L.length < 64 ∧ (∃ d, 1 ≤ d ∧ ∀ n ∈ L, n.length = d ∧ TS.Bd 6 n) ∧ k (.list ((srt L).map conD))
  | _ => False
theorem cl_sortE : CallL K (rSortE K) fSortE := fun O H xs ds k Q hd hs ps hf q => by
  unfold fSortE at hf
  split at hf
  · obtain ⟨L, rfl, h64, ⟨d, d1, hb⟩, hk⟩ := hf
    obtain ⟨x, rfl, n⟩ := pq1 ps
    obtain ⟨a, ys, rfl, h1, _, h3⟩ := nq_lst n
    have hl := daAll_len h3
    rw [List.length_map] at hl
    have h3' := daAll_same (offs_sub (O := O)) h3
    have tup : ∀ {y : V}, y ∈ ys → ∃ n ∈ L, TupI K H y n := fun {y} hy => by
      obtain ⟨i, hi, e⟩ := List.mem_iff_getElem.mp hy
      obtain ⟨dd, h4, h5⟩ := daAll_vat h3' (i := i) (v := y) (by rw [List.getElem?_eq_getElem hi, e])
      rw [List.getElem?_map] at h4
      obtain ⟨m, h6, rfl⟩ := Option.map_eq_some_iff.mp h4
      exact ⟨m, List.mem_of_getElem? h6, da_con h5⟩
    refine ⟨d, d1, a, ys, rfl, SqL.of h1, by omega, fun y hy => ?_, fun zs p hp hpw np => ?_⟩
    · obtain ⟨m, hm, t⟩ := tup hy
      exact ⟨m, t, (hb m hm).1, (hb m hm).2⟩
    · obtain ⟨es, pe, de⟩ := daAll_perm hp h3
      obtain ⟨L', pL, rfl⟩ := perm_con pe
      have de' := daAll_same (offs_sub (O := O)) de
      have pw : L'.Pairwise fun a b => TS.code 6 a ≤ TS.code 6 b := by
        have lz := daAll_len de'
        rw [List.length_map] at lz
        rw [List.pairwise_iff_getElem] at hpw ⊢
        intro i j hi hj lt
        have gi : (L'.map conD)[i]? = some (conD L'[i]) := by rw [List.getElem?_map, List.getElem?_eq_getElem hi]; rfl
        have gj : (L'.map conD)[j]? = some (conD L'[j]) := by rw [List.getElem?_map, List.getElem?_eq_getElem hj]; rfl
        obtain ⟨v, e1, t1⟩ := daAll_at de' gi
        obtain ⟨u, e2, t2⟩ := daAll_at de' gj
        have q2 := hpw i j (by omega) (by omega) lt L'[i] L'[j]
        have f1 : zs[i]'(by omega) = v := by rw [List.getElem?_eq_getElem (by omega)] at e1; exact Option.some.inj e1
        have f2 : zs[j]'(by omega) = u := by rw [List.getElem?_eq_getElem (by omega)] at e2; exact Option.some.inj e2
        rw [f1, f2] at q2
        exact q2 (da_con t1) (da_con t2)
      rw [← srt_eq hb pL pw] at hk
      exact q _ _ p _ _ hk rfl (Evl.Ex.new np) np upd_same (daAll_same (offs_new np (Evl.Ex.new np)) de)
  · exact hf.elim
theorem daAll_rev {H : Hp} : ∀ {xs : List V} {ds : List PyData}, DaAll K H xs ds → DaAll K H xs.reverse ds.reverse
  | _, _, .nil => .nil
  | _, _, .cons h t => by
    rw [List.reverse_cons, List.reverse_cons]
    exact daAll_app (daAll_rev t) (.cons h .nil)
/-- x.reverse() -/
def dRev (i : Nat) : MS := fun env D => match env[i]? with
  | some (.own ds) => D.nx (env.set i (.own ds.reverse))
  | _ => False
theorem ds_rev {i : Nat} (h : PS X st (tDrop (tBM0 K "list" rReverse (tVar i)))) : PS X st (upS K c (dRev i)) := ps_mono h fun D σ H ⟨F, env, O, DD, R, hb, h1, h2, h3, h4⟩ => by
  unfold dRev at hb
  split at hb
  · rename_i ds hd
    obtain ⟨a, xs, e1, q2, q3, q5, q6, q7⟩ := R.sl i _ hd
    exact ⟨_, e1, .inl ⟨rfl, xs, SqL.of q6⟩, a, xs, rfl, rfl, q6, h1 _ O _ _ hb (R.mut hd e1 (daAll_rev q7))⟩
  · exact hb.elim
end
end Du

/-! a dict whose keys are tuples of ints and whose values are lists: made, grown, read. -/
namespace Du
open PySem PySem.Spec PyProof.Rows L2 On
section
variable {X : Cx}
theorem int_keys : ∀ n : List Int, (n.map Sum.inl : List L2.Key).map kV = n.map V.int
  | [] => rfl
  | i :: n => by rw [List.map_cons, List.map_cons, List.map_cons, int_keys n]; rfl
/-- a tuple of ints is a key, wherever it stands -/
theorem key_sq {pins : List (Addr × Obj)} {σ : L2.St} {H : Hp} {s : Shared} {a : Addr} {n : List Int} (I : Inv X pins σ H s) (h : SqT X.K H a (n.map V.int)) : (tupleKind (mixKind X.prog X.w)).is s.heap (n.map Sum.inl) a := by
  obtain ⟨its, r, ⟨o, h1, h2, m, h3⟩, _⟩ := I.tuple h
  rw [← int_keys] at r
  exact ⟨o, its.toArray, m, h1, h2, h3, by simpa using items_are r⟩
def entOk (K : PySem.W.Frag) (H : Hp) (e : List Int × Addr × Addr) : Prop := SqT K H e.2.1 (e.1.map V.int)
theorem inl_inj : ∀ {a b : List Int}, (a.map Sum.inl : List L2.Key) = b.map Sum.inl → a = b
  | [], [], _ => rfl
  | [], _ :: _, h => nomatch h
  | _ :: _, [], h => nomatch h
  | x :: a, y :: b, h => by
    rw [List.map_cons, List.map_cons] at h
    injection h with h1 h2
    injection h1 with h3
    rw [h3, inl_inj h2]
theorem tabXs_nd {ents : List (List Int × Addr × Addr)} (h : (ents.map (·.1)).Nodup) : ((tabXs ents).map (·.1)).Nodup := by
  unfold tabXs
  rw [List.map_map]
  show (ents.map fun e => (e.1.map Sum.inl : List L2.Key)).Nodup
  unfold List.Nodup at *
  rw [List.pairwise_map] at *
  exact h.imp fun z q => z (inl_inj q)
theorem tab_dict {pins : List (Addr × Obj)} {σ : L2.St} {H : Hp} {s : Shared} {p : Addr} {ents : List (List Int × Addr × Addr)} (I : Inv X pins σ H s) (h : H p = some (.ext (dictAt X.prog X.w p ents))) (nd : (ents.map (·.1)).Nodup) (ks : ∀ e ∈ ents, entOk X.K H e) :
    s.heap.DictOfH (tupleKind (mixKind X.prog X.w)) p (tabXs ents) := by
  obtain ⟨⟨o, es, ep, h1, h2, h3, h4⟩, _⟩ := (show ObjOk X.prog X.w H s.heap p (.ext (dictAt X.prog X.w p ents)) from I.hok p _ h)
  refine ⟨o, es, ep, h1, h2, h3, h4, fun x hx => ?_, tabXs_nd nd⟩
  obtain ⟨e, he, rfl⟩ := List.mem_map.mp hx
  exact key_sq I (ks e he)
theorem vals_two {a b : Addr} {us : List Value} (h : Vals [.ref a, .ref b] us) : us = [.ref a, .ref b] := by
  cases h with
  | cons r1 t =>
    cases t with
    | cons r2 t =>
      cases t
      cases r1
      cases r2
      rfl
/-- dict(pairs) -/
def rDictC (X : Cx) : List V → Hp → VK → Prop := fun vs H Q => ∃ (D : Addr) (Ts : List Addr) (ents : List (List Int × Addr × Addr)), vs = [.ref D] ∧ SqL X.K H D (Ts.map V.ref) ∧ Ts.length ≤ 100000 ∧
  Paired (fun T (e : List Int × Addr × Addr) => SqT X.K H T [.ref e.2.1, .ref e.2.2]) Ts ents ∧ (∀ e ∈ ents, entOk X.K H e) ∧ (ents.map (·.1)).Nodup ∧
  ∀ p, H p = Option.none → Q (.ref p) (upd H p (.ext (dictAt X.prog X.w p ents)))
theorem dictAt_stay {P : Program} {w : World} {p : Addr} {ents : List (List Int × Addr × Addr)} (h1 h2 : Heap) (x : dictAt P w p ents h1) (k : ∀ o, h1.get? p = some o → h2.get? p = some o) : dictAt P w p ents h2 := by
  obtain ⟨o, es, ep, a, b⟩ := x
  exact ⟨o, es, ep, k _ a, b⟩
theorem cr_dictC (hc : X.calm = true) (hu : X.A.units + 8 < cLine) : CallR X (.type "dict") (rDictC X) := by
  intro pins s σ H vs us Q I r h
  obtain ⟨D, Ts, ents, rfl, hD, hz, hT, hk, nd, q⟩ := h
  obtain ⟨its, rv, ⟨o, n, ho, hcl, hdi, hda⟩, _⟩ := I.list hD
  rw [Vals.ref1 r]
  have li : its.length = Ts.length := by rw [← rv.length, List.length_map]
  have lt : Ts.length = ents.length := hT.length
  have P := PySem.PairArg.list (prog := X.prog) (w := X.w) D its.toArray (fun j => Ts.getD j 0) ((tabXs ents).map fun x => (Value.ref x.2.1, x.2.2))
  have e2 : ((tabXs ents).map fun x => (Value.ref x.2.1, x.2.2)).length = ents.length := by rw [List.length_map]; exact List.length_map ..
  refine PySem.call_dict_pairsH (knd := tupleKind (mixKind X.prog X.w)) (ps := tabXs ents) P (I.ok.hd hc) (tupleKind_room_in1 ?_) ⟨⟨o, n, ho, hcl, hdi, hda⟩, ?_⟩ ⟨?_, ?_⟩ ?_ ?_ fun h' tk hd kp => ?_
  · show X.A.units + 1 + 1 < cLine
    omega
  · refine ⟨by rw [List.size_toArray, e2, li, lt], fun j k v hj => ?_⟩
    rw [List.getElem?_map] at hj
    obtain ⟨x, hx, hxe⟩ := Option.map_eq_some_iff.mp hj
    unfold tabXs at hx
    rw [List.getElem?_map] at hx
    obtain ⟨e, he, rfl⟩ := Option.map_eq_some_iff.mp hx
    cases hxe
    obtain ⟨T, hTj, sT⟩ := paired_get hT he
    have gD : Ts.getD j 0 = T := by rw [List.getD_eq_getElem?_getD, hTj]; rfl
    have hv : (Ts.map V.ref)[j]? = some (V.ref T) := by rw [List.getElem?_map, hTj]; rfl
    obtain ⟨u, hu1, hu2⟩ := rv.get hv
    cases (show u = Value.ref T from hu2)
    refine ⟨by show its.toArray[j]? = some (Value.ref (Ts.getD j 0)); rw [gD]; simpa using hu1, ?_⟩
    obtain ⟨it2, rv2, hIT, _⟩ := I.tuple sT
    show PairAt s.heap (Ts.getD j 0) (Value.ref e.2.1) (Value.ref e.2.2)
    rw [gD]
    have e3 := vals_two rv2
    subst e3
    obtain ⟨oT, hoT, cT, mT, dT⟩ := hIT
    exact .inl ⟨oT, hoT, cT, mT, dT⟩
  · rw [e2]
    exact List.length_map ..
  · intro i key v hi
    have hi : ((tabXs ents).map fun x => (Value.ref x.2.1, x.2.2))[i]? = some (key, v) := hi
    rw [List.getElem?_map] at hi
    obtain ⟨x, hx, hxe⟩ := Option.map_eq_some_iff.mp hi
    cases hxe
    exact ⟨x.1, x.2.1, hx, rfl⟩
  · intro h' hk' x hx
    obtain ⟨e, he, rfl⟩ := List.mem_map.mp hx
    exact PySem.tupleKind_stays.stays (fun b o vs m eb hd => hk' b o (Nat.ne_of_lt (Heap.lt_size eb)) (fun z => nomatch z) eb) (key_sq I (hk e he))
  · rw [e2, ← lt]
    exact Evl.sz_of (by omega)
  · rw [PySem.storedAllH_nil_of_nodup _ (tabXs_nd nd)] at hd
    obtain ⟨od, es, ep, g1, g2, g3, g4, _, _⟩ := hd
    refine ⟨.ref s.heap.objs.size, _, I.laid (a := s.heap.objs.size) (o := .ext (dictAt X.prog X.w s.heap.objs.size ents)) (t' := tk) (fun b ob eb => kp b ob (fun z => nomatch z) eb) (Nat.le_refl _) ?_, rfl, q _ (I.hok.fresh (Nat.le_refl _))⟩
    exact ⟨⟨od, es, ep, g1, g2, g3, g4⟩, ⟨od, g1⟩, fun a b x k => dictAt_stay a b x k⟩
/-- d[y] -/
def tTGet (X : Cx) (td ty : TE) : TE := fun σ H Q => td σ H fun x H1 => ty σ H1 fun y H2 => ∃ (p b : Addr) (ents : List (List Int × Addr × Addr)) (e : List Int × Addr × Addr), x = .ref p ∧ y = .ref b ∧ H2 p = some (.ext (dictAt X.prog X.w p ents)) ∧ (ents.map (·.1)).Nodup ∧ (∀ e ∈ ents, entOk X.K H2 e) ∧ e ∈ ents ∧
  SqT X.K H2 b (e.1.map V.int) ∧ Q (.ref e.2.2) H2
theorem atKey_mem {α : Type} [DecidableEq α] {β : Type} : ∀ {xs : List (α × β)} {x : α × β}, (xs.map (·.1)).Nodup → x ∈ xs → xs.find? (fun y => decide (y.1 = x.1)) = some x
  | y :: xs, x, nd, h => by
    rw [List.map_cons, List.nodup_cons] at nd
    rcases List.mem_cons.mp h with e | m
    · subst e
      rw [List.find?_cons, decide_eq_true rfl]
    · have ne : y.1 ≠ x.1 := fun z => nd.1 (by rw [z]; exact List.mem_map.mpr ⟨x, m, rfl⟩)
      rw [List.find?_cons, decide_eq_false ne]
      exact atKey_mem nd.2 m
/-- d[y], y a tuple of ints that stands anywhere -/
theorem pe_tget {o i : Expr} {pos : Pos} {td ty : TE} (hu : X.A.units + 1 < cLine) (ho : PE X o td) (hi : PE X i ty) (hs : NoSl i) : PE X (.Subscript o i pos) (tTGet X td ty) := by
  refine ⟨fun pins s σ H Q I h => ?_⟩
  refine subD_of PySem.F.slot_dict_getitem.lookup hs (thn (ho.run pins s σ H _ I h) fun u s1 ⟨x, H1, I1, rx, q1⟩ => thn (hi.run pins s1 σ H1 _ I1 q1) fun iv s2 ⟨y, H2, I2, ry, p, b, ents, e, ex, ey, hp, nd, ks, me, sb, q2⟩ => ?_)
  subst ex ey
  obtain rfl : u = Value.ref p := rx
  obtain rfl : iv = Value.ref b := ry
  have dd := tab_dict I2 hp nd ks
  have hk : atKey (tabXs ents) (e.1.map Sum.inl) = some (e.2.1, Value.ref e.2.2) := by
    have hm : ((e.1.map Sum.inl : List L2.Key), e.2.1, Value.ref e.2.2) ∈ tabXs ents := List.mem_map.mpr ⟨e, me, rfl⟩
    have z := atKey_mem (tabXs_nd nd) hm
    unfold atKey
    rw [z]
    rfl
  exact ⟨dd.typeIs, wpAny_getItem_heap (tupleKind_room_in1 hu) (key_sq I2 sb) dd hk ⟨.ref e.2.2, H2, I2.tok _, rfl, q2⟩⟩
end
end Du

/-! the dict while its lists grow. -/
namespace Du
open PySem PySem.Spec PyProof.Rows L2 On
structure Bk (K : PySem.W.Frag) (P : Program) (w : World) (c : Bs) (O : List Addr) (σ : L2.St) (H : Hp) (i : Nat) (ents : List (List Int × Addr × Addr)) (kvs : List (List Int × List PyData)) : Prop where
  slot : ∃ p, σ[i]? = some (some (.ref p)) ∧ p ∉ O ∧ H p = some (.ext (dictAt P w p ents)) ∧ p ≠ sysModules
  nd : (ents.map (·.1)).Nodup
  nv : (ents.map (·.2.2)).Nodup
  off : ∃ O1, O = ents.map (·.2.2) ++ O1 ∧ (∀ a ∈ c.O0, a ∈ O1) ∧ ∀ a ∈ ents.map (·.2.2), a ∉ O1
  ks : ∀ e ∈ ents, entOk K (offs O H) e
  len : ents.length = kvs.length
  ls : ∀ (j : Nat) e kv, ents[j]? = some e → kvs[j]? = some kv → e.1 = kv.1 ∧ c.H0 e.2.2 = Option.none ∧ e.2.2 ≠ sysModules ∧ ∃ xs, H e.2.2 = some (.lst xs) ∧ DaAll K (offs O H) xs kv.2
section
variable {K : PySem.W.Frag} {P : Program} {w : World} {c : Bs} {F : Hp} {env : List DV} {O : List Addr} {σ : L2.St} {H H' : Hp} {i : Nat} {ents : List (List Int × Addr × Addr)} {kvs : List (List Int × List PyData)} {X : Cx}
theorem Bk.gx (B : Bk K P w c O σ H i ents kvs) (R : Rel K c F env O σ H) (g : Gx c H H') : Bk K P w c O σ H' i ents kvs where
  slot := by
    obtain ⟨p, h1, h2, h3, h4⟩ := B.slot
    exact ⟨p, h1, h2, g.kp _ _ (R.nb h2) h3, h4⟩
  nd := B.nd
  nv := B.nv
  off := B.off
  ks := fun e he => Evl.ex_t (R.go g) (B.ks e he)
  len := B.len
  ls := fun j e kv he hk => by
    obtain ⟨h1, h2, h3, xs, h4, h5⟩ := B.ls j e kv he hk
    exact ⟨h1, h2, h3, xs, g.kp _ _ (R.n0 h2).2 h4, daAll_same (R.go g) h5⟩
theorem Bk.set (B : Bk K P w c O σ H i ents kvs) {j : Nat} (hj : j ≠ i) (x : Option V) : Bk K P w c O (σ.set j x) H i ents kvs :=
  ⟨(by
    obtain ⟨p, h1, h2⟩ := B.slot
    exact ⟨p, (List.getElem?_set_ne hj).trans h1, h2⟩), B.nd, B.nv, B.off, B.ks, B.len, B.ls⟩
def isOwn : DV → Bool
  | .own _ => true
  | .od _ => true
  | _ => false
theorem noOwn_set' (h : noOwn env = true) (j : Nat) {d : DV} (hd : isOwn d = false) : noOwn (env.set j d) = true := by
  unfold noOwn at *
  rw [List.all_eq_true] at *
  intro e he
  rcases List.mem_or_eq_of_mem_set he with m | m
  · exact h e m
  · rw [m]
    cases d with
    | own _ => cases hd
    | od _ => cases hd
    | _ => rfl
abbrev MB := List DV → List (List Int × List PyData) → (List DV → List (List Int × List PyData) → Prop) → Prop
def upB (K : PySem.W.Frag) (c : Bs) (P : Program) (w : World) (i : Nat) (B : MB) : TS := fun D σ H => ∃ F env O ents kvs k, Rel K c F env O σ H ∧ Bk K P w c O σ H i ents kvs ∧ noOwn env = true ∧ B env kvs k ∧
  ∀ env' kvs' σ' H', k env' kvs' → Rel K c F env' O σ' H' → Bk K P w c O σ' H' i ents kvs' → noOwn env' = true → D.nx σ' H'
theorem nodup_at {α β : Type} {f : α → β} {xs : List α} (h : (xs.map f).Nodup) {i j : Nat} {x y : α} (hi : xs[i]? = some x) (hj : xs[j]? = some y) (e : f x = f y) : i = j := by
  obtain ⟨l1, e1⟩ := List.getElem?_eq_some_iff.mp hi
  obtain ⟨l2, e2⟩ := List.getElem?_eq_some_iff.mp hj
  have z := (List.getElem_inj (xs := xs.map f) (h₀ := by rw [List.length_map]; exact l1) (h₁ := by rw [List.length_map]; exact l2) h).mp (by rw [List.getElem_map, List.getElem_map, e1, e2, e])
  exact z
/-- d[y].append(x) -/
def bApp (m1 m2 : ME) : MB := fun env kvs k => m1 env fun d => ∃ (n : List Int) (j : Nat) (old : List PyData), d = conD n ∧ kvs[j]? = some (n, old) ∧ m2 env fun v => old.length < 100000 ∧ k env (kvs.set j (n, old ++ [v]))
theorem pb_app {st : Stmt} {m1 m2 : ME} (hP : X.prog = P) (hw : X.w = w) (hK : X.K = K) (h : PS X st (tDrop (tBM K "list" rAppend (tTGet X (tVar i) (up K c m1)) (tCons (up K c m2) tNil)))) : PS X st (upB K c P w i (bApp m1 m2)) := by
  subst hP hw hK
  refine ps_mono h fun D σ H ⟨F, env, O, ents, kvs, k, R, B, no, hb, q⟩ => ?_
  obtain ⟨p, s1, s2, s3, s4⟩ := B.slot
  refine ⟨_, s1, F, env, O, _, R, hb, fun d x H1 ⟨n, j, old, ed, hj, h2⟩ g da => ?_⟩
  subst ed
  have R1 := R.gx g
  have B1 := B.gx R g
  have hjl := (List.getElem?_eq_some_iff.mp hj).1
  obtain ⟨e, he⟩ : ∃ e, ents[j]? = some e := ⟨_, List.getElem?_eq_getElem (by rw [B.len]; exact hjl)⟩
  obtain ⟨e1, e2, e3, xs, e4, e5⟩ := B1.ls j e _ he hj
  obtain ⟨b, eb, sb⟩ := da_con (da_same offs_sub da)
  have e1 : e.1 = n := e1
  refine ⟨p, b, ents, e, rfl, eb, (g.kp _ _ (R.nb s2) s3), B.nd, fun e he => Evl.ex_t offs_sub (B1.ks e he), List.mem_of_getElem? he, by rw [e1]; exact sb, .inl ⟨rfl, xs, SqL.of e4⟩, F, env, O, _, R1, h2, fun v y H2 ⟨hl, kk⟩ g2 dv => ?_⟩
  have R2 := R1.gx g2
  have B2 := B1.gx R1 g2
  have e4' := g2.kp _ _ (R1.n0 e2).2 e4
  have e5' := daAll_same (R1.go g2) e5
  have lx := daAll_len e5
  have lo : old.length < 100000 := hl
  have lx : xs.length = old.length := lx
  refine ⟨e.2.2, xs, y, rfl, rfl, e4', Evl.sz_lt (by omega), ?_⟩
  obtain ⟨O1, o1, o2, o3⟩ := B.off
  have hO : e.2.2 ∈ O := by
    rw [o1]
    exact List.mem_append_left _ (List.mem_map.mpr ⟨e, List.mem_of_getElem? he, rfl⟩)
  have R3 := R2.turn (o := .lst (xs ++ [y])) hO e4' e2 fun i ds hi _ => noOwn_at no hi
  have kf : Same (offs O H2) (offs O (upd H2 e.2.2 (.lst (xs ++ [y])))) := offs_same (fun b u n eb => by rw [upd_ne (fun z => n (by rw [z]; exact hO))]; exact eb) fun _ z _ => z
  refine q _ _ σ _ kk R3 ?_ no
  refine ⟨?_, B.nd, B.nv, B.off, fun e he => Evl.ex_t kf (B2.ks e he), by rw [List.length_set]; exact B.len, fun m f kv hf hk => ?_⟩
  · obtain ⟨p', t1, t2, t3, t4⟩ := B2.slot
    exact ⟨p', t1, t2, by rw [upd_ne (fun z => t2 (by rw [z]; exact hO))]; exact t3, t4⟩
  · by_cases hm : m = j
    · subst hm
      rw [he] at hf
      cases hf
      rw [List.getElem?_set_self hjl] at hk
      cases hk
      exact ⟨e1, e2, e3, _, upd_same, daAll_same kf (daAll_app e5' (.cons dv .nil))⟩
    · rw [List.getElem?_set_ne (Ne.symm hm)] at hk
      obtain ⟨f1, f2, f3, zs, f4, f5⟩ := B2.ls m f kv hf hk
      have ne : f.2.2 ≠ e.2.2 := fun z => hm (nodup_at B.nv hf he z)
      exact ⟨f1, f2, f3, zs, by rw [upd_ne ne]; exact f4, daAll_same kf f5⟩
/-- for x in ..: -/
def bFor (mi : MI) (j : Nat) (B : MB) : MB := fun env kvs k => mi env fun ds => ∃ W : Nat → List DV → List (List Int × List PyData) → Prop, W 0 env kvs ∧ (∀ (n : Nat) d e kv, ds[n]? = some d → W n e kv → B (e.set j (.v d)) kv (W (n + 1))) ∧ ∀ e kv, W ds.length e kv → k e kv
theorem pb_for {tg iter : Expr} {body : List Stmt} {mi : MI} {j : Nat} {B : MB} {pos : Pos} (hp : PassesOwn (model X.prog X.w) X.A X.env X.xe) (hc : X.calm = true) (hi : PI X tg iter (upI K c mi)) (hg : PG X tg (gName j)) (hji : j ≠ i) (hb : PSs X body (upB K c P w i B))
    (hs : ∀ x, foldedSetIterable iter X.env x = pure x := by intro _; rfl) : PS X (.For tg iter body [] pos) (upB K c P w i (bFor mi j B)) := ps_mono (ps_for hp hc hi hg hb hs) fun D σ H ⟨F, env, O, ents, kvs, k, R, Bb, no, hm, q⟩ => by
  refine ⟨F, env, O, _, R, hm, fun ds J H1 kd gx W => ?_⟩
  have R1 := R.gx gx
  have B1 := Bb.gx R gx
  obtain ⟨V, v0, vs, vd⟩ := kd
  refine ⟨fun n m σ' H' => m = ds.length - n ∧ n ≤ ds.length ∧ ∃ env' kvs', Rel K c (offs O H1) env' O σ' H' ∧ Bk K P w c O σ' H' i ents kvs' ∧ noOwn env' = true ∧ V n env' kvs', ⟨_, rfl, Nat.zero_le _, env, kvs, R1.fzn, B1, no, v0⟩, ?_⟩
  rintro n m σ' H' ⟨rfl, hi', env', kvs', R', B', no', k'⟩
  obtain ⟨w1, w2⟩ := W O H' R'.dom R'.fz
  by_cases lt : n < ds.length
  · obtain ⟨go, yl⟩ := w1 n ds[n] (List.getElem?_eq_getElem lt)
    refine .inr ⟨go, fun σ2 H2 => ∃ env2 kv2, Rel K c (offs O H1) env2 O σ2 H2 ∧ Bk K P w c O σ2 H2 i ents kv2 ∧ noOwn env2 = true ∧ V (n + 1) env2 kv2, fun σ2 H2 ⟨env2, kv2, R2, b2, n2, k2⟩ => ⟨_, by omega, rfl, lt, env2, kv2, R2, b2, n2, k2⟩, fun x H2 y => ?_⟩
    obtain ⟨s, da⟩ := yl x H2 y
    have gg := R'.same s
    have R2 := R'.gx gg
    show upB K c P w i B _ (σ'.set j (some x)) H2
    exact ⟨_, env'.set j (.v ds[n]), O, ents, kvs', _, R2.set j da, (B'.gx R' gg).set hji _, noOwn_set' no' j rfl, vs n _ env' kvs' (List.getElem?_eq_getElem lt) k', fun env4 kv4 σ4 H4 n4 R4 b4 no4 => ⟨env4, kv4, R4, b4, no4, n4⟩⟩
  · have z : n = ds.length := by omega
    subst z
    exact .inl ⟨w2, q env' kvs' σ' H' (vd env' kvs' k') (R'.fzm R1.fz) B' no'⟩
theorem Rel.more {as : List Addr} (R : Rel K c F env O σ H) (g : Gx c H H') (hn : ∀ a ∈ as, H a = Option.none) (hs : ∀ a ∈ as, ∃ xs, H' a = some (.lst xs)) (no : noOwn env = true) : Rel K c F env (as ++ O) σ H' := by
  have R' := R.gx g
  have k : Same (offs O H) (offs (as ++ O) H') := offs_same (fun a o n e => g.kp a o (R.nb n) e) fun a z nn => by
    rcases List.mem_append.mp z with z | z
    · exact absurd (hn a z) nn
    · exact z
  exact {
    dom := fun a h => by
      rcases List.mem_append.mp h with z | z
      · obtain ⟨xs, e⟩ := hs a z
        exact ⟨_, e⟩
      · exact R'.dom a z
    sub := fun a h => List.mem_append_right _ (R.sub a h)
    ent := R.ent
    but := R'.but
    bg := fun a h => ⟨(R.bg a h).1, g.bg a h, fun z => by
      rcases List.mem_append.mp z with z | z
      · obtain ⟨⟨_, _, _, cs, _, e2, _⟩, _⟩ := (R.bg a h).2.1
        rw [hn _ z] at e2
        cases e2
      · exact (R.bg a h).2.2 z⟩
    sys := R'.sys
    nsys := fun z => by
      rcases List.mem_append.mp z with z | z
      · obtain ⟨φ, e⟩ := R.sys
        rw [hn _ z] at e
        cases e
      · exact R.nsys z
    fz := R.fz.trans k
    sl := fun j e he => by
      have q := R.sl j e he
      cases e with
      | un => trivial
      | v d =>
        obtain ⟨x, h1, h2⟩ := q
        exact ⟨x, h1, da_same k h2⟩
      | own ds => exact (noOwn_at no he).elim
      | bag => exact q
      | tab P w kvs =>
        obtain ⟨p', ents, h1, h2⟩ := q
        exact ⟨p', ents, h1, h2.same k⟩
      | od ps => exact (noMine_at no he rfl).elim
      | dd ps =>
        obtain ⟨a, ents, h1, h2, h3, h4⟩ := q
        exact ⟨a, ents, h1, h2, k _ _ h3, h4.same k⟩
    ap := R.ap
    len := R.len }
/-- what one no longer changes -/
theorem Rel.less {O1 : List Addr} (R : Rel K c F env O σ H) (h1 : ∀ a ∈ O1, a ∈ O) (h2 : ∀ a ∈ c.O0, a ∈ O1) (no : noOwn env = true) : Rel K c F env O1 σ H where
  dom := fun a h => R.dom a (h1 a h)
  sub := h2
  ent := R.ent
  but := R.but
  bg := fun a h => ⟨(R.bg a h).1, (R.bg a h).2.1, fun z => (R.bg a h).2.2 (h1 _ z)⟩
  sys := R.sys
  nsys := fun z => R.nsys (h1 _ z)
  fz := R.fz.trans (offs_less h1)
  sl := fun j e he => by
    have k : Same (offs O H) (offs O1 H) := offs_less h1
    have q := R.sl j e he
    cases e with
    | un => trivial
    | v d =>
      obtain ⟨x, h1, h2⟩ := q
      exact ⟨x, h1, da_same k h2⟩
    | own ds => exact (noOwn_at no he).elim
    | bag => exact q
    | tab P w kvs =>
      obtain ⟨p', ents, h1, h2⟩ := q
      exact ⟨p', ents, h1, h2.same k⟩
    | od ps => exact (noMine_at no he rfl).elim
    | dd ps =>
      obtain ⟨a, ents, h1, h2, h3, h4⟩ := q
      exact ⟨a, ents, h1, h2, k _ _ h3, h4.same k⟩
  ap := R.ap
  len := R.len
/-- a dict's slot is told -/
theorem Rel.setTab (R : Rel K c F env O σ H) {p : Addr} {tk : List (List Int × PyData)} (hs : σ[i]? = some (some (.ref p))) (ht : TabR K P w (offs O H) p ents tk) : Rel K c F (env.set i (.tab P w tk)) O σ H :=
  { R with
    sl := fun j e he => by
      by_cases hj : j = i
      · subst hj
        by_cases hl : j < env.length
        · rw [List.getElem?_set_self hl] at he
          cases he
          exact ⟨p, ents, hs, ht⟩
        · rw [List.getElem?_eq_none (by rw [List.length_set]; omega)] at he
          cases he
      · rw [List.getElem?_set_ne (Ne.symm hj)] at he
        exact R.sl j e he
    ap := fun j k ds es a hjk h1 h2 m1 m2 h3 => by
      have back : ∀ (j : Nat) (f : DV), mine f = true → (env.set i (.tab P w tk))[j]? = some f → env[j]? = some f := fun j f mf e => by
        by_cases z : j = i
        · subst z
          by_cases hl : j < env.length
          · rw [List.getElem?_set_self hl] at e
            cases e
            cases mf
          · rw [List.getElem?_eq_none (by rw [List.length_set]; omega)] at e
            cases e
        · rw [List.getElem?_set_ne (Ne.symm z)] at e
          exact e
      exact R.ap j k ds es a hjk (back _ _ m1 h1) (back _ _ m2 h2) m1 m2 h3
    len := by rw [List.length_set, R.len] }
theorem Bk.out (B : Bk K P w c O σ H i ents kvs) (R : Rel K c F env O σ H) (no : noOwn env = true) : ∃ O1, Rel K c F (env.set i (.tab P w (kvs.map fun kv => (kv.1, .list kv.2)))) O1 σ H := by
  obtain ⟨O1, o1, o2, o3⟩ := B.off
  have hs : ∀ a ∈ O1, a ∈ O := fun a h => by rw [o1]; exact List.mem_append_right _ h
  have k : Same (offs O H) (offs O1 H) := offs_less hs
  obtain ⟨p, s1, s2, s3, s4⟩ := B.slot
  refine ⟨O1, (R.less hs o2 no).setTab s1 ⟨?_, s4, B.nd, ?_⟩⟩
  · rw [offs_ne (fun z => s2 (hs p z))]
    exact s3
  · have go : ∀ (es : List (List Int × Addr × Addr)) (ks : List (List Int × List PyData)), es.length = ks.length → (∀ (j : Nat) e kv, es[j]? = some e → ks[j]? = some kv → e.1 = kv.1 ∧ SqT K (offs O1 H) e.2.1 (e.1.map V.int) ∧ Da K (offs O1 H) (.ref e.2.2) (.list kv.2)) →
        Paired (fun (e : List Int × Addr × Addr) (kv : List Int × PyData) => e.1 = kv.1 ∧ SqT K (offs O1 H) e.2.1 (e.1.map V.int) ∧ Da K (offs O1 H) (.ref e.2.2) kv.2) es (ks.map fun kv => (kv.1, .list kv.2)) := by
      intro es
      induction es with
      | nil => intro ks hl _; cases ks with
        | nil => exact .nil
        | cons _ _ => cases hl
      | cons e es ih => intro ks hl h; cases ks with
        | nil => cases hl
        | cons kv ks => exact .cons (h 0 e kv rfl rfl) (ih ks (Nat.succ.inj hl) fun j e kv h1 h2 => h (j + 1) e kv (by simpa using h1) (by simpa using h2))
    refine go ents kvs B.len fun j e kv he hk => ?_
    obtain ⟨e1, e2, e3, xs, e4, e5⟩ := B.ls j e kv he hk
    have me := List.mem_of_getElem? he
    refine ⟨e1, Evl.ex_t k (B.ks e me), .lst (a := e.2.2) (xs := xs) ?_ e3 (daAll_same k e5)⟩
    rw [offs_ne (o3 _ (List.mem_map.mpr ⟨e, me, rfl⟩))]
    exact e4
end
end Du

/-! the dict of lists is made; it is read. -/
namespace Du
open PySem PySem.Spec PyProof.Rows L2 On
section
variable {K : PySem.W.Frag} {P : Program} {w : World} {c : Bs} {F : Hp} {env : List DV} {O : List Addr} {σ : L2.St} {H H' : Hp} {X : Cx}
theorem to_yes {σ : L2.St} {H : Hp} {Q : Bool → Hp → Prop} (h : Q true H) : tYes σ H Q := h
theorem to_back {te : TE} {r : List V → Hp → VK → Prop} {i : Nat} {u : TS} {D : Ends} {σ : L2.St} {H : Hp} (h : te σ H fun x H1 => r [x] H1 fun y H2 => u D (σ.set i (some y)) H2) : tSeq (tAsg (tCB r (tCons te tNil)) (gName i)) u D σ H := h
theorem paired_snoc {α β : Type} {r : α → β → Prop} : ∀ {xs : List α} {ys : List β} {x : α} {y : β}, Paired r xs ys → r x y → Paired r (xs ++ [x]) (ys ++ [y])
  | _, _, _, _, .nil, h => .cons h .nil
  | _, _, _, _, .cons a t, h => .cons a (paired_snoc t h)
theorem er_pairs {cs j : Nat} {ns : List (List Int)} {Q : VK} (R : Rel K c F env O σ H) (he : env[cs]? = some (.v (.list (ns.map conD)))) (hj : j < σ.length) (hl : ns.length ≤ 100000)
    (q : ∀ (D : Addr) (Ts : List Addr) (ents : List (List Int × Addr × Addr)) (H' : Hp), Same H H' → H D = Option.none → H' D = some (.lst (Ts.map V.ref)) → Ts.length = ns.length → Paired (fun T (e : List Int × Addr × Addr) => H' T = some (.tup [.ref e.2.1, .ref e.2.2])) Ts ents →
      ents.map (·.1) = ns → (∀ e ∈ ents, entOk K (offs O H) e) → (ents.map (·.2.2)).Nodup → (∀ e ∈ ents, H e.2.2 = Option.none ∧ H' e.2.2 = some (.lst [])) → Q (.ref D) H') :
    tLc (iList K (tVar cs)) (gName j) tYes (tTup (tCons (tVar j) (tCons (tLst tNil) tNil))) [j] σ H Q := by
  obtain ⟨x0, h1, da0⟩ := R.sl cs _ he
  obtain ⟨a, xs, rfl, f1, f2, f3⟩ := da_lst da0
  have ha := (offs_some f1).2
  have lx := daAll_len f3
  rw [List.length_map] at lx
  refine ⟨_, h1, a, rfl, ⟨_, SqL.of ha⟩, fun D hD => ?_⟩
  refine lc_list (K := K) (a := a) (xs := xs) (fun n H' => Same H H' ∧ ∃ (Ts : List Addr) (ents : List (List Int × Addr × Addr)), H' D = some (.lst (Ts.map V.ref)) ∧ Ts.length = n ∧ Paired (fun T (e : List Int × Addr × Addr) => H' T = some (.tup [.ref e.2.1, .ref e.2.2]) ∧ T ≠ D) Ts ents ∧
    ents.map (·.1) = ns.take n ∧ (∀ e ∈ ents, entOk K (offs O H) e) ∧ (ents.map (·.2.2)).Nodup ∧ (∀ e ∈ ents, H e.2.2 = Option.none ∧ H' e.2.2 = some (.lst []) ∧ e.2.2 ≠ D)) ⟨Evl.Ex.new hD, [], [], upd_same, rfl, .nil, rfl, (fun _ hh => nomatch hh), List.nodup_nil, fun _ hh => nomatch hh⟩ (fun n H' _ p => SqL.of (p.1 _ _ ha)) (fun n x H' hx p => ?_) (fun H' p => ?_)
  · obtain ⟨s, Ts, ents, p1, p2, p3, p4, p5, p6, p7⟩ := p
    have hn : n < xs.length := (List.getElem?_eq_some_iff.mp hx).1
    obtain ⟨d, hd, dx⟩ := daAll_vat f3 hx
    rw [List.getElem?_map] at hd
    obtain ⟨m, hm, rfl⟩ := Option.map_eq_some_iff.mp hd
    obtain ⟨kb, rfl, sk⟩ := da_con dx
    refine ⟨wipe_same (fun k hk => by rw [List.getElem?_set_ne (fun z => hk (by rw [z]; simp))]) (by rw [List.length_set]), to_yes ?_⟩
    refine ⟨.ref kb, by rw [List.getElem?_set_self (by rw [wipe_length]; exact hj)], ?_⟩
    refine ⟨by show 0 ≤ sizeLine; decide, fun va nva => ⟨by show 2 ≤ sizeLine; decide, fun T nT => ?_⟩⟩
    have s1 : Same H' (upd H' va (.lst [])) := Evl.Ex.new nva
    have s2 : Same (upd H' va (.lst [])) (upd (upd H' va (.lst [])) T (.tup [.ref kb, .ref va])) := Evl.Ex.new nT
    have vaD : va ≠ D := (ne_of_none p1 nva).symm
    have TD : T ≠ D := (ne_of_none (s1 _ _ p1) nT).symm
    have hva : upd (upd H' va (.lst [])) T (.tup [.ref kb, .ref va]) va = some (.lst []) := s2 _ _ upd_same
    have nva0 : H va = Option.none := by
      cases e : H va with
      | none => rfl
      | some o =>
        rw [s _ _ e] at nva
        cases nva
    have hT : upd (upd H' va (.lst [])) T (.tup [.ref kb, .ref va]) T = some (.tup [.ref kb, .ref va]) := upd_same
    have s12 := s1.trans s2
    generalize upd (upd H' va (.lst [])) T (.tup [.ref kb, .ref va]) = H4 at s12 hva hT
    refine ⟨Ts.map V.ref, s12 _ _ p1, Evl.sz_lt (by rw [List.length_map]; omega), fun b o e => ?_, Ts ++ [T], ents ++ [(m, kb, va)], ?_, by rw [List.length_append, p2]; rfl, ?_, ?_, ?_, ?_, ?_⟩
    · rw [upd_ne (ne_of_none e hD)]
      exact s12 _ _ (s _ _ e)
    · rw [upd_same, List.map_append]
      rfl
    · refine paired_snoc (Paired.mapP p3 fun T' e ⟨z1, z2⟩ => ⟨by rw [upd_ne z2]; exact s12 _ _ z1, z2⟩) ⟨by rw [upd_ne TD]; exact hT, TD⟩
    · rw [List.map_append, p4, List.take_add_one, hm]
      rfl
    · intro e he
      rcases List.mem_append.mp he with z | z
      · exact p5 e z
      · rw [List.mem_singleton] at z
        subst z
        exact sk
    · rw [List.map_append, List.nodup_append]
      refine ⟨p6, by simp, fun b hb b' hb' z => ?_⟩
      obtain ⟨e, he, rfl⟩ := List.mem_map.mp hb
      rw [List.map_cons, List.map_nil, List.mem_singleton] at hb'
      rw [hb'] at z
      have q2 := (p7 e he).2.1
      rw [z, nva] at q2
      cases q2
    · intro e he
      rcases List.mem_append.mp he with z | z
      · obtain ⟨z1, z2, z3⟩ := p7 e z
        exact ⟨z1, by rw [upd_ne z3]; exact s12 _ _ z2, z3⟩
      · rw [List.mem_singleton] at z
        subst z
        exact ⟨nva0, by rw [upd_ne vaD]; exact hva, vaD⟩
  · obtain ⟨s, Ts, ents, p1, p2, p3, p4, p5, p6, p7⟩ := p
    have et : ns.take xs.length = ns := by rw [lx, List.take_length]
    rw [et] at p4
    exact q D Ts ents H' s hD p1 (p2.trans lx) (Paired.mapP p3 fun _ _ z => z.1) p4 p5 p6 fun e he => ⟨(p7 e he).1, (p7 e he).2.1⟩
/-- name = dict([(x, []) for x in contents]), the loops that fill it, and what comes behind -/
def dBack (P : Program) (w : World) (i j cs : Nat) (B1 : MB) (B2 : MS) : MS := fun env D => ∃ ns : List (List Int), env[cs]? = some (.v (.list (ns.map conD))) ∧ ns.Nodup ∧ ns.length ≤ 100000 ∧ noOwn env = true ∧ i < env.length ∧ j < env.length ∧
  B1 (env.set i .un) (ns.map fun n => (n, [])) fun env' kvs => B2 (env'.set i (.tab P w (kvs.map fun kv => (kv.1, .list kv.2)))) D
theorem dss_back {s1 s2 : Stmt} {rest : List Stmt} {i j cs : Nat} {B1 : MB} {B2 : MS} (hP : X.prog = P) (hw : X.w = w) (hK : X.K = K) (h1 : PS X s1 (tAsg (tCB (rDictC X) (tCons (tLc (iList K (tVar cs)) (gName j) tYes (tTup (tCons (tVar j) (tCons (tLst tNil) tNil))) [j]) tNil)) (gName i)))
    (h2 : PS X s2 (upB K c P w i B1)) (h3 : PSs X rest (upS K c B2)) : PSs X (s1 :: s2 :: rest) (upS K c (dBack P w i j cs B1 B2)) := by
  subst hP hw hK
  refine pss_mono (pss_cons h1 (pss_cons h2 h3)) fun D σ H ⟨F, env, O, DD, R, hb, d1, d2, d3, d4⟩ => ?_
  obtain ⟨ns, he, nd, hl, no, hi, hj, hb⟩ := hb
  refine to_back ?_
  refine er_pairs R he (by rw [R.len]; exact hj) hl fun D0 Ts ents H1 g nD e1 e2 pr e3 e4 e5 e6 => ?_
  have g1 := R.same g
  have R1 := R.gx g1
  have lE : ents.length = ns.length := by rw [← e3, List.length_map]
  have ks1 : ∀ e ∈ ents, entOk X.K H1 e := fun e he => Evl.ex_t g (Evl.ex_t offs_sub (e4 e he))
  refine ⟨D0, Ts, ents, rfl, SqL.of e1, by omega, Paired.mapP pr fun _ _ z => SqT.of z, ks1, by rw [e3]; exact nd, fun p np => ?_⟩
  have s2 : Same H1 (upd H1 p (.ext (dictAt X.prog X.w p ents))) := Evl.Ex.new np
  have g2 := R1.same s2
  have gg := g1.trans g2
  have hvas : ∀ a ∈ ents.map (·.2.2), H a = Option.none ∧ H1 a = some (.lst []) := fun a ha => by
    obtain ⟨e, he, rfl⟩ := List.mem_map.mp ha
    exact e6 e he
  have R2 := R.more (as := ents.map (·.2.2)) gg (fun a ha => (hvas a ha).1) (fun a ha => ⟨[], s2 _ _ (hvas a ha).2⟩) no
  have kk : Same (offs O H) (offs (ents.map (·.2.2) ++ O) (upd H1 p (.ext (dictAt X.prog X.w p ents)))) := offs_same (fun a o n e => gg.kp a o (R.nb n) e) fun a z nn => by
    rcases List.mem_append.mp z with z | z
    · exact absurd (hvas a z).1 nn
    · exact z
  have nO : ∀ a ∈ ents.map (·.2.2), a ∉ O := fun a ha z => by
    obtain ⟨o, eo⟩ := R.dom a z
    rw [(hvas a ha).1] at eo
    cases eo
  have nsys : ∀ a, H a = Option.none → a ≠ sysModules := fun a ha z => by
    obtain ⟨φ, e⟩ := R.sys
    rw [z, e] at ha
    cases ha
  have np0 : H p = Option.none := by
    cases e : H p with
    | none => rfl
    | some o =>
      rw [g _ _ e] at np
      cases np
  have R3 := R2.un i (some (.ref p))
  have B : Bk X.K X.prog X.w c (ents.map (·.2.2) ++ O) (σ.set i (some (.ref p))) (upd H1 p (.ext (dictAt X.prog X.w p ents))) i ents (ns.map fun n => (n, [])) := by
    refine ⟨⟨p, List.getElem?_set_self (by rw [R.len]; exact hi), fun z => ?_, upd_same, nsys p np0⟩, by rw [e3]; exact nd, e5, ⟨O, rfl, R.sub, nO⟩, fun e he => Evl.ex_t kk (e4 e he), by rw [lE, List.length_map], fun m e kv hm hk => ?_⟩
    · rcases List.mem_append.mp z with z | z
      · have y := (hvas p z).2
        rw [np] at y
        cases y
      · obtain ⟨o, eo⟩ := R.dom p z
        rw [np0] at eo
        cases eo
    · have em : (ents.map (·.1))[m]? = some e.1 := by rw [List.getElem?_map, hm]; rfl
      rw [e3] at em
      rw [List.getElem?_map, em] at hk
      cases hk
      have me := List.mem_of_getElem? hm
      have z := hvas e.2.2 (List.mem_map.mpr ⟨e, me, rfl⟩)
      exact ⟨rfl, R.h0 z.1, nsys _ z.1, [], s2 _ _ z.2, .nil⟩
  show upB X.K c X.prog X.w i B1 _ (σ.set i (some (.ref p))) _
  refine ⟨F, env.set i .un, _, ents, _, _, R3, B, noOwn_set' no i rfl, hb, fun env' kvs' σ' H' n R' B' no' => ?_⟩
  obtain ⟨O1, R4⟩ := B'.out R' no'
  exact ⟨F, _, O1, DD, R4, n, d1, d2, d3, d4⟩
/-- d[y] -/
def mTab (P : Program) (w : World) (i : Nat) (m : ME) : ME := fun env k => match env[i]? with
  | some (.tab P' w' kvs) => (P' = P ∧ w' = w) ∧ m env fun d => ∃ (n : List Int) (v : PyData), d = conD n ∧ (n, v) ∈ kvs ∧ k v
  | _ => False
theorem de_tget {e : Expr} {i : Nat} {m : ME} (hP : X.prog = P) (hw : X.w = w) (hK : X.K = K) (h : PE X e (tTGet X (tVar i) (up K c m))) : PE X e (up K c (mTab P w i m)) := by
  subst hP hw hK
  refine pe_mono h fun σ H Q ⟨F, env, O, k, R, hm, q⟩ => ?_
  unfold mTab at hm
  split at hm
  · rename_i P' w' kvs hd
    obtain ⟨⟨rfl, rfl⟩, hm⟩ := hm
    obtain ⟨p, ents, h1, T⟩ := R.sl i _ hd
    refine ⟨_, h1, F, env, O, _, R, hm, fun d y H1 ⟨n, v, ed, mem, kk⟩ g da => ?_⟩
    subst ed
    have T1 := T.same (R.go g)
    obtain ⟨b, eb, sb⟩ := da_con (da_same offs_sub da)
    obtain ⟨j, hj, ej⟩ := List.mem_iff_getElem.mp mem
    obtain ⟨e, he, e1, e2, e3⟩ := paired_get T1.en (i := j) (y := (n, v)) (by rw [List.getElem?_eq_getElem hj, ej])
    have e1 : e.1 = n := e1
    refine ⟨p, b, ents, e, rfl, eb, (offs_some T1.here).2, T1.nd, fun f hf => ?_, List.mem_of_getElem? he, by rw [e1]; exact sb, q v _ H1 kk g e3⟩
    obtain ⟨j', hj', ej'⟩ := List.mem_iff_getElem.mp hf
    have lk := T1.en.length
    obtain ⟨f2, g1, g2, g3, g4⟩ := paired_get T1.en (i := j') (y := kvs[j']'(by omega)) (List.getElem?_eq_getElem _)
    rw [List.getElem?_eq_getElem hj', ej'] at g1
    cases g1
    exact Evl.ex_t offs_sub g3
  · exact hm.elim
end
end Du

/-! (v, w)[::-1]. -/
namespace Du
open PySem PySem.Spec PyProof.Rows L2 On
section
variable {prog : Program} {wd : World} {Ar : Around} {Ex : Value → Shared → Prop} {sh : Shared}
/-- the sign of three parts that are left out, left out, -1, over two items -/
theorem parts_back {sl : Addr} {v1 v2 v3 : Value} {R : Int × Int × Nat → Shared → Prop} (hS : sh.heap.IsSliceOf sl v1 v2 v3) (p1 : IsPart v1 Option.none) (p2 : IsPart v2 Option.none) (p3 : IsPart v3 (some (-1))) (h : R (1, -1, 2) sh) :
    wpAny (model prog wd) Ar (Builtin.Slice.sliceApplied (.ref sl) (pure ((2 : Nat) : Int))) R Ex sh := by
  obtain ⟨ob, g1, g2, g3⟩ := hS
  unfold Builtin.Slice.sliceApplied Builtin.Slice.sliceFields
  refine wpAny_bind (wpAny_bind (wpAny_field g1 g3 (x := v1) rfl (wpAny_bind (wpAny_field g1 g3 (x := v2) rfl (wpAny_bind (wpAny_field g1 g3 (x := v3) rfl (wpAny_pure ?_)))))))
  refine wpAny_bind (HT.slicePart_ p3 ?_)
  refine wpAny_bind (HT.slicePart_ p1 (wpAny_bind (HT.slicePart_ p2 (wpAny_bind (wpAny_pure ?_)))))
  exact wpAny_pure h
theorem two_back {t sl : Addr} {x y v1 v2 v3 : Value} {R : Value → Shared → Prop} (hT : IsTup sh.heap t #[x, y]) (hS : sh.heap.IsSliceOf sl v1 v2 v3) (p1 : IsPart v1 Option.none) (p2 : IsPart v2 Option.none) (p3 : IsPart v3 (some (-1)))
    (h : R (.ref sh.heap.objs.size) { sh with heap := sh.heap.push { cls := .type "tuple", data := .seq #[y, x] } }) : wpAny (model prog wd) Ar (getItem (.ref t) (.ref sl)) R Ex sh := by
  have hTs : sh.TypeIs (.ref sl) "slice" := by
    obtain ⟨ob, g1, g2, g3⟩ := hS
    exact ⟨ob, g1, g2⟩
  have room : sizeOk (.seq #[y, x]) := by show 2 ≤ sizeLine; decide
  unfold getItem
  try with_reducible refine wpAny_holding ?_
  refine wpAny_bind (wpAny_sequenceKey hT.typeIs (by decide) ?_)
  refine wpAny_bind (wpAny_callSpecial?_slot (name := Str.ofString "__getitem__") hT.typeIs PyProof.Rows.slot_tuple_getitem (wpAny_call_entry PyProof.Rows.slot_tuple_getitem hT.typeIs entry_tuple_getitem ?_ (args_tuple_getitem _ _)))
  show wpAny _ _ (Builtin.Tuple.tupleItemsOf (.ref t) >>= _) _ _ sh
  refine wpAny_bind (tupleItemsOf_ hT (wpAny_bind (wpAny_typeOf hTs ?_)))
  rw [if_pos (by decide)]
  refine wpAny_bind (parts_back hS p1 p2 p3 ?_)
  show wpAny _ _ (if ((1 : Int) == 0 && (-1 : Int) == 1 && (2 : Nat) == 2) = true then _ else _) _ _ sh
  rw [if_neg (by decide)]
  have e : ((List.range 2).filterMap fun (k : Nat) => (#[x, y] : Array Value)[((1 : Int) + (k : Int) * (-1)).toNat]?).toArray = #[y, x] := rfl
  show wpAny _ _ (_ >>= fun r => _) _ _ sh
  rw [e]
  first
    | exact wpAny_bind (m := Builtin.Tuple.tupleExact #[y, x]) (wpAny_newObj_type (wpAny_pure ⟨_, rfl, wpAny_pure h⟩) room)
    | exact wpAny_bind (m := Builtin.Tuple.tupleExact #[y, x]) (wpAny_newObj_type (wpAny_bind (wpAny_pure (wpAny_pure ⟨_, rfl, wpAny_pure h⟩))) room)
    | exact wpAny_bind (wpAny_bind (m := Builtin.Tuple.tupleExact #[y, x]) (wpAny_newObj_type (wpAny_pure (wpAny_pure ⟨_, rfl, wpAny_pure h⟩)) room))
    | exact wpAny_bind (wpAny_bind (m := Builtin.Tuple.tupleExact #[y, x]) (wpAny_newObj_type (wpAny_pure ⟨_, rfl, wpAny_pure h⟩) room))
end
section
variable {K : PySem.W.Frag} {c : Bs} {X : Cx}
theorem daAll_two {H : Hp} {xs : List V} {d e : PyData} (h : DaAll K H xs [d, e]) : ∃ u v, xs = [u, v] ∧ Da K H u d ∧ Da K H v e := by
  cases h with
  | cons r1 t =>
    cases t with
    | cons r2 t =>
      cases t
      exact ⟨_, _, rfl, r1, r2⟩
def tBack2 (K : PySem.W.Frag) (te : TE) : TE := fun σ H Q => te σ H fun x H1 => ∃ a y z, x = .ref a ∧ SqT K H1 a [y, z] ∧ ∀ p, H1 p = Option.none → Q (.ref p) (upd H1 p (.tup [z, y]))
theorem pe_back2 {e : Expr} {te : TE} {k : Nat} {p1 p2 p3 pos : Pos} (he : PE X e te) : PE X (.Subscript e (.Slice Option.none Option.none (some (.UnaryOp .USub (.Constant (.int 1) k p1) p2)) p3) pos) (tBack2 X.K te) := ⟨fun pins s σ H Q I h => by
  refine Subscript_ (thn (he.run pins s σ H _ I h) fun v s1 ⟨x, H1, I1, r1, a, y, z, ex, hx, q⟩ => ?_)
  subst ex
  cases r1
  have neg1 : PO X (some (.UnaryOp .USub (.Constant (.int 1) k p1) p2)) (tPart (tUn (rU fun i => .int (-i)) (tC (.int 1)))) := po_some (pe_un un_neg pe_int)
  refine wpAny_Slice (thn (po_none.run pins s1 σ H1 (fun o G => o = Option.none ∧ G = H1) I1 ⟨rfl, rfl⟩) fun vl s2 ⟨l, H2, I2, pl, el, e2⟩ => thn (po_none.run pins s2 σ H2 (fun o G => o = Option.none ∧ G = H2) I2 ⟨rfl, rfl⟩) fun vu s3 ⟨u, H3, I3, pu, eu, e3⟩ => ?_)
  refine thn (neg1.run pins s3 σ H3 (fun o G => o = some (-1) ∧ G = H3) I3 ⟨1, rfl, -1, rfl, rfl, rfl⟩) fun vs s4 ⟨o, H4, I4, ps, eo, e4⟩ => ?_
  subst el e2 eu e3 eo e4
  have I5 : Inv X pins σ H4 { s4 with heap := s4.heap.push { cls := .type "slice", data := .fields #[vl, vu, vs] } } := I4.kept (t' := s4.toks) fun b ob q => Heap.get?_push_of_some _ q
  obtain ⟨its, r, ht, hz⟩ := I5.tuple hx
  have e5 : ∃ w1 w2, its = [w1, w2] ∧ RelV y w1 ∧ RelV z w2 := by
    cases r with
    | cons r1 t =>
      cases t with
      | cons r2 t =>
        cases t
        exact ⟨_, _, rfl, r1, r2⟩
  obtain ⟨w1, w2, rfl, q1, q2⟩ := e5
  show wpAny (model X.prog X.w) X.A (subscriptTail e (.Slice Option.none Option.none (some (.UnaryOp .USub (.Constant (.int 1) k p1) p2)) p3) (.ref a) (.ref s4.heap.objs.size)) _ X.xe { s4 with heap := s4.heap.push { cls := .type "slice", data := .fields #[vl, vu, vs] } }
  refine tail_any (ops := [.ref a, .ref s4.heap.objs.size]) ht.typeIs PyProof.Rows.slot_tuple_getitem.lookup ?_ (by with_unfolding_all rfl)
  refine two_back ht (Heap.IsSliceOf.new _ vl vu vs) pl pu ps ?_
  refine ⟨.ref _, _, I5.laid (t' := s4.toks) (o := .tup [z, y]) (fun b ob q => Heap.get?_push_of_some _ q) (Nat.le_refl _) ⟨by show 2 ≤ sizeLine; decide, [w2, w1], .cons q2 (.cons q1 .nil), IsTup.new _ _⟩, rfl, q _ (I5.hok.fresh (Nat.le_refl _))⟩⟩
/-- (v, w)[::-1] -/
def mBack2 (m : ME) : ME := fun env k => m env fun d => match d with
  | .tuple [y, z] => k (.tuple [z, y])
  | _ => False
theorem de_back2 {e : Expr} {m : ME} (h : PE X e (tBack2 K (up K c m))) : PE X e (up K c (mBack2 m)) := pe_mono h fun σ H Q ⟨F, env, O, k, R, hm, q⟩ => ⟨F, env, O, _, R, hm, fun d x H' kd g da => by
  split at kd
  · obtain ⟨a, xs, rfl, h1, h2⟩ := da_tup da
    obtain ⟨u, v, rfl, r1, r2⟩ := daAll_two h2
    refine ⟨a, u, v, rfl, Evl.ex_t offs_sub h1, fun p np => ?_⟩
    exact q _ _ _ kd (g.trans ((R.gx g).same (Evl.Ex.new np))) (new_tup (R.gx g).dom np (.cons r2 (.cons r1 .nil)))
  · exact kd.elim⟩
end
theorem un8 {k : Nat} {A : Around} (hr : Room k A) : A.units + 8 < cLine := by
  have := hr.un
  omega
theorem un1 {k : Nat} {A : Around} (hr : Room k A) : A.units + 1 < cLine := by
  have := hr.un
  omega
end Du

/-! calls that come to new lists; calls of a truth, of what one owns. -/
namespace Du
open PySem PySem.Spec PyProof.Rows L2 On
def isLst : HO → Bool
  | .lst _ => true
  | _ => false
mutual
def noLst : PyData → Bool
  | .list _ => false
  | .dict _ => false
  | .tuple ds => noLsts ds
  | .none => true
  | .bool _ => true
  | .int _ => true
  | .str _ => true
def noLsts : List PyData → Bool
  | [] => true
  | d :: ds => noLst d && noLsts ds
end
theorem noLsts_iff : ∀ {ds : List PyData}, noLsts ds = true ↔ ∀ d ∈ ds, noLst d = true
  | [] => by simp [noLsts]
  | d :: ds => by
    rw [noLsts, Bool.and_eq_true, noLsts_iff (ds := ds)]
    simp
theorem noLst_con (n : List Int) : noLst (conD n) = true := by
  show noLsts (n.map .int) = true
  rw [noLsts_iff]
  intro d hd
  obtain ⟨i, _, rfl⟩ := List.mem_map.mp hd
  rfl
theorem noLsts_con (L : List (List Int)) : noLsts (L.map conD) = true := by
  rw [noLsts_iff]
  intro d hd
  obtain ⟨n, _, rfl⟩ := List.mem_map.mp hd
  exact noLst_con n
section
variable {K : PySem.W.Frag} {c : Bs} {X : Cx}
mutual
/-- data without lists stays where all but lists stay -/
theorem da_move {H H2 : Hp} (k : ∀ a o, H a = some o → isLst o = false → H2 a = some o) : ∀ {v : V} {d : PyData}, Da K H v d → noLst d = true → Da K H2 v d
  | _, _, .non, _ => .non
  | _, _, .bl b, _ => .bl b
  | _, _, .int i, _ => .int i
  | _, _, .str x, _ => .str x
  | _, _, .lst h1 h2 h3, n => by cases n
  | _, _, .tup h1 h3, n => by
    refine .tup ?_ (daAll_move k h3 n)
    rcases h1 with (h | ⟨o, h⟩) | h
    · exact .inl (.inl (k _ _ h rfl))
    · exact .inl (.inr ⟨o, k _ _ h rfl⟩)
    · exact .inr h
  | _, _, .dct h1 h3, n => by cases n
  | _, _, .dtt h1 h2 h3 h4 h5 h6 h7, n => by cases n
theorem daAll_move {H H2 : Hp} (k : ∀ a o, H a = some o → isLst o = false → H2 a = some o) : ∀ {vs : List V} {ds : List PyData}, DaAll K H vs ds → noLsts ds = true → DaAll K H2 vs ds
  | _, _, .nil, _ => .nil
  | _, _, .cons a b, n => by
    rw [noLsts, Bool.and_eq_true] at n
    exact .cons (da_move k a n.1) (daAll_move k b n.2)
end
def Bnd (H : Hp) : Prop := ∃ N, ∀ a, N ≤ a → H a = Option.none
theorem pa_bnd {es : List Expr} {t : TA} (h : PA X es t) : PA X es (fun σ H Q => t σ H fun xs H1 => Bnd H1 → Q xs H1) := ⟨fun pos pins s σ H Q I q => by
  refine wpAny_mono (h.run pos pins s σ H _ I q) (fun us s1 z => ?_) fun _ _ z => z
  obtain ⟨xs, H1, I1, r1, q1⟩ := z
  exact ⟨xs, H1, I1, r1, q1 ⟨s1.heap.objs.size, fun a ha => I1.hok.fresh ha⟩⟩⟩
theorem lists_in {H : Hp} (hb : Bnd H) : ∃ L : List Addr, ∀ a, a ∈ L ↔ ∃ xs, H a = some (.lst xs) := by
  obtain ⟨N, hN⟩ := hb
  refine ⟨(List.range N).filter fun a => match H a with
    | some o => isLst o
    | Option.none => false, fun a => ?_⟩
  rw [List.mem_filter, List.mem_range]
  constructor
  · rintro ⟨_, h⟩
    split at h
    · rename_i o ho
      cases o with
      | lst xs => exact ⟨xs, ho⟩
      | _ => cases h
    · cases h
  · rintro ⟨xs, h⟩
    refine ⟨?_, by rw [h]; rfl⟩
    rcases Nat.lt_or_ge a N with z | z
    · exact z
    · rw [hN a z] at h
      cases h
/-- a call that comes to a new list, of things without lists -/
def mCallL (n : Nat) (f : List DV → (PyData → Prop) → Prop) (ms : MA) : ME := fun env k => ms env fun as => as.length = n ∧ (∃ ds, Du.dataOf as = some ds ∧ noLsts ds = true) ∧ f as fun d => match d with
  | .list ds => noLsts ds = true ∧ k (.list ds)
  | _ => False
theorem args_nolst {O O2 : List Addr} {H : Hp} (k : ∀ a o, offs O H a = some o → isLst o = false → offs O2 H a = some o) : ∀ {xs : List V} {as : List DV} {ds : List PyData}, Paired (ArgR K c O H) xs as → Du.dataOf as = some ds → noLsts ds = true → Paired (ArgB K [] O2 H) xs as
  | _, _, _, .nil, _, _ => .nil
  | _, _, _, .cons (b := dv) r t, e, n => by
    cases dv with
    | v d =>
      unfold Du.dataOf at e
      obtain ⟨ds', e1, e2⟩ := Option.map_eq_some_iff.mp e
      subst e2
      rw [noLsts, Bool.and_eq_true] at n
      exact .cons (da_move k r n.1) (args_nolst k t e1 n.2)
    | _ => cases e
theorem de_callL {e : Expr} {n : Nat} {f : List DV → (PyData → Prop) → Prop} {ms : MA} {E : XK} (h : PE X e (tCall (spF K n f) [] E (fun σ H Q => upA K c ms σ H fun xs H1 => Bnd H1 → Q xs H1))) : PE X e (upL K c (mCallL n f ms)) := pe_mono h fun σ H Q ⟨F, env, O, k, R, hm, q⟩ => by
  refine ⟨F, env, O, _, R, hm, fun as xs H1 kd g ps hb => ?_⟩
  have R1 := R.gx g
  obtain ⟨L, hL⟩ := lists_in hb
  obtain ⟨kl, ⟨ds0, kd0, kn0⟩, kf⟩ := kd
  have vis : ∀ a o, offs O H1 a = some o → isLst o = false → offs (L ++ O) H1 a = some o := fun a o ea hl => by
    obtain ⟨n1, n2⟩ := offs_some ea
    rw [offs_ne fun z => (List.mem_append.mp z).elim (fun z => by
      obtain ⟨ys, y⟩ := (hL a).mp z
      rw [n2] at y
      cases y
      cases hl) n1]
    exact n2
  have pa : Paired (ArgB K [] (L ++ O) H1) xs as := args_nolst vis ps kd0 kn0
  have nsL : sysModules ∉ L := fun z => by
    obtain ⟨ys, y⟩ := (hL _).mp z
    obtain ⟨φ, e⟩ := R1.sys
    rw [e] at y
    cases y
  refine ⟨L ++ O, [], 0, as, _, fun a ha => ?_, (fun a ha => nomatch ha), R1.sys, fun z => (List.mem_append.mp z).elim nsL R1.nsys, by rw [List.append_nil]; exact pa, kl, kf, fun d x H2 kx k1 _ da => ?_⟩
  · rcases List.mem_append.mp ha with z | z
    · obtain ⟨ys, y⟩ := (hL a).mp z
      exact ⟨_, y⟩
    · exact R1.dom a z
  · cases d with
    | list ds =>
      obtain ⟨nl, kx⟩ := kx
      obtain ⟨p, ys, rfl, f1, f2, f3⟩ := da_lst da
      obtain ⟨m1, m2⟩ := offs_some f1
      have s2 : Same H1 H2 := fun a o e => k1 a o (fun z => nomatch z) e
      have np1 : H1 p = Option.none := by
        cases e : H1 p with
        | none => rfl
        | some o =>
          have y := s2 _ _ e
          rw [m2] at y
          cases y
          exact absurd (List.mem_append_left O ((hL p).mpr ⟨_, e⟩)) m1
      have g2 := R1.same s2
      have np : H p = Option.none := by
        cases e : H p with
        | none => rfl
        | some o =>
          have y : H1 p = some o := g.kp p o (R1.n0 (R1.h0 np1)).2 e
          rw [np1] at y
          cases y
      refine q _ p ys ds H2 kx rfl (g.trans g2) np m2 f2 (daAll_move (fun a o e hl => ?_) f3 nl)
      obtain ⟨n1, n2⟩ := offs_some e
      rw [offs_ne fun z => ?_]
      · exact n2
      · rcases List.mem_cons.mp z with z | z
        · rw [z, m2] at n2
          cases n2
          cases hl
        · exact n1 (List.mem_append_right _ z)
    | _ => exact kx.elim
/-- a, b = two new lists -/
def dParL (i j : Nat) (m1 m2 : ME) : MS := fun env D => m1 env fun d => m2 env fun e => match d, e with
  | .list xs, .list ys => noLsts ys = true ∧ D.nx ((env.set i (.own xs)).set j (.own ys))
  | _, _ => False
theorem ds_parL {i j : Nat} {m1 m2 : ME} {st : Stmt} (h : PS X st (tPar i j (tCons (upL K c m1) (tCons (upL K c m2) tNil)))) : PS X st (upS K c (dParL i j m1 m2)) := ps_mono h fun D σ H ⟨F, env, O, DD, R, hb, h1, h2, h3, h4⟩ => by
  refine ⟨F, env, O, _, R, hb, fun d p ys ds H1 kd ed g n e hp da => ⟨F, env, O, _, R.gx g, kd, fun d2 p2 ys2 ds2 H2 kd2 ed2 g2 n2 e2 hp2 da2 => ?_⟩⟩
  subst ed ed2
  have R1 := R.setL i g n e hp da
  have R2 := R1.setL j (p := p2) (ys := ys2) (ds := ds2) ⟨g2.kp, g2.bg⟩ n2 e2 hp2 (daAll_move (fun a o ea hl => by
    obtain ⟨z1, z2⟩ := offs_some ea
    rw [offs_ne fun z => ?_]
    · exact z2
    · rcases List.mem_cons.mp z with z | z
      · exact z1 (by rw [z]; exact List.mem_cons_self)
      · rcases List.mem_cons.mp z with z | z
        · have y := g2.kp p _ (R.n0 (R.h0 n)).2 e
          rw [z, y] at z2
          cases z2
          cases hl
        · exact z1 (List.mem_cons_of_mem _ z)) da2 kd2.1)
  exact ⟨_, _, rfl, h1 _ _ _ H2 kd2.2 R2⟩
/-- a call that comes to a truth, of what one owns too -/
def mCallB (n : Nat) (f : List DV → (PyData → Prop) → Prop) (ms : MA) : ME := fun env k => ms env fun as => as.length = n ∧ f as fun d => match d with
  | .bool b => k (.bool b)
  | _ => False
theorem argn_b {F : Hp} {env : List DV} {σ : L2.St} {O : List Addr} {H : Hp} (R : Rel K c F env O σ H) : ∀ {xs : List V} {as : List DV}, Paired (ArgN K c O H) xs as → Paired (ArgB K c.b c.b H) xs as
  | _, _, .nil => .nil
  | _, _, .cons (b := dv) r t => .cons (by
      cases dv with
      | v d =>
        have k : Same (offs O H) (offs c.b H) := offs_less fun a h => R.bO a h
        rcases (show Nr K c O H _ d from r) with h | ⟨a, xs, ds, rfl, rfl, h3, h4, h6, h7⟩
        · exact da_same k h
        · exact .lst (by rw [offs_ne (R.n0 h4).2]; exact h6) h3 (daAll_same k h7)
      | _ => exact r.elim) (argn_b R t)
theorem de_callB {e : Expr} {n : Nat} {f : List DV → (PyData → Prop) → Prop} {ms : MA} {E : XK} (h : PE X e (tCall (spF K n f) [] E (upAN K c ms))) : PE X e (up K c (mCallB n f ms)) := pe_mono h fun σ H Q ⟨F, env, O, k, R, hm, q⟩ => by
  refine ⟨F, env, O, _, R, hm, fun as xs H1 kd g ps => ?_⟩
  have R1 := R.gx g
  refine ⟨c.b, c.b, c.l, as, _, fun a h => R1.dom a (R1.bO a h), fun a h => ⟨h, (R1.bg a h).2.1, fun z => (R1.bg a h).2.2 (R1.bO _ z)⟩, R1.sys, fun z => R1.nsys (R1.bO _ z), by rw [List.append_nil]; exact argn_b R1 ps, kd.1, kd.2, fun d x H2 kx k1 k2 da => ?_⟩
  cases d with
  | bool b =>
    cases da
    exact q _ _ H2 kx (g.trans ⟨k1, k2⟩) (.bl b)
  | _ => exact kx.elim
end
end Du

/-! dicts whose keys are tuples (of ints, None, tuples): their object, d[k], in, get, d[k] = v. -/
namespace Du
open PySem PySem.Spec PyProof.Rows L2 On
/-! ### keys -/
mutual
theorem keyOf_depth : ∀ {d : PyData} {k : NestedKey}, keyOf d = some k → k.depth ≤ d.depth
  | .none, _, h => by cases h; exact Nat.zero_le _
  | .int i, _, h => by cases h; exact Nat.zero_le _
  | .tuple ds, _, h => by
    rw [keyOf] at h
    obtain ⟨ks, h1, rfl⟩ := Option.map_eq_some_iff.mp h
    have z := keysOf_depth h1
    rw [NestedKey.depth, PyData.depth]
    omega
  | .bool _, _, h => by cases h
  | .str _, _, h => by cases h
  | .list _, _, h => by cases h
  | .dict _, _, h => by cases h
theorem keysOf_depth : ∀ {ds : List PyData} {ks : List NestedKey}, keysOf ds = some ks → NestedKey.depthAll ks ≤ PyData.depthAll ds
  | [], _, h => by
    cases h
    exact Nat.zero_le _
  | d :: ds, _, h => by
    rw [keysOf] at h
    obtain ⟨k, h1, h⟩ := Option.bind_eq_some_iff.mp h
    obtain ⟨ks, h2, rfl⟩ := Option.map_eq_some_iff.mp h
    have z1 := keyOf_depth h1
    have z2 := keysOf_depth h2
    rw [NestedKey.depthAll, PyData.depthAll]
    omega
end
mutual
theorem keyOf_hash : ∀ {d : PyData} {k : NestedKey}, keyOf d = some k → ∀ w w', k.hash w = k.hash w'
  | .none, _, h => by cases h; exact fun _ _ => rfl
  | .int i, _, h => by cases h; exact fun _ _ => rfl
  | .tuple ds, _, h => by
    rw [keyOf] at h
    obtain ⟨ks, h1, rfl⟩ := Option.map_eq_some_iff.mp h
    intro w w'
    rw [NestedKey.hash, NestedKey.hash, keysOf_hash h1 w w']
  | .bool _, _, h => by cases h
  | .str _, _, h => by cases h
  | .list _, _, h => by cases h
  | .dict _, _, h => by cases h
theorem keysOf_hash : ∀ {ds : List PyData} {ks : List NestedKey}, keysOf ds = some ks → ∀ w w', NestedKey.hashes w ks = NestedKey.hashes w' ks
  | [], _, h => by
    cases h
    exact fun _ _ => rfl
  | d :: ds, _, h => by
    rw [keysOf] at h
    obtain ⟨k, h1, h⟩ := Option.bind_eq_some_iff.mp h
    obtain ⟨ks, h2, rfl⟩ := Option.map_eq_some_iff.mp h
    intro w w'
    rw [NestedKey.hashes, NestedKey.hashes, keyOf_hash h1 w w', keysOf_hash h2 w w']
end
theorem keyT_of {d : PyData} {k : NestedKey} (h : keyT d = some k) : keyOf d = some k ∧ k.depth ≤ 8 := by
  unfold keyT at h
  split at h
  · rename_i hd
    exact ⟨h, Nat.le_trans (keyOf_depth h) hd⟩
  · cases h
section
variable {X : Cx} {pins : List (Addr × Obj)} {σ : L2.St} {H : Hp} {s : Shared}
mutual
theorem nested_of (I : Inv X pins σ H s) : ∀ {d : PyData} {v : V} {k : NestedKey} {u : Value}, Da X.K H v d → keyOf d = some k → RelV v u → NestedIs s.heap k u
  | .none, _, _, _, h, e, r => by
    cases e
    cases h
    cases r
    exact .none
  | .int i, _, _, _, h, e, r => by
    cases e
    cases h
    obtain ⟨t, rfl⟩ := r
    exact .int _ _
  | .tuple ds, _, _, _, h, e, r => by
    rw [keyOf] at e
    obtain ⟨ks, h1, rfl⟩ := Option.map_eq_some_iff.mp e
    obtain ⟨a, xs, rfl, h2, h3⟩ := da_tup h
    cases r
    obtain ⟨its, rv, ⟨o, ho, hc, n, hd⟩, _⟩ := I.tuple h2
    exact .tup ho hc hd (by simpa using nestedAll_of I h3 h1 rv)
  | .bool _, _, _, _, _, e, _ => by cases e
  | .str _, _, _, _, _, e, _ => by cases e
  | .list _, _, _, _, _, e, _ => by cases e
  | .dict _, _, _, _, _, e, _ => by cases e
theorem nestedAll_of (I : Inv X pins σ H s) : ∀ {ds : List PyData} {vs : List V} {ks : List NestedKey} {us : List Value}, DaAll X.K H vs ds → keysOf ds = some ks → Vals vs us → NestedAll s.heap ks us
  | [], _, _, _, h, e, r => by
    cases e
    cases h
    cases r
    exact .nil
  | d :: ds, _, _, _, h, e, r => by
    rw [keysOf] at e
    obtain ⟨k, h1, e⟩ := Option.bind_eq_some_iff.mp e
    obtain ⟨ks, h2, rfl⟩ := Option.map_eq_some_iff.mp e
    cases h with
    | cons a b =>
      cases r with
      | cons r1 r2 => exact .cons (nested_of I a h1 r1) (nestedAll_of I b h2 r2)
end
theorem key_is (I : Inv X pins σ H s) {a : Addr} {d : PyData} {k : NestedKey} (h : Da X.K H (.ref a) d) (e : keyT d = some k) : (nestedKind X.prog X.w).is s.heap k a :=
  ⟨nested_of I h (keyT_of e).1 rfl, (keyT_of e).2⟩
/-! ### the dict's object -/
def xsN (ents : List (NestedKey × Addr × V)) (us : List Value) : List (NestedKey × Addr × Value) := (ents.zip us).map fun x => (x.1.1, x.1.2.1, x.2)
theorem xsN_keys {ents : List (NestedKey × Addr × V)} {us : List Value} (hl : ents.length = us.length) : (xsN ents us).map (·.1) = ents.map fun e => e.1 := by
  unfold xsN
  rw [List.map_map]
  show (ents.zip us).map ((fun e : NestedKey × Addr × V => e.1) ∘ Prod.fst) = _
  rw [← List.map_map, List.map_fst_zip (by omega)]
theorem xsN_at {ents : List (NestedKey × Addr × V)} {us : List Value} {x : NestedKey × Addr × Value} (h : x ∈ xsN ents us) : ∃ (j : Nat) (e : NestedKey × Addr × V), ents[j]? = some e ∧ us[j]? = some x.2.2 ∧ x.1 = e.1 ∧ x.2.1 = e.2.1 := by
  unfold xsN at h
  obtain ⟨y, hy, rfl⟩ := List.mem_map.mp h
  obtain ⟨j, hj, e⟩ := List.mem_iff_getElem.mp hy
  have z : (ents.zip us)[j]? = some y := by rw [List.getElem?_eq_getElem hj, e]
  rw [List.getElem?_zip_eq_some] at z
  exact ⟨j, y.1, z.1, z.2, rfl, rfl⟩
theorem ent_key {K : PySem.W.Frag} {G : Hp} {ents : List (NestedKey × Addr × V)} {ps : List (PyData × PyData)} (E : EntR K G ents ps) {j : Nat} {e : NestedKey × Addr × V} (h : ents[j]? = some e) : ∃ p, ps[j]? = some p ∧ keyT p.1 = some e.1 ∧ Da K G (.ref e.2.1) p.1 ∧ Da K G e.2.2 p.2 := by
  have z : (ents.map fun e => some e.1)[j]? = some (some e.1) := by rw [List.getElem?_map, h]; rfl
  rw [← E.ky, List.getElem?_map] at z
  obtain ⟨p, hp, hk⟩ := Option.map_eq_some_iff.mp z
  have h1 : (ents.map fun e => V.ref e.2.1)[j]? = some (.ref e.2.1) := by rw [List.getElem?_map, h]; rfl
  have h2 : (ents.map fun e => e.2.2)[j]? = some e.2.2 := by rw [List.getElem?_map, h]; rfl
  obtain ⟨d1, g1, q1⟩ := daAll_vat E.kd h1
  obtain ⟨d2, g2, q2⟩ := daAll_vat E.vd h2
  rw [List.getElem?_map, hp] at g1 g2
  cases g1
  cases g2
  exact ⟨p, hp, hk, q1, q2⟩
theorem ent_of {K : PySem.W.Frag} {G : Hp} {ents : List (NestedKey × Addr × V)} {ps : List (PyData × PyData)} (E : EntR K G ents ps) {j : Nat} {p : PyData × PyData} (h : ps[j]? = some p) : ∃ e, ents[j]? = some e ∧ keyT p.1 = some e.1 ∧ Da K G e.2.2 p.2 := by
  have z : (ps.map fun p => keyT p.1)[j]? = some (keyT p.1) := by rw [List.getElem?_map, h]; rfl
  rw [E.ky, List.getElem?_map] at z
  obtain ⟨e, he, hk⟩ := Option.map_eq_some_iff.mp z
  obtain ⟨p', h1, h2, _, h3⟩ := ent_key E he
  rw [h] at h1
  cases h1
  exact ⟨e, he, h2, h3⟩
theorem dn_dict (I : Inv X pins σ H s) {p : Addr} {ents : List (NestedKey × Addr × V)} {ps : List (PyData × PyData)} (h : H p = some (.ext (dictN p ents))) (E : EntR X.K H ents ps) :
    ∃ us, Vals (ents.map fun e => e.2.2) us ∧ ents.length = us.length ∧ s.heap.DictOfH (nestedKind X.prog X.w) p (xsN ents us) := by
  obtain ⟨⟨o, es, ep, us, g1, g2, g3, rv, hw⟩, _⟩ := (show ObjOk X.prog X.w H s.heap p (.ext (dictN p ents)) from I.hok p _ h)
  have hl : ents.length = us.length := by
    have z := rv.length
    rwa [List.length_map] at z
  refine ⟨us, rv, hl, o, es, ep, g1, g2, g3, ?_, fun x hx => ?_, ?_⟩
  · rw [hw X.w]
    unfold xsN
    rw [List.map_map]
    rfl
  · obtain ⟨j, e, h1, _, h3, h4⟩ := xsN_at hx
    obtain ⟨q, _, k1, k2, _⟩ := ent_key E h1
    rw [h3, h4]
    exact key_is I k2 k1
  · rw [xsN_keys hl]
    exact E.nd
theorem find_nd {α : Type} [DecidableEq α] {β : Type} : ∀ {xs : List (α × β)} {x : α × β}, (xs.map (·.1)).Nodup → x ∈ xs → xs.find? (fun y => decide (y.1 = x.1)) = some x
  | y :: xs, x, nd, h => by
    rw [List.map_cons, List.nodup_cons] at nd
    rcases List.mem_cons.mp h with e | m
    · subst e
      rw [List.find?_cons, decide_eq_true rfl]
    · have ne : y.1 ≠ x.1 := fun z => nd.1 (by rw [z]; exact List.mem_map.mpr ⟨x, m, rfl⟩)
      rw [List.find?_cons, decide_eq_false ne]
      exact find_nd nd.2 m
theorem at_some {ents : List (NestedKey × Addr × V)} {us : List Value} (hl : ents.length = us.length) (nd : (ents.map fun e => e.1).Nodup) {j : Nat} {e : NestedKey × Addr × V} {u : Value} (h : ents[j]? = some e) (hu : us[j]? = some u) : atKey (xsN ents us) e.1 = some (e.2.1, u) := by
  have hm : (e.1, e.2.1, u) ∈ xsN ents us := by
    unfold xsN
    refine List.mem_map.mpr ⟨(e, u), ?_, rfl⟩
    exact List.mem_of_getElem? (i := j) (List.getElem?_zip_eq_some.mpr ⟨h, hu⟩)
  have z := find_nd (by rw [xsN_keys hl]; exact nd) hm
  unfold atKey
  rw [z]
  rfl
theorem find_any {α : Type} (f : α → Bool) : ∀ xs : List α, (xs.find? f).isSome = xs.any f
  | [] => rfl
  | x :: xs => by
    rw [List.find?_cons, List.any_cons]
    cases f x with
    | true => rfl
    | false => rw [Bool.false_or, ← find_any f xs]
theorem at_any {ents : List (NestedKey × Addr × V)} {us : List Value} (hl : ents.length = us.length) (k : NestedKey) : (atKey (xsN ents us) k).isSome = ents.any fun e => decide (e.1 = k) := by
  unfold atKey
  rw [Option.isSome_map, find_any]
  have e : (xsN ents us).any (fun x => decide (x.1 = k)) = ((xsN ents us).map (·.1)).any fun x => decide (x = k) := by rw [List.any_map]; rfl
  rw [e, xsN_keys hl, List.any_map]
  rfl
end
/-! ### what data says of it -/
def hasT (ps : List (PyData × PyData)) (k : NestedKey) : Bool := ps.any fun p => decide (keyT p.1 = some k)
def lookT (ps : List (PyData × PyData)) (k : NestedKey) : Option PyData := (ps.find? fun p => decide (keyT p.1 = some k)).map (·.2)
def putT (ps : List (PyData × PyData)) (d : PyData) (k : NestedKey) (v : PyData) : List (PyData × PyData) := if hasT ps k = true then ps.map fun p => if keyT p.1 = some k then (p.1, v) else p else ps ++ [(d, v)]
theorem has_ents {K : PySem.W.Frag} {G : Hp} {ents : List (NestedKey × Addr × V)} {ps : List (PyData × PyData)} (E : EntR K G ents ps) (k : NestedKey) : (ents.any fun e => decide (e.1 = k)) = hasT ps k := by
  unfold hasT
  have e1 : (ents.any fun e => decide (e.1 = k)) = (ents.map fun e => some e.1).any fun x => decide (x = some k) := by
    rw [List.any_map]
    refine congrArg (fun f => List.any ents f) (funext fun e => ?_)
    exact decide_eq_decide.mpr ⟨fun z => congrArg some z, fun z => Option.some.inj z⟩
  have e2 : (ps.any fun p => decide (keyT p.1 = some k)) = (ps.map fun p => keyT p.1).any fun x => decide (x = some k) := by rw [List.any_map]; rfl
  rw [e1, e2, E.ky]
theorem look_ents {K : PySem.W.Frag} {G : Hp} {ents : List (NestedKey × Addr × V)} {ps : List (PyData × PyData)} (E : EntR K G ents ps) {k : NestedKey} {d : PyData} (h : lookT ps k = some d) : ∃ (j : Nat) (e : NestedKey × Addr × V), ents[j]? = some e ∧ e.1 = k ∧ Da K G e.2.2 d := by
  unfold lookT at h
  obtain ⟨p, hp, rfl⟩ := Option.map_eq_some_iff.mp h
  have hm := List.mem_of_find?_eq_some hp
  have hk : keyT p.1 = some k := of_decide_eq_true (p := keyT p.1 = some k) (List.find?_some (p := fun (p : PyData × PyData) => decide (keyT p.1 = some k)) hp)
  obtain ⟨j, hj, e⟩ := List.mem_iff_getElem.mp hm
  obtain ⟨en, h1, h2, h3⟩ := ent_of E (j := j) (p := p) (by rw [List.getElem?_eq_getElem hj, e])
  rw [hk] at h2
  exact ⟨j, en, h1, (Option.some.inj h2).symm, h3⟩
theorem look_none {ps : List (PyData × PyData)} {k : NestedKey} (h : lookT ps k = Option.none) : hasT ps k = false := by
  unfold lookT at h
  have z := Option.map_eq_none_iff.mp h
  unfold hasT
  rw [List.any_eq_false]
  exact List.find?_eq_none.mp z
section
variable {X : Cx}
/-- d[y] -/
def tNGet (X : Cx) (td ty : TE) : TE := fun σ H Q => td σ H fun x H1 => ty σ H1 fun y H2 => ∃ (p b : Addr) (ents : List (NestedKey × Addr × V)) (ps : List (PyData × PyData)) (d : PyData) (j : Nat) (e : NestedKey × Addr × V), x = .ref p ∧ y = .ref b ∧ H2 p = some (.ext (dictN p ents)) ∧ EntR X.K H2 ents ps ∧
  Da X.K H2 (.ref b) d ∧ keyT d = some e.1 ∧ ents[j]? = some e ∧ Q e.2.2 H2
theorem pe_nget {o i : Expr} {pos : Pos} {td ty : TE} (hu : X.A.units + 12 < cLine) (ho : PE X o td) (hi : PE X i ty) (hs : NoSl i) : PE X (.Subscript o i pos) (tNGet X td ty) := by
  refine ⟨fun pins s σ H Q I h => ?_⟩
  refine subD_of PySem.F.slot_dict_getitem.lookup hs (thn (ho.run pins s σ H _ I h) fun u s1 ⟨x, H1, I1, rx, q1⟩ => thn (hi.run pins s1 σ H1 _ I1 q1) fun iv s2 ⟨y, H2, I2, ry, p, b, ents, ps, d, j, e, ex, ey, hp, E, db, hk, he, q2⟩ => ?_)
  subst ex ey
  obtain rfl : u = Value.ref p := rx
  obtain rfl : iv = Value.ref b := ry
  obtain ⟨us, rv, hl, dd⟩ := dn_dict I2 hp E
  obtain ⟨w', hw, rw'⟩ := rv.get (i := j) (x := e.2.2) (by rw [List.getElem?_map, he]; rfl)
  exact ⟨dd.typeIs, wpAny_getItem_heap (show X.A.units + 1 + 8 < cLine by omega) (key_is I2 db hk) dd (at_some hl E.nd he hw) ⟨e.2.2, H2, I2.tok _, rw', q2⟩⟩
/-- y in d, y not in d -/
def rInN (X : Cx) (neg : Bool) : R2 := fun y x H Q => ∃ (p b : Addr) (ents : List (NestedKey × Addr × V)) (ps : List (PyData × PyData)) (d : PyData) (k : NestedKey), x = .ref p ∧ y = .ref b ∧ p ≠ sysModules ∧ H p = some (.ext (dictN p ents)) ∧ EntR X.K H ents ps ∧ Da X.K H (.ref b) d ∧ keyT d = some k ∧
  Q (.bl (neg != hasT ps k)) H
theorem op_inN (hu : X.A.units + 12 < cLine) : OpR X (compareOp .In) (rInN X false) := by
  intro pins s σ H y x v u Q I ry rx h
  obtain ⟨p, b, ents, ps, d, k, rfl, rfl, hp, hH, E, db, hk, q⟩ := h
  cases rx
  cases ry
  obtain ⟨us, rv, hl, dd⟩ := dn_dict I hH E
  refine wpAny_in_heap (show X.A.units + 1 + 8 < cLine by omega) (key_is I db hk) (beq_eq_false_iff_ne.mpr hp) dd ?_
  rw [at_any hl, has_ents E]
  exact ⟨.bl (hasT ps k), H, I.tok _, rfl, by rw [Bool.false_bne] at q; exact q⟩
theorem op_notInN (hu : X.A.units + 12 < cLine) : OpR X (compareOp .NotIn) (rInN X true) := by
  intro pins s σ H y x v u Q I ry rx h
  obtain ⟨p, b, ents, ps, d, k, rfl, rfl, hp, hH, E, db, hk, q⟩ := h
  cases rx
  cases ry
  obtain ⟨us, rv, hl, dd⟩ := dn_dict I hH E
  refine wpAny_notIn_heap (show X.A.units + 1 + 8 < cLine by omega) (key_is I db hk) (beq_eq_false_iff_ne.mpr hp) dd ?_
  rw [at_any hl, has_ents E]
  exact ⟨.bl (!hasT ps k), H, I.tok _, rfl, by rw [Bool.true_bne] at q; exact q⟩
/-- d.get(y), d.get(y, x) -/
def rGetN (X : Cx) : V → List V → Hp → VK → Prop := fun x vs H Q => ∃ (p b : Addr) (ents : List (NestedKey × Addr × V)) (ps : List (PyData × PyData)) (d : PyData) (k : NestedKey) (dv : V), x = .ref p ∧ (vs = [.ref b] ∧ dv = .non ∨ vs = [.ref b, dv]) ∧ p ≠ sysModules ∧ H p = some (.ext (dictN p ents)) ∧ EntR X.K H ents ps ∧
  Da X.K H (.ref b) d ∧ keyT d = some k ∧ (∀ (j : Nat) e, ents[j]? = some e → e.1 = k → Q e.2.2 H) ∧ (hasT ps k = false → Q dv H)
theorem mt_getN (hu : X.A.units + 12 < cLine) : MtR X "dict.get" (rGetN X) := by
  intro pins s σ H x vs v us Q I rx rv h
  obtain ⟨p, b, ents, ps, d, k, dv, rfl, hv, hp, hH, E, db, hk, q1, q2⟩ := h
  cases rx
  obtain ⟨vals, rvs, hl, dd⟩ := dn_dict I hH E
  have room : (nestedKind X.prog X.w).room X.A.in1 := show X.A.units + 1 + 8 < cLine by omega
  have hks := key_is I db hk
  have dsys : (p == sysModules) = false := beq_eq_false_iff_ne.mpr hp
  have fin : ∀ (dflt : Value), RelV dv dflt → ∃ x', ∃ H', Inv X pins σ H' { s with toks := s.toks + (nestedKind X.prog X.w).draws k } ∧ RelV x' (((atKey (xsN ents vals) k).map (·.2)).getD dflt) ∧ Q x' H' := fun dflt rd => by
    by_cases hh : hasT ps k = true
    · have z := at_any hl k
      rw [has_ents E, hh] at z
      rw [← has_ents E, List.any_eq_true] at hh
      obtain ⟨e, he, hek⟩ := hh
      have hek := of_decide_eq_true hek
      obtain ⟨j, hj, ej⟩ := List.mem_iff_getElem.mp he
      have gj : ents[j]? = some e := by rw [List.getElem?_eq_getElem hj, ej]
      obtain ⟨w', hw, rw'⟩ := rvs.get (i := j) (x := e.2.2) (by rw [List.getElem?_map, gj]; rfl)
      have a1 := at_some hl E.nd gj hw
      rw [hek] at a1
      rw [a1]
      exact ⟨e.2.2, H, I.tok _, rw', q1 j e gj hek⟩
    · have hh : hasT ps k = false := by simpa using hh
      have z := at_any hl k
      rw [has_ents E, hh] at z
      have zn : atKey (xsN ents vals) k = Option.none := Option.not_isSome_iff_eq_none.mp (by rw [z]; exact Bool.false_ne_true)
      rw [zn]
      exact ⟨dv, H, I.tok _, rd, q2 hh⟩
  rcases hv with ⟨rfl, rfl⟩ | rfl
  · rw [Vals.ref1 rv]
    exact call_meetsIn PySem.F.slot_dict_get dd.typeIs PySem.F.entry_dict_get (PySem.F.args_dict_get_2 _ _) (meetsH_dict_get (nestedKind X.prog X.w) p b dsys) ⟨room, k, _, hks, dd, fin .none rfl⟩
  · cases rv with
    | cons r1 t =>
      cases t with
      | cons r2 t =>
        cases t
        cases r1
        exact call_meetsIn PySem.F.slot_dict_get dd.typeIs PySem.F.entry_dict_get (PySem.F.args_dict_get_3 _ _ _) (meetsH_dict_get_default (nestedKind X.prog X.w) p b dsys _) ⟨room, k, _, hks, dd, fin _ r2⟩
end
end Du

/-! d[k] = v; {}, {k: v}; dict(pairs). -/
namespace Du
open PySem PySem.Spec PyProof.Rows L2 On
def putE (ents : List (NestedKey × Addr × V)) (k : NestedKey) (b : Addr) (v : V) : List (NestedKey × Addr × V) := if (ents.any fun e => decide (e.1 = k)) = true then ents.map fun e => if e.1 = k then (e.1, e.2.1, v) else e else ents ++ [(k, b, v)]
theorem putE_len (ents : List (NestedKey × Addr × V)) (k : NestedKey) (b : Addr) (v : V) : (putE ents k b v).length ≤ ents.length + 1 := by
  unfold putE
  split
  · rw [List.length_map]
    omega
  · rw [List.length_append]
    exact Nat.le_refl _
theorem putE_keys (ents : List (NestedKey × Addr × V)) (k : NestedKey) (b : Addr) (v : V) : (putE ents k b v).map (fun e => e.1) = if (ents.any fun e => decide (e.1 = k)) = true then ents.map fun e => e.1 else (ents.map fun e => e.1) ++ [k] := by
  unfold putE
  split
  · rw [List.map_map]
    refine List.map_congr_left fun e _ => ?_
    show (if e.1 = k then (e.1, e.2.1, v) else e).1 = e.1
    split <;> rfl
  · rw [List.map_append]
    rfl
/-- the values' own list behind a store -/
theorem put_us {ents : List (NestedKey × Addr × V)} {us : List Value} (hl : ents.length = us.length) (rv : Vals (ents.map fun e => e.2.2) us) (k : NestedKey) (b : Addr) {v : V} {u : Value} (r : RelV v u) :
    ∃ us', Vals ((putE ents k b v).map fun e => e.2.2) us' ∧ storedH (xsN ents us) k b u = xsN (putE ents k b v) us' := by
  have ha := at_any hl k
  unfold storedH putE
  rw [ha]
  split
  · clear ha
    have go : ∀ (ents : List (NestedKey × Addr × V)) (us : List Value), ents.length = us.length → Vals (ents.map fun e => e.2.2) us →
        ∃ us', Vals ((ents.map fun e => if e.1 = k then (e.1, e.2.1, v) else e).map fun e => e.2.2) us' ∧ (xsN ents us).map (putAt k u) = xsN (ents.map fun e => if e.1 = k then (e.1, e.2.1, v) else e) us' := by
      intro ents
      induction ents with
      | nil => intro us _ _; exact ⟨[], .nil, rfl⟩
      | cons e ents ih =>
        intro us hl rv
        cases us with
        | nil => cases hl
        | cons w us =>
          have rv' : Vals (e.2.2 :: ents.map fun e => e.2.2) (w :: us) := rv
          cases rv' with
          | cons r1 r2 =>
            obtain ⟨us', h1, h2⟩ := ih us (Nat.succ.inj hl) r2
            by_cases c : e.1 = k
            · refine ⟨u :: us', ?_, ?_⟩
              · show Vals ((if e.1 = k then (e.1, e.2.1, v) else e).2.2 :: _) _
                rw [if_pos c]
                exact .cons r h1
              · show putAt k u (e.1, e.2.1, w) :: (xsN ents us).map (putAt k u) = ((if e.1 = k then (e.1, e.2.1, v) else e).1, (if e.1 = k then (e.1, e.2.1, v) else e).2.1, u) :: xsN _ us'
                rw [h2, if_pos c]
                unfold putAt
                rw [if_pos c]
            · refine ⟨w :: us', ?_, ?_⟩
              · show Vals ((if e.1 = k then (e.1, e.2.1, v) else e).2.2 :: _) _
                rw [if_neg c]
                exact .cons r1 h1
              · show putAt k u (e.1, e.2.1, w) :: (xsN ents us).map (putAt k u) = ((if e.1 = k then (e.1, e.2.1, v) else e).1, (if e.1 = k then (e.1, e.2.1, v) else e).2.1, w) :: xsN _ us'
                rw [h2, if_neg c]
                unfold putAt
                rw [if_neg c]
    exact go ents us hl rv
  · refine ⟨us ++ [u], ?_, ?_⟩
    · rw [List.map_append]
      exact rv.append (.cons r .nil)
    · unfold xsN
      rw [List.zip_append hl, List.map_append]
      rfl
/-- .. and of what is known of it -/
theorem EntR.put {K : PySem.W.Frag} {G : Hp} {ents : List (NestedKey × Addr × V)} {ps : List (PyData × PyData)} (E : EntR K G ents ps) {d : PyData} {k : NestedKey} {b : Addr} {v : V} {dv : PyData} (hk : keyT d = some k) (hd : Da K G (.ref b) d) (hv : Da K G v dv) : EntR K G (putE ents k b v) (putT ps d k dv) := by
  have hh := has_ents E k
  by_cases c : hasT ps k = true
  · have e1 : putE ents k b v = ents.map fun e => if e.1 = k then (e.1, e.2.1, v) else e := by
      unfold putE
      rw [hh, if_pos c]
    have e2 : putT ps d k dv = ps.map fun p => if keyT p.1 = some k then (p.1, dv) else p := by
      unfold putT
      rw [if_pos c]
    rw [e1, e2]
    have go : ∀ (ents : List (NestedKey × Addr × V)) (ps : List (PyData × PyData)), DaAll K G (ents.map fun e => V.ref e.2.1) (ps.map Prod.fst) → DaAll K G (ents.map fun e => e.2.2) (ps.map Prod.snd) → ps.map (fun p => keyT p.1) = ents.map (fun e => some e.1) →
        DaAll K G ((ents.map fun e => if e.1 = k then (e.1, e.2.1, v) else e).map fun e => V.ref e.2.1) ((ps.map fun p => if keyT p.1 = some k then (p.1, dv) else p).map Prod.fst) ∧ DaAll K G ((ents.map fun e => if e.1 = k then (e.1, e.2.1, v) else e).map fun e => e.2.2) ((ps.map fun p => if keyT p.1 = some k then (p.1, dv) else p).map Prod.snd) ∧
        (ps.map fun p => if keyT p.1 = some k then (p.1, dv) else p).map (fun p => keyT p.1) = (ents.map fun e => if e.1 = k then (e.1, e.2.1, v) else e).map (fun e => some e.1) := by
      intro ents
      induction ents with
      | nil =>
        intro ps h1 h2 h3
        cases ps with
        | nil => exact ⟨.nil, .nil, rfl⟩
        | cons p ps => cases h3
      | cons e ents ih =>
        intro ps h1 h2 h3
        cases ps with
        | nil => cases h3
        | cons p ps =>
          have h1' : DaAll K G (.ref e.2.1 :: ents.map fun e => V.ref e.2.1) (p.1 :: ps.map Prod.fst) := h1
          have h2' : DaAll K G (e.2.2 :: ents.map fun e => e.2.2) (p.2 :: ps.map Prod.snd) := h2
          have h3' : keyT p.1 = some e.1 ∧ ps.map (fun p => keyT p.1) = ents.map (fun e => some e.1) := List.cons.inj h3
          cases h1' with
          | cons a1 b1 =>
            cases h2' with
            | cons a2 b2 =>
              obtain ⟨q1, q2, q3⟩ := ih ps b1 b2 h3'.2
              by_cases ck : e.1 = k
              · have ck' : keyT p.1 = some k := by rw [h3'.1, ck]
                refine ⟨?_, ?_, ?_⟩
                · show DaAll K G (V.ref (if e.1 = k then (e.1, e.2.1, v) else e).2.1 :: _) ((if keyT p.1 = some k then (p.1, dv) else p).1 :: _)
                  rw [if_pos ck, if_pos ck']
                  exact .cons a1 q1
                · show DaAll K G ((if e.1 = k then (e.1, e.2.1, v) else e).2.2 :: _) ((if keyT p.1 = some k then (p.1, dv) else p).2 :: _)
                  rw [if_pos ck, if_pos ck']
                  exact .cons hv q2
                · show keyT (if keyT p.1 = some k then (p.1, dv) else p).1 :: _ = some (if e.1 = k then (e.1, e.2.1, v) else e).1 :: _
                  rw [if_pos ck, if_pos ck', q3, h3'.1]
              · have ck' : ¬ keyT p.1 = some k := fun z => ck (by rw [h3'.1] at z; exact Option.some.inj z)
                refine ⟨?_, ?_, ?_⟩
                · show DaAll K G (V.ref (if e.1 = k then (e.1, e.2.1, v) else e).2.1 :: _) ((if keyT p.1 = some k then (p.1, dv) else p).1 :: _)
                  rw [if_neg ck, if_neg ck']
                  exact .cons a1 q1
                · show DaAll K G ((if e.1 = k then (e.1, e.2.1, v) else e).2.2 :: _) ((if keyT p.1 = some k then (p.1, dv) else p).2 :: _)
                  rw [if_neg ck, if_neg ck']
                  exact .cons a2 q2
                · show keyT (if keyT p.1 = some k then (p.1, dv) else p).1 :: _ = some (if e.1 = k then (e.1, e.2.1, v) else e).1 :: _
                  rw [if_neg ck, if_neg ck', q3, h3'.1]
    obtain ⟨q1, q2, q3⟩ := go ents ps E.kd E.vd E.ky
    refine ⟨q1, q2, q3, ?_⟩
    have z := putE_keys ents k b v
    rw [e1, hh, if_pos c] at z
    rw [z]
    exact E.nd
  · have e1 : putE ents k b v = ents ++ [(k, b, v)] := by
      unfold putE
      rw [hh, if_neg c]
    have e2 : putT ps d k dv = ps ++ [(d, dv)] := by
      unfold putT
      rw [if_neg c]
    rw [e1, e2]
    refine ⟨?_, ?_, ?_, ?_⟩
    · rw [List.map_append, List.map_append]
      exact daAll_app E.kd (.cons hd .nil)
    · rw [List.map_append, List.map_append]
      exact daAll_app E.vd (.cons hv .nil)
    · rw [List.map_append, List.map_append, E.ky]
      show _ ++ [keyT d] = _
      rw [hk]
      rfl
    · rw [List.map_append, List.nodup_append]
      refine ⟨E.nd, by simp, fun x hx y hy z => c ?_⟩
      rw [List.map_cons, List.map_nil, List.mem_singleton] at hy
      rw [← hh, List.any_eq_true]
      obtain ⟨e, he, rfl⟩ := List.mem_map.mp hx
      exact ⟨e, he, decide_eq_true (z.trans hy)⟩
section
variable {X : Cx} {pins : List (Addr × Obj)} {σ : L2.St} {H : Hp} {s : Shared}
theorem dictN_stay {p : Addr} {ents : List (NestedKey × Addr × V)} (h1 h2 : Heap) (x : dictN p ents h1) (k : ∀ o, h1.get? p = some o → h2.get? p = some o) : dictN p ents h2 := by
  obtain ⟨o, es, ep, us, a, b⟩ := x
  exact ⟨o, es, ep, us, k _ a, b⟩
/-- an object that is such a dict by this world's kind -/
theorem dictN_of {P : Program} {w : World} {h : Heap} {p : Addr} {ents : List (NestedKey × Addr × V)} {us : List Value} (rv : Vals (ents.map fun e => e.2.2) us) (hk : ∀ e ∈ ents, ∀ w', e.1.hash w = e.1.hash w') (dd : h.DictOfH (nestedKind P w) p (xsN ents us)) : dictN p ents h := by
  obtain ⟨o, es, ep, g1, g2, g3, g4, _, _⟩ := dd
  refine ⟨o, es, ep, us, g1, g2, g3, rv, fun w' => ?_⟩
  rw [g4]
  unfold xsN
  rw [List.map_map]
  refine List.map_congr_left fun x hx => ?_
  have hm : x.1 ∈ ents := (List.of_mem_zip hx).1
  show (⟨x.1.1.hash w, .ref x.1.2.1, x.2⟩ : DictEntry) = ⟨x.1.1.hash w', .ref x.1.2.1, x.2⟩
  rw [hk x.1 hm w']
theorem ent_hash {K : PySem.W.Frag} {G : Hp} {ents : List (NestedKey × Addr × V)} {ps : List (PyData × PyData)} (E : EntR K G ents ps) : ∀ e ∈ ents, ∀ w w', e.1.hash w = e.1.hash w' := fun e he w w' => by
  obtain ⟨j, hj, ej⟩ := List.mem_iff_getElem.mp he
  obtain ⟨p, _, k1, _⟩ := ent_key E (j := j) (e := e) (by rw [List.getElem?_eq_getElem hj, ej])
  exact keyOf_hash (keyT_of k1).1 w w'
theorem ext_ok {P : Program} {w : World} {G : Hp} {h : Heap} {p : Addr} {ents : List (NestedKey × Addr × V)} (x : dictN p ents h) : ObjOk P w G h p (.ext (dictN p ents)) :=
  ⟨x, by obtain ⟨o, _, _, _, e, _⟩ := x; exact ⟨o, e⟩, fun h1 h2 y k => dictN_stay h1 h2 y k⟩
/-- the library's own store into it -/
theorem put_step (I : Inv X pins σ H s) {p b : Addr} {ents : List (NestedKey × Addr × V)} {ps : List (PyData × PyData)} {d : PyData} {k : NestedKey} {v : V} {u : Value} {h' : Heap} {t' : Nat} (hp : H p = some (.ext (dictN p ents))) (E : EntR X.K H ents ps) (hk : keyT d = some k) (hd : Da X.K H (.ref b) d)
    {us : List Value} (hl : ents.length = us.length) (rv : Vals (ents.map fun e => e.2.2) us) (ru : RelV v u) (dd : h'.DictOfH (nestedKind X.prog X.w) p (storedH (xsN ents us) k b u)) (hs : Heap.SameBut p s.heap h') : Inv X pins σ (upd H p (.ext (dictN p (putE ents k b v)))) { s with heap := h', toks := t' } := by
  obtain ⟨us', rv', e⟩ := put_us hl rv k b ru
  rw [e] at dd
  have x : dictN p (putE ents k b v) h' := by
    refine dictN_of (P := X.prog) (w := X.w) rv' (fun e he w' => ?_) dd
    have hm : e.1 ∈ (putE ents k b v).map fun e => e.1 := List.mem_map.mpr ⟨e, he, rfl⟩
    rw [putE_keys] at hm
    have old : ∀ x ∈ ents.map (fun e => e.1), x.hash X.w = x.hash w' := fun x hx => by
      obtain ⟨f, hf, rfl⟩ := List.mem_map.mp hx
      exact ent_hash E f hf X.w w'
    split at hm
    · exact old _ hm
    · rcases List.mem_append.mp hm with z | z
      · exact old _ z
      · rw [List.mem_singleton] at z
        rw [z]
        exact keyOf_hash (keyT_of hk).1 _ _
  exact d_write I (by rw [hp]; exact True.intro) hs (by obtain ⟨o, _, _, _, eo, _⟩ := x; exact ⟨o, eo⟩) (ext_ok x)
/-- d[y] = v -/
def sNPut (X : Cx) (td ty tv : TE) : TS := fun D σ H => tv σ H fun v H1 => td σ H1 fun x H2 => ty σ H2 fun y H3 => ∃ (p b : Addr) (ents : List (NestedKey × Addr × V)) (ps : List (PyData × PyData)) (d : PyData) (k : NestedKey), x = .ref p ∧ y = .ref b ∧ H3 p = some (.ext (dictN p ents)) ∧ EntR X.K H3 ents ps ∧ Da X.K H3 (.ref b) d ∧ keyT d = some k ∧
  ents.length ≤ 100000 ∧ D.nx σ (upd H3 p (.ext (dictN p (putE ents k b v))))
theorem ps_nput {o i value : Expr} {pos pos' : Pos} {td ty tv : TE} (hu : X.A.units + 12 < cLine) (ho : PE X o td) (hi : PE X i ty) (hv : PE X value tv) (hs : swapsWith value (some (.Subscript o i pos')) pos.line X.env = pure false) :
    PS X (.Assign [.Subscript o i pos'] value pos) (sNPut X td ty tv) := by
  refine ⟨fun pins s σ H D I h => ?_⟩
  refine wpAny_Assign_Subscript (thn (hv.run pins s σ H _ I h) fun r s1 ⟨v, H1, I1, rv, q1⟩ => thn (ho.run pins s1 σ H1 _ I1 q1) fun u s2 ⟨x, H2, I2, rx, q2⟩ => thn (hi.run pins s2 σ H2 _ I2 q2) fun iv s3 ⟨y, H3, I3, ry, p, b, ents, ps, d, k, ex, ey, hp, E, db, hk, hz, q3⟩ => ?_) hs
  subst ex ey
  obtain rfl : u = Value.ref p := rx
  obtain rfl : iv = Value.ref b := ry
  obtain ⟨us, ru, hl, dd⟩ := dn_dict I3 hp E
  have hsz : (xsN ents us).length ≤ sizeLine := by
    unfold xsN
    rw [List.length_map, List.length_zip]
    exact Evl.sz_of (by omega)
  exact wpAny_setItem_heap (hsz := hsz) (show X.A.units + 1 + 8 < cLine by omega) (key_is I3 db hk) dd fun h' dd' hsb => ⟨σ, _, put_step I3 hp E hk db hl ru rv dd' hsb, q3⟩
/-- {} -/
theorem dn_empty (h : Heap) : dictN h.objs.size [] (h.push { cls := .type "dict", data := .dict #[] }) := ⟨_, #[], 0, [], Heap.get?_push_size _ rfl, ⟨rfl, rfl, rfl⟩, rfl, .nil, fun _ => rfl⟩
def tNNew : TE := fun _ H Q => ∀ p, H p = Option.none → Q (.ref p) (upd H p (.ext (dictN p [])))
theorem pe_nnew {pos : Pos} : PE X (.Dict [] [] pos) tNNew := ⟨fun pins s σ H Q I h =>
  wpAny_Dict_empty ⟨.ref s.heap.objs.size, _, I.laid (a := s.heap.objs.size) (o := .ext (dictN s.heap.objs.size [])) (t' := s.toks) (fun _ _ q => Heap.get?_push_of_some _ q) (Nat.le_refl _) (ext_ok (dn_empty s.heap)), rfl, h _ (I.hok.fresh (Nat.le_refl _))⟩⟩
end
end Du

/-! {k: v}, dict(pairs), {k: v for ..}. -/
namespace Du
open PySem PySem.Spec PyProof.Rows L2 On
section
variable {X : Cx}
/-- {k: v} -/
def tNOne (X : Cx) (tk tv : TE) : TE := fun σ H Q => ∀ p, H p = Option.none → tk σ (upd H p (.ext (dictN p []))) fun x H1 => tv σ H1 fun z H2 => ∃ y v, [(x, z)] = [(y, v)] ∧ ∃ (b : Addr) (d : PyData) (k : NestedKey), y = .ref b ∧ H2 p = some (.ext (dictN p [])) ∧ Da X.K H2 (.ref b) d ∧ keyT d = some k ∧ Q (.ref p) (upd H2 p (.ext (dictN p [(k, b, v)])))
theorem ent_nil {K : PySem.W.Frag} {G : Hp} : EntR K G [] [] := ⟨.nil, .nil, rfl, List.nodup_nil⟩
theorem pe_none1 {kx vx : Expr} {pos : Pos} {tk tv : TE} (hu : X.A.units + 12 < cLine) (hk : PE X kx tk) (hv : PE X vx tv) : PE X (.Dict [some kx] [vx] pos) (tNOne X tk tv) := by
  refine ⟨fun pins s σ H Q I q => ?_⟩
  have hn := I.hok.fresh (Nat.le_refl s.heap.objs.size)
  have I1 := I.laid (a := s.heap.objs.size) (o := .ext (dictN s.heap.objs.size [])) (h' := s.heap.push { cls := .type "dict", data := .dict #[] }) (t' := s.toks) (fun _ _ q => Heap.get?_push_of_some _ q) (Nat.le_refl _) (ext_ok (dn_empty s.heap))
  have run := (pps_cons hk hv (pps_nil (X := X) (pos := pos))).run pins _ σ _ (fun ps H2 => ∃ y v, ps = [(y, v)] ∧ ∃ (b : Addr) (d : PyData) (k : NestedKey), y = .ref b ∧ H2 s.heap.objs.size = some (.ext (dictN s.heap.objs.size [])) ∧ Da X.K H2 (.ref b) d ∧ keyT d = some k ∧ Q (.ref s.heap.objs.size) (upd H2 s.heap.objs.size (.ext (dictN s.heap.objs.size [(k, b, v)])))) I1 ?_
  · rw [arm_eval_Dict]
    have shape : (evalEachOpt [some kx] X.env).zip ((evalEach [vx] X.env).map fun v => do let x ← v; standAt pos; pure x) = (pairTrees [some kx] [vx] X.env pos).map fun p => (some p.1, p.2) := rfl
    rw [shape, dictDisplay_pairs _ (by exact List.cons_ne_nil _ _) (by show 1 < 17; decide)]
    refine wpAny_bind (wpAny_standAt (wpAny_bind (wpAny_subDictH (knd := nestedKind X.prog X.w) (Q := fun d s' => wpAny (model X.prog X.w) X.A (pure (Value.ref d)) (EP X pins σ Q) X.xe s') (show X.A.units + 8 < cLine by omega) (by show 1 ≤ 15; decide) (thn run fun ws s2 ⟨ps, H2, I2, rel, y, v, ep, b, d, k, ey, hp, db, hkk, q2⟩ => ?_))))
    subst ep ey
    obtain ⟨y', v', rfl, r1, r2⟩ : ∃ y' v', ws = [(y', v')] ∧ RelV (.ref b) y' ∧ RelV v v' := by
      cases rel with
      | cons h t =>
        cases t
        exact ⟨_, _, rfl, h.1, h.2⟩
    cases r1
    obtain ⟨us, rv, hl, dd⟩ := dn_dict I2 hp ent_nil
    cases rv
    have dd0 : s2.heap.DictOfH (nestedKind X.prog X.w) s.heap.objs.size [] := dd
    refine ⟨[(k, b, v')], ⟨rfl, rfl, key_is I2 db hkk, True.intro⟩, dd0, fun h' tk hd hs => wpAny_pure ⟨.ref s.heap.objs.size, _, put_step I2 hp ent_nil hkk db rfl .nil r2 hd hs, rfl, q2⟩⟩
  · exact q s.heap.objs.size hn
/-- dict(pairs) -/
def rDictG (X : Cx) : List V → Hp → VK → Prop := fun vs H Q => ∃ (D : Addr) (Ts : List Addr) (ents : List (NestedKey × Addr × V)) (ps : List (PyData × PyData)), vs = [.ref D] ∧ SqL X.K H D (Ts.map V.ref) ∧ Ts.length ≤ 100000 ∧
  Paired (fun T (e : NestedKey × Addr × V) => SqT X.K H T [.ref e.2.1, e.2.2]) Ts ents ∧ EntR X.K H ents ps ∧ ∀ p, H p = Option.none → Q (.ref p) (upd H p (.ext (dictN p ents)))
theorem vals_pair {a : Addr} {v : V} {us : List Value} (h : Vals [.ref a, v] us) : ∃ u, us = [.ref a, u] ∧ RelV v u := by
  cases h with
  | cons r1 t =>
    cases t with
    | cons r2 t =>
      cases t
      cases r1
      exact ⟨_, rfl, r2⟩
theorem pair_us {pins : List (Addr × Obj)} {σ : L2.St} {H : Hp} {s : Shared} (I : Inv X pins σ H s) : ∀ {Ts : List Addr} {ents : List (NestedKey × Addr × V)}, Paired (fun T (e : NestedKey × Addr × V) => SqT X.K H T [.ref e.2.1, e.2.2]) Ts ents →
    ∃ us, Vals (ents.map fun e => e.2.2) us ∧ ∀ (j : Nat) T e u, Ts[j]? = some T → ents[j]? = some e → us[j]? = some u → IsTup s.heap T #[.ref e.2.1, u]
  | _, _, .nil => ⟨[], .nil, fun j T e u h _ _ => by simp at h⟩
  | _, _, .cons (a := T) (b := e) r t => by
    obtain ⟨us, h1, h2⟩ := pair_us I t
    obtain ⟨its, rv, hT, _⟩ := I.tuple r
    obtain ⟨u, rfl, ru⟩ := vals_pair rv
    refine ⟨u :: us, .cons ru h1, fun j T' e' u' a1 a2 a3 => ?_⟩
    cases j with
    | zero =>
      simp at a1 a2 a3
      subst a1 a2 a3
      exact hT
    | succ j => exact h2 j T' e' u' (by simpa using a1) (by simpa using a2) (by simpa using a3)
theorem cr_dictG (hc : X.calm = true) (hu : X.A.units + 12 < cLine) : CallR X (.type "dict") (rDictG X) := by
  intro pins s σ H vs us Q I r h
  obtain ⟨D, Ts, ents, ps, rfl, hD, hz, hT, E, q⟩ := h
  obtain ⟨its, rv, ⟨o, n, ho, hcl, hdi, hda⟩, _⟩ := I.list hD
  rw [Vals.ref1 r]
  obtain ⟨ws, rw', hws⟩ := pair_us I hT
  have li : its.length = Ts.length := by rw [← rv.length, List.length_map]
  have lt : Ts.length = ents.length := hT.length
  have lw : ents.length = ws.length := by
    have z := rw'.length
    rwa [List.length_map] at z
  have lx : (xsN ents ws).length = ents.length := by
    unfold xsN
    rw [List.length_map, List.length_zip]
    omega
  have PA := PySem.PairArg.list (prog := X.prog) (w := X.w) D its.toArray (fun j => Ts.getD j 0) ((xsN ents ws).map fun x => (Value.ref x.2.1, x.2.2))
  have e2 : ((xsN ents ws).map fun x => (Value.ref x.2.1, x.2.2)).length = ents.length := by rw [List.length_map, lx]
  have isk : ∀ {h' : Heap}, (∀ b o vs m, s.heap.get? b = some o → o.data = .seq vs m → h'.get? b = some o) → ∀ x ∈ xsN ents ws, (nestedKind X.prog X.w).is h' x.1 x.2.1 := fun {h'} hk' x hx => by
    obtain ⟨j, e, h1, _, h3, h4⟩ := xsN_at hx
    obtain ⟨p, _, k1, k2, _⟩ := ent_key E h1
    rw [h3, h4]
    exact PySem.nestedKind_stays.stays hk' (key_is I k2 k1)
  refine PySem.call_dict_pairsH (knd := nestedKind X.prog X.w) (ps := xsN ents ws) PA (I.ok.hd hc) ?_ ⟨⟨o, n, ho, hcl, hdi, hda⟩, ?_⟩ ⟨?_, ?_⟩ ?_ ?_ fun h' tk hd kp => ?_
  · show X.A.units + 1 + 1 + 8 < cLine
    omega
  · refine ⟨by rw [List.size_toArray, e2, li, lt], fun j k v hj => ?_⟩
    rw [List.getElem?_map] at hj
    obtain ⟨x, hx, hxe⟩ := Option.map_eq_some_iff.mp hj
    unfold xsN at hx
    rw [List.getElem?_map] at hx
    obtain ⟨y, hy, rfl⟩ := Option.map_eq_some_iff.mp hx
    rw [List.getElem?_zip_eq_some] at hy
    cases hxe
    have hjT : j < Ts.length := by rw [lt]; exact (List.getElem?_eq_some_iff.mp hy.1).1
    have hTj : Ts[j]? = some Ts[j] := List.getElem?_eq_getElem hjT
    have gD : Ts.getD j 0 = Ts[j] := by rw [List.getD_eq_getElem?_getD, hTj]; rfl
    have hv : (Ts.map V.ref)[j]? = some (V.ref Ts[j]) := by rw [List.getElem?_map, hTj]; rfl
    obtain ⟨u, hu1, hu2⟩ := rv.get hv
    cases (show u = Value.ref Ts[j] from hu2)
    refine ⟨by show its.toArray[j]? = some (Value.ref (Ts.getD j 0)); rw [gD]; simpa using hu1, ?_⟩
    show PairAt s.heap (Ts.getD j 0) (Value.ref y.1.2.1) y.2
    rw [gD]
    obtain ⟨oT, hoT, cT, mT, dT⟩ := hws j _ y.1 y.2 hTj hy.1 hy.2
    exact .inl ⟨oT, hoT, cT, mT, dT⟩
  · rw [List.length_map]
  · intro i key v hi
    have hi : ((xsN ents ws).map fun x => (Value.ref x.2.1, x.2.2))[i]? = some (key, v) := hi
    rw [List.getElem?_map] at hi
    obtain ⟨x, hx, hxe⟩ := Option.map_eq_some_iff.mp hi
    cases hxe
    exact ⟨x.1, x.2.1, hx, rfl⟩
  · intro h' hk' x hx
    exact isk (fun b o vs m eb _ => hk' b o (Nat.ne_of_lt (Heap.lt_size eb)) (fun z => nomatch z) eb) x hx
  · rw [e2, ← lt]
    exact Evl.sz_of (by omega)
  · rw [PySem.storedAllH_nil_of_nodup _ (by rw [xsN_keys lw]; exact E.nd)] at hd
    have x : dictN s.heap.objs.size ents h' := dictN_of (P := X.prog) (w := X.w) rw' (fun e he w' => ent_hash E e he _ w') hd
    exact ⟨.ref s.heap.objs.size, _, I.laid (a := s.heap.objs.size) (o := .ext (dictN s.heap.objs.size ents)) (t' := tk) (fun b ob eb => kp b ob (fun z => nomatch z) eb) (Nat.le_refl _) (ext_ok x), rfl, q _ (I.hok.fresh (Nat.le_refl _))⟩
end
end Du

/-! {k: v for target in iter if ..}, keys tuples. -/
namespace Du
open PySem PySem.Spec PyProof.Rows L2 On
section
variable {X : Cx}
/-- the reading: D the new dict; each turn stores one pair -/
def tDcN (X : Cx) (wi : TI) (g : TG) (tt : TT) (tk tv : TE) (vs : List Nat) : TE := fun σ H Q => wi σ H fun J H1 => ∀ D, H1 D = Option.none → ∃ W : Nat → Nat → Hp → Prop, (∃ m, W 0 m (upd H1 D (.ext (dictN D [])))) ∧ ∀ i m G, W i m G →
  (J.stop i G ∧ Q (.ref D) G) ∨ (J.go i G ∧ ∃ Nx : Hp → Prop, (∀ G', Nx G' → ∃ m', m' < m ∧ W (i + 1) m' G') ∧ ∀ x G', J.yld i G x G' → g x (wipe σ vs) G' fun τ G2 => wipe τ vs = wipe σ vs ∧ tt τ G2 fun b G3 =>
    if b = true then tk τ G3 fun y G4 => tv τ G4 fun z G5 => ∃ (a : Addr) (ents : List (NestedKey × Addr × V)) (ps : List (PyData × PyData)) (d : PyData) (k : NestedKey), y = .ref a ∧ G5 D = some (.ext (dictN D ents)) ∧ EntR X.K G5 ents ps ∧ Da X.K G5 (.ref a) d ∧ keyT d = some k ∧ ents.length ≤ 100000 ∧
      Nx (upd G5 D (.ext (dictN D (putE ents k a z)))) else Nx G3)
/-- the store of a turn -/
theorem dn_store {pins : List (Addr × Obj)} {σ : L2.St} {H : Hp} {s : Shared} {E0 : Value → Shared → Prop} {D a : Addr} {ents : List (NestedKey × Addr × V)} {ps : List (PyData × PyData)} {d : PyData} {k : NestedKey} {v : V} {u r : Value} {Q : Unit → Shared → Prop} (hu : X.A.units + 12 < cLine) (I : Inv X pins σ H s)
    (hD : H D = some (.ext (dictN D ents))) (E : EntR X.K H ents ps) (da : Da X.K H (.ref a) d) (hk : keyT d = some k) (hz : ents.length ≤ 100000) (ru : RelV (.ref a) u) (rv : RelV v r) (h : ∀ s', Inv X pins σ (upd H D (.ext (dictN D (putE ents k a v)))) s' → Q () s') : wpAny (model X.prog X.w) X.A (dictSet D u r) Q E0 s := by
  cases ru
  obtain ⟨us, rus, hl, dd⟩ := dn_dict I hD E
  have hsz : (xsN ents us).length ≤ sizeLine := by
    unfold xsN
    rw [List.length_map, List.length_zip]
    exact Evl.sz_of (by omega)
  exact wpAny_dictSet_heap (hsz := hsz) (show X.A.units + 8 < cLine by omega) (key_is I da hk) dd fun h' dd' hs => h _ (put_step I hD E hk da hl rus rv dd' hs)
theorem dcn_core {pins : List (Addr × Obj)} {s : Shared} {σ : L2.St} {H : Hp} {Q : VK} {kx vx tg iter : Expr} {ifs : List Expr} {scope : Scope} {own : List (Str × Nat)} {pos pos' : Pos} {wi : TI} {g : TG} {tt : TT} {tk tv : TE} {use : Option (Value → Sem Unit)} {Qf : Value → Shared → Prop} (hu : X.A.units + 12 < cLine)
    (hc : X.calm = true) (hN : X.N.Nodup) (I : Inv X pins σ H s) (hi : PI X tg iter wi) (ok : BlkOk X.N X.env.scope scope own)
    (hg : ∀ (s : Shared) (H : Hp) (C : Addr) (cl : List (Str × Addr)) (fp : List Addr), PG (X.blk s H scope (compEnvC scope cl C X.env) fp) tg g) (ht : ∀ (s : Shared) (H : Hp) (C : Addr) (cl : List (Str × Addr)) (fp : List Addr), PTs (X.blk s H scope (compEnvC scope cl C X.env) fp) ifs tt)
    (hk : ∀ (s : Shared) (H : Hp) (C : Addr) (cl : List (Str × Addr)) (fp : List Addr), PE (X.blk s H scope (compEnvC scope cl C X.env) fp) kx tk) (he : ∀ (s : Shared) (H : Hp) (C : Addr) (cl : List (Str × Addr)) (fp : List Addr), PE (X.blk s H scope (compEnvC scope cl C X.env) fp) vx tv)
    (hs : ∀ x, foldedSetIterable iter X.env x = pure x) (h : tDcN X wi g tt tk tv (own.map (·.2)) σ H Q)
    (hRR : ∀ D C s' m H', Inv X pins σ H' s' → Q (.ref D) H' → s'.heap.Ns C m → FpOk X pins H' C → compPost (model X.prog X.w) X.A X.xe use Qf (.ref D) C (.ok .next) s') :
    wpAny (model X.prog X.w) X.A (comprehension (.DictComp kx vx [⟨tg, iter, ifs, 0⟩] scope pos) scope X.env pos' newDict false (eval iter X.env) use) Qf X.xe s := by
  have hfr : ∀ y ∈ scope.names, y.2 = .free → ∃ c, X.env.cells.lookup y.1 = some c := fun y hy e => (ok.free y hy e).elim (fun k => I.ok.has _ (.inl k)) fun k => I.ok.has _ (.inr k)
  refine wpAny_comprehension_free (use := use) rfl hs (closure_ok hfr) ok.kind (fun y hy e => by rw [ok.uniq y hy, e]) (thn (hi.run pins s σ H _ I h) fun xv sA hx => thn hx fun itv sB hB => ?_)
  obtain ⟨it, fp, tn, J, HB, e, IB, T, stB, fB, q⟩ := hB
  subst e
  refine wpAny_newObj_type (newEnv_comp ?_)
  generalize hD : sB.heap.objs.size = D
  obtain ⟨W, ⟨m0, w0⟩, turn⟩ := q D (IB.hok.fresh (Nat.le_of_eq hD))
  generalize hsC : ({ sB with heap := sB.heap.push { cls := .type "dict", data := .dict #[] } } : Shared) = sC
  have IC : Inv X pins σ (upd HB D (.ext (dictN D []))) sC := by
    subst hsC
    refine IB.laid (t' := sB.toks) (fun b o e => Heap.get?_push_of_some _ e) (Nat.le_of_eq hD) ?_
    subst hD
    exact ext_ok (dn_empty sB.heap)
  have hC : sC.heap = sB.heap.push { cls := .type "dict", data := .dict #[] } := by subst hsC; rfl
  have small : ∀ b ∈ fp, b < sB.heap.objs.size := fun b hb => let ⟨o, e, _⟩ := T.obj _ _ stB b hb; Heap.lt_size e
  have fC : ∀ b ∈ fp, FpOk X pins (upd HB D (.ext (dictN D []))) b ∧ b < sC.heap.objs.size := fun b hb => by
    have lt := small b hb
    refine ⟨⟨?_, (fB b hb).2⟩, by rw [hC, Heap.size_push]; exact Nat.lt_succ_of_lt lt⟩
    rw [upd_ne (by subst hD; exact Nat.ne_of_lt lt)]
    exact (fB b hb).1
  have stC : tn 0 sC.heap := T.keep _ _ _ stB fun b _ o e => by rw [hC]; exact Heap.get?_push_of_some _ e
  have IE := block_start IC ok hN fC
  generalize hcl : cellsFrom (sC.heap.objs.size + 1) scope.names (cloFrom X.env.cells scope.names []) = cl at IE
  have pg := hg sC (upd HB D (.ext (dictN D []))) sC.heap.objs.size cl fp
  have pt := ht sC (upd HB D (.ext (dictN D []))) sC.heap.objs.size cl fp
  have pk := hk sC (upd HB D (.ext (dictN D []))) sC.heap.objs.size cl fp
  have pv := he sC (upd HB D (.ext (dictN D []))) sC.heap.objs.size cl fp
  have goalIs : codeAny (model X.prog X.w) X.A (.compStart (.DictComp kx vx [⟨tg, iter, ifs, 0⟩] scope pos) 0 (.ref it) (.ref D) (compEnvC scope cl sC.heap.objs.size X.env)) (compPost (model X.prog X.w) X.A X.xe use Qf (.ref D) sC.heap.objs.size) { sC with heap := pushCells (sC.heap.push { cls := .type "dict", data := .dict #[] }) scope.names } := by
    have nfp : ∀ b ∈ fp, (upd HB D (.ext (dictN D []))) b = Option.none := fun b hb => (fC b hb).1.1
    generalize hce : compEnvC scope cl sC.heap.objs.size X.env = ce at IE pg pt pk pv ⊢
    have cL : ce.locals = sC.heap.objs.size := by subst hce; rfl
    generalize hHC : upd HB D (.ext (dictN D [])) = HC at IC IE pg pt pk pv w0 nfp fC
    generalize hsE : ({ sC with heap := pushCells (sC.heap.push { cls := .type "dict", data := .dict #[] }) scope.names } : Shared) = sE at IE ⊢
    have stE : tn 0 sE.heap := T.keep _ _ _ stC fun b _ o e => by subst hsE; exact pushCells_keeps _ _ _ _ (Heap.get?_push_of_some _ e)
    have stat : ∀ {τ : L2.St} {G : Hp} {s' : Shared}, Inv (X.blk sC HC scope ce fp) [] τ G s' → (∀ b ∈ fp, G b = Option.none) → ∀ b ∈ fp, FpOk (X.blk sC HC scope ce fp) [] G b := fun {τ G s'} I' hn b hb =>
      ⟨hn b hb, (I'.ok.exf b hb).1, I'.ok.exfs b hb, .inl hb, fun x c e => (I'.ok.exf b hb).2 x c e, fun p hp => absurd (show p ∈ ([] : List (Addr × Obj)) ++ [] from hp) (by simp)⟩
    have loop : codeAny (model X.prog X.w) X.A (.compLoop (.DictComp kx vx [⟨tg, iter, ifs, 0⟩] scope pos) 0 (.ref it) (.ref D) ce) (compPost (model X.prog X.w) X.A X.xe use Qf (.ref D) sC.heap.objs.size) sE := by
      refine compLoop_anyD (fun n s' => ∃ i G, Inv (X.blk sC HC scope ce fp) [] (wipe σ (own.map (·.2))) G s' ∧ tn i s'.heap ∧ (∀ b ∈ fp, G b = Option.none) ∧ W i n G) ?_ m0 ⟨0, HC, IE, stE, nfp, w0⟩
      rintro n sF ⟨i, GF, IF, stF, nF, wF⟩
      rcases turn i n GF wF with ⟨stop, qq⟩ | ⟨go, Nx, hNx, step⟩
      · refine thnF (T.done (X.blk sC HC scope ce fp) rfl rfl rfl hc i [] sF _ GF (fun _ _ => False) IF (stat IF nF) stF stop) fun r sG ⟨hr, IG⟩ => ?_
        subst hr
        have IH : Inv X pins σ GF sG := IC.call' (ch := fp) IG.os IG.base IG.hok IG.bare fun b hb => ⟨(fC b hb).1.2.2.2.1, (fC b hb).1.2.1, (fC b hb).1.2.2.2.2.1, (fC b hb).1.2.2.2.2.2⟩
        have nC : GF sC.heap.objs.size = Option.none := by
          rw [← cL]
          exact IG.free
        obtain ⟨m, hn, _⟩ := IG.loc
        have hn' : sG.heap.Ns sC.heap.objs.size m := by
          rw [← cL]
          exact hn
        exact hRR D sC.heap.objs.size sG m GF IH qq hn' (IC.fpOk (Nat.le_refl _) nC)
      · refine thnF (T.item (X.blk sC HC scope ce fp) rfl rfl rfl hc i [] sF _ GF (fun _ _ => False) IF (stat IF nF) stF go) fun r sG ⟨u, hr, hG⟩ => ?_
        subst hr
        refine thnF hG fun _ sH ⟨x, GH, IH, rH, yH, stH, nH⟩ => ?_
        refine thnF (pg.run _ sH _ GH x u _ (IH.pinned (stat IH nH) (T.obj _ _ stH)) rH (step x GH yH)) fun _ sI ⟨τ, GI, II, hwI, qI⟩ => ?_
        refine thnF (pt.run _ sI τ GI _ II qI) fun b sJ ⟨GJ, IJ, qJ⟩ => ?_
        have fin : ∀ {s' : Shared} {G' : Hp}, Inv (X.blk sC HC scope ce fp) ([] ++ pinsAt fp sH.heap) τ G' s' → Nx G' → ∃ m, m < n ∧ ∃ i G', Inv (X.blk sC HC scope ce fp) [] (wipe σ (own.map (·.2))) G' s' ∧ tn i s'.heap ∧ (∀ b ∈ fp, G' b = Option.none) ∧ W i m G' := fun {s' G'} I' nx => by
          obtain ⟨m', hm, w'⟩ := hNx G' nx
          have pin' : ∀ b ∈ fp, ∀ o, sH.heap.get? b = some o → s'.heap.get? b = some o ∧ G' b = Option.none := fun b hb o e =>
            let z := I'.pin (b, o) (List.mem_append_right _ (List.mem_append_right _ (mem_pinsAt hb e)))
            ⟨z.1, z.2.1⟩
          refine ⟨m', hm, i + 1, G', (I'.unpinned (pins := [])).weak (by rw [← hwI, wipe_length]) (fun j v e => ?_), T.keep _ _ _ stH fun b hb o e => (pin' b hb o e).1, fun b hb => ?_, w'⟩
          · rw [← hwI] at e
            exact (wipe_some e).1
          · obtain ⟨o, e, _⟩ := T.obj _ _ stH b hb
            exact (pin' b hb o e).2
        cases b with
        | false =>
          simp only [Bool.false_eq_true, if_false] at qJ ⊢
          exact fin IJ qJ
        | true =>
          simp only [if_true] at qJ ⊢
          refine thnF (pk.run _ sJ τ GJ _ IJ qJ) fun z sK ⟨yk, GK, IK, rK, qK⟩ => ?_
          refine thnF (pv.run _ sK τ GK _ IK qK) fun z2 sL ⟨yv, GL, IL, rL, a, ents, ps, d, k, ek, hDL, E, da, hkk, hzz, nx⟩ => ?_
          subst ek
          exact dn_store (X := X.blk sC HC scope ce fp) hu IL hDL E da hkk hzz rK rL fun sM IM => fin IM nx
    exact codeAny_compStart_dict loop (T.self X.A 0 _ _ _ stE loop)
  subst hcl
  exact goalIs
theorem pe_dcN {kx vx tg iter : Expr} {ifs : List Expr} {scope : Scope} {own : List (Str × Nat)} {pos : Pos} {wi : TI} {g : TG} {tt : TT} {tk tv : TE} (hu : X.A.units + 12 < cLine) (hc : X.calm = true) (hN : X.N.Nodup) (hi : PI X tg iter wi) (ok : BlkOk X.N X.env.scope scope own)
    (hg : ∀ (s : Shared) (H : Hp) (C : Addr) (cl : List (Str × Addr)) (fp : List Addr), PG (X.blk s H scope (compEnvC scope cl C X.env) fp) tg g) (ht : ∀ (s : Shared) (H : Hp) (C : Addr) (cl : List (Str × Addr)) (fp : List Addr), PTs (X.blk s H scope (compEnvC scope cl C X.env) fp) ifs tt)
    (hk : ∀ (s : Shared) (H : Hp) (C : Addr) (cl : List (Str × Addr)) (fp : List Addr), PE (X.blk s H scope (compEnvC scope cl C X.env) fp) kx tk) (he : ∀ (s : Shared) (H : Hp) (C : Addr) (cl : List (Str × Addr)) (fp : List Addr), PE (X.blk s H scope (compEnvC scope cl C X.env) fp) vx tv)
    (hs : ∀ x, foldedSetIterable iter X.env x = pure x := by intro _; rfl) : PE X (.DictComp kx vx [⟨tg, iter, ifs, 0⟩] scope pos) (tDcN X wi g tt tk tv (own.map (·.2))) := ⟨fun pins s σ H Q I h => by
  rw [arm_eval_DictComp]
  exact dcn_core hu hc hN I hi ok hg ht hk he hs h fun D C s' m H' I' q hn f => ⟨m, hn, fun h'' sb => ⟨.ref D, H', I'.turned (t' := s'.toks) (fun b o hb e => (sb.2 b hb).trans e) f.1 f.2.1 f.2.2.2.1 f.2.2.2.2.1 f.2.2.2.2.2, rfl, q⟩⟩⟩
end
end Du

/-! dicts on data: readings. -/
namespace Du
open PySem PySem.Spec PyProof.Rows L2 On
theorem un12 {k : Nat} {A : Around} (hr : Room k A) : A.units + 12 < cLine := by
  have := hr.un
  omega
/-- what a name says of a dict -/
def dOf : DV → Option (List (PyData × PyData))
  | .od ps => some ps
  | .dd ps => some ps
  | .v (.dict ((.tuple a, b) :: ps)) => some ((.tuple a, b) :: ps)
  | _ => Option.none
section
variable {K : PySem.W.Frag} {c : Bs} {F : Hp} {env : List DV} {O : List Addr} {σ : L2.St} {H H' : Hp} {X : Cx} {e : Expr} {st : Stmt} {pos : Pos}
theorem Rel.dict (R : Rel K c F env O σ H) {i : Nat} {dv : DV} {ps : List (PyData × PyData)} (he : env[i]? = some dv) (hd : dOf dv = some ps) : ∃ a ents, σ[i]? = some (some (.ref a)) ∧ a ≠ sysModules ∧ a ∉ c.b ∧ H a = some (.ext (dictN a ents)) ∧ EntR K (offs O H) ents ps := by
  have q := R.sl i dv he
  unfold dOf at hd
  split at hd
  · cases hd
    obtain ⟨a, ents, h1, h2, h3, h4, h5, h6⟩ := q
    exact ⟨a, ents, h1, h4, (R.n0 h3).2, h5, h6⟩
  · cases hd
    obtain ⟨a, ents, h1, h2, h3, h4⟩ := q
    obtain ⟨n1, n2⟩ := offs_some h3
    exact ⟨a, ents, h1, h2, R.nb n1, n2, h4⟩
  · cases hd
    obtain ⟨x, h1, h2⟩ := q
    generalize ho : offs O H = G at h2
    generalize hq : PyData.dict ((PyData.tuple _, _) :: _) = q at h2
    cases h2 with
    | non => cases hq
    | bl b => cases hq
    | int i => cases hq
    | str x => cases hq
    | lst g1 g2 g3 => cases hq
    | tup g1 g3 => cases hq
    | @dct a kvs ds g1 g2 =>
      cases kvs with
      | nil => cases hq
      | cons kv kvs =>
        cases ds with
        | nil => cases hq
        | cons d ds =>
          obtain ⟨k, w⟩ := kv
          cases k <;> cases hq
    | dtt g1 g2 g3 g4 g5 g6 g7 =>
      injection hq with hq
      subst hq
      subst ho
      obtain ⟨n1, n2⟩ := offs_some g1
      exact ⟨_, _, h1, g2, R.nb n1, n2, ⟨g3, g4, g5, g6⟩⟩
  · cases hd
end
section
variable {K : PySem.W.Frag} {c : Bs} {F : Hp} {env : List DV} {O : List Addr} {σ : L2.St} {H H' : Hp}
theorem _root_.On.Bag.updx {H : Hp} {b l a : Addr} {o : HO} (h : Bag H b l) (n1 : a ≠ b) (n2 : a ≠ l) (n3 : a ≠ sysModules) : Bag (L2.upd H a o) b l := by
  obtain ⟨⟨p, q, r, cs, h1, h2, h3⟩, φ, h4⟩ := h
  exact ⟨⟨p, q, r, cs, by rw [upd_ne (Ne.symm n1)]; exact h1, by rw [upd_ne (Ne.symm n2)]; exact h2, h3⟩, φ, by rw [upd_ne (Ne.symm n3)]; exact h4⟩
theorem Rel.setD (R : Rel K c F env O σ H) (i : Nat) {p : Addr} {ents : List (NestedKey × Addr × V)} {ps : List (PyData × PyData)} (g : Gx c H H') (n : H p = Option.none) (e : H' p = some (.ext (dictN p ents))) (hp : p ≠ sysModules) (h : EntR K (offs (p :: O) H') ents ps) :
    Rel K c F (env.set i (.od ps)) (p :: O) (σ.set i (some (.ref p))) H' := by
  have R' := R.gx g
  have pO : p ∉ O := fun z => by
    obtain ⟨o, eo⟩ := R.dom p z
    rw [n] at eo
    cases eo
  have k : Same (offs O H) (offs (p :: O) H') := offs_same (fun a o n' e' => g.kp a o (R.nb n') e') fun a z nn => by
    rcases List.mem_cons.mp z with z | z
    · rw [z] at nn
      exact absurd n nn
    · exact z
  exact {
    dom := fun a h => by
      rcases List.mem_cons.mp h with z | z
      · rw [z]
        exact ⟨_, e⟩
      · exact R'.dom a z
    sub := fun a h => List.mem_cons_of_mem _ (R.sub a h)
    ent := R.ent
    but := R'.but
    bg := fun a h => ⟨(R.bg a h).1, g.bg a h, fun z => by
      rcases List.mem_cons.mp z with z | z
      · obtain ⟨⟨_, _, _, cs, _, e2, _⟩, _⟩ := (R.bg a h).2.1
        rw [z, n] at e2
        cases e2
      · exact (R.bg a h).2.2 z⟩
    sys := R'.sys
    nsys := fun z => by
      rcases List.mem_cons.mp z with z | z
      · exact hp z.symm
      · exact R.nsys z
    fz := R.fz.trans k
    sl := fun j e0 he => by
      by_cases hj : j = i
      · subst hj
        by_cases hl : j < env.length
        · rw [List.getElem?_set_self hl] at he
          cases he
          exact ⟨p, ents, by rw [List.getElem?_set_self (by rw [R.len]; exact hl)], List.mem_cons_self, R.h0 n, hp, e, h⟩
        · rw [List.getElem?_eq_none (by rw [List.length_set]; omega)] at he
          cases he
      · rw [List.getElem?_set_ne (Ne.symm hj)] at he ⊢
        have q := R.sl j e0 he
        cases e0 with
        | un => trivial
        | v d =>
          obtain ⟨x, h1, h2⟩ := q
          exact ⟨x, h1, da_same k h2⟩
        | own ds =>
          obtain ⟨a, xs, h1, h2, h3, h5, h6, h7⟩ := q
          exact ⟨a, xs, h1, List.mem_cons_of_mem _ h2, h3, h5, g.kp _ _ (R.n0 h3).2 h6, daAll_same k h7⟩
        | bag => exact q
        | tab P w kvs =>
          obtain ⟨p', ents, h1, h2⟩ := q
          exact ⟨p', ents, h1, h2.same k⟩
        | dd ps =>
          obtain ⟨a, ents, h1, h2, h3, h4⟩ := q
          exact ⟨a, ents, h1, h2, k _ _ h3, h4.same k⟩
        | od ps =>
          obtain ⟨a, ents, h1, h2, h3, h5, h6, h7⟩ := q
          exact ⟨a, ents, h1, List.mem_cons_of_mem _ h2, h3, h5, g.kp _ _ (R.n0 h3).2 h6, h7.same k⟩
    ap := fun j m ds es a hjk h1 h2 m1 m2 h3 => by
      by_cases hj : j = i
      · subst hj
        have hm : m ≠ j := fun z => hjk z.symm
        rw [List.getElem?_set_ne (Ne.symm hm)] at h2 ⊢
        intro z
        by_cases hl : j < σ.length
        · rw [List.getElem?_set_self hl] at h3
          cases h3
          exact pO (R.mineO h2 m2 z)
        · rw [List.getElem?_eq_none (by rw [List.length_set]; omega)] at h3
          cases h3
      · rw [List.getElem?_set_ne (Ne.symm hj)] at h1 h3
        by_cases hm : m = i
        · subst hm
          intro z
          by_cases hl : m < σ.length
          · rw [List.getElem?_set_self hl] at z
            cases z
            exact pO (R.mineO h1 m1 h3)
          · rw [List.getElem?_eq_none (by rw [List.length_set]; omega)] at z
            cases z
        · rw [List.getElem?_set_ne (Ne.symm hm)] at h2 ⊢
          exact R.ap j m ds es a hjk h1 h2 m1 m2 h3
    len := by rw [List.length_set, List.length_set, R.len] }
theorem Rel.mutD (R : Rel K c F env O σ H) {i : Nat} {ps qs : List (PyData × PyData)} {a : Addr} {ents : List (NestedKey × Addr × V)} (hi : env[i]? = some (.od ps)) (hs : σ[i]? = some (some (.ref a))) (h : EntR K (offs O H) ents qs) :
    Rel K c F (env.set i (.od qs)) O σ (upd H a (.ext (dictN a ents))) := by
  obtain ⟨a', xs, q1, q2, q3, q5, q6, q7⟩ := R.sl i _ hi
  have q4 := (R.n0 q3).2
  rw [hs] at q1
  cases q1
  have hl : i < env.length := (List.getElem?_eq_some_iff.mp hi).1
  have k : Same (offs O H) (offs O (upd H a (.ext (dictN a ents)))) := offs_same (fun b o n e => by
    rw [upd_ne (fun z => n (by rw [z]; exact q2))]
    exact e) fun _ z _ => z
  have ns : a ≠ sysModules := q5
  exact {
    dom := fun b hb => by
      by_cases z : b = a
      · exact ⟨_, by rw [z, upd_same]⟩
      · rw [upd_ne z]
        exact R.dom b hb
    sub := R.sub
    ent := R.ent
    but := fun b o n e => by
      by_cases z : b = a
      · rw [z, q3] at e
        cases e
      · rw [upd_ne z]
        exact R.but b o n e
    bg := fun b hb => ⟨(R.bg b hb).1, (R.bg b hb).2.1.updx (fun z => q4 (by rw [z]; exact hb)) (fun z => (R.bg b hb).2.2 (by rw [← z]; exact q2)) ns, (R.bg b hb).2.2⟩
    sys := by
      obtain ⟨φ, e⟩ := R.sys
      exact ⟨φ, by rw [upd_ne (Ne.symm ns)]; exact e⟩
    nsys := R.nsys
    fz := R.fz.trans k
    sl := fun j e0 he => by
      by_cases hj : j = i
      · subst hj
        rw [List.getElem?_set_self hl] at he
        cases he
        exact ⟨a, ents, hs, q2, q3, q5, upd_same, h.same k⟩
      · rw [List.getElem?_set_ne (Ne.symm hj)] at he
        have q := R.sl j e0 he
        cases e0 with
        | un => trivial
        | v d =>
          obtain ⟨x, h1, h2⟩ := q
          exact ⟨x, h1, da_same k h2⟩
        | own ds' =>
          obtain ⟨b, zs, h1, h2, h3, h5, h6, h7⟩ := q
          have nba : b ≠ a := fun z => by
            rw [z] at h1
            exact R.ap i j _ _ a (Ne.symm hj) hi he rfl rfl hs h1
          exact ⟨b, zs, h1, h2, h3, h5, by rw [upd_ne nba]; exact h6, daAll_same k h7⟩
        | bag => exact q
        | tab P w kvs =>
          obtain ⟨p', ents, h1, h2⟩ := q
          exact ⟨p', ents, h1, h2.same k⟩
        | dd ps =>
          obtain ⟨a, ents, h1, h2, h3, h4⟩ := q
          exact ⟨a, ents, h1, h2, k _ _ h3, h4.same k⟩
        | od ps =>
          obtain ⟨b, en, h1, h2, h3, h5, h6, h7⟩ := q
          have nba : b ≠ a := fun z => by
            rw [z] at h1
            exact R.ap i j _ _ a (Ne.symm hj) hi he rfl rfl hs h1
          exact ⟨b, en, h1, h2, h3, h5, by rw [upd_ne nba]; exact h6, h7.same k⟩
    ap := fun j m e f b hjm h1 h2 m1 m2 h3 => by
      have back : ∀ (j : Nat) (e : DV), (env.set i (.od qs))[j]? = some e → mine e = true → ∃ e2, env[j]? = some e2 ∧ mine e2 = true := fun j e he me => by
        by_cases z : j = i
        · exact ⟨.od ps, by rw [z]; exact hi, rfl⟩
        · rw [List.getElem?_set_ne (Ne.symm z)] at he
          exact ⟨_, he, me⟩
      obtain ⟨_, g1, k1⟩ := back j _ h1 m1
      obtain ⟨_, g2, k2⟩ := back m _ h2 m2
      exact R.ap j m _ _ b hjm g1 g2 k1 k2 h3
    len := by rw [List.length_set, R.len] }
theorem Rel.dictG (R : Rel K c F env O σ H) (g : Gx c H H') {i : Nat} {dv : DV} {ps : List (PyData × PyData)} {a : Addr} (he : env[i]? = some dv) (hd : dOf dv = some ps) (hs : σ[i]? = some (some (.ref a))) : ∃ ents, a ≠ sysModules ∧ H' a = some (.ext (dictN a ents)) ∧ EntR K (offs O H') ents ps := by
  obtain ⟨b, ents, h1, h2, h3, h4, h5⟩ := (R.gx g).dict he hd
  rw [hs] at h1
  cases h1
  exact ⟨ents, h2, h4, h5⟩
end
/-- of the dict that a name holds -/
def onD (i : Nat) (f : List (PyData × PyData) → Prop) (env : List DV) : Prop := match (env[i]?).bind dOf with
  | some ps => f ps
  | Option.none => False
theorem onD_of {i : Nat} {f : List (PyData × PyData) → Prop} {env : List DV} (h : onD i f env) : ∃ dv ps, env[i]? = some dv ∧ dOf dv = some ps ∧ f ps := by
  unfold onD at h
  split at h
  · rename_i ps e
    obtain ⟨dv, e1, e2⟩ := Option.bind_eq_some_iff.mp e
    exact ⟨dv, ps, e1, e2, h⟩
  · exact h.elim
/-- data that is a tuple, and a key -/
def isKey (d : PyData) (f : NestedKey → Prop) : Prop := match d with
  | .tuple ds => match keyT (.tuple ds) with
    | some k => f k
    | Option.none => False
  | _ => False
theorem isKey_of {d : PyData} {f : NestedKey → Prop} (h : isKey d f) : ∃ ds k, d = .tuple ds ∧ keyT d = some k ∧ f k := by
  unfold isKey at h
  split at h
  · split at h
    · rename_i ds _ k e
      exact ⟨ds, k, rfl, e, h⟩
    · exact h.elim
  · exact h.elim
section
variable {K : PySem.W.Frag} {c : Bs} {X : Cx} {e : Expr} {st : Stmt} {pos : Pos} {i : Nat}
/-- d[k] -/
def mGetN (i : Nat) (m : ME) : ME := fun env k => onD i (fun ps => m env fun d => isKey d fun kk => match lookT ps kk with
  | some v => k v
  | Option.none => False) env
theorem de_nget {m : ME} (hK : X.K = K) (h : PE X e (tNGet X (tVar i) (up K c m))) : PE X e (up K c (mGetN i m)) := by
  subst hK
  refine pe_mono h fun σ H Q ⟨F, env, O, k, R, hm, q⟩ => ?_
  obtain ⟨dv, ps, h1, h2, hm⟩ := onD_of hm
  obtain ⟨a, _, s1, _⟩ := R.dict h1 h2
  refine ⟨.ref a, s1, F, env, O, _, R, hm, fun d y H' kd g da => ?_⟩
  obtain ⟨ds, kk, rfl, hk, kd⟩ := isKey_of kd
  obtain ⟨b, xs, rfl, _⟩ := da_tup da
  obtain ⟨ents, n1, n2, E⟩ := R.dictG g h1 h2 s1
  split at kd
  · rename_i v hv
    obtain ⟨j, en, j1, j2, j3⟩ := look_ents E hv
    exact ⟨a, b, ents, ps, _, j, en, rfl, rfl, n2, E.same offs_sub, da_same offs_sub da, by rw [j2]; exact hk, j1, q v _ H' kd g j3⟩
  · exact kd.elim
/-- k in d, k not in d -/
def mInN (neg : Bool) (i : Nat) (m : ME) : ME := fun env k => onD i (fun ps => m env fun d => isKey d fun kk => k (.bool (neg != hasT ps kk))) env
theorem up_in {neg : Bool} {m : ME} (hK : X.K = K) (σ : L2.St) (H : Hp) (Q : VK) (h : up K c (mInN neg i m) σ H Q) : tOp (rInN X neg) (up K c m) (tVar i) σ H Q := by
  subst hK
  obtain ⟨F, env, O, k, R, hm, q⟩ := h
  obtain ⟨dv, ps, h1, h2, hm⟩ := onD_of hm
  obtain ⟨a, _, s1, _⟩ := R.dict h1 h2
  refine ⟨F, env, O, _, R, hm, fun d y H' kd g da => ⟨.ref a, s1, ?_⟩⟩
  obtain ⟨ds, kk, rfl, hk, kd⟩ := isKey_of kd
  obtain ⟨b, xs, rfl, _⟩ := da_tup da
  obtain ⟨ents, n1, n2, E⟩ := R.dictG g h1 h2 s1
  exact ⟨a, b, ents, ps, _, kk, rfl, rfl, n1, n2, E.same offs_sub, da_same offs_sub da, hk, q _ _ H' kd g (.bl _)⟩
theorem de_in {m : ME} {a b : Expr} (hu : X.A.units + 12 < cLine) (hK : X.K = K) (ha : PE X a (up K c m)) (hb : PE X b (tVar i)) (hm : behindInMarks .In b = false) : PE X (.Compare a [.In] [b] pos) (up K c (mInN false i m)) :=
  pe_mono (pe_cmpR (op_inN hu) ha hb hm) (up_in hK)
theorem de_notIn {m : ME} {a b : Expr} (hu : X.A.units + 12 < cLine) (hK : X.K = K) (ha : PE X a (up K c m)) (hb : PE X b (tVar i)) (hm : behindInMarks .NotIn b = false) : PE X (.Compare a [.NotIn] [b] pos) (up K c (mInN true i m)) :=
  pe_mono (pe_cmpR (op_notInN hu) ha hb hm) (up_in hK)
theorem up_inT {neg : Bool} {m : ME} (hK : X.K = K) (σ : L2.St) (H : Hp) (Q : Bool → Hp → Prop) (h : upT K c (mTst (mInN neg i m)) σ H Q) : tTest (tOp (rInN X neg) (up K c m) (tVar i)) σ H Q := by
  obtain ⟨F, env, O, k, R, hm, q⟩ := h
  refine up_in hK σ H _ ⟨F, env, O, _, R, hm, fun d x H' kd g da => ?_⟩
  split at kd
  · cases da
    exact ⟨_, rfl, q _ _ kd g⟩
  · exact kd.elim
theorem dt_in {m : ME} {a b : Expr} (hu : X.A.units + 12 < cLine) (hK : X.K = K) (ha : PE X a (up K c m)) (hb : PE X b (tVar i)) (hm : behindInMarks .In b = false) : PT X (.Compare a [.In] [b] pos) (upT K c (mTst (mInN false i m))) :=
  pt_mono (pt_cmpR (op_inN hu) ha hb hm) (up_inT hK)
theorem dt_notIn {m : ME} {a b : Expr} (hu : X.A.units + 12 < cLine) (hK : X.K = K) (ha : PE X a (up K c m)) (hb : PE X b (tVar i)) (hm : behindInMarks .NotIn b = false) : PT X (.Compare a [.NotIn] [b] pos) (upT K c (mTst (mInN true i m))) :=
  pt_mono (pt_cmpR (op_notInN hu) ha hb hm) (up_inT hK)
/-- d[k] = v -/
def dPutN (i : Nat) (mk mv : ME) : MS := fun env D => match env[i]? with
  | some (.od ps) => mv env fun v => mk env fun d => isKey d fun kk => ps.length < 100000 ∧ D.nx (env.set i (.od (putT ps d kk v)))
  | _ => False
theorem ent_len {G : Hp} {ents : List (NestedKey × Addr × V)} {ps : List (PyData × PyData)} (E : EntR K G ents ps) : ents.length = ps.length := by
  have z := congrArg List.length E.ky
  rw [List.length_map, List.length_map] at z
  exact z.symm
theorem ds_nput {mk mv : ME} (hK : X.K = K) (h : PS X st (sNPut X (tVar i) (up K c mk) (up K c mv))) : PS X st (upS K c (dPutN i mk mv)) := by
  subst hK
  refine ps_mono h fun D σ H ⟨F, env, O, DD, R, hb, h1, h2, h3, h4⟩ => ?_
  unfold dPutN at hb
  split at hb
  · rename_i ps he
    obtain ⟨a, _, s1, _⟩ := R.dict he rfl
    refine ⟨F, env, O, _, R, hb, fun v x H1 kd g dv => ⟨.ref a, s1, F, env, O, _, R.gx g, kd, fun d y H2 kd g2 da => ?_⟩⟩
    obtain ⟨ds, kk, rfl, hk, hl, kd⟩ := isKey_of kd
    obtain ⟨b, xs, rfl, _⟩ := da_tup da
    have R1 := R.gx g
    have R2 := R1.gx g2
    obtain ⟨ents, n1, n2, E⟩ := R1.dictG g2 he rfl s1
    have ll := ent_len E
    exact ⟨a, b, ents, ps, _, kk, rfl, rfl, n2, E.same offs_sub, da_same offs_sub da, hk, by omega, h1 _ O σ _ kd (R2.mutD he s1 (E.put hk da (da_same (R1.go g2) dv)))⟩
  · exact hb.elim
/-- return d, d one's own -/
def dRetD (i : Nat) : MS := fun env D => match env[i]? with
  | some (.od ps) => ps ≠ [] ∧ D.rt (.dict ps)
  | some (.v (.dict ps)) => D.rt (.dict ps)
  | _ => False
theorem ds_retD (h : PS X st (tRet (tVar i))) : PS X st (upS K c (dRetD i)) := ps_mono h fun D σ H ⟨F, env, O, DD, R, hb, h1, h2, h3, h4⟩ => by
  unfold dRetD at hb
  split at hb
  · rename_i ps he
    obtain ⟨a, ents, q1, q2, q3, q5, q6, q7⟩ := R.sl i _ he
    refine ⟨_, q1, h4 _ _ _ hb.2 ⟨R.but, R.refl.bg, ?_⟩⟩
    have k : Same (offs O H) (offs c.O0 H) := offs_less fun a z => R.sub a z
    have q7 := q7.same k
    exact .dtt (by rw [offs_ne (R.n0 q3).1]; exact q6) q5 q7.kd q7.vd q7.ky q7.nd hb.1
  · rename_i ps he
    obtain ⟨x, q1, q2⟩ := R.sl i _ he
    exact ⟨_, q1, h4 _ _ _ hb (retR R R.refl (.inl q2))⟩
  · exact hb.elim
end
end Du

/-! sorted, of data of any kind; of a dict. -/
namespace Du
open PySem PySem.Spec PyProof.Rows L2 On PySem.W
section
variable {X : Cx} {pins : List (Addr × Obj)} {σ : L2.St} {H : Hp} {s : Shared}
/-- a value that stands for data -/
def Stands (K : PySem.W.Frag) (H : Hp) (u : Value) (d : PyData) : Prop := ∃ x, RelV x u ∧ Da K H x d
theorem each_of {K : PySem.W.Frag} : ∀ {vs : List V} {ds : List PyData} {us : List Value}, DaAll K H vs ds → Vals vs us → EachIs (Stands K H) us ds
  | _, _, _, .nil, .nil => .nil
  | _, _, _, .cons a b, .cons r t => .cons ⟨_, r, a⟩ (each_of b t)
theorem each_back {K : PySem.W.Frag} : ∀ {us : List Value} {ds : List PyData}, EachIs (Stands K H) us ds → ∃ vs, DaAll K H vs ds ∧ Vals vs us
  | _, _, .nil => ⟨[], .nil, .nil⟩
  | _, _, .cons ⟨x, r, a⟩ t => by
    obtain ⟨vs, h1, h2⟩ := each_back t
    exact ⟨x :: vs, .cons a h1, .cons r h2⟩
theorem stands_reads (I : Inv X pins σ H s) {u : Value} {d : PyData} (h : Stands X.K H u d) : ∃ as, Reads s.heap u d as := by
  obtain ⟨x, r, a⟩ := h
  obtain ⟨as, q, _⟩ := da_reads I a r
  exact ⟨as, q⟩
def sortD (ds : List PyData) : List PyData := ds.mergeSort (dataLe false id)
def rSortG (X : Cx) : List V → Hp → VK → Prop := fun vs H Q => ∃ (G : Hp) (a : Addr) (xs : List V) (ds : List PyData), vs = [.ref a] ∧ SqL X.K H a xs ∧ Same G H ∧ DaAll X.K G xs ds ∧ AllAlike ds ∧ Sortable ds ∧ ds.length ≤ 100000 ∧ (∀ d ∈ ds, d.depth ≤ 20) ∧
  ∀ ys p, DaAll X.K G ys (sortD ds) → H p = Option.none → Q (.ref p) (upd H p (.lst ys))
theorem cr_sortG (hu : X.A.units + 32 < cLine) : CallR X (.builtin "sorted") (rSortG X) := by
  intro pins s σ H vs us Q I r h
  obtain ⟨G, a, xs, ds, rfl, hs, gs, da, al, so, hl, hd, q⟩ := h
  obtain ⟨its, rv, li, hz⟩ := I.list hs
  rw [Vals.ref1 r]
  have e := each_of da rv
  have ll := daAll_len da
  refine sorted_data (bs := ds) (enc := id) (R := Stands X.K G) li.isList e (e.mono fun _ _ ⟨x, z1, z2⟩ => stands_reads I ⟨x, z1, da_same gs z2⟩) (by rw [List.map_id]; exact al) (by rw [List.map_id]; exact so) (Evl.sz_of (by omega)) (fun d hd' => ?_) fun out h1 h2 => ?_
  · have := hd d hd'
    show X.A.units + 2 + d.depth < cLine
    omega
  · obtain ⟨ys, d1, r1⟩ := each_back h2
    obtain ⟨ep, he'⟩ := PyProof.Rows.sortedAll_at s.heap its out.toArray
    have hlen : ys.length ≤ sizeLine := by
      rw [r1.length, h1]
      exact Evl.sz_of (by omega)
    exact ⟨.ref _, upd H (s.heap.objs.size + 1) (.lst ys), I.laid (t' := s.toks) (fun _ _ => PyProof.Rows.sortedAll_old) (Nat.le_succ _) ⟨hlen, out, ep, r1, he'⟩, rfl, q _ _ d1 (I.hok.fresh (Nat.le_succ _))⟩
/-- a dict's entries, gone over -/
theorem kdl_raw {prog : Program} {w : World} {d : Addr} {es : Array DictEntry} {ep : Nat} (lo : (d == sysModules) = false) : KdlSrc prog w "dict" d d es.size (fun i v => ∃ hi : i < es.size, v = es[i].key) (fun h => h.DictRaw d es ep) where
  type := fun _ hm => hm.typeIs
  there := fun _ hm => by
    obtain ⟨o, ho, _⟩ := hm
    exact ⟨Heap.lt_size ho, Heap.lt_size ho⟩
  keep := fun _ _ hm hk => hm.at fun o e => hk d (.inl rfl) o e
  notList := by decide
  notTuple := by decide
  hint := fun _ _ _ _ hm hq => kdl_hint_dict hm.typeIs hq
  iter := fun _ s hh hm => ⟨_, _, (fun _ _ hq => wpAny_pyIter_dict_raw lo hm hq), Walks.rawKeys hh _ d (by
    obtain ⟨o, ho, _⟩ := hm
    exact Nat.ne_of_lt (Heap.lt_size ho)) es ep, ⟨⟨_, Heap.get?_push_size _ rfl, rfl, rfl⟩, hm.at fun o e => Heap.get?_push_of_some _ e⟩⟩
/-- a dict of one's data as raw entries, its keys as values -/
theorem dn_raw (I : Inv X pins σ H s) {p : Addr} {ents : List (NestedKey × Addr × V)} {ps : List (PyData × PyData)} (h : H p = some (.ext (dictN p ents))) (E : EntR X.K H ents ps) :
    ∃ es ep, s.heap.DictRaw p es ep ∧ es.size = ps.length ∧ ∀ i (hi : i < es.size), ∃ e, ents[i]? = some e ∧ es[i].key = .ref e.2.1 := by
  obtain ⟨us, rv, hl, dd⟩ := dn_dict I h E
  obtain ⟨es, ep, hr, hz, hk⟩ := dd.raw
  have lx : (xsN ents us).length = ents.length := by
    unfold xsN
    rw [List.length_map, List.length_zip]
    omega
  refine ⟨es, ep, hr, by rw [hz, lx, ent_len E], fun i hi => ?_⟩
  obtain ⟨y, h1, h2, _, _⟩ := hk i hi
  unfold xsN at h1
  rw [List.getElem?_map] at h1
  obtain ⟨z, h3, rfl⟩ := Option.map_eq_some_iff.mp h1
  have hi' : i < ents.length := by omega
  refine ⟨ents[i], List.getElem?_eq_getElem hi', ?_⟩
  rw [List.getElem?_eq_getElem (by rw [List.length_zip]; omega), List.getElem_zip] at h3
  cases h3
  exact h2
theorem keys_vals {ents : List (NestedKey × Addr × V)} {acc : List Value} (hl : acc.length = ents.length) (h : ∀ (i : Nat) (v : Value), acc[i]? = some v → ∃ e, ents[i]? = some e ∧ v = Value.ref e.2.1) : Vals (ents.map fun e => V.ref e.2.1) acc := by
  have e : acc = ents.map fun e => Value.ref e.2.1 := by
    apply List.ext_getElem (by rw [hl, List.length_map])
    intro i h1 h2
    obtain ⟨e, h3, h4⟩ := h i acc[i] (List.getElem?_eq_getElem h1)
    rw [h4, List.getElem_map]
    rw [List.getElem?_eq_getElem (by rw [List.length_map] at h2; exact h2)] at h3
    cases h3
    rfl
  rw [e]
  exact vals_ents ents
/-- sorted(d) -/
def rSortK (X : Cx) : List V → Hp → VK → Prop := fun vs H Q => ∃ (G : Hp) (p : Addr) (ents : List (NestedKey × Addr × V)) (ps : List (PyData × PyData)), vs = [.ref p] ∧ p ≠ sysModules ∧ H p = some (.ext (dictN p ents)) ∧ Same G H ∧ EntR X.K G ents ps ∧ AllAlike (ps.map Prod.fst) ∧ Sortable (ps.map Prod.fst) ∧ ps.length ≤ 100000 ∧
  ∀ ys q, DaAll X.K G ys (sortD (ps.map Prod.fst)) → H q = Option.none → Q (.ref q) (upd H q (.lst ys))
theorem cr_sortK (hc : X.calm = true) (hu : X.A.units + 32 < cLine) : CallR X (.builtin "sorted") (rSortK X) := by
  intro pins s σ H vs us Q I r h
  obtain ⟨G, p, ents, ps, rfl, hp, hH, gs, E, al, so, hl, q⟩ := h
  rw [Vals.ref1 r]
  obtain ⟨es, ep, hr, hz, hk⟩ := dn_raw I hH (E.same gs)
  have lE := ent_len E
  have h16 : es.size ≤ sizeLine := Evl.sz_of (by omega)
  refine Calls.call_function_entry PyProof.Rows.kind_sorted PyProof.Rows.plain_sorted PyProof.Rows.entry_sorted (PyProof.Rows.args_sorted1 _) ?_
  unfold Builtin.«sorted»
  refine wpAny_bind (m := checkCount "sorted" 1 1 _) (wpAny_pure ?_)
  refine wpAny_bind (PySem.W.kdu_collect (A := X.A.in1) (kdl_raw (beq_eq_false_iff_ne.mpr hp)) (I.ok.hd hc) hr h16 fun h' tk acc hk' hacc => ?_)
  have I1 : Inv X pins σ H { s with heap := h', toks := tk } := I.kept hk'
  have hal : acc.toList.length = ents.length := by rw [Array.length_toList, hacc.1]; omega
  have rv : Vals (ents.map fun e => V.ref e.2.1) acc.toList := keys_vals hal fun i v hv => by
    obtain ⟨hi, e⟩ := hacc.2 i v (by rw [← Array.getElem?_toList]; exact hv)
    obtain ⟨en, h1, h2⟩ := hk i hi
    exact ⟨en, h1, e.trans h2⟩
  have e := each_of E.kd rv
  have h17 : acc.toList.length ≤ sizeLine := Evl.sz_of (by omega)
  refine wpAny_bind (wpAny_newList ?_ h17)
  have hoL : (h'.push (seqObj "list" acc.toList.toArray 0)).get? h'.objs.size = some (seqObj "list" acc.toList.toArray 0) := Heap.get?_push_size _ rfl
  show wpAny _ _ _ _ _ { s with heap := h'.push (seqObj "list" acc.toList.toArray 0), toks := tk }
  have old : ∀ b o, h'.get? b = some o → (sortingHeap (h'.push (seqObj "list" acc.toList.toArray 0)) h'.objs.size acc.toList).get? b = some o := fun b o e => sortingHeap_old (Nat.ne_of_lt (Heap.lt_size e)) (Heap.get?_push_of_some _ e)
  have er : EachIs (fun v d => ∃ as, Reads (sortingHeap (h'.push (seqObj "list" acc.toList.toArray 0)) h'.objs.size acc.toList) v d as) acc.toList (ps.map Prod.fst) := e.mono fun _ _ ⟨x, z1, z2⟩ => by
    obtain ⟨as, q⟩ := stands_reads I1 ⟨x, z1, da_same gs z2⟩
    exact ⟨as, PyProof.Rows.Reads.keeps old q⟩
  have bd : ∀ d ∈ ps.map Prod.fst, X.A.in1.in1.units + d.depth < cLine := fun d hd => by
    have : d.depth ≤ 8 := by
      obtain ⟨x, hx, rfl⟩ := List.mem_map.mp hd
      have z : keyT x.1 ∈ ps.map fun p => keyT p.1 := List.mem_map.mpr ⟨x, hx, rfl⟩
      rw [E.ky] at z
      obtain ⟨en, _, z⟩ := List.mem_map.mp z
      unfold keyT at z
      split at z
      · assumption
      · cases z
    show X.A.units + 1 + 1 + d.depth < cLine
    omega
  refine wpAny_bind (wpAny_holding (wpAny_call_entry PyProof.Rows.slot_list_sort ⟨_, hoL, rfl⟩ PyProof.Rows.entry_list_sort
    (list_sort_vals (κ := dataKind (sortingHeap (h'.push (seqObj "list" acc.toList.toArray 0)) h'.objs.size acc.toList) (ps.map Prod.fst)) (s := { s with heap := h'.push (seqObj "list" acc.toList.toArray 0), toks := tk }) hoL
      (SortsAt.data (s := { s with heap := sortingHeap (h'.push (seqObj "list" acc.toList.toArray 0)) h'.objs.size acc.toList, toks := tk }) er al so bd) h17 ⟨_, rfl, ?_⟩)
    (PyProof.Rows.args_list_sort _)))
  have h2 := sortVals_data (R := Stands X.K G) (enc := id) (bs := ps.map Prod.fst) false e er (by rw [List.map_id]; exact al)
  rw [List.map_id] at h2
  obtain ⟨ys, d1, r1⟩ := each_back h2
  obtain ⟨e', he'⟩ := PyProof.Rows.sortedHeap_at (vs := acc.toList) (out := (sortVals (dataKind (sortingHeap (h'.push (seqObj "list" acc.toList.toArray 0)) h'.objs.size acc.toList) (ps.map Prod.fst)) false acc.toList acc.toList).toArray) hoL
  have hlen : ys.length ≤ sizeLine := by
    rw [r1.length, sortVals_length false rfl]
    exact h17
  refine wpAny_pure ⟨_, rfl, .ref h'.objs.size, upd H h'.objs.size (.lst ys), I1.laid (t' := tk) (fun b u e => ?_) (Nat.le_refl _) ⟨hlen, _, e', r1, he'⟩, rfl, q ys _ d1 (I1.hok.fresh (Nat.le_refl _))⟩
  have hb : b < h'.objs.size := Heap.lt_size e
  rw [PyProof.Rows.sortedHeap_old (Nat.ne_of_lt hb) (by rw [size_push']; exact Nat.lt_succ_of_lt hb)]
  exact Heap.get?_push_of_some _ e
end
section
variable {K : PySem.W.Frag} {c : Bs} {X : Cx} {e : Expr} {st : Stmt} {pos : Pos} {i : Nat}
/-- sorted(things), things of any data that are alike -/
def fSortG : FL := fun as k => match as with
  | [.list ds] => AllAlike ds ∧ Sortable ds ∧ ds.length ≤ 100000 ∧ (∀ d ∈ ds, d.depth ≤ 20) ∧ k (.list (sortD ds))
  | _ => False
theorem cl_sortG (hK : X.K = K) : CallL K (rSortG X) fSortG := fun O H xs ds k Q hd hs ps hf q => by
  subst hK
  unfold fSortG at hf
  split at hf
  · rename_i es
    obtain ⟨al, so, hl, hdp, hk⟩ := hf
    obtain ⟨x, rfl, n⟩ := pq1 ps
    obtain ⟨a, ys, rfl, h1, h2, h3⟩ := nq_lst n
    exact ⟨offs O H, a, ys, es, rfl, SqL.of h1, offs_sub, h3, al, so, hl, hdp, fun zs p d1 np => q _ _ p _ _ hk rfl (Evl.Ex.new np) np upd_same (daAll_same (offs_new np (Evl.Ex.new np)) d1)⟩
  · exact hf.elim
/-- sorted(d), d a name -/
def mSortK (i : Nat) : ME := fun env k => onD i (fun ps => AllAlike (ps.map Prod.fst) ∧ Sortable (ps.map Prod.fst) ∧ ps.length ≤ 100000 ∧ k (.list (sortD (ps.map Prod.fst)))) env
theorem nH_of {F : Hp} {env : List DV} {O : List Addr} {σ : L2.St} {H : Hp} (R : Rel K c F env O σ H) {p : Addr} (np : H p = Option.none) : p ≠ sysModules := fun z => by
  obtain ⟨φ, e⟩ := R.sys
  rw [← z, np] at e
  cases e
theorem de_sortK (hK : X.K = K) (h : PE X e (tCB (rSortK X) (tCons (tVar i) tNil))) : PE X e (upL K c (mSortK i)) := by
  subst hK
  refine pe_mono h fun σ H Q ⟨F, env, O, k, R, hm, q⟩ => ?_
  obtain ⟨dv, ps, h1, h2, al, so, hl, hk⟩ := onD_of hm
  obtain ⟨a, ents, s1, s2, s3, s4, E⟩ := R.dict h1 h2
  exact ⟨_, s1, offs O H, a, ents, ps, rfl, s2, s4, offs_sub, E, al, so, hl, fun ys p d1 np => q _ p ys _ _ hk rfl (R.same (Evl.Ex.new np)) np upd_same (nH_of R np) (daAll_same (offs_new np (Evl.Ex.new np)) d1)⟩
end
end Du

/-! dicts on data: made anew. -/
namespace Du
open PySem PySem.Spec PyProof.Rows L2 On
abbrev MD := List DV → (List (PyData × PyData) → Prop) → Prop
section
variable {K : PySem.W.Frag} {c : Bs} {F : Hp} {env : List DV} {O : List Addr} {σ : L2.St} {H H' H2 : Hp}
theorem Rel.turnX (R : Rel K c F env O σ H) {D : Addr} {o : HO} (hO : D ∈ O) (n0 : c.H0 D = Option.none) (ho : ∀ (i : Nat) e, env[i]? = some e → mine e = true → σ[i]? ≠ some (some (.ref D))) : Rel K c F env O σ (upd H D o) where
  dom := fun a h => by
    by_cases z : a = D
    · exact ⟨o, by rw [z, upd_same]⟩
    · rw [upd_ne z]
      exact R.dom a h
  sub := R.sub
  ent := R.ent
  but := fun a u nb e => by
    rw [upd_ne (fun z => by rw [z, n0] at e; cases e)]
    exact R.but a u nb e
  bg := fun a h => ⟨(R.bg a h).1, (R.bg a h).2.1.updx (fun z => (R.n0 n0).2 (by rw [z]; exact h)) (fun z => (R.bg a h).2.2 (by rw [← z]; exact hO)) (fun z => R.nsys (by rw [← z]; exact hO)), (R.bg a h).2.2⟩
  sys := by
    obtain ⟨φ, e⟩ := R.sys
    refine ⟨φ, ?_⟩
    rw [upd_ne (fun z => R.nsys (by rw [z]; exact hO))]
    exact e
  nsys := R.nsys
  fz := R.fz.trans (offs_same (fun b u n e => by rw [upd_ne (fun z => n (by rw [z]; exact hO))]; exact e) fun _ z _ => z)
  sl := fun j e he => by
    have k : Same (offs O H) (offs O (upd H D o)) := offs_same (fun b u n e => by rw [upd_ne (fun z => n (by rw [z]; exact hO))]; exact e) fun _ z _ => z
    have q := R.sl j e he
    cases e with
    | un => trivial
    | v d =>
      obtain ⟨x, h1, h2⟩ := q
      exact ⟨x, h1, da_same k h2⟩
    | own ds =>
      obtain ⟨a, xs', h1, h2, h3, h5, h6, h7⟩ := q
      exact ⟨a, xs', h1, h2, h3, h5, by rw [upd_ne (fun z => ho j _ he rfl (by rw [h1, z]))]; exact h6, daAll_same k h7⟩
    | bag => exact q
    | tab P w kvs =>
      obtain ⟨p', ents, h1, h2⟩ := q
      exact ⟨p', ents, h1, h2.same k⟩
    | dd ps =>
      obtain ⟨a, ents, h1, h2, h3, h4⟩ := q
      exact ⟨a, ents, h1, h2, k _ _ h3, h4.same k⟩
    | od ps =>
      obtain ⟨a, ents, h1, h2, h3, h5, h6, h7⟩ := q
      exact ⟨a, ents, h1, h2, h3, h5, (by rw [upd_ne (fun z => ho j _ he rfl (by rw [h1, z]))]; exact h6), h7.same k⟩
  ap := R.ap
  len := R.len
/-- what was laid since may turn -/
theorem Rel.put (R : Rel K c F env O σ H) (g : Gx c H H2) {p : Addr} (np : H p = Option.none) (o : HO) : Gx c H (upd H2 p o) := by
  have n0 := R.h0 np
  exact ⟨fun a u nb e => by
    rw [upd_ne (fun z => by rw [z, np] at e; cases e)]
    exact g.kp a u nb e, fun a h => (g.bg a h).updx (fun z => (R.n0 n0).2 (by rw [z]; exact h)) (fun z => by
      obtain ⟨⟨_, _, _, cs, _, e2, _⟩, _⟩ := (R.bg a h).2.1
      rw [← z, np] at e2
      cases e2) (nH_of R np)⟩
theorem Rel.nO (R : Rel K c F env O σ H) {p : Addr} (np : H p = Option.none) : p ∉ O := fun z => by
  obtain ⟨o, eo⟩ := R.dom p z
  rw [np] at eo
  cases eo
/-- a new dict -/
def upD (K : PySem.W.Frag) (c : Bs) (m : MD) : TE := fun σ H Q => ∃ F env O k, Rel K c F env O σ H ∧ m env k ∧ ∀ ps p ents H', k ps → Gx c H H' → H p = Option.none → H' p = some (.ext (dictN p ents)) → p ≠ sysModules → EntR K (offs (p :: O) H') ents ps → Q (.ref p) H'
end
section
variable {K : PySem.W.Frag} {c : Bs} {X : Cx} {e : Expr} {st : Stmt} {pos : Pos} {i : Nat}
/-- {} -/
def mD0 : MD := fun _ k => k []
theorem de_d0 (h : PE X e tNNew) : PE X e (upD K c mD0) := pe_mono h fun σ H Q ⟨F, env, O, k, R, hm, q⟩ p np => q [] p [] _ hm (R.same (Evl.Ex.new np)) np upd_same (nH_of R np) ent_nil
/-- {k: v} -/
def mD1 (mk mv : ME) : MD := fun env k => mk env fun d => isKey d fun _ => mv env fun v => k [(d, v)]
theorem de_d1 {mk mv : ME} (hK : X.K = K) (h : PE X e (tNOne X (up K c mk) (up K c mv))) : PE X e (upD K c (mD1 mk mv)) := by
  subst hK
  refine pe_mono h fun σ H Q ⟨F, env, O, k, R, hm, q⟩ p np => ?_
  have n0 := R.h0 np
  have nb := (R.n0 n0).2
  have R1 : Rel X.K c F env (p :: O) σ (upd H p (.ext (dictN p []))) := R.acc np
  have g1 : Gx c H (upd H p (.ext (dictN p []))) := R.same (Evl.Ex.new np)
  refine ⟨F, env, p :: O, _, R1, hm, fun d y H1 kd g2 da => ?_⟩
  obtain ⟨ds, kk, rfl, hk, kd⟩ := isKey_of kd
  obtain ⟨b, xs, rfl, _⟩ := da_tup da
  have R2 := R1.gx g2
  refine ⟨F, env, p :: O, _, R2, kd, fun v z H2 kv g3 dv => ⟨.ref b, z, rfl, b, _, kk, rfl, g3.kp _ _ nb (g2.kp _ _ nb upd_same), da_same offs_sub (da_same (R2.go g3) da), hk, ?_⟩⟩
  have k5 : Same (offs (p :: O) H2) (offs (p :: O) (upd H2 p (.ext (dictN p [(kk, b, z)])))) := offs_same (fun b u n e => by rw [upd_ne (fun z => n (by rw [z]; exact List.mem_cons_self))]; exact e) fun _ z _ => z
  exact q _ p [(kk, b, z)] _ kv (R.put ((g1.trans g2).trans g3) np _) np upd_same (nH_of R np) (ent_nil.put (ents := []) (ps := []) hk (da_same ((R2.go g3).trans k5) da) (da_same k5 dv))
/-- dict(pairs) -/
def pairsOk : List (PyData × PyData) → Prop := fun ps => (∀ p ∈ ps, isKey p.1 fun _ => True) ∧ (ps.map fun p => keyT p.1).Nodup ∧ ps.length ≤ 100000
def mDict (m : ME) : MD := fun env k => m env fun d => ∃ ps : List (PyData × PyData), d = .list (ps.map fun p => .tuple [p.1, p.2]) ∧ pairsOk ps ∧ k ps
theorem pairs_at {G H : Hp} (s : Same G H) : ∀ {ps : List (PyData × PyData)} {xs : List V}, DaAll K G xs (ps.map fun p => PyData.tuple [p.1, p.2]) → (∀ p ∈ ps, isKey p.1 fun _ => True) → ∃ (Ts : List Addr) (ents : List (NestedKey × Addr × V)), xs = Ts.map V.ref ∧
    Paired (fun T (e : NestedKey × Addr × V) => SqT K H T [.ref e.2.1, e.2.2]) Ts ents ∧ DaAll K G (ents.map fun e => V.ref e.2.1) (ps.map Prod.fst) ∧ DaAll K G (ents.map fun e => e.2.2) (ps.map Prod.snd) ∧ ps.map (fun p => keyT p.1) = ents.map (fun e => some e.1)
  | [], _, .nil, _ => ⟨[], [], rfl, .nil, .nil, .nil, rfl⟩
  | p :: ps, x :: xs, .cons h t, hk => by
    obtain ⟨Ts, ents, e1, e2, e3, e4, e5⟩ := pairs_at s t fun q hq => hk q (List.mem_cons_of_mem _ hq)
    obtain ⟨ds, kk, k1, k2, _⟩ := isKey_of (hk p List.mem_cons_self)
    obtain ⟨T, ys, rfl, h1, h2⟩ := da_tup h
    cases h2 with
    | cons d1 t1 => cases t1 with
      | cons d2 t2 =>
        cases t2
        have d1' := d1
        rw [k1] at d1'
        obtain ⟨b, _, rfl, _⟩ := da_tup d1'
        exact ⟨T :: Ts, (kk, b, _) :: ents, by rw [List.map_cons, e1], .cons (Evl.ex_t s h1) e2, .cons d1 e3, .cons d2 e4, by rw [List.map_cons, List.map_cons, k2, e5]⟩
theorem de_dict {m : ME} (hK : X.K = K) (h : PE X e (tCB (rDictG X) (upAN K c (mCons m mNil)))) : PE X e (upD K c (mDict m)) := by
  subst hK
  refine pe_mono h fun σ H Q ⟨F, env, O, k, R, hm, q⟩ => ⟨F, env, O, (fun as => match as with
    | [.v d] => ∃ ps : List (PyData × PyData), d = .list (ps.map fun p => .tuple [p.1, p.2]) ∧ pairsOk ps ∧ k ps
    | _ => False), R, hm, fun as xs H1 kd g pr => ?_⟩
  dsimp only at kd
  split at kd
  · rename_i d
    obtain ⟨ps, rfl, ⟨k1, k2, k3⟩, kd⟩ := kd
    have R1 := R.gx g
    cases pr with
    | cons r t =>
      cases t
      obtain ⟨a, ys, rfl, h1, h2, h3⟩ := nq_lst (Nr.nq r)
      obtain ⟨Ts, ents, rfl, e2, e3, e4, e5⟩ := pairs_at offs_sub h3 k1
      have nd : (ents.map fun e => e.1).Nodup := by
        rw [e5, List.nodup_iff_pairwise_ne, List.pairwise_map] at k2
        rw [List.nodup_iff_pairwise_ne, List.pairwise_map]
        exact k2.imp fun z q => z (by rw [q])
      have E : EntR X.K (offs O H1) ents ps := ⟨e3, e4, e5, nd⟩
      have lT : Ts.length = ps.length := by
        have z := daAll_len h3
        rw [List.length_map, List.length_map] at z
        exact z
      refine ⟨a, Ts, ents, ps, rfl, SqL.of h1, by omega, e2, E.same offs_sub, fun p np => ?_⟩
      have nH : H p = Option.none := by
        cases e : H p with
        | none => rfl
        | some o =>
          have z := g.kp p o (R.n0 (R1.h0 np)).2 e
          rw [np] at z
          cases z
      exact q _ p ents _ kd (g.trans (R1.same (Evl.Ex.new np))) nH upd_same (nH_of R1 np) (E.same (offs_new np (Evl.Ex.new np)))
  · exact kd.elim
/-- a new dict as data, as one's own, as an argument -/
def mOf (m : MD) : ME := fun env k => m env fun ps => ps ≠ [] ∧ k (.dict ps)
theorem de_of {m : MD} (h : PE X e (upD K c m)) : PE X e (up K c (mOf m)) := pe_mono h fun σ H Q ⟨F, env, O, k, R, hm, q⟩ => ⟨F, env, O, _, R, hm, fun ps p ents H' kd g np hp ns E => by
  have E' := E.same (offs_less (O := p :: O) (O' := O) fun a z => List.mem_cons_of_mem _ z)
  exact q _ _ H' kd.2 g (.dtt (by rw [offs_ne (R.nO np)]; exact hp) ns E'.kd E'.vd E'.ky E'.nd kd.1)⟩
def dSetD (i : Nat) (m : MD) : MS := fun env D => m env fun ps => D.nx (env.set i (.od ps))
theorem asgD {m : MD} (D : Ends) (σ : L2.St) (H : Hp) (h : upS K c (dSetD i m) D σ H) : tAsg (upD K c m) (gName i) D σ H := by
  obtain ⟨F, env, O, DD, R, hb, h1, h2, h3, h4⟩ := h
  exact ⟨F, env, O, _, R, hb, fun ps p ents H' kd g np hp ns E => h1 _ _ _ H' kd (R.setD i g np hp ns E)⟩
theorem ds_setD {x : Str} {m : MD} {pos' : Pos} (hN : X.N.Nodup) (hi : X.N[i]? = some x) (hx : Loc X.env.scope x) (he : PE X e (upD K c m)) (hs : swapsWith e (some (.Name x pos')) pos.line X.env = pure false := by rfl) (hf : X.fn x = true ∨ X.env.scope.names.lookup x = some .local := by first | exact .inl rfl | exact .inr rfl | assumption) :
    PS X (.Assign [.Name x pos'] e pos) (upS K c (dSetD i m)) := ps_mono (ps_set hN hi hx he hs hf) asgD
/-- .. as an argument, be it empty -/
def mConsD (m : MD) (ms : MA) : MA := fun env k => m env fun ps => ms env fun as => k (.dd ps :: as)
theorem da_consD {es : List Expr} {m : MD} {ms : MA} (ha : PE X e (upD K c m)) (hr : PA X es (upA K c ms)) (hs : starEach (e :: es) X.env = (false, eval e X.env) :: starEach es X.env := by rfl) : PA X (e :: es) (upA K c (mConsD m ms)) :=
  pa_mono (pa_cons ha hr hs) fun σ H Q ⟨F, env, O, k, R, hm, q⟩ => ⟨F, env, O, _, R, hm, fun ps p ents H1 kd g np hp ns E => ⟨F, env, O, _, R.gx g, kd, fun as xs H2 ks g2 pr => by
    have E' := (E.same (offs_less (O := p :: O) (O' := O) fun a z => List.mem_cons_of_mem _ z)).same ((R.gx g).go g2)
    refine q _ _ H2 ks (g.trans g2) (.cons ⟨p, ents, rfl, ns, ?_, E'⟩ pr)
    exact (R.gx g).go g2 _ _ (by rw [offs_ne (R.nO np)]; exact hp)⟩⟩
/-- a name that holds a dict of others, as an argument -/
def mVarDD (i : Nat) (ms : MA) : MA := fun env k => match env[i]? with
  | some (.dd ps) => ms env fun as => k (.dd ps :: as)
  | some (.v (.dict ps)) => ms env fun as => k (.v (.dict ps) :: as)
  | _ => False
theorem da_varDD {es : List Expr} {ms : MA} (ha : PE X e (tVar i)) (hr : PA X es (upA K c ms)) (hs : starEach (e :: es) X.env = (false, eval e X.env) :: starEach es X.env := by rfl) : PA X (e :: es) (upA K c (mVarDD i ms)) :=
  pa_mono (pa_cons ha hr hs) fun σ H Q ⟨F, env, O, k, R, hm, q⟩ => by
    unfold mVarDD at hm
    split at hm
    · rename_i ps hd
      obtain ⟨a, ents, h1, h2, h3, h4⟩ := R.sl i _ hd
      exact ⟨_, h1, F, env, O, _, R, hm, fun as xs H2 ks g2 pr => q _ _ H2 ks g2 (.cons ⟨a, ents, rfl, h2, R.go g2 _ _ h3, h4.same (R.go g2)⟩ pr)⟩
    · rename_i ps hd
      obtain ⟨x, h1, h2⟩ := R.sl i _ hd
      exact ⟨_, h1, F, env, O, _, R, hm, fun as xs H2 ks g2 pr => q _ _ H2 ks g2 (.cons (da_same (R.go g2) h2) pr)⟩
    · exact hm.elim
end
end Du

/-! dicts on data: {k: v for ..}, d.get. -/
namespace Du
open PySem PySem.Spec PyProof.Rows L2 On
section
variable {K : PySem.W.Frag} {c : Bs} {X : Cx} {e : Expr} {st : Stmt} {pos : Pos} {i : Nat}
def dcGo (g : MG) (mt : MT) (mk mv : ME) (env : List DV) : List (PyData × PyData) → List PyData → (List (PyData × PyData) → Prop) → Prop
  | acc, [], k => k acc
  | acc, d :: ds, k => g d env fun e1 => mt e1 fun b => match b with
    | true => acc.length < 100000 ∧ mk e1 fun x => isKey x fun kk => mv e1 fun r => dcGo g mt mk mv env (putT acc x kk r) ds k
    | false => dcGo g mt mk mv env acc ds k
def mDc (mi : MI) (g : MG) (mt : MT) (mk mv : ME) (vs : List Nat) : MD := fun env k => mi env fun ds => dcGo g mt mk mv (wipeE env vs) [] ds k
theorem up_dc {mi : MI} {ss : List Nat} {g : MG} {mt : MT} {mk mv : ME} {vs : List Nat} (hK : X.K = K) (hss : ∀ j ∈ ss, j ∈ vs) (σ : L2.St) (H : Hp) (Q : VK) (h : upD K c (mDc mi g mt mk mv vs) σ H Q) :
    tDcN X (upI K c mi) (upG K c ss g) (upT K c mt) (up K c mk) (up K c mv) vs σ H Q := by
  subst hK
  obtain ⟨F, env, O, k, R, hm, q⟩ := h
  refine ⟨F, env, O, _, R, hm, fun ds J H1 kd gx W D nD => ?_⟩
  have R1 := R.gx gx
  have nO : D ∉ O := R1.nO nD
  have n0 : c.H0 D = Option.none := R1.h0 nD
  have nb : D ∉ c.b := (R1.n0 n0).2
  have nsys : D ≠ sysModules := nH_of R1 nD
  have nH : H D = Option.none := by
    cases e : H D with
    | none => rfl
    | some o =>
      have z := gx.kp D o nb e
      rw [nD] at z
      cases z
  have own1 : ∀ (i : Nat) e, (wipeE env vs)[i]? = some e → mine e = true → (wipe σ vs)[i]? ≠ some (some (.ref D)) := fun i e hi me z => nO ((R1.wipe vs).mineO hi me z)
  refine ⟨fun i m H' => m = ds.length - i ∧ i ≤ ds.length ∧ ∃ acc ents, H' D = some (.ext (dictN D ents)) ∧ EntR X.K (offs (D :: O) H') ents acc ∧ Rel X.K c F (wipeE env vs) (D :: O) (wipe σ vs) H' ∧ Gx c H1 H' ∧ Same (offs O H1) (offs (D :: O) H') ∧ dcGo g mt mk mv (wipeE env vs) acc (ds.drop i) k,
    ⟨_, rfl, Nat.zero_le _, [], [], upd_same, ent_nil, (R1.wipe vs).acc nD, R1.same (Evl.Ex.new nD), offs_new nD (Evl.Ex.new nD), kd⟩, ?_⟩
  rintro i m H' ⟨rfl, hi, acc, ents, hy, E, R', g', s', k'⟩
  obtain ⟨w1, w2⟩ := W (D :: O) H' R'.dom s'
  by_cases lt : i < ds.length
  · obtain ⟨go, yl⟩ := w1 i ds[i] (List.getElem?_eq_getElem lt)
    rw [List.drop_eq_getElem_cons lt] at k'
    refine .inr ⟨go, fun H' => ∃ acc ents, H' D = some (.ext (dictN D ents)) ∧ EntR X.K (offs (D :: O) H') ents acc ∧ Rel X.K c F (wipeE env vs) (D :: O) (wipe σ vs) H' ∧ Gx c H1 H' ∧ Same (offs O H1) (offs (D :: O) H') ∧ dcGo g mt mk mv (wipeE env vs) acc (ds.drop (i + 1)) k,
      fun H2 hh => ⟨_, by omega, rfl, lt, hh⟩, fun x H2 y => ?_⟩
    obtain ⟨s, dx⟩ := yl x H2 y
    have g2 := R'.same s
    have R2 := R'.gx g2
    refine ⟨F, _, D :: O, _, _, R2, dx, k', fun e1 σ2 k2 R3 f l => ⟨wipe_same (fun j hj => f j fun z => hj (hss j z)) l, F, e1, D :: O, _, R3, k2, fun b H3 kb g3 => ?_⟩⟩
    have R4 := R3.gx g3
    cases b with
    | true =>
      show up X.K c mk σ2 H3 _
      refine ⟨F, e1, D :: O, _, R4, kb.2, fun d v H4 kr g4 dd => ?_⟩
      obtain ⟨xs, kk, rfl, hk, kr⟩ := isKey_of kr
      obtain ⟨a, _, rfl, _⟩ := da_tup dd
      refine ⟨F, e1, D :: O, _, R4.gx g4, kr, fun r z H5 kz g5 dv => ?_⟩
      have gg := ((g2.trans g3).trans g4).trans g5
      have hy5 := gg.kp _ _ nb hy
      have R5 := R'.gx gg
      have E5 := E.same (R'.go gg)
      have ll := ent_len E
      have hlt : acc.length < 100000 := kb.1
      have k5 : Same (offs (D :: O) H5) (offs (D :: O) (upd H5 D (.ext (dictN D (putE ents kk a z))))) := offs_same (fun b u n e => by rw [upd_ne (fun z => n (by rw [z]; exact List.mem_cons_self))]; exact e) fun _ z _ => z
      have dd5 := da_same ((R4.gx g4).go g5) dd
      refine ⟨a, ents, acc, _, kk, rfl, hy5, E5.same offs_sub, da_same offs_sub dd5, hk, by omega, _, _, upd_same, (E5.put hk dd5 dv).same k5, R5.turnX List.mem_cons_self n0 own1, ⟨fun b o n e => ?_, fun b h => ?_⟩, ?_, kz⟩
      · rw [upd_ne (fun z => by rw [z, nD] at e; cases e)]
        exact gg.kp b o n (g'.kp b o n e)
      · exact ((R5.turnX (o := .ext (dictN D (putE ents kk a z))) List.mem_cons_self n0 own1).bg b h).2.1
      · exact (s'.trans (R'.go gg)).trans k5
    | false =>
      have gg := g2.trans g3
      exact ⟨acc, ents, gg.kp _ _ nb hy, E.same (R'.go gg), R'.gx gg, g'.trans gg, s'.trans (R'.go gg), kb⟩
  · have z : i = ds.length := by omega
    subst z
    rw [List.drop_length] at k'
    exact .inl ⟨w2, q _ D ents H' k' (gx.trans g') nH hy nsys E⟩
theorem de_dc {kx vx tg iter : Expr} {ifs : List Expr} {scope : Scope} {own : List (Str × Nat)} {mi : MI} {ss : List Nat} {g : MG} {mt : MT} {mk mv : ME} (hu : X.A.units + 12 < cLine) (hK : X.K = K) (hc : X.calm = true) (hN : X.N.Nodup) (hi : PI X tg iter (upI K c mi)) (ok : BlkOk X.N X.env.scope scope own)
    (hg : ∀ (s : Shared) (H : Hp) (C : Addr) (cl : List (Str × Addr)) (fp : List Addr), PG (X.blk s H scope (compEnvC scope cl C X.env) fp) tg (upG K c ss g)) (ht : ∀ (s : Shared) (H : Hp) (C : Addr) (cl : List (Str × Addr)) (fp : List Addr), PTs (X.blk s H scope (compEnvC scope cl C X.env) fp) ifs (upT K c mt))
    (hk : ∀ (s : Shared) (H : Hp) (C : Addr) (cl : List (Str × Addr)) (fp : List Addr), PE (X.blk s H scope (compEnvC scope cl C X.env) fp) kx (up K c mk)) (he : ∀ (s : Shared) (H : Hp) (C : Addr) (cl : List (Str × Addr)) (fp : List Addr), PE (X.blk s H scope (compEnvC scope cl C X.env) fp) vx (up K c mv)) (hss : ∀ j ∈ ss, j ∈ own.map (·.2))
    (hs : ∀ x, foldedSetIterable iter X.env x = pure x := by intro _; rfl) : PE X (.DictComp kx vx [⟨tg, iter, ifs, 0⟩] scope pos) (upD K c (mDc mi g mt mk mv (own.map (·.2)))) := pe_mono (pe_dcN hu hc hN hi ok hg ht hk he hs) (up_dc hK hss)
/-- d.get(k), d.get(k, v) -/
def tBMX (X : Cx) (r : V → List V → Hp → VK → Prop) (to : TE) (t : TA) : TE := fun σ H Q => to σ H fun x H1 => (∃ p ents ps, x = .ref p ∧ H1 p = some (.ext (dictN p ents)) ∧ EntR X.K H1 ents ps) ∧ t σ H1 fun xs H2 => r x xs H2 Q
theorem pe_bmx {o e : Expr} {es : List Expr} {to : TE} {t : TA} {name : Str} {apos cpos : Pos} {id : String} {r : V → List V → Hp → VK → Prop} (pa : PlainAttrs "dict") (slot : Slot "dict" name id) (hty : typeOf (.builtin id) = pure (.type "method_descriptor")) (hm : MtR X id r) (ho : PE X o to) (ha : PA X (e :: es) t)
    (hbase : attributeBase o name X.env (eval o X.env) = eval o X.env := by rfl)
    (hfew : ((backTo cpos (starEach (e :: es) X.env)).all (fun x => !x.1) && (backToKw cpos (keywordEach [] X.env)).all (fun x => x.1.isSome)
      && decide ((e :: es).length + ([] : List Keyword).length + (if ([] : List Keyword).isEmpty then 0 else 1) < 30)) = true := by rfl)
    (hline : (apos.endLine == cpos.line) = true := by rfl) (hs : starEach (e :: es) X.env = (false, eval e X.env) :: starEach es X.env := by rfl) (hplain : (backTo cpos (starEach es X.env)).any (·.1) = false := by rfl) :
    PE X (.Call (.Attribute o name apos) (e :: es) [] cpos) (tBMX X r to t) := by
  refine ⟨fun pins s σ H Q I h => ?_⟩
  refine wpAny_Call_method_late hbase hfew hline rfl (thn (ho.run pins s σ H _ I h) fun v s1 ⟨x, H1, I1, r1, ty, q1⟩ => ?_)
  obtain ⟨p, ents, ps, rfl, hp, E⟩ := ty
  obtain rfl : v = Value.ref p := r1
  obtain ⟨us, rv, hl, dd⟩ := dn_dict I1 hp E
  refine ⟨"dict", id, pa, slot, hty, dd.typeIs, fun a e => ?_, ?_⟩
  · cases e
    obtain ⟨ob, es', ep, h1, h2, _⟩ := dd
    exact ⟨ob, h1, h2.2.1⟩
  have hA := ha.run cpos pins s1 σ H1 _ I1 q1
  rw [hs] at hA ⊢
  refine Calls.callWith_builtin (by show (false || (backTo cpos (starEach es X.env)).any (·.1)) = false; rw [hplain] <;> rfl) (Calls.evalArgs_plain ?_)
  exact thn hA fun us s2 ⟨vs, H2, I2, r2, q2⟩ => hm pins s2 σ H2 (.ref p) vs _ us Q I2 rfl r2 q2
def mDGetV (i : Nat) (m : ME) : ME := fun env k => onD i (fun ps => m env fun d => isKey d fun kk => k ((lookT ps kk).getD .none)) env
def mDGet2 (i : Nat) (m m2 : ME) : ME := fun env k => onD i (fun ps => m env fun d => m2 env fun e => isKey d fun kk => k ((lookT ps kk).getD e)) env
theorem look_has {ps : List (PyData × PyData)} {kk : NestedKey} (h : hasT ps kk = false) : lookT ps kk = Option.none := by
  unfold lookT
  unfold hasT at h
  rw [List.any_eq_false] at h
  rw [List.find?_eq_none.mpr fun p hp => by simpa using h p hp]
  rfl
theorem look_is {G : Hp} {ents : List (NestedKey × Addr × V)} {ps : List (PyData × PyData)} (E : EntR K G ents ps) {j : Nat} {en : NestedKey × Addr × V} (h : ents[j]? = some en) : ∃ d, lookT ps en.1 = some d ∧ Da K G en.2.2 d := by
  have hh : hasT ps en.1 = true := by
    rw [← has_ents E, List.any_eq_true]
    exact ⟨en, List.mem_of_getElem? h, decide_eq_true rfl⟩
  cases e : lookT ps en.1 with
  | none => rw [look_none e] at hh; cases hh
  | some d =>
    obtain ⟨j', en', h1, h2, h3⟩ := look_ents E e
    have z : j' = j := nodup_at E.nd h1 h h2
    subst z
    rw [h] at h1
    cases h1
    exact ⟨d, rfl, h3⟩
theorem up_get1 {m : ME} (hK : X.K = K) (σ : L2.St) (H : Hp) (Q : VK) (h : up K c (mDGetV i m) σ H Q) : tBMX X (rGetN X) (tVar i) (upA K c (mCons m mNil)) σ H Q := by
  subst hK
  obtain ⟨F, env, O, k, R, hm, q⟩ := h
  obtain ⟨dv, ps, h1, h2, hm⟩ := onD_of hm
  obtain ⟨a, ents0, s1, _, _, z4, z5⟩ := R.dict h1 h2
  refine ⟨_, s1, ⟨a, ents0, ps, rfl, z4, z5.same offs_sub⟩, F, env, O, (fun as => match as with
    | [.v d] => isKey d fun kk => k ((lookT ps kk).getD .none)
    | _ => False), R, hm, fun as xs H' kd g pr => ?_⟩
  dsimp only at kd
  split at kd
  · cases pr with
    | cons r t =>
      cases t
      obtain ⟨ds, kk, rfl, hk, kd⟩ := isKey_of kd
      obtain ⟨b, _, rfl, _⟩ := da_tup r
      obtain ⟨ents, n1, n2, E⟩ := R.dictG g h1 h2 s1
      refine ⟨a, b, ents, ps, _, kk, .non, rfl, .inl ⟨rfl, rfl⟩, n1, n2, E.same offs_sub, da_same offs_sub r, hk, fun j en hj hek => ?_, fun hh => ?_⟩
      · subst hek
        obtain ⟨d, d1, d2⟩ := look_is E hj
        rw [d1] at kd
        exact q _ _ H' kd g d2
      · rw [look_has hh] at kd
        exact q _ _ H' kd g .non
  · exact kd.elim
theorem up_get2 {m me : ME} (hK : X.K = K) (σ : L2.St) (H : Hp) (Q : VK) (h : up K c (mDGet2 i m me) σ H Q) : tBMX X (rGetN X) (tVar i) (upA K c (mCons m (mCons me mNil))) σ H Q := by
  subst hK
  obtain ⟨F, env, O, k, R, hm, q⟩ := h
  obtain ⟨dv', ps, h1, h2, hm⟩ := onD_of hm
  obtain ⟨a, ents0, s1, _, _, z4, z5⟩ := R.dict h1 h2
  refine ⟨_, s1, ⟨a, ents0, ps, rfl, z4, z5.same offs_sub⟩, F, env, O, (fun as => match as with
    | [.v d, .v e] => isKey d fun kk => k ((lookT ps kk).getD e)
    | _ => False), R, hm, fun as xs H' kd g pr => ?_⟩
  dsimp only at kd
  split at kd
  · cases pr with
    | cons r t =>
      cases t with
      | cons r2 t =>
        cases t
        obtain ⟨ds, kk, rfl, hk, kd⟩ := isKey_of kd
        obtain ⟨b, _, rfl, _⟩ := da_tup r
        obtain ⟨ents, n1, n2, E⟩ := R.dictG g h1 h2 s1
        refine ⟨a, b, ents, ps, _, kk, _, rfl, .inr rfl, n1, n2, E.same offs_sub, da_same offs_sub r, hk, fun j en hj hek => ?_, fun hh => ?_⟩
        · subst hek
          obtain ⟨d, d1, d2⟩ := look_is E hj
          rw [d1] at kd
          exact q _ _ H' kd g d2
        · rw [look_has hh] at kd
          exact q _ _ H' kd g r2
  · exact kd.elim
theorem de_get1 {m : ME} (hK : X.K = K) (h : PE X e (tBMX X (rGetN X) (tVar i) (upA K c (mCons m mNil)))) : PE X e (up K c (mDGetV i m)) := pe_mono h (up_get1 hK)
theorem de_get2 {m me : ME} (hK : X.K = K) (h : PE X e (tBMX X (rGetN X) (tVar i) (upA K c (mCons m (mCons me mNil))))) : PE X e (up K c (mDGet2 i m me)) := pe_mono h (up_get2 hK)
end
end Du

/-! two names at once, of which one is a dict. -/
namespace Du
open PySem PySem.Spec PyProof.Rows L2 On
theorem un32 {k : Nat} {A : Around} (hr : Room k A) : A.units + 32 < cLine := by
  have := hr.un
  omega
section
variable {K : PySem.W.Frag} {c : Bs} {X : Cx} {st : Stmt} {i j : Nat}
def isExt : HO → Bool
  | .ext _ => true
  | _ => false
mutual
theorem da_moveX {H H2 : Hp} (k : ∀ a o, H a = some o → isLst o = false → isExt o = false → H2 a = some o) : ∀ {v : V} {d : PyData}, Da K H v d → noLst d = true → Da K H2 v d
  | _, _, .non, _ => .non
  | _, _, .bl b, _ => .bl b
  | _, _, .int i, _ => .int i
  | _, _, .str x, _ => .str x
  | _, _, .lst h1 h2 h3, n => by cases n
  | _, _, .tup h1 h3, n => by
    refine .tup ?_ (daAll_moveX k h3 n)
    rcases h1 with (h | ⟨o, h⟩) | h
    · exact .inl (.inl (k _ _ h rfl rfl))
    · exact .inl (.inr ⟨o, k _ _ h rfl rfl⟩)
    · exact .inr h
  | _, _, .dct h1 h3, n => by cases n
  | _, _, .dtt h1 h2 h3 h4 h5 h6 h7, n => by cases n
theorem daAll_moveX {H H2 : Hp} (k : ∀ a o, H a = some o → isLst o = false → isExt o = false → H2 a = some o) : ∀ {vs : List V} {ds : List PyData}, DaAll K H vs ds → noLsts ds = true → DaAll K H2 vs ds
  | _, _, .nil, _ => .nil
  | _, _, .cons a b, n => by
    rw [noLsts, Bool.and_eq_true] at n
    exact .cons (da_moveX k a n.1) (daAll_moveX k b n.2)
end
/-- a, b = a value, a new dict -/
def dParVD (i j : Nat) (m1 : ME) (m2 : MD) : MS := fun env D => m1 env fun d => m2 env fun ps => D.nx ((env.set i (.v d)).set j (.od ps))
theorem ds_parVD {m1 : ME} {m2 : MD} (h : PS X st (tPar i j (tCons (up K c m1) (tCons (upD K c m2) tNil)))) : PS X st (upS K c (dParVD i j m1 m2)) := ps_mono h fun D σ H ⟨F, env, O, DD, R, hb, h1, h2, h3, h4⟩ => by
  refine ⟨F, env, O, _, R, hb, fun d x H1 kd g da => ⟨F, env, O, _, R.gx g, kd, fun ps p ents H2 kd2 g2 np hp ns E => ?_⟩⟩
  have R1 := (R.gx g).set i da
  exact ⟨_, _, rfl, h1 _ _ _ H2 kd2 (R1.setD j (p := p) (ents := ents) (ps := ps) ⟨g2.kp, g2.bg⟩ np hp ns E)⟩
/-- a, b = a new dict, a new list: the list's things are contents or the like, no lists within -/
def dParDL (i j : Nat) (m1 : MD) (m2 : ME) : MS := fun env D => m1 env fun ps => m2 env fun d => match d with
  | .list ys => noLsts ys = true ∧ D.nx ((env.set i (.od ps)).set j (.own ys))
  | _ => False
theorem ds_parDL {m1 : MD} {m2 : ME} (h : PS X st (tPar i j (tCons (upD K c m1) (tCons (upL K c m2) tNil)))) : PS X st (upS K c (dParDL i j m1 m2)) := ps_mono h fun D σ H ⟨F, env, O, DD, R, hb, h1, h2, h3, h4⟩ => by
  refine ⟨F, env, O, _, R, hb, fun ps p ents H1 kd g np hp ns E => ⟨F, env, O, _, R.gx g, kd, fun d2 p2 ys2 ds2 H2 kd2 ed2 g2 n2 e2 hp2 da2 => ?_⟩⟩
  subst ed2
  have R1 := R.setD i g np hp ns E
  have R2 := R1.setL j (p := p2) (ys := ys2) (ds := ds2) ⟨g2.kp, g2.bg⟩ n2 e2 hp2 (daAll_moveX (fun a o ea hl hx => by
    obtain ⟨z1, z2⟩ := offs_some ea
    rw [offs_ne fun z => ?_]
    · exact z2
    · rcases List.mem_cons.mp z with z | z
      · exact z1 (by rw [z]; exact List.mem_cons_self)
      · rcases List.mem_cons.mp z with z | z
        · have y := g2.kp p _ (R.n0 (R.h0 np)).2 hp
          rw [z, y] at z2
          cases z2
          cases hx
        · exact z1 (List.mem_cons_of_mem _ z)) da2 kd2.1)
  exact ⟨_, _, rfl, h1 _ _ _ H2 kd2.2 R2⟩
/-- a, b = a new list, a new dict: no lists within the dict -/
def dParLD (i j : Nat) (m1 : ME) (m2 : MD) : MS := fun env D => m1 env fun d => m2 env fun ps => match d with
  | .list xs => noLsts (ps.map Prod.fst) = true ∧ noLsts (ps.map Prod.snd) = true ∧ D.nx ((env.set i (.own xs)).set j (.od ps))
  | _ => False
theorem ds_parLD {m1 : ME} {m2 : MD} (h : PS X st (tPar i j (tCons (upL K c m1) (tCons (upD K c m2) tNil)))) : PS X st (upS K c (dParLD i j m1 m2)) := ps_mono h fun D σ H ⟨F, env, O, DD, R, hb, h1, h2, h3, h4⟩ => by
  refine ⟨F, env, O, _, R, hb, fun d p ys ds H1 kd ed g np e hp da => ⟨F, env, O, _, R.gx g, kd, fun ps2 p2 ents2 H2 kd2 g2 n2 e2 hp2 E2 => ?_⟩⟩
  subst ed
  have R1 := R.setL i g np e hp da
  have mv : ∀ a o, offs (p2 :: O) H2 a = some o → isLst o = false → isExt o = false → offs (p2 :: p :: O) H2 a = some o := fun a o ea hl hx => by
    obtain ⟨z1, z2⟩ := offs_some ea
    rw [offs_ne fun z => ?_]
    · exact z2
    · rcases List.mem_cons.mp z with z | z
      · exact z1 (by rw [z]; exact List.mem_cons_self)
      · rcases List.mem_cons.mp z with z | z
        · have y := g2.kp p _ (R.n0 (R.h0 np)).2 e
          rw [z, y] at z2
          cases z2
          cases hl
        · exact z1 (List.mem_cons_of_mem _ z)
  have R2 := R1.setD j (p := p2) (ents := ents2) (ps := ps2) ⟨g2.kp, g2.bg⟩ n2 e2 hp2 ⟨daAll_moveX mv E2.kd kd2.1, daAll_moveX mv E2.vd kd2.2.1, E2.ky, E2.nd⟩
  exact ⟨_, _, rfl, h1 _ _ _ H2 kd2.2.2 R2⟩
end
end Du

/-! benches by their numbers: contents, steps. -/
namespace M16
open PySem PySem.Spec PyProof.Rows L2 On Du
abbrev Pl := Nat × List (Int × Int)
def plD (p : Pl) : PyData := .tuple [.int (p.1 : Int), .tuple (p.2.map On.pairD)]
def benD (b : List Pl) : List PyData := b.map plD
structure Bok (b : List Pl) : Prop where
  len : b.length ≤ 5
  lo : ∀ p ∈ b, 2 ≤ p.1 ∧ p.1 ≤ 6
  mv : ∀ p ∈ b, ∀ q ∈ p.2, (0 ≤ q.1 ∧ q.1 < p.1) ∧ (0 ≤ q.2 ∧ q.2 < p.1)
  fr : ∀ p ∈ b, ∀ v : Int, (p.2.filter fun q => decide (q.1 = v)).length ≤ 6
  to : ∀ p ∈ b, ∀ v : Int, (p.2.filter fun q => decide (q.2 = v)).length ≤ 6
  ml : ∀ p ∈ b, p.2.length ≤ 36
def mvs (b : List Pl) (k : Nat) : List (Int × Int) := (b.getD k (0, [])).2
/-- the contents that steps lead to (f the first, g the second), from those (the other way about) -/
def stepsBy (f g : Int × Int → Int) (b : List Pl) (n : List Int) : List (List Int) := (List.range n.length).flatMap fun k => ((mvs b k).filter fun q => decide (f q = n.getD k 0)).map fun q => n.set k (g q)
/-- a content of a bench, as far as steps go -/
structure Con (b : List Pl) (n : List Int) : Prop where
  len : n.length = b.length
  bd : TS.Bd 6 n
theorem getD_mem {α : Type} {l : List α} {k : Nat} {d : α} (h : k < l.length) : l.getD k d ∈ l := by
  rw [List.getD_eq_getElem?_getD, List.getElem?_eq_getElem h]
  exact List.getElem_mem h
theorem getD_at {α : Type} {l : List α} {k : Nat} {d x : α} (h : l[k]? = some x) : l.getD k d = x := by
  rw [List.getD_eq_getElem?_getD, h]
  rfl
theorem set_bd {n : List Int} {k : Nat} {v : Int} (h : TS.Bd 6 n) (h0 : 0 ≤ v) (h1 : v < 6) : TS.Bd 6 (n.set k v) := fun m hm => by
  rcases List.mem_or_eq_of_mem_set hm with z | z
  · exact h m z
  · rw [z]
    exact ⟨h0, h1⟩
theorem mem_steps {f g : Int × Int → Int} {b : List Pl} {n x : List Int} (h : x ∈ stepsBy f g b n) : ∃ k q, k < n.length ∧ q ∈ mvs b k ∧ f q = n.getD k 0 ∧ x = n.set k (g q) := by
  obtain ⟨k, hk, hx⟩ := List.mem_flatMap.mp h
  obtain ⟨q, hq, rfl⟩ := List.mem_map.mp hx
  obtain ⟨h1, h2⟩ := List.mem_filter.mp hq
  exact ⟨k, q, List.mem_range.mp hk, h1, of_decide_eq_true h2, rfl⟩
theorem steps_bd {f g : Int × Int → Int} {b : List Pl} {n : List Int} (hb : Bok b) (hn : Con b n) (hg : ∀ p ∈ b, ∀ q ∈ p.2, 0 ≤ g q ∧ g q < p.1) : ∀ x ∈ stepsBy f g b n, x.length = b.length ∧ TS.Bd 6 x := fun x hx => by
  obtain ⟨k, q, hk, hq, _, rfl⟩ := mem_steps hx
  have hm := getD_mem (d := ((0, []) : Pl)) (show k < b.length by rw [← hn.len]; exact hk)
  have h1 := hg _ hm q hq
  have h2 := hb.lo _ hm
  exact ⟨by rw [List.length_set, hn.len], set_bd hn.bd h1.1 (by omega)⟩
theorem flatMap_len {α β : Type} {f : α → List β} {N : Nat} : ∀ {l : List α}, (∀ x ∈ l, (f x).length ≤ N) → (l.flatMap f).length ≤ l.length * N
  | [], _ => by simp
  | x :: l, h => by
    have h1 := h x List.mem_cons_self
    have ih := flatMap_len (f := f) (l := l) fun y hy => h y (List.mem_cons_of_mem _ hy)
    rw [List.flatMap_cons, List.length_append, List.length_cons, Nat.succ_mul]
    omega
theorem steps_len {f g : Int × Int → Int} {b : List Pl} {n : List Int} (hn : Con b n) (hb : b.length ≤ 5) (hf : ∀ p ∈ b, ∀ v : Int, (p.2.filter fun q => decide (f q = v)).length ≤ 6) : (stepsBy f g b n).length ≤ 30 := by
  have z := flatMap_len (l := List.range n.length) (f := fun k => ((mvs b k).filter fun q => decide (f q = n.getD k 0)).map fun q => n.set k (g q)) (N := 6) fun k hk => by
    rw [List.length_map]
    exact hf _ (getD_mem (d := ((0, []) : Pl)) (by rw [← hn.len]; exact List.mem_range.mp hk)) _
  rw [List.length_range] at z
  have := hn.len
  unfold stepsBy
  omega
end M16

/-! contents and steps there and back. -/
namespace M16
open PySem PySem.Spec PyProof.Rows L2 On Du
def grow1 (m : Nat) (c : List Int) : List (List Int) := (List.range m).map fun (v : Nat) => c ++ [(v : Int)]
def growM (acc : List (List Int)) (p : Pl) : List (List Int) := acc.flatMap (grow1 p.1)
/-- all contents of a bench, in order -/
def contents (b : List Pl) : List (List Int) := b.foldl growM [[]]
theorem grow1_len {m : Nat} {c : List Int} : (grow1 m c).length = m := by
  unfold grow1
  rw [List.length_map, List.length_range]
theorem conts_take {b : List Pl} {i : Nat} {p : Pl} (h : b[i]? = some p) : contents (b.take (i + 1)) = (contents (b.take i)).flatMap (grow1 p.1) := by
  unfold contents
  rw [List.take_add_one, h, List.foldl_append]
  rfl
theorem conts_len {b : List Pl} (hb : ∀ p ∈ b, p.1 ≤ 6) : ∀ i, i ≤ b.length → (contents (b.take i)).length ≤ 6 ^ i
  | 0, _ => by show 1 ≤ _; decide
  | i + 1, h => by
    have ih := conts_len hb i (by omega)
    have hi : i < b.length := by omega
    rw [conts_take (List.getElem?_eq_getElem hi), Nat.pow_succ]
    refine Nat.le_trans (flatMap_len (N := 6) fun c _ => ?_) (Nat.mul_le_mul_right 6 ih)
    rw [grow1_len]
    exact hb _ (List.getElem_mem hi)
theorem conts_inlen : ∀ (i : Nat) {b : List Pl}, i ≤ b.length → ∀ n ∈ contents (b.take i), n.length = i
  | 0, _, _ => fun n hn => by
    have e : n ∈ [([] : List Int)] := hn
    rw [List.mem_singleton] at e
    rw [e]
    rfl
  | i + 1, b, h => fun n hn => by
    have hi : i < b.length := by omega
    rw [conts_take (List.getElem?_eq_getElem hi)] at hn
    obtain ⟨c, hc, hx⟩ := List.mem_flatMap.mp hn
    obtain ⟨v, _, rfl⟩ := List.mem_map.mp hx
    rw [List.length_append, conts_inlen i (by omega) c hc]
    rfl
def many (b : List Pl) (k : Nat) : Nat := (b.getD k (0, [])).1
theorem gd_left {c : List Int} {v : Int} {k : Nat} (h : k < c.length) : (c ++ [v]).getD k 0 = c.getD k 0 := by
  rw [List.getD_eq_getElem?_getD, List.getD_eq_getElem?_getD, List.getElem?_append_left h]
theorem gd_last {c : List Int} {v : Int} : (c ++ [v]).getD c.length 0 = v := by
  rw [List.getD_eq_getElem?_getD, List.getElem?_append_right (Nat.le_refl _), Nat.sub_self]
  rfl
theorem mem_take {b : List Pl} : ∀ (i : Nat), i ≤ b.length → ∀ n : List Int, n ∈ contents (b.take i) ↔ n.length = i ∧ ∀ k, k < i → 0 ≤ n.getD k 0 ∧ n.getD k 0 < (many b k : Int)
  | 0, _, n => by
    show n ∈ [([] : List Int)] ↔ _
    rw [List.mem_singleton]
    exact ⟨fun e => ⟨by rw [e]; rfl, fun k hk => absurd hk (Nat.not_lt_zero _)⟩, fun h => List.length_eq_zero_iff.mp h.1⟩
  | i + 1, h, n => by
    have hi : i < b.length := by omega
    have gi := List.getElem?_eq_getElem hi
    have em : many b i = (b[i]).1 := by
      unfold many
      rw [getD_at gi]
    rw [conts_take gi, List.mem_flatMap]
    constructor
    · rintro ⟨c, hc, hx⟩
      obtain ⟨v, hv, rfl⟩ := List.mem_map.mp hx
      obtain ⟨c1, c2⟩ := (mem_take i (by omega) c).mp hc
      refine ⟨by rw [List.length_append, c1]; rfl, fun k hk => ?_⟩
      by_cases e : k < i
      · rw [gd_left (by omega)]
        exact c2 k e
      · have ek : k = c.length := by omega
        subst ek
        rw [gd_last, c1, em]
        have := List.mem_range.mp hv
        omega
    · rintro ⟨h1, h2⟩
      have en : n = n.take i ++ [n.getD i 0] := by
        have e2 : n.drop i = [n.getD i 0] := by
          rw [List.drop_eq_getElem_cons (by omega), List.drop_eq_nil_of_le (by omega), List.getD_eq_getElem?_getD, List.getElem?_eq_getElem (by omega)]
          rfl
        rw [← e2, List.take_append_drop]
      have lt : (n.take i).length = i := by rw [List.length_take]; omega
      have g0 := h2 i (by omega)
      rw [em] at g0
      refine ⟨n.take i, (mem_take i (by omega) _).mpr ⟨lt, fun k hk => ?_⟩, ?_⟩
      · have z := h2 k (by omega)
        rw [en, gd_left (by omega)] at z
        exact z
      · refine List.mem_map.mpr ⟨(n.getD i 0).toNat, List.mem_range.mpr (by omega), ?_⟩
        rw [Int.toNat_of_nonneg g0.1]
        exact en.symm
theorem mem_conts {b : List Pl} {n : List Int} : n ∈ contents b ↔ n.length = b.length ∧ ∀ k, k < b.length → 0 ≤ n.getD k 0 ∧ n.getD k 0 < (many b k : Int) := by
  have z := mem_take (b := b) b.length (Nat.le_refl _) n
  rw [List.take_length] at z
  exact z
theorem nodup_take {b : List Pl} : ∀ i, i ≤ b.length → (contents (b.take i)).Nodup
  | 0, _ => by
    show [([] : List Int)].Nodup
    simp
  | i + 1, h => by
    have hi : i < b.length := by omega
    rw [conts_take (List.getElem?_eq_getElem hi)]
    unfold List.Nodup
    rw [List.pairwise_flatMap]
    refine ⟨fun c _ => ?_, (nodup_take i (by omega)).imp fun {c d} ne x hx y hy e => ?_⟩
    · unfold grow1
      rw [List.pairwise_map]
      refine (List.nodup_range (n := (b[i]).1)).imp fun {u v} ne e => ne ?_
      have z := (List.append_inj' e rfl).2
      injection z with z _
      omega
    · obtain ⟨u, _, rfl⟩ := List.mem_map.mp hx
      obtain ⟨v, _, rfl⟩ := List.mem_map.mp hy
      exact ne (List.append_inj' e rfl).1
theorem conts_nodup (b : List Pl) : (contents b).Nodup := by
  have z := nodup_take (b := b) b.length (Nat.le_refl _)
  rwa [List.take_length] at z
theorem conts_len' {b : List Pl} (hb : Bok b) : (contents b).length ≤ 7776 := by
  have z := conts_len (fun p hp => (hb.lo p hp).2) b.length (Nat.le_refl _)
  rw [List.take_length] at z
  have h : (6 : Nat) ^ b.length ≤ 6 ^ 5 := Nat.pow_le_pow_right (by decide) hb.len
  have e : (6 : Nat) ^ 5 = 7776 := by decide
  omega
theorem con_of {b : List Pl} (hb : Bok b) {n : List Int} (h : n ∈ contents b) : Con b n := by
  obtain ⟨h1, h2⟩ := mem_conts.mp h
  refine ⟨h1, fun m hm => ?_⟩
  obtain ⟨k, hk, rfl⟩ := List.mem_iff_getElem.mp hm
  have z := h2 k (by omega)
  rw [List.getD_eq_getElem?_getD, List.getElem?_eq_getElem hk] at z
  have y := (hb.lo _ (getD_mem (d := ((0, []) : Pl)) (show k < b.length by omega))).2
  unfold many at z
  have z1 : 0 ≤ n[k] := z.1
  have z2 : n[k] < ((b.getD k (0, [])).1 : Int) := z.2
  omega
/-- what steps come to (either way about) are contents -/
theorem steps_in {f g : Int × Int → Int} {b : List Pl} (hg : ∀ p ∈ b, ∀ q ∈ p.2, 0 ≤ g q ∧ g q < p.1) {n x : List Int} (h : n ∈ contents b) (hx : x ∈ stepsBy f g b n) : x ∈ contents b := by
  obtain ⟨h1, h2⟩ := mem_conts.mp h
  obtain ⟨k, q, hk, hq, _, rfl⟩ := mem_steps hx
  refine mem_conts.mpr ⟨by rw [List.length_set, h1], fun j hj => ?_⟩
  by_cases e : j = k
  · subst e
    have z : (n.set j (g q)).getD j 0 = g q := by
      rw [List.getD_eq_getElem?_getD, List.getElem?_set_self (by omega)]
      rfl
    rw [z]
    exact hg _ (getD_mem (d := ((0, []) : Pl)) (by omega)) q hq
  · have z : (n.set k (g q)).getD j 0 = n.getD j 0 := by
      rw [List.getD_eq_getElem?_getD, List.getElem?_set_ne (Ne.symm e), List.getD_eq_getElem?_getD]
    rw [z]
    exact h2 j hj
abbrev outs (b : List Pl) (n : List Int) : List (List Int) := stepsBy Prod.fst Prod.snd b n
abbrev ins (b : List Pl) (n : List Int) : List (List Int) := stepsBy Prod.snd Prod.fst b n
/-- those of the first i contents of which a step leads to n -/
def bkL (b : List Pl) (i : Nat) (n : List Int) : List (List Int) := ((contents b).take i).flatMap fun one => ((srt (outs b one)).filter fun t => decide (t = n)).map fun _ => one
theorem sum_ite {x : List Int} (g : List Int → Nat) : ∀ {C : List (List Int)}, C.Nodup → (C.map fun one => if one = x then g one else 0).sum = if x ∈ C then g x else 0
  | [], _ => by simp
  | c :: C, h => by
    obtain ⟨h1, h2⟩ := List.nodup_cons.mp h
    rw [List.map_cons, List.sum_cons, sum_ite g h2]
    by_cases e : c = x
    · subst e
      rw [if_pos rfl, if_neg h1, if_pos List.mem_cons_self]
      rfl
    · rw [if_neg e, Nat.zero_add]
      by_cases m : x ∈ C
      · rw [if_pos m, if_pos (List.mem_cons_of_mem _ m)]
      · rw [if_neg m, if_neg fun z => (List.mem_cons.mp z).elim (fun y => e y.symm) m]
theorem count_const {x one : List Int} (l : List (List Int)) : List.count x (l.map fun _ => one) = if one = x then l.length else 0 := by
  induction l with
  | nil => simp
  | cons a l ih =>
    rw [List.map_cons, List.count_cons, ih, List.length_cons]
    by_cases e : one = x
    · simp [e]
    · simp [e]
theorem count_steps {f g : Int × Int → Int} {b : List Pl} {n x : List Int} : List.count x (stepsBy f g b n) = ((List.range n.length).map fun k => List.countP (fun q => decide (f q = n.getD k 0) && decide (n.set k (g q) = x)) (mvs b k)).sum := by
  unfold stepsBy
  rw [List.count_flatMap]
  congr 1
  refine List.map_congr_left fun k _ => ?_
  show List.count x (((mvs b k).filter fun q => decide (f q = n.getD k 0)).map fun q => n.set k (g q)) = _
  rw [List.count, List.countP_map, List.countP_filter]
  refine List.countP_congr fun q _ => ?_
  simp [Function.comp]
  exact And.comm
theorem set_back {n x : List Int} {k : Nat} {u v : Int} (hl : x.length = n.length) (hk : k < n.length) : (v = n.getD k 0 ∧ n.set k u = x) ↔ (u = x.getD k 0 ∧ x.set k v = n) := by
  constructor
  · rintro ⟨rfl, rfl⟩
    refine ⟨by rw [List.getD_eq_getElem?_getD, List.getElem?_set_self hk]; rfl, ?_⟩
    rw [List.set_set, List.getD_eq_getElem?_getD, List.getElem?_eq_getElem hk]
    exact List.set_getElem_self hk
  · rintro ⟨rfl, rfl⟩
    have hk' : k < x.length := by omega
    refine ⟨by rw [List.getD_eq_getElem?_getD, List.getElem?_set_self hk']; rfl, ?_⟩
    rw [List.set_set, List.getD_eq_getElem?_getD, List.getElem?_eq_getElem hk']
    exact List.set_getElem_self hk'
theorem back_perm {b : List Pl} (hb : Bok b) {n : List Int} (hn : n ∈ contents b) : (bkL b (contents b).length n).Perm (ins b n) := by
  rw [List.perm_iff_count]
  intro x
  have e1 : List.count x (bkL b (contents b).length n) = if x ∈ contents b then List.count n (outs b x) else 0 := by
    unfold bkL
    rw [List.take_length, List.count_flatMap]
    have e : (contents b).map (List.count x ∘ fun one => ((srt (outs b one)).filter fun t => decide (t = n)).map fun _ => one) = (contents b).map fun one => if one = x then List.count n (outs b one) else 0 := by
      refine List.map_congr_left fun one _ => ?_
      show List.count x (((srt (outs b one)).filter fun t => decide (t = n)).map fun _ => one) = _
      rw [count_const]
      have e2 : ((srt (outs b one)).filter fun t => decide (t = n)).length = List.count n (outs b one) := by
        rw [← List.countP_eq_length_filter, ← (srt_perm (outs b one)).count_eq n, List.count]
        refine List.countP_congr fun t _ => ?_
        simp
      rw [e2]
    rw [e, sum_ite _ (conts_nodup b)]
  rw [e1]
  by_cases m : x ∈ contents b
  · rw [if_pos m, count_steps, count_steps]
    have l1 := (mem_conts.mp m).1
    have l2 := (mem_conts.mp hn).1
    rw [l1, l2]
    congr 1
    refine List.map_congr_left fun k hk => ?_
    refine List.countP_congr fun q _ => ?_
    rw [Bool.and_eq_true, Bool.and_eq_true, decide_eq_true_eq, decide_eq_true_eq, decide_eq_true_eq, decide_eq_true_eq]
    exact (set_back (by omega) (by have := List.mem_range.mp hk; omega)).symm
  · rw [if_neg m]
    refine (List.count_eq_zero.mpr fun z => m ?_).symm
    exact steps_in (fun p hp q hq => (hb.mv p hp q hq).1) hn z
end M16

/-! lists given up, dicts beside values, lists or tuples gone over. -/
namespace Du
open PySem PySem.Spec PyProof.Rows L2 On
theorem dOf_od (ps : List (PyData × PyData)) : dOf (.od ps) = some ps := rfl
theorem dOf_dd (ps : List (PyData × PyData)) : dOf (.dd ps) = some ps := rfl
mutual
def noDic : PyData → Bool
  | .list ds => noDics ds
  | .dict _ => false
  | .tuple ds => noDics ds
  | .none => true
  | .bool _ => true
  | .int _ => true
  | .str _ => true
def noDics : List PyData → Bool
  | [] => true
  | d :: ds => noDic d && noDics ds
end
mutual
theorem da_moveD {K : PySem.W.Frag} {H H2 : Hp} (k : ∀ a o, H a = some o → isExt o = false → H2 a = some o) : ∀ {v : V} {d : PyData}, Da K H v d → noDic d = true → Da K H2 v d
  | _, _, .non, _ => .non
  | _, _, .bl b, _ => .bl b
  | _, _, .int i, _ => .int i
  | _, _, .str x, _ => .str x
  | _, _, .lst h1 h2 h3, n => .lst (k _ _ h1 rfl) h2 (daAll_moveD k h3 n)
  | _, _, .tup h1 h3, n => by
    refine .tup ?_ (daAll_moveD k h3 n)
    rcases h1 with (h | ⟨o, h⟩) | h
    · exact .inl (.inl (k _ _ h rfl))
    · exact .inl (.inr ⟨o, k _ _ h rfl⟩)
    · exact .inr h
  | _, _, .dct h1 h3, n => by cases n
  | _, _, .dtt h1 h2 h3 h4 h5 h6 h7, n => by cases n
theorem daAll_moveD {K : PySem.W.Frag} {H H2 : Hp} (k : ∀ a o, H a = some o → isExt o = false → H2 a = some o) : ∀ {vs : List V} {ds : List PyData}, DaAll K H vs ds → noDics ds = true → DaAll K H2 vs ds
  | _, _, .nil, _ => .nil
  | _, _, .cons a b, n => by
    rw [noDics, Bool.and_eq_true] at n
    exact .cons (da_moveD k a n.1) (daAll_moveD k b n.2)
end
section
variable {K : PySem.W.Frag} {c : Bs} {F : Hp} {env : List DV} {O : List Addr} {σ : L2.St} {H H' : Hp} {X : Cx} {st : Stmt} {e : Expr} {i j : Nat}
/-- a, b = a new dict, a value -/
def dParDV (i j : Nat) (m1 : MD) (m2 : ME) : MS := fun env D => m1 env fun ps => m2 env fun d => noDic d = true ∧ D.nx ((env.set i (.od ps)).set j (.v d))
theorem ds_parDV {m1 : MD} {m2 : ME} (h : PS X st (tPar i j (tCons (upD K c m1) (tCons (up K c m2) tNil)))) : PS X st (upS K c (dParDV i j m1 m2)) := ps_mono h fun D σ H ⟨F, env, O, DD, R, hb, h1, h2, h3, h4⟩ => by
  refine ⟨F, env, O, _, R, hb, fun ps p ents H1 kd g np hp ns E => ⟨F, env, O, _, R.gx g, kd, fun d2 x2 H2 kd2 g2 da2 => ?_⟩⟩
  have R1 := (R.setD i g np hp ns E).gx (H' := H2) ⟨g2.kp, g2.bg⟩
  have hp2 := g2.kp p _ (R.n0 (R.h0 np)).2 hp
  have R2 := R1.set j (x := x2) (d := d2) (da_moveD (fun a o ea hx => by
    obtain ⟨z1, z2⟩ := offs_some ea
    rw [offs_ne fun z => ?_]
    · exact z2
    · rcases List.mem_cons.mp z with z | z
      · rw [z, hp2] at z2
        cases z2
        cases hx
      · exact z1 z) da2 kd2.1)
  exact ⟨_, _, rfl, h1 _ _ _ H2 kd2.2 R2⟩
/-- a list that one no longer changes -/
theorem Rel.give (R : Rel K c F env O σ H) {ds : List PyData} {a : Addr} (hj : env[j]? = some (.own ds)) (hs : σ[j]? = some (some (.ref a))) (hij : i ≠ j) : ∃ O1, Rel K c F ((env.set i (.v (.list ds))).set j .un) O1 (σ.set i (some (.ref a))) H := by
  obtain ⟨a', xs, q1, q2, q3, q5, q6, q7⟩ := R.sl j _ hj
  rw [hs] at q1
  cases q1
  have n0 := R.n0 q3
  have hjl : j < env.length := (List.getElem?_eq_some_iff.mp hj).1
  have sub : ∀ b, b ∈ O.filter (fun b => decide (b ≠ a)) → b ∈ O := fun b h => (List.mem_filter.mp h).1
  have na : a ∉ O.filter (fun b => decide (b ≠ a)) := fun h => of_decide_eq_true (List.mem_filter.mp h).2 rfl
  have k : Same (offs O H) (offs (O.filter fun b => decide (b ≠ a)) H) := offs_less sub
  refine ⟨O.filter fun b => decide (b ≠ a), {
    dom := fun b h => R.dom b (sub b h)
    sub := fun b h => List.mem_filter.mpr ⟨R.sub b h, decide_eq_true fun z => n0.1 (by rw [← z]; exact h)⟩
    ent := R.ent
    but := R.but
    bg := fun b h => ⟨(R.bg b h).1, (R.bg b h).2.1, fun z => (R.bg b h).2.2 (sub _ z)⟩
    sys := R.sys
    nsys := fun z => R.nsys (sub _ z)
    fz := R.fz.trans k
    sl := fun m e he => ?_
    ap := fun m n e f b hmn h1 h2 m1 m2 h3 => ?_
    len := by rw [List.length_set, List.length_set, List.length_set, R.len] }⟩
  · by_cases c1 : m = j
    · subst c1
      rw [List.getElem?_set_self (by rw [List.length_set]; exact hjl)] at he
      cases he
      trivial
    · rw [List.getElem?_set_ne (Ne.symm c1)] at he
      by_cases c2 : m = i
      · subst c2
        by_cases hl : m < env.length
        · rw [List.getElem?_set_self hl] at he
          cases he
          exact ⟨.ref a, by rw [List.getElem?_set_self (by rw [R.len]; exact hl)], .lst (by rw [offs_ne na]; exact q6) q5 (daAll_same k q7)⟩
        · rw [List.getElem?_eq_none (by rw [List.length_set]; omega)] at he
          cases he
      · rw [List.getElem?_set_ne (Ne.symm c2)] at he ⊢
        have q := R.sl m e he
        have apart : ∀ b, mine e = true → σ[m]? = some (some (.ref b)) → b ≠ a := fun b me hb z => R.ap m j e _ b c1 he hj me rfl hb (by rw [z]; exact hs)
        cases e with
        | un => trivial
        | v d =>
          obtain ⟨x, h1, h2⟩ := q
          exact ⟨x, h1, da_same k h2⟩
        | own ds' =>
          obtain ⟨b, zs, h1, h2, h3, h5, h6, h7⟩ := q
          exact ⟨b, zs, h1, List.mem_filter.mpr ⟨h2, decide_eq_true (apart b rfl h1)⟩, h3, h5, h6, daAll_same k h7⟩
        | bag => exact q
        | tab P w kvs =>
          obtain ⟨p', ents, h1, h2⟩ := q
          exact ⟨p', ents, h1, h2.same k⟩
        | dd ps =>
          obtain ⟨b, ents, h1, h2, h3, h4⟩ := q
          exact ⟨b, ents, h1, h2, k _ _ h3, h4.same k⟩
        | od ps =>
          obtain ⟨b, ents, h1, h2, h3, h5, h6, h7⟩ := q
          exact ⟨b, ents, h1, List.mem_filter.mpr ⟨h2, decide_eq_true (apart b rfl h1)⟩, h3, h5, h6, h7.same k⟩
  · have back : ∀ (m : Nat) (e : DV), ((env.set i (.v (.list ds))).set j .un)[m]? = some e → mine e = true → m ≠ i ∧ env[m]? = some e := fun m e he me => by
      by_cases c1 : m = j
      · subst c1
        rw [List.getElem?_set_self (by rw [List.length_set]; exact hjl)] at he
        cases he
        cases me
      · rw [List.getElem?_set_ne (Ne.symm c1)] at he
        by_cases c2 : m = i
        · subst c2
          by_cases hl : m < env.length
          · rw [List.getElem?_set_self hl] at he
            cases he
            cases me
          · rw [List.getElem?_eq_none (by rw [List.length_set]; omega)] at he
            cases he
        · rw [List.getElem?_set_ne (Ne.symm c2)] at he
          exact ⟨c2, he⟩
    obtain ⟨w1, w2⟩ := back m e h1 m1
    obtain ⟨w3, w4⟩ := back n f h2 m2
    rw [List.getElem?_set_ne (Ne.symm w1)] at h3
    rw [List.getElem?_set_ne (Ne.symm w3)]
    exact R.ap m n e f b hmn w2 w4 m1 m2 h3
/-- x = y, y a list of one's own that is given up -/
def dGive (i j : Nat) : MS := fun env D => match env[j]? with
  | some (.own ds) => D.nx ((env.set i (.v (.list ds))).set j .un)
  | _ => False
theorem ds_give (hij : i ≠ j) (h : PS X st (tAsg (tVar j) (gName i))) : PS X st (upS K c (dGive i j)) := ps_mono h fun D σ H ⟨F, env, O, DD, R, hb, h1, h2, h3, h4⟩ => by
  unfold dGive at hb
  split at hb
  · rename_i ds hd
    obtain ⟨a, xs, q1, q2⟩ := R.sl j _ hd
    obtain ⟨O1, R1⟩ := R.give (i := i) hd q1 hij
    exact ⟨_, q1, h1 _ _ _ _ hb R1⟩
  · exact hb.elim
/-- for x in a name that holds a list or a tuple -/
def miSV (i : Nat) : MI := fun env k => match env[i]? with
  | some (.v (.list ds)) => k ds
  | some (.v (.tuple ds)) => k ds
  | _ => False
theorem di_seqV {tg iter : Expr} (hl : PI X tg iter (upI K c (miL (mVar i)))) (ht : PI X tg iter (upI K c (miT (mVar i)))) : PI X tg iter (upI K c (miSV i)) := ⟨fun pins s σ H R I q => by
  obtain ⟨F, env, O, k, Rl, hm, q⟩ := q
  unfold miSV at hm
  split at hm
  · rename_i ds hd
    refine hl.run pins s σ H R I ⟨F, env, O, k, Rl, ?_, q⟩
    simp only [miL, mVar, hd]
    exact hm
  · rename_i ds hd
    refine ht.run pins s σ H R I ⟨F, env, O, k, Rl, ?_, q⟩
    simp only [miT, mVar, hd]
    exact hm
  · exact hm.elim⟩
end
end Du

/-! a or b, by truth. -/
namespace Du
open PySem PySem.Spec PyProof.Rows L2 On
section
variable {K : PySem.W.Frag} {c : Bs} {X : Cx} {a b : Expr} {rest : List Expr} {pos : Pos}
def mOrX (m n : ME) : ME := fun env k => m env fun d => match truD d with
  | some true => k d
  | some false => n env k
  | Option.none => False
theorem de_orX {m n : ME} (hK : X.K = K) (h : PE X a (up K c m)) (h2 : PE X (.BoolOp .Or (b :: rest) pos) (up K c n)) : PE X (.BoolOp .Or (a :: b :: rest) pos) (up K c (mOrX m n)) := by
  subst hK
  refine pe_mono (pe_orT h h2) fun σ H Q ⟨F, env, O, k, R, hm, q⟩ => ⟨F, env, O, _, R, hm, fun d x H' kd g da => ?_⟩
  split at kd
  · rename_i e
    exact ⟨true, truV_of (.inl da) e, by rw [if_pos rfl]; exact q d x H' kd g da⟩
  · rename_i e
    exact ⟨false, truV_of (.inl da) e, by rw [if_neg Bool.false_ne_true]; exact ⟨F, env, O, _, R.gx g, kd, fun d x H2 k2 g2 da => q d x H2 k2 (g.trans g2) da⟩⟩
  · exact kd.elim
end
end Du

/-! dicts from contents to data. -/
namespace M17
open PySem PySem.Spec PyProof.Rows L2 On Du
/-- a content as a key -/
def kC (n : List Int) : NestedKey := .tup (n.map NestedKey.num)
theorem keysOf_ints : ∀ n : List Int, keysOf (n.map PyData.int) = some (n.map NestedKey.num)
  | [] => rfl
  | i :: n => by
    rw [List.map_cons, List.map_cons, keysOf, Du.keyOf, keysOf_ints n]
    rfl
theorem depthAll_ints : ∀ n : List Int, PyData.depthAll (n.map PyData.int) = 0
  | [] => by rw [List.map_nil, PyData.depthAll]
  | i :: n => by
    rw [List.map_cons, PyData.depthAll, depthAll_ints n, PyData.depth]
    rfl
theorem depth_conD (n : List Int) : (conD n).depth = 1 := by
  unfold conD
  rw [PyData.depth, depthAll_ints]
theorem keyT_con (n : List Int) : keyT (conD n) = some (kC n) := by
  unfold keyT
  rw [if_pos (by rw [depth_conD]; decide)]
  show Du.keyOf (.tuple (n.map .int)) = _
  rw [Du.keyOf, keysOf_ints]
  rfl
theorem isKey_con (n : List Int) (f : NestedKey → Prop) : isKey (conD n) f = f (kC n) := by
  have e := keyT_con n
  unfold conD at e
  unfold isKey conD
  simp only [e]
theorem num_inj : ∀ {a b : List Int}, a.map NestedKey.num = b.map NestedKey.num → a = b
  | [], [], _ => rfl
  | [], _ :: _, h => nomatch h
  | _ :: _, [], h => nomatch h
  | x :: a, y :: b, h => by
    rw [List.map_cons, List.map_cons] at h
    injection h with h1 h2
    injection h1 with h3
    rw [h3, num_inj h2]
theorem kC_inj {a b : List Int} (h : kC a = kC b) : a = b := by
  unfold kC at h
  injection h with h
  exact num_inj h
theorem key_eq (a b : List Int) : decide (keyT (conD a) = some (kC b)) = decide (a = b) := decide_eq_decide.mpr ⟨fun h => by
  rw [keyT_con] at h
  exact kC_inj (Option.some.inj h), fun h => by rw [h, keyT_con]⟩
abbrev Tab := List (List Int × PyData)
def encT (M : Tab) : List (PyData × PyData) := M.map fun p => (conD p.1, p.2)
theorem encT_len (M : Tab) : (encT M).length = M.length := List.length_map ..
def inM (M : Tab) (n : List Int) : Bool := M.any fun p => decide (p.1 = n)
def atM (M : Tab) (n : List Int) : Option PyData := (M.find? fun p => decide (p.1 = n)).map (·.2)
def putM (M : Tab) (n : List Int) (v : PyData) : Tab := if inM M n = true then M.map fun p => if p.1 = n then (p.1, v) else p else M ++ [(n, v)]
theorem has_con (M : Tab) (n : List Int) : hasT (encT M) (kC n) = inM M n := by
  unfold hasT encT inM
  rw [List.any_map]
  exact congrArg (fun f => M.any f) (funext fun p => key_eq p.1 n)
theorem look_con : ∀ (M : Tab) (n : List Int), lookT (encT M) (kC n) = atM M n
  | [], n => rfl
  | p :: M, n => by
    have ih := look_con M n
    unfold lookT encT atM at *
    rw [List.map_cons, List.find?_cons, List.find?_cons, key_eq]
    cases decide (p.1 = n) with
    | true => rfl
    | false => exact ih
theorem put_con (M : Tab) (n : List Int) (v : PyData) : putT (encT M) (conD n) (kC n) v = encT (putM M n v) := by
  unfold putT putM
  rw [has_con]
  split
  · unfold encT
    rw [List.map_map, List.map_map]
    refine List.map_congr_left fun p _ => ?_
    show (if keyT (conD p.1) = some (kC n) then (conD p.1, v) else (conD p.1, p.2)) = (conD (if p.1 = n then (p.1, v) else p).1, (if p.1 = n then (p.1, v) else p).2)
    by_cases e : p.1 = n
    · rw [if_pos e, if_pos (by rw [e, keyT_con])]
    · rw [if_neg e, if_neg fun z => e (by rw [keyT_con] at z; exact kC_inj (Option.some.inj z))]
  · unfold encT
    rw [List.map_append]
    rfl
theorem inM_iff {M : Tab} {n : List Int} : inM M n = true ↔ n ∈ M.map Prod.fst := by
  unfold inM
  rw [List.any_eq_true, List.mem_map]
  exact ⟨fun ⟨p, h, e⟩ => ⟨p, h, of_decide_eq_true e⟩, fun ⟨p, h, e⟩ => ⟨p, h, decide_eq_true e⟩⟩
theorem putM_new {M : Tab} {n : List Int} {v : PyData} (h : inM M n = false) : putM M n v = M ++ [(n, v)] := by
  unfold putM
  rw [if_neg (by rw [h]; exact Bool.false_ne_true)]
theorem atM_some {M : Tab} {n : List Int} (h : inM M n = true) : ∃ v, atM M n = some v ∧ (n, v) ∈ M := by
  unfold inM at h
  rw [List.any_eq_true] at h
  obtain ⟨p, hp, e⟩ := h
  cases f : M.find? fun p => decide (p.1 = n) with
  | none =>
    rw [List.find?_eq_none] at f
    exact absurd e (f p hp)
  | some q =>
    have h1 := List.mem_of_find?_eq_some f
    have h2 : q.1 = n := of_decide_eq_true (List.find?_some (p := fun p : List Int × PyData => decide (p.1 = n)) f)
    refine ⟨q.2, by unfold atM; rw [f]; rfl, ?_⟩
    rw [← h2]
    exact h1
/-- contents with what F says of each -/
def tabC (L : List (List Int)) (F : List Int → PyData) : Tab := L.map fun n => (n, F n)
theorem atM_tab : ∀ {L : List (List Int)} {F : List Int → PyData} {n : List Int}, n ∈ L → atM (tabC L F) n = some (F n)
  | m :: L, F, n, h => by
    unfold atM tabC
    rw [List.map_cons, List.find?_cons]
    by_cases e : m = n
    · rw [decide_eq_true e, e]
      rfl
    · rw [decide_eq_false e]
      have h' : n ∈ L := by
        rcases List.mem_cons.mp h with z | z
        · exact absurd z.symm e
        · exact z
      exact atM_tab (F := F) h'
theorem pairsOk_tab {M : Tab} (nd : (M.map Prod.fst).Nodup) (hl : M.length ≤ 100000) : pairsOk (encT M) := by
  refine ⟨fun p hp => ?_, ?_, by rw [encT_len]; exact hl⟩
  · obtain ⟨q, _, rfl⟩ := List.mem_map.mp hp
    show isKey (conD q.1) _
    rw [isKey_con]
    trivial
  · unfold encT
    rw [List.map_map]
    have e : (fun p : PyData × PyData => keyT p.1) ∘ (fun p : List Int × PyData => (conD p.1, p.2)) = fun p => some (kC p.1) := funext fun p => keyT_con p.1
    rw [e, List.nodup_iff_pairwise_ne, List.pairwise_map]
    rw [List.nodup_iff_pairwise_ne, List.pairwise_map] at nd
    exact nd.imp fun z q => z (kC_inj (Option.some.inj q))
end M17

/-! a search by layers. -/
namespace M17
open PySem PySem.Spec PyProof.Rows L2 On Du M16
abbrev Vx := List Int
def lexLt : List Int → List Int → Prop
  | x :: a, y :: b => x < y ∨ x = y ∧ lexLt a b
  | _, _ => False
theorem lexLt_irr : ∀ a : List Int, ¬ lexLt a a
  | [] => fun h => h
  | x :: a => fun h => h.elim (fun z => by omega) fun z => lexLt_irr a z.2
theorem lexLt_trans : ∀ {a b c : List Int}, lexLt a b → lexLt b c → lexLt a c
  | x :: a, y :: b, z :: c, h1, h2 => by
    rcases h1 with h1 | ⟨h1, h1'⟩
    · rcases h2 with h2 | ⟨h2, _⟩
      · exact .inl (by omega)
      · exact .inl (by omega)
    · rcases h2 with h2 | ⟨h2, h2'⟩
      · exact .inl (by omega)
      · exact .inr ⟨by omega, lexLt_trans h1' h2'⟩
  | [], _, _, h1, _ => by cases ‹List Int› <;> exact h1.elim
  | _ :: _, [], _, h1, _ => h1.elim
  | _ :: _, _ :: _, [], _, h2 => h2.elim
def LeL (a b : List Int) : Prop := a = b ∨ lexLt a b
theorem LeL.trans {a b c : List Int} (h1 : LeL a b) (h2 : LeL b c) : LeL a c := by
  rcases h1 with rfl | h1
  · exact h2
  · rcases h2 with rfl | h2
    · exact .inr h1
    · exact .inr (lexLt_trans h1 h2)
theorem lexLt_snoc : ∀ {a b : List Int} {x y : Int}, lexLt a b → lexLt (a ++ [x]) (b ++ [y])
  | u :: a, v :: b, x, y, h => by
    rcases h with h | ⟨h, h'⟩
    · exact .inl h
    · exact .inr ⟨h, lexLt_snoc h'⟩
  | [], _, _, _, h => by cases ‹List Int› <;> exact h.elim
  | _ :: _, [], _, _, h => h.elim
theorem lexLt_pre : ∀ (c : List Int) {a b : List Int}, lexLt a b → lexLt (c ++ a) (c ++ b)
  | [], _, _, h => h
  | x :: c, _, _, h => .inr ⟨rfl, lexLt_pre c h⟩
theorem LeL_snoc {a b : List Int} {x y : Int} (h : LeL a b) (hxy : x ≤ y) : LeL (a ++ [x]) (b ++ [y]) := by
  rcases h with rfl | h
  · by_cases e : x = y
    · exact .inl (by rw [e])
    · exact .inr (lexLt_pre a (.inl (by omega)))
  · exact .inr (lexLt_snoc h)
def cd (p : List Vx) : List Int := p.map (TS.code 6)
theorem cd_snoc (p : List Vx) (z : Vx) : cd (p ++ [z]) = cd p ++ [TS.code 6 z] := by unfold cd; rw [List.map_append]; rfl
section
variable (nb : Vx → List Vx) (ex ok : Vx → Bool) (s : Vx)
def Ed (x y : Vx) : Prop := y ∈ nb x ∧ ex x = true ∧ ok y = true
inductive Pth : List Vx → Vx → Prop
  | one : Pth [s] s
  | snoc {q : List Vx} {y z : Vx} : Pth q y → Ed nb ex ok y z → Pth (q ++ [z]) z
abbrev PT := List (Vx × List Vx)
def inP (M : PT) (z : Vx) : Bool := M.any fun p => decide (p.1 = z)
def atP (M : PT) (z : Vx) : List Vx := match M.find? fun p => decide (p.1 = z) with
  | some p => p.2
  | Option.none => []
def st (S : PT × List Vx) (e : Vx × Vx) : PT × List Vx := if (ok e.2 && !inP S.1 e.2) = true then (S.1 ++ [(e.2, atP S.1 e.1 ++ [e.2])], S.2 ++ [e.2]) else S
def row (x : Vx) : List (Vx × Vx) := if ex x = true then (nb x).map fun z => (x, z) else []
def next (S : PT × List Vx) : PT × List Vx := (S.2.flatMap (row nb ex)).foldl (st ok) (S.1, [])
def lay : Nat → PT × List Vx
  | 0 => ([(s, [s])], [s])
  | k + 1 => next nb ex ok (lay k)
theorem inP_iff {M : PT} {z : Vx} : inP M z = true ↔ ∃ p, (z, p) ∈ M := by
  unfold inP
  rw [List.any_eq_true]
  exact ⟨fun ⟨p, h, e⟩ => ⟨p.2, by rw [← of_decide_eq_true e]; exact h⟩, fun ⟨p, h⟩ => ⟨(z, p), h, decide_eq_true rfl⟩⟩
theorem key_uniq : ∀ {M : PT}, (M.map Prod.fst).Nodup → ∀ {z p q}, (z, p) ∈ M → (z, q) ∈ M → p = q
  | m :: M, nd, z, p, q, h1, h2 => by
    rw [List.map_cons, List.nodup_cons] at nd
    rcases List.mem_cons.mp h1 with e1 | h1
    · rcases List.mem_cons.mp h2 with e2 | h2
      · rw [← e1] at e2
        exact (Prod.mk.inj e2).2.symm
      · exact absurd (List.mem_map.mpr ⟨_, h2, by rw [← e1]⟩) nd.1
    · rcases List.mem_cons.mp h2 with e2 | h2
      · exact absurd (List.mem_map.mpr ⟨_, h1, by rw [← e2]⟩) nd.1
      · exact key_uniq nd.2 h1 h2
theorem atP_of {M : PT} (nd : (M.map Prod.fst).Nodup) {z : Vx} {p : List Vx} (h : (z, p) ∈ M) : atP M z = p := by
  unfold atP
  split
  · rename_i q hq
    have h1 := List.mem_of_find?_eq_some hq
    have h2 : q.1 = z := of_decide_eq_true (List.find?_some (p := fun p : Vx × List Vx => decide (p.1 = z)) hq)
    refine key_uniq nd (z := z) ?_ h
    rw [← h2]
    exact h1
  · rename_i hq
    rw [List.find?_eq_none] at hq
    exact absurd (decide_eq_true rfl) (hq _ h)
/-- what is known after k layers -/
structure BI (k : Nat) (M : PT) (F : List Vx) : Prop where
  pth : ∀ z p, (z, p) ∈ M → Pth nb ex ok s p z ∧ p.length ≤ k + 1
  nd : (M.map Prod.fst).Nodup
  min : ∀ z q, Pth nb ex ok s q z → q.length ≤ k + 1 → ∃ p, (z, p) ∈ M ∧ (p.length < q.length ∨ p.length = q.length ∧ LeL (cd p) (cd q))
  fr : ∀ z, z ∈ F ↔ ∃ p, (z, p) ∈ M ∧ p.length = k + 1
  so : F.Pairwise fun x y => ∀ p q, (x, p) ∈ M → (y, q) ∈ M → lexLt (cd p) (cd q)
theorem pth_ne {q : List Vx} {z : Vx} (h : Pth nb ex ok s q z) : 0 < q.length := by
  cases h with
  | one => simp
  | snoc _ _ => simp
theorem bi_0 : BI nb ex ok s 0 [(s, [s])] [s] where
  pth := fun z p h => by
    rw [List.mem_singleton] at h
    cases h
    exact ⟨.one, by simp⟩
  nd := by simp
  min := fun z q hq hl => by
    cases hq with
    | one => exact ⟨[s], by simp, .inr ⟨rfl, .inl rfl⟩⟩
    | snoc h _ =>
      have := pth_ne nb ex ok s h
      rw [List.length_append, List.length_singleton] at hl
      omega
  fr := fun z => by
    rw [List.mem_singleton]
    exact ⟨fun e => ⟨[s], by rw [e]; simp, rfl⟩, fun ⟨p, h, _⟩ => by
      rw [List.mem_singleton] at h
      exact (Prod.mk.inj h).1⟩
  so := by simp
/-- what is known within a layer -/
structure BJ (M : PT) (D : List (Vx × Vx)) (S : PT × List Vx) : Prop where
  nn : ∃ N : PT, S = (M ++ N, N.map Prod.fst) ∧ (∀ z p, (z, p) ∈ N → ∃ x, (x, z) ∈ D ∧ p = atP M x ++ [z] ∧ ok z = true) ∧ N.Pairwise fun a b => lexLt (cd a.2) (cd b.2)
  nd : (S.1.map Prod.fst).Nodup
  got : ∀ e ∈ D, ok e.2 = true → ∃ p, (e.2, p) ∈ S.1 ∧ ((e.2, p) ∈ M ∨ LeL (cd p) (cd (atP M e.1 ++ [e.2])))
theorem bj_go {M : PT} (ndM : (M.map Prod.fst).Nodup) {PP : List (Vx × Vx)} (hP : ∀ e ∈ PP, ∃ p, (e.1, p) ∈ M) (inj : ∀ e ∈ PP, ∀ f ∈ PP, TS.code 6 e.2 = TS.code 6 f.2 → e.2 = f.2)
    (so : PP.Pairwise fun e f => LeL (cd (atP M e.1 ++ [e.2])) (cd (atP M f.1 ++ [f.2]))) : ∀ (rest D : List (Vx × Vx)) (S : PT × List Vx), D ++ rest = PP → BJ ok M D S → BJ ok M PP (rest.foldl (st ok) S)
  | [], D, S, e, h => by
    rw [List.append_nil] at e
    rw [← e]
    exact h
  | f :: rest, D, S, e, h => by
    rw [List.foldl_cons]
    refine bj_go ndM hP inj so rest (D ++ [f]) _ (by rw [List.append_assoc]; exact e) ?_
    obtain ⟨⟨N, rfl, hN, pN⟩, nd, got⟩ := h
    have fP : f ∈ PP := by rw [← e]; simp
    have dP : ∀ g ∈ D, g ∈ PP := fun g hg => by rw [← e]; exact List.mem_append_left _ hg
    have le : ∀ g ∈ D, LeL (cd (atP M g.1 ++ [g.2])) (cd (atP M f.1 ++ [f.2])) := fun g hg => by
      rw [← e] at so
      exact (List.pairwise_append.mp so).2.2 g hg f List.mem_cons_self
    unfold st
    by_cases c : (ok f.2 && !inP (M ++ N) f.2) = true
    · rw [if_pos c]
      rw [Bool.and_eq_true] at c
      obtain ⟨c1, c2⟩ := c
      have c2 : inP (M ++ N) f.2 = false := by simpa using c2
      obtain ⟨px, hpx⟩ := hP f fP
      have e1 : atP (M ++ N) f.1 = atP M f.1 := by rw [atP_of nd (List.mem_append_left _ hpx), atP_of ndM hpx]
      have new : ∀ p, (f.2, p) ∉ M ++ N := fun p hp => by
        rw [inP_iff.mpr ⟨p, hp⟩] at c2
        cases c2
      refine ⟨⟨N ++ [(f.2, atP M f.1 ++ [f.2])], ?_, ?_, ?_⟩, ?_, ?_⟩
      · show (M ++ N ++ [(f.2, atP (M ++ N) f.1 ++ [f.2])], N.map Prod.fst ++ [f.2]) = _
        rw [e1, List.append_assoc, List.map_append]
        rfl
      · intro z p hz
        rcases List.mem_append.mp hz with hz | hz
        · obtain ⟨x, h1, h2⟩ := hN z p hz
          exact ⟨x, List.mem_append_left _ h1, h2⟩
        · rw [List.mem_singleton] at hz
          cases hz
          exact ⟨f.1, List.mem_append_right _ (by simp), rfl, c1⟩
      · rw [List.pairwise_append]
        refine ⟨pN, by simp, fun a ha b hb => ?_⟩
        rw [List.mem_singleton] at hb
        subst hb
        obtain ⟨z, p⟩ := a
        obtain ⟨x, h1, rfl, _⟩ := hN z p ha
        rcases le _ h1 with q | q
        · exfalso
          rw [cd_snoc, cd_snoc] at q
          have q2 := (List.append_inj' q rfl).2
          injection q2 with q2 _
          have q3 : z = f.2 := inj _ (dP _ h1) f fP q2
          refine new (atP M x ++ [z]) (List.mem_append_right M ?_)
          rw [← q3]
          exact ha
        · exact q
      · show ((M ++ N ++ [(f.2, _)]).map Prod.fst).Nodup
        rw [List.map_append, List.nodup_append]
        refine ⟨nd, by simp, fun a ha b hb => ?_⟩
        have hb : b = f.2 := by simpa using hb
        rintro rfl
        obtain ⟨⟨z, p⟩, h1, h2⟩ := List.mem_map.mp ha
        have h2 : z = a := h2
        rw [h2, hb] at h1
        exact new p h1
      · intro g hg hk
        rcases List.mem_append.mp hg with hg | hg
        · obtain ⟨p, h1, h2⟩ := got g hg hk
          exact ⟨p, List.mem_append_left _ h1, h2⟩
        · rw [List.mem_singleton] at hg
          subst hg
          exact ⟨atP (M ++ N) g.1 ++ [g.2], List.mem_append_right _ (by simp), .inr (.inl (by rw [e1]))⟩
    · rw [if_neg c]
      refine ⟨⟨N, rfl, fun z p hz => ?_, pN⟩, nd, fun g hg hk => ?_⟩
      · obtain ⟨x, h1, h2⟩ := hN z p hz
        exact ⟨x, List.mem_append_left _ h1, h2⟩
      · rcases List.mem_append.mp hg with hg | hg
        · exact got g hg hk
        · rw [List.mem_singleton] at hg
          subst hg
          have c2 : inP (M ++ N) g.2 = true := by
            cases z : inP (M ++ N) g.2 with
            | true => rfl
            | false => exact absurd (by rw [hk, z]; rfl) c
          obtain ⟨p, hp⟩ := inP_iff.mp c2
          refine ⟨p, hp, ?_⟩
          rcases List.mem_append.mp hp with hp | hp
          · exact .inl hp
          · obtain ⟨x, h1, rfl, _⟩ := hN _ p hp
            exact .inr (le _ h1)
theorem mem_row {x : Vx} {e : Vx × Vx} : e ∈ row nb ex x ↔ e.1 = x ∧ e.2 ∈ nb x ∧ ex x = true := by
  unfold row
  split
  · rename_i c
    rw [List.mem_map]
    exact ⟨fun ⟨z, h, q⟩ => by rw [← q]; exact ⟨rfl, h, c⟩, fun ⟨h1, h2, _⟩ => ⟨e.2, h2, by rw [← h1]⟩⟩
  · rename_i c
    exact ⟨fun h => (by cases h), fun h => absurd h.2.2 c⟩
theorem bi_s {k : Nat} {M : PT} {F : List Vx} (asc : ∀ x, (nb x).Pairwise fun a b => TS.code 6 a ≤ TS.code 6 b) (V : List Vx) (hV : ∀ x ∈ F, ∀ z ∈ nb x, z ∈ V) (inj : ∀ a ∈ V, ∀ b ∈ V, TS.code 6 a = TS.code 6 b → a = b)
    (h : BI nb ex ok s k M F) : BI nb ex ok s (k + 1) (next nb ex ok (M, F)).1 (next nb ex ok (M, F)).2 ∧ ∃ N : PT, (next nb ex ok (M, F)).1 = M ++ N ∧ (next nb ex ok (M, F)).2 = N.map Prod.fst := by
  have inF : ∀ {e : Vx × Vx}, e ∈ F.flatMap (row nb ex) → e.1 ∈ F ∧ e.2 ∈ nb e.1 ∧ ex e.1 = true := fun he => by
    obtain ⟨x, hx, hr⟩ := List.mem_flatMap.mp he
    obtain ⟨h1, h2, h3⟩ := (mem_row nb ex).mp hr
    rw [h1]
    exact ⟨hx, h2, h3⟩
  have hP : ∀ e ∈ F.flatMap (row nb ex), ∃ p, (e.1, p) ∈ M := fun e he => by
    obtain ⟨p, hp, _⟩ := (h.fr e.1).mp (inF he).1
    exact ⟨p, hp⟩
  have so : (F.flatMap (row nb ex)).Pairwise fun e f => LeL (cd (atP M e.1 ++ [e.2])) (cd (atP M f.1 ++ [f.2])) := by
    rw [List.pairwise_flatMap]
    refine ⟨fun x hx => ?_, ?_⟩
    · unfold row
      split
      · rw [List.pairwise_map]
        refine (asc x).imp fun {a b} hab => ?_
        show LeL (cd (atP M x ++ [a])) (cd (atP M x ++ [b]))
        rw [cd_snoc, cd_snoc]
        exact LeL_snoc (.inl rfl) hab
      · exact List.Pairwise.nil
    · have so := h.so
      have so2 : F.Pairwise fun x y => lexLt (cd (atP M x)) (cd (atP M y)) := by
        refine List.Pairwise.imp_of_mem (fun {x y} hx hy z => ?_) so
        obtain ⟨p, hp, _⟩ := (h.fr x).mp hx
        obtain ⟨q, hq, _⟩ := (h.fr y).mp hy
        rw [atP_of h.nd hp, atP_of h.nd hq]
        exact z p q hp hq
      refine so2.imp fun {x y} z e he f hf => ?_
      rw [((mem_row nb ex).mp he).1, ((mem_row nb ex).mp hf).1, cd_snoc, cd_snoc]
      exact .inr (lexLt_snoc z)
  have J := bj_go ok h.nd hP (fun e he f hf z => inj _ (hV _ (inF he).1 _ (inF he).2.1) _ (hV _ (inF hf).1 _ (inF hf).2.1) z) so (F.flatMap (row nb ex)) [] (M, []) rfl
    ⟨⟨[], by rw [List.append_nil]; rfl, fun z p hz => (by cases hz), List.Pairwise.nil⟩, h.nd, fun e he => (by cases he)⟩
  have J : BJ ok M (F.flatMap (row nb ex)) (next nb ex ok (M, F)) := J
  obtain ⟨⟨N, eS, hN, pN⟩, nd, got⟩ := J
  rw [eS] at nd got ⊢
  have nN : ∀ z p, (z, p) ∈ N → Pth nb ex ok s p z ∧ p.length = k + 2 := fun z p hz => by
    obtain ⟨x, h1, rfl, hk⟩ := hN z p hz
    obtain ⟨f1, f2, f3⟩ := inF h1
    obtain ⟨px, hp, hl⟩ := (h.fr x).mp f1
    rw [atP_of h.nd hp]
    exact ⟨.snoc (h.pth x px hp).1 ⟨f2, f3, hk⟩, by rw [List.length_append, List.length_singleton, hl]⟩
  refine ⟨⟨fun z p hz => ?_, nd, fun z q hq hl => ?_, fun z => ?_, ?_⟩, N, rfl, rfl⟩
  · rcases List.mem_append.mp hz with hz | hz
    · obtain ⟨h1, h2⟩ := h.pth z p hz
      exact ⟨h1, by omega⟩
    · obtain ⟨h1, h2⟩ := nN z p hz
      exact ⟨h1, by omega⟩
  · by_cases c : q.length ≤ k + 1
    · obtain ⟨p, h1, h2⟩ := h.min z q hq c
      exact ⟨p, List.mem_append_left _ h1, h2⟩
    · cases hq with
      | one =>
        rw [List.length_singleton] at c
        omega
      | @snoc q' y _ h1 e1 =>
        rw [List.length_append, List.length_singleton] at c hl
        obtain ⟨py, hy, hc⟩ := h.min y q' h1 (by omega)
        have ppy := h.pth y py hy
        rcases hc with hc | ⟨hc, hle⟩
        · obtain ⟨pz, hz, hlz⟩ := h.min z (py ++ [z]) (.snoc ppy.1 e1) (by rw [List.length_append, List.length_singleton]; omega)
          rw [List.length_append, List.length_singleton] at hlz
          refine ⟨pz, List.mem_append_left _ hz, .inl ?_⟩
          rw [List.length_append, List.length_singleton]
          omega
        · have yF : y ∈ F := (h.fr y).mpr ⟨py, hy, by omega⟩
          obtain ⟨p, g1, g2⟩ := got (y, z) (List.mem_flatMap.mpr ⟨y, yF, (mem_row nb ex).mpr ⟨rfl, e1.1, e1.2.1⟩⟩) e1.2.2
          have old : (z, p) ∈ M → p.length < (q' ++ [z]).length := fun hz => by
            have := (h.pth z p hz).2
            rw [List.length_append, List.length_singleton]
            omega
          refine ⟨p, g1, ?_⟩
          rcases g2 with g2 | g2
          · exact .inl (old g2)
          · rcases List.mem_append.mp g1 with g1 | g1
            · exact .inl (old g1)
            · refine .inr ⟨?_, ?_⟩
              · rw [(nN z p g1).2, List.length_append, List.length_singleton]
                omega
              · have g2 : LeL (cd p) (cd (atP M y ++ [z])) := g2
                rw [atP_of h.nd hy] at g2
                refine g2.trans ?_
                rw [cd_snoc, cd_snoc]
                exact LeL_snoc hle (Int.le_refl _)
  · show z ∈ N.map Prod.fst ↔ _
    rw [List.mem_map]
    constructor
    · rintro ⟨⟨z', p⟩, h1, rfl⟩
      exact ⟨p, List.mem_append_right _ h1, (nN _ p h1).2⟩
    · rintro ⟨p, h1, h2⟩
      rcases List.mem_append.mp h1 with h1 | h1
      · have := (h.pth z p h1).2
        omega
      · exact ⟨(z, p), h1, rfl⟩
  · show (N.map Prod.fst).Pairwise _
    rw [List.pairwise_map]
    refine List.Pairwise.imp_of_mem (fun {a b} ha hb z p q hp hq => ?_) pN
    have e1 := key_uniq nd hp (List.mem_append_right M (show (a.1, a.2) ∈ N from ha))
    have e2 := key_uniq nd hq (List.mem_append_right M (show (b.1, b.2) ∈ N from hb))
    rw [e1, e2]
    exact z
end
end M17

/-! two searches, from either end. -/
namespace M17
open PySem PySem.Spec PyProof.Rows L2 On Du M16
section
variable {nb : Vx → List Vx} {ex ok : Vx → Bool} {s : Vx}
/-- what stands on a search: things that are told apart by their codes, steps within them, ascending -/
structure Gr (V : List Vx) (nb : Vx → List Vx) (s : Vx) : Prop where
  asc : ∀ x, (nb x).Pairwise fun a b => TS.code 6 a ≤ TS.code 6 b
  inn : ∀ x ∈ V, ∀ z ∈ nb x, z ∈ V
  inj : ∀ a ∈ V, ∀ b ∈ V, TS.code 6 a = TS.code 6 b → a = b
  st : s ∈ V
theorem lay_ok {V : List Vx} (G : Gr V nb s) : ∀ k, BI nb ex ok s k (lay nb ex ok s k).1 (lay nb ex ok s k).2 ∧ (∀ z p, (z, p) ∈ (lay nb ex ok s k).1 → z ∈ V) ∧ ((lay nb ex ok s k).2 ≠ [] → k + 1 ≤ (lay nb ex ok s k).1.length)
  | 0 => ⟨bi_0 nb ex ok s, fun z p h => by
      have h : (z, p) ∈ [(s, [s])] := h
      rw [List.mem_singleton] at h
      cases h
      exact G.st, fun _ => Nat.le_refl _⟩
  | k + 1 => by
    obtain ⟨B, hV, hl⟩ := lay_ok G k
    have eS : ((lay nb ex ok s k).1, (lay nb ex ok s k).2) = lay nb ex ok s k := rfl
    have FV : ∀ x ∈ (lay nb ex ok s k).2, x ∈ V := fun x hx => by
      obtain ⟨p, hp, _⟩ := (B.fr x).mp hx
      exact hV x p hp
    obtain ⟨B', N, e1, e2⟩ := bi_s nb ex ok s G.asc V (fun x hx z hz => G.inn x (FV x hx) z hz) G.inj B
    rw [eS] at B' e1 e2
    refine ⟨B', fun z p h => ?_, fun hF => ?_⟩
    · obtain ⟨h1, h2⟩ := B'.pth z p h
      cases h1 with
      | one => exact G.st
      | @snoc q y _ hq he =>
        obtain ⟨py, hy, _⟩ := B.min y q hq (by rw [List.length_append, List.length_singleton] at h2; omega)
        exact G.inn y (hV y py hy) z he.1
    · have e1' : (lay nb ex ok s (k + 1)).1 = (lay nb ex ok s k).1 ++ N := e1
      have e2' : (lay nb ex ok s (k + 1)).2 = N.map Prod.fst := e2
      rw [e2'] at hF
      rw [e1', List.length_append]
      have nN : 0 < N.length := List.length_pos_iff.mpr fun z => hF (by rw [z]; rfl)
      have : (lay nb ex ok s k).2 ≠ [] := fun z => by
        have w : lay nb ex ok s (k + 1) = ((lay nb ex ok s k).1, []) := by
          show next nb ex ok (lay nb ex ok s k) = _
          unfold next
          rw [z]
          rfl
        rw [w] at e2'
        have e3 : ([] : List Vx) = N.map Prod.fst := e2'
        exact hF e3.symm
      have := hl this
      omega
/-- with nothing ahead all is found -/
theorem all_found {k : Nat} {M : PT} (B : BI nb ex ok s k M []) : ∀ {q z}, Pth nb ex ok s q z → ∃ p, (z, p) ∈ M ∧ p.length ≤ q.length := fun {q z} h => by
  induction h with
  | one =>
    obtain ⟨p, h1, h2⟩ := B.min s [s] .one (by simp)
    exact ⟨p, h1, by omega⟩
  | @snoc q y z h e ih =>
    obtain ⟨py, h1, h2⟩ := ih
    obtain ⟨h3, h4⟩ := B.pth y py h1
    have h5 : py.length ≠ k + 1 := fun w => by
      have := (B.fr y).mpr ⟨py, h1, w⟩
      cases this
    obtain ⟨p, h6, h7⟩ := B.min z (py ++ [z]) (.snoc h3 e) (by rw [List.length_append, List.length_singleton]; omega)
    refine ⟨p, h6, ?_⟩
    rw [List.length_append, List.length_singleton] at h7 ⊢
    omega
/-- a part of a way -/
theorem pth_part : ∀ {q z}, Pth nb ex ok s q z → ∀ v ∈ q.dropLast, ∃ q1, Pth nb ex ok s q1 v ∧ q1.length < q.length := fun {q z} h => by
  induction h with
  | one => exact fun v hv => by cases hv
  | @snoc q y z h e ih =>
    intro v hv
    rw [List.dropLast_concat] at hv
    by_cases c : v ∈ q.dropLast
    · obtain ⟨q1, h1, h2⟩ := ih v c
      exact ⟨q1, h1, by rw [List.length_append, List.length_singleton]; omega⟩
    · have : v = y := by
        cases h with
        | one =>
          rw [List.mem_singleton] at hv
          exact hv
        | snoc h' e' =>
          rw [List.dropLast_concat] at c
          rcases List.mem_append.mp hv with w | w
          · exact absurd w c
          · rw [List.mem_singleton] at w
            exact w
      subst this
      exact ⟨q, h, by rw [List.length_append, List.length_singleton]; omega⟩
end
section
variable {out inn : Vx → List Vx} {B : Vx → Bool} {one other : Vx}
/-- on: from the start; back: from the end -/
abbrev exF (one : Vx) (B : Vx → Bool) : Vx → Bool := fun x => decide (x = one) || !B x
abbrev okF (other : Vx) (B : Vx → Bool) : Vx → Bool := fun y => decide (y = other) || !B y
abbrev On' (out : Vx → List Vx) (B : Vx → Bool) (one other : Vx) := Pth out (exF one B) (okF other B) one
abbrev Bk' (inn : Vx → List Vx) (B : Vx → Bool) (one other : Vx) := Pth inn (fun _ => true) (exF one B) other
theorem join (du : ∀ x y, y ∈ inn x → x ∈ out y) : ∀ {q y}, Bk' inn B one other q y → (∀ v ∈ q.dropLast, v ≠ one) → ∀ {r}, On' out B one other r y → ∃ t, On' out B one other (r ++ t) other ∧ t.length + 1 = q.length := fun {q y} h => by
  induction h with
  | one => exact fun _ r hr => ⟨[], by rw [List.append_nil]; exact hr, rfl⟩
  | @snoc q y z h e ih =>
    intro hv r hr
    rw [List.dropLast_concat] at hv
    have yq : y ∈ q := by
      cases h with
      | one => simp
      | snoc _ _ => simp
    have oy : okF other B y = true := by
      cases h with
      | one => simp
      | snoc _ e' =>
        have w := e'.2.2
        have n := hv y yq
        simp only [Bool.or_eq_true, decide_eq_true_eq] at w ⊢
        rcases w with w | w
        · exact absurd w n
        · exact .inr w
    have e2 : Ed out (exF one B) (okF other B) z y := ⟨du y z e.1, e.2.2, oy⟩
    obtain ⟨t, h1, h2⟩ := ih (fun v w => hv v (List.dropLast_subset _ w)) (.snoc hr e2)
    exact ⟨y :: t, by rw [List.append_assoc] at h1; exact h1, by rw [List.length_cons, List.length_append, List.length_singleton, h2]⟩
/-- a way on, the other way about -/
theorem turn (du : ∀ x y, y ∈ out x → x ∈ inn y) : ∀ {P y}, On' out B one other P y → ∀ {q}, Bk' inn B one other q y → ∀ i, (h : i < P.length) → ∃ q1, Bk' inn B one other q1 P[i] ∧ q1.length = q.length + (P.length - 1 - i) := fun {P y} h => by
  induction h with
  | one =>
    intro q hq i hi
    have : i = 0 := by simpa using hi
    subst this
    exact ⟨q, hq, by simp⟩
  | @snoc P y z h e ih =>
    intro q hq i hi
    rw [List.length_append, List.length_singleton] at hi
    by_cases c : i < P.length
    · obtain ⟨q1, h1, h2⟩ := ih (.snoc hq ⟨du y z e.1, rfl, e.2.1⟩) i c
      refine ⟨q1, by rw [List.getElem_append_left c]; exact h1, ?_⟩
      rw [h2, List.length_append, List.length_append, List.length_singleton, List.length_singleton]
      omega
    · have w : i = P.length := by omega
      subst w
      refine ⟨q, by rw [List.getElem_concat_length rfl]; exact hq, ?_⟩
      rw [List.length_append, List.length_singleton]
      omega
theorem on_head {P : List Vx} {y : Vx} (h : On' out B one other P y) : P.head? = some one ∧ P.getLast? = some y := by
  induction h with
  | one => exact ⟨rfl, rfl⟩
  | snoc h e ih =>
    refine ⟨?_, by simp⟩
    rw [List.head?_append, ih.1]
    rfl
/-- the first part of a way on -/
theorem on_take {P : List Vx} {y : Vx} (h : On' out B one other P y) : ∀ i, (hi : i < P.length) → On' out B one other (P.take (i + 1)) P[i] := by
  induction h with
  | one =>
    intro i hi
    have : i = 0 := by simpa using hi
    subst this
    exact .one
  | @snoc P y z h e ih =>
    intro i hi
    rw [List.length_append, List.length_singleton] at hi
    by_cases c : i < P.length
    · rw [List.take_append_of_le_length (by omega), List.getElem_append_left c]
      exact ih i c
    · have w : i = P.length := by omega
      subst w
      rw [List.take_of_length_le (by simp), List.getElem_concat_length rfl]
      exact .snoc h e
theorem on_edge {P : List Vx} {y : Vx} (h : On' out B one other P y) : ∀ i, (hi : i + 1 < P.length) → Ed out (exF one B) (okF other B) P[i] P[i + 1] := by
  induction h with
  | one => exact fun i hi => by simp at hi
  | @snoc P y z h e ih =>
    intro i hi
    rw [List.length_append, List.length_singleton] at hi
    by_cases c : i + 1 < P.length
    · rw [List.getElem_append_left c, List.getElem_append_left (by omega)]
      exact ih i c
    · have w : i + 1 = P.length := by omega
      have l := (on_head h).2
      rw [List.getLast?_eq_getElem?, ← w, Nat.add_sub_cancel, List.getElem?_eq_getElem (by omega)] at l
      rw [List.getElem_append_left (by omega), Option.some.inj l]
      have : (P ++ [z])[i + 1]'(by rw [List.length_append, List.length_singleton]; omega) = z := by
        rw [List.getElem_append_right (by omega)]
        simp [w]
      rw [this]
      exact e
end
end M17

/-! the two searches come to one way. -/
namespace M17
open PySem PySem.Spec PyProof.Rows L2 On Du M16
/-- how long the way to a thing is that was found -/
def lenAt (M : PT) (z : Vx) : Option Nat := match M.find? fun p => decide (p.1 = z) with
  | some p => some p.2.length
  | Option.none => Option.none
theorem lenAt_of {M : PT} (nd : (M.map Prod.fst).Nodup) {z : Vx} {p : List Vx} (h : (z, p) ∈ M) : lenAt M z = some p.length := by
  unfold lenAt
  split
  · rename_i q hq
    have h1 := List.mem_of_find?_eq_some hq
    have h2 : q.1 = z := of_decide_eq_true (List.find?_some (p := fun p : Vx × List Vx => decide (p.1 = z)) hq)
    have e : q.2 = p := key_uniq nd (z := z) (by rw [← h2]; exact h1) h
    rw [e]
  · rename_i hq
    rw [List.find?_eq_none] at hq
    exact absurd (decide_eq_true rfl) (hq _ h)
theorem lenAt_some {M : PT} {z : Vx} {n : Nat} (h : lenAt M z = some n) : ∃ p, (z, p) ∈ M ∧ p.length = n := by
  unfold lenAt at h
  split at h
  · rename_i q hq
    have h1 := List.mem_of_find?_eq_some hq
    have h2 : q.1 = z := of_decide_eq_true (List.find?_some (p := fun p : Vx × List Vx => decide (p.1 = z)) hq)
    cases h
    exact ⟨q.2, by rw [← h2]; exact h1, rfl⟩
  · cases h
section
variable {out inn : Vx → List Vx} {B : Vx → Bool} {one other : Vx} {V : List Vx} {k k' : Nat} {M M' : PT} {F F' : List Vx}
theorem min_le {nb : Vx → List Vx} {ex ok : Vx → Bool} {s : Vx} (H : BI nb ex ok s k M F) {z : Vx} {p q : List Vx} (h : (z, p) ∈ M) (hq : Pth nb ex ok s q z) : p.length ≤ q.length ∧ (p.length = q.length → LeL (cd p) (cd q)) := by
  have hp := (H.pth z p h).2
  by_cases c : q.length ≤ k + 1
  · obtain ⟨p', h1, h2⟩ := H.min z q hq c
    rw [key_uniq H.nd h h1]
    rcases h2 with h2 | ⟨h2, h3⟩
    · exact ⟨by omega, fun e => by omega⟩
    · exact ⟨by omega, fun _ => h3⟩
  · exact ⟨by omega, fun e => by omega⟩
theorem no_one (H' : BI inn (fun _ => true) (exF one B) other k' M' F') {p : List Vx} (h : (one, p) ∈ M') : ∀ v ∈ p.dropLast, v ≠ one := fun v hv e => by
  subst e
  obtain ⟨q1, h1, h2⟩ := pth_part (H'.pth _ _ h).1 v hv
  have := (min_le H' h h1).1
  omega
theorem main_none (du : ∀ x y, y ∈ inn x → x ∈ out y) (H : BI out (exF one B) (okF other B) one k M []) (H' : BI inn (fun _ => true) (exF one B) other k' M' F') (h : ∀ p, (other, p) ∉ M) : ∀ p, (one, p) ∉ M' := fun p hp => by
  obtain ⟨t, h1, _⟩ := join (out := out) du (H'.pth _ _ hp).1 (no_one H' hp) .one
  obtain ⟨q, h2, _⟩ := all_found H h1
  exact h q h2
theorem main_some (du : ∀ x y, y ∈ inn x ↔ x ∈ out y) (G : Gr V out one) (H : BI out (exF one B) (okF other B) one k M F) (hV : ∀ z p, (z, p) ∈ M → z ∈ V) (H' : BI inn (fun _ => true) (exF one B) other k' M' F') (e' : F' = [] ∨ ∃ p, (one, p) ∈ M') {P : List Vx} (hP : (other, P) ∈ M) :
    (∀ i, (hi : i < P.length) → lenAt M' P[i] = some (P.length - i)) ∧ ∀ i, (hi : i + 1 < P.length) → ((out P[i]).filter fun c => decide (lenAt M' c = some (P.length - i - 1))).head? = some P[i + 1] := by
  have pP := (H.pth _ _ hP).1
  have fnd : ∀ {q y}, Bk' inn B one other q y → q.length ≤ P.length → ∃ p, (y, p) ∈ M' ∧ p.length ≤ q.length := fun {q y} hq hl => by
    rcases e' with e' | ⟨p', hp'⟩
    · subst e'
      exact all_found H' hq
    · obtain ⟨t, h1, h2⟩ := join (out := out) (fun x y h => (du x y).mp h) (H'.pth _ _ hp').1 (no_one H' hp') .one
      have h3 := (min_le H hP h1).1
      rw [List.length_append, List.length_singleton] at h3
      have h4 := (H'.pth _ _ hp').2
      obtain ⟨p, h5, h6⟩ := H'.min y q hq (by omega)
      exact ⟨p, h5, by omega⟩
  have tn : ∀ i, (hi : i < P.length) → ∃ q1, Bk' inn B one other q1 P[i] ∧ q1.length = 1 + (P.length - 1 - i) := fun i hi => by
    obtain ⟨q1, h1, h2⟩ := turn (inn := inn) (fun x y h => (du y x).mpr h) pP (q := [other]) .one i hi
    exact ⟨q1, h1, h2⟩
  have pos : 0 < P.length := pth_ne _ _ _ _ pP
  have hd : P[0] = one := by
    have z := (on_head pP).1
    rw [List.head?_eq_getElem?, List.getElem?_eq_getElem pos] at z
    exact Option.some.inj z
  obtain ⟨p1, hp1, l1⟩ : ∃ p1, (one, p1) ∈ M' ∧ p1.length = P.length := by
    obtain ⟨q1, h1, h2⟩ := tn 0 pos
    rw [hd] at h1
    obtain ⟨p1, h3, h4⟩ := fnd h1 (by omega)
    refine ⟨p1, h3, ?_⟩
    obtain ⟨t, h5, h6⟩ := join (out := out) (fun x y h => (du x y).mp h) (H'.pth _ _ h3).1 (no_one H' h3) .one
    have h7 := (min_le H hP h5).1
    rw [List.length_append, List.length_singleton] at h7
    omega
  have free : ∀ {y q}, (y, q) ∈ M' → q.length ≤ P.length → ∀ v ∈ q.dropLast, v ≠ one := fun {y q} hq hl v hv e => by
    subst e
    obtain ⟨q1, h1, h2⟩ := pth_part (H'.pth _ _ hq).1 v hv
    have := (min_le H' hp1 h1).1
    omega
  have lenI : ∀ i, (hi : i < P.length) → lenAt M' P[i] = some (P.length - i) := fun i hi => by
    obtain ⟨q1, h1, h2⟩ := tn i hi
    obtain ⟨q, h3, h4⟩ := fnd h1 (by omega)
    rw [lenAt_of H'.nd h3]
    obtain ⟨t, h5, h6⟩ := join (out := out) (fun x y h => (du x y).mp h) (H'.pth _ _ h3).1 (free h3 (by omega)) (on_take pP i hi)
    have h7 := (min_le H hP h5).1
    rw [List.length_append, List.length_take] at h7
    exact congrArg some (by omega)
  refine ⟨lenI, fun i hi => ?_⟩
  have eg := on_edge pP i hi
  have inV : P[i] ∈ V := by
    obtain ⟨q, hq⟩ : ∃ q, (P[i], q) ∈ M := by
      have h0 := on_take pP i (by omega)
      obtain ⟨q, h1, _⟩ := H.min _ _ h0 (by
        have := (H.pth _ _ hP).2
        rw [List.length_take]
        omega)
      exact ⟨q, h1⟩
    exact hV _ _ hq
  have zin : P[i + 1] ∈ (out P[i]).filter fun c => decide (lenAt M' c = some (P.length - i - 1)) := List.mem_filter.mpr ⟨eg.1, decide_eq_true (by rw [lenI (i + 1) hi]; exact congrArg some (by omega))⟩
  cases e : (out P[i]).filter fun c => decide (lenAt M' c = some (P.length - i - 1)) with
  | nil =>
    rw [e] at zin
    cases zin
  | cons f fs =>
    have fin : f ∈ (out P[i]).filter fun c => decide (lenAt M' c = some (P.length - i - 1)) := by
      rw [e]
      exact List.mem_cons_self
    obtain ⟨f1, f2⟩ := List.mem_filter.mp fin
    have as := (G.asc P[i]).sublist (List.filter_sublist (p := fun c => decide (lenAt M' c = some (P.length - i - 1))))
    rw [e] at as zin
    have le : TS.code 6 f ≤ TS.code 6 P[i + 1] := by
      rcases List.mem_cons.mp zin with w | w
      · rw [w]
        exact Int.le_refl _
      · exact (List.pairwise_cons.mp as).1 _ w
    show some f = some P[i + 1]
    refine congrArg some ?_
    by_cases c : f = P[i + 1]
    · exact c
    exfalso
    have lt : TS.code 6 f < TS.code 6 P[i + 1] := by
      have : TS.code 6 f ≠ TS.code 6 P[i + 1] := fun w => c (G.inj _ (G.inn _ inV _ f1) _ (G.inn _ inV _ eg.1) w)
      omega
    obtain ⟨q, hq, lq⟩ := lenAt_some (of_decide_eq_true f2)
    have okf : okF other B f = true := by
      have w := (H'.pth _ _ hq).1
      cases w with
      | one => simp
      | snoc _ ee =>
        have w := ee.2.2
        simp only [Bool.or_eq_true, decide_eq_true_eq] at w ⊢
        rcases w with w | w
        · exfalso
          rw [w] at hq
          have := congrArg List.length (key_uniq H'.nd hq hp1)
          simp only [List.length_append, List.length_singleton] at this lq
          omega
        · exact .inr w
    obtain ⟨t, h5, h6⟩ := join (out := out) (fun x y h => (du x y).mp h) (H'.pth _ _ hq).1 (free hq (by omega)) (.snoc (on_take pP i (by omega)) ⟨f1, eg.2.1, okf⟩)
    obtain ⟨h7, h8⟩ := min_le H hP h5
    have h9 := h8 (by
      rw [List.length_append, List.length_append, List.length_take, List.length_singleton]
      omega)
    have eP : P = P.take (i + 1) ++ P[i + 1] :: P.drop (i + 2) := by
      rw [← List.drop_eq_getElem_cons hi, List.take_append_drop]
    have h10 : lexLt (cd (P.take (i + 1) ++ [f] ++ t)) (cd P) := by
      have w : cd P = cd (P.take (i + 1)) ++ TS.code 6 P[i + 1] :: cd (P.drop (i + 2)) := by
        conv => lhs; rw [eP]
        unfold cd
        rw [List.map_append]
        rfl
      have w2 : cd (P.take (i + 1) ++ [f] ++ t) = cd (P.take (i + 1)) ++ TS.code 6 f :: cd t := by
        unfold cd
        rw [List.append_assoc, List.map_append]
        rfl
      rw [w, w2]
      exact lexLt_pre _ (.inl lt)
    rcases h9 with h9 | h9
    · rw [← h9] at h10
      exact lexLt_irr _ h10
    · exact lexLt_irr _ (lexLt_trans h9 h10)
end
end M17

/-! the search on a bench. -/
namespace M17
open PySem PySem.Spec PyProof.Rows L2 On Du M16
def outV (b : List Pl) (x : Vx) : List Vx := if x ∈ contents b then srt (outs b x) else []
def inV (b : List Pl) (x : Vx) : List Vx := if x ∈ contents b then srt (ins b x) else []
theorem mem_srt {L : List Vx} {x : Vx} : x ∈ srt L ↔ x ∈ L := (srt_perm L).mem_iff
theorem mem_out {b : List Pl} {x y : Vx} : y ∈ outV b x ↔ x ∈ contents b ∧ y ∈ outs b x := by
  unfold outV
  split
  · rename_i c
    rw [mem_srt]
    exact ⟨fun h => ⟨c, h⟩, fun h => h.2⟩
  · rename_i c
    exact ⟨fun h => (by cases h), fun h => absurd h.1 c⟩
theorem out_in {b : List Pl} (hb : Bok b) {x y : Vx} (h : x ∈ contents b) (hy : y ∈ outs b x) : y ∈ contents b := steps_in (fun p hp q hq => (hb.mv p hp q hq).2) h hy
theorem in_in {b : List Pl} (hb : Bok b) {x y : Vx} (h : x ∈ contents b) (hy : y ∈ ins b x) : y ∈ contents b := steps_in (fun p hp q hq => (hb.mv p hp q hq).1) h hy
theorem dual {b : List Pl} (hb : Bok b) {x y : Vx} (hy : y ∈ contents b) : x ∈ ins b y ↔ x ∈ contents b ∧ y ∈ outs b x := by
  rw [← (back_perm hb hy).mem_iff]
  unfold bkL
  rw [List.take_length, List.mem_flatMap]
  constructor
  · rintro ⟨o, h1, h2⟩
    obtain ⟨t, h3, rfl⟩ := List.mem_map.mp h2
    obtain ⟨h4, h5⟩ := List.mem_filter.mp h3
    rw [of_decide_eq_true h5] at h4
    exact ⟨h1, mem_srt.mp h4⟩
  · rintro ⟨h1, h2⟩
    exact ⟨x, h1, List.mem_map.mpr ⟨y, List.mem_filter.mpr ⟨mem_srt.mpr h2, decide_eq_true rfl⟩, rfl⟩⟩
theorem mem_in {b : List Pl} (hb : Bok b) {x y : Vx} : x ∈ inV b y ↔ y ∈ outV b x := by
  rw [mem_out]
  unfold inV
  split
  · rename_i c
    rw [mem_srt]
    exact dual hb c
  · rename_i c
    exact ⟨fun h => (by cases h), fun h => absurd (out_in hb h.1 h.2) c⟩
theorem cd_inj {b : List Pl} (hb : Bok b) : ∀ x ∈ contents b, ∀ y ∈ contents b, TS.code 6 x = TS.code 6 y → x = y := fun x hx y hy e => by
  have h1 := con_of hb hx
  have h2 := con_of hb hy
  exact code_inj (h1.len.trans h2.len.symm) h1.bd h2.bd e
theorem gr_out {b : List Pl} (hb : Bok b) {s : Vx} (hs : s ∈ contents b) : Gr (contents b) (outV b) s where
  asc := fun x => by
    unfold outV
    split
    · exact srt_pw _
    · exact List.Pairwise.nil
  inn := fun x hx z hz => out_in hb hx (mem_out.mp hz).2
  inj := cd_inj hb
  st := hs
theorem gr_in {b : List Pl} (hb : Bok b) {s : Vx} (hs : s ∈ contents b) : Gr (contents b) (inV b) s where
  asc := fun x => by
    unfold inV
    split
    · exact srt_pw _
    · exact List.Pairwise.nil
  inn := fun x hx z hz => by
    unfold inV at hz
    rw [if_pos hx, mem_srt] at hz
    exact in_in hb hx hz
  inj := cd_inj hb
  st := hs
theorem len_sub {α : Type} [DecidableEq α] : ∀ (l D : List α), l.Nodup → (∀ x ∈ l, x ∈ D) → l.length ≤ D.length
  | [], D, _, _ => Nat.zero_le _
  | x :: l, D, hn, hs => by
    obtain ⟨h1, h2⟩ := List.nodup_cons.mp hn
    have hx : x ∈ D := hs x List.mem_cons_self
    have ih := len_sub l (D.erase x) h2 fun y hy => by
      have hne : y ≠ x := fun e => h1 (e ▸ hy)
      exact (List.mem_erase_of_ne hne).mpr (hs y (List.mem_cons_of_mem _ hy))
    have e := List.length_erase_of_mem hx
    have hp : 0 < D.length := List.length_pos_of_mem hx
    rw [List.length_cons]
    omega
section
variable {nb : Vx → List Vx} {ex ok : Vx → Bool} {s : Vx} {V : List Vx}
theorem lay_len (G : Gr V nb s) (k : Nat) : (lay nb ex ok s k).1.length ≤ V.length := by
  obtain ⟨B, hV, _⟩ := lay_ok (ex := ex) (ok := ok) G k
  have z := len_sub ((lay nb ex ok s k).1.map Prod.fst) V B.nd fun x hx => by
    obtain ⟨⟨z, p⟩, h1, rfl⟩ := List.mem_map.mp hx
    exact hV z p h1
  rwa [List.length_map] at z
theorem lay_lt (G : Gr V nb s) {k : Nat} (h : (lay nb ex ok s k).2 ≠ []) : k < V.length := by
  have h1 := (lay_ok (ex := ex) (ok := ok) G k).2.2 h
  have h2 := lay_len (ex := ex) (ok := ok) G k
  omega
theorem lay_sub (G : Gr V nb s) (k : Nat) : ∀ j e, e ∈ (lay nb ex ok s k).1 → e ∈ (lay nb ex ok s (k + j)).1
  | 0, e, h => h
  | j + 1, e, h => by
    have ih := lay_sub G k j e h
    obtain ⟨B, hV, _⟩ := lay_ok (ex := ex) (ok := ok) G (k + j)
    have FV : ∀ x ∈ (lay nb ex ok s (k + j)).2, x ∈ V := fun x hx => by
      obtain ⟨p, hp, _⟩ := (B.fr x).mp hx
      exact hV x p hp
    obtain ⟨_, N, e1, _⟩ := bi_s nb ex ok s G.asc V (fun x hx z hz => G.inn x (FV x hx) z hz) G.inj B
    have e1' : (lay nb ex ok s (k + j + 1)).1 = (lay nb ex ok s (k + j)).1 ++ N := e1
    show e ∈ (lay nb ex ok s (k + j + 1)).1
    rw [e1']
    exact List.mem_append_left _ ih
theorem lay_stop {k : Nat} (h : (lay nb ex ok s k).2 = []) : ∀ j, lay nb ex ok s (k + j) = lay nb ex ok s k
  | 0 => rfl
  | j + 1 => by
    have ih := lay_stop h j
    show next nb ex ok (lay nb ex ok s (k + j)) = _
    rw [ih]
    unfold next
    rw [h]
    show ((lay nb ex ok s k).1, []) = _
    rw [← h]
/-- the way to t, if there is one -/
def wayTo (nb : Vx → List Vx) (ex ok : Vx → Bool) (s t : Vx) (n : Nat) : Option (List Vx) := ((lay nb ex ok s n).1.find? fun p => decide (p.1 = t)).map Prod.snd
theorem find_key {M : PT} (nd : (M.map Prod.fst).Nodup) {z : Vx} {p : List Vx} (h : (z, p) ∈ M) : (M.find? fun p => decide (p.1 = z)).map Prod.snd = some p := by
  cases f : M.find? fun p => decide (p.1 = z) with
  | none =>
    rw [List.find?_eq_none] at f
    exact absurd (decide_eq_true rfl) (f _ h)
  | some q =>
    have h1 := List.mem_of_find?_eq_some f
    have h2 : q.1 = z := of_decide_eq_true (List.find?_some (p := fun p : Vx × List Vx => decide (p.1 = z)) f)
    exact congrArg some (key_uniq nd (z := z) (by rw [← h2]; exact h1) h)
theorem find_no {M : PT} {z : Vx} (h : ∀ p, (z, p) ∉ M) : (M.find? fun p => decide (p.1 = z)).map Prod.snd = Option.none := by
  rw [List.find?_eq_none.mpr fun q hq w => h q.2 (by rw [← of_decide_eq_true w]; exact hq)]
  rfl
theorem way_some (G : Gr V nb s) {k : Nat} (hk : k ≤ V.length) {t : Vx} {P : List Vx} (h : (t, P) ∈ (lay nb ex ok s k).1) : wayTo nb ex ok s t V.length = some P := by
  have z := lay_sub G k (V.length - k) _ h
  rw [show k + (V.length - k) = V.length by omega] at z
  exact find_key (lay_ok G V.length).1.nd z
theorem way_none (G : Gr V nb s) {k : Nat} (hk : k ≤ V.length) {t : Vx} (hF : (lay nb ex ok s k).2 = []) (h : ∀ p, (t, p) ∉ (lay nb ex ok s k).1) : wayTo nb ex ok s t V.length = Option.none := by
  have z := lay_stop hF (V.length - k)
  rw [show k + (V.length - k) = V.length by omega] at z
  unfold wayTo
  rw [z]
  exact find_no h
theorem way_is (G : Gr V nb s) {t : Vx} {P : List Vx} (h : wayTo nb ex ok s t V.length = some P) : (t, P) ∈ (lay nb ex ok s V.length).1 := by
  unfold wayTo at h
  obtain ⟨q, hq, rfl⟩ := Option.map_eq_some_iff.mp h
  have h1 := List.mem_of_find?_eq_some hq
  have h2 : q.1 = t := of_decide_eq_true (List.find?_some (p := fun p : Vx × List Vx => decide (p.1 = t)) hq)
  rw [← h2]
  exact h1
theorem way_not {t : Vx} {n : Nat} (h : wayTo nb ex ok s t n = Option.none) : ∀ p, (t, p) ∉ (lay nb ex ok s n).1 := fun p hp => by
  unfold wayTo at h
  rw [Option.map_eq_none_iff, List.find?_eq_none] at h
  exact h _ hp (decide_eq_true rfl)
theorem lay_end (G : Gr V nb s) : (lay nb ex ok s V.length).2 = [] := by
  cases e : (lay nb ex ok s V.length).2 with
  | nil => rfl
  | cons x xs =>
    have := lay_lt (ex := ex) (ok := ok) G (k := V.length) (by rw [e]; simp)
    omega
end
/-- the least of the shortest ways -/
def W (b : List Pl) (B : Vx → Bool) (one other : Vx) : Option (List Vx) := wayTo (outV b) (exF one B) (okF other B) one other (contents b).length
/-- what the program's search from the end has at its k-th turn -/
abbrev bk (b : List Pl) (B : Vx → Bool) (one other : Vx) (k : Nat) : PT × List Vx := lay (inV b) (fun _ => true) (exF one B) other k
theorem w_none {b : List Pl} (hb : Bok b) {B : Vx → Bool} {one other : Vx} (h1 : one ∈ contents b) (h2 : other ∈ contents b) (k : Nat) (h : W b B one other = Option.none) : ∀ p, (one, p) ∉ (bk b B one other k).1 := by
  have G := gr_out hb h1
  have H := (lay_ok (ex := exF one B) (ok := okF other B) G (contents b).length).1
  rw [lay_end G] at H
  exact main_none (fun x y h => (mem_in hb).mp h) H (lay_ok (gr_in hb h2) k).1 (way_not h)
theorem w_some {b : List Pl} (hb : Bok b) {B : Vx → Bool} {one other : Vx} (h1 : one ∈ contents b) (h2 : other ∈ contents b) (k : Nat) {P : List Vx} (h : W b B one other = some P) (e : (bk b B one other k).2 = [] ∨ inP (bk b B one other k).1 one = true) :
    (∀ i, (hi : i < P.length) → lenAt (bk b B one other k).1 P[i] = some (P.length - i)) ∧ ∀ i, (hi : i + 1 < P.length) → ((outV b P[i]).filter fun c => decide (lenAt (bk b B one other k).1 c = some (P.length - i - 1))).head? = some P[i + 1] := by
  have G := gr_out hb h1
  have L := lay_ok (ex := exF one B) (ok := okF other B) G (contents b).length
  exact main_some (fun x y => mem_in hb) G L.1 L.2.1 (lay_ok (gr_in hb h2) k).1 (e.imp id fun z => inP_iff.mp z) (way_is G h)
theorem w_path {b : List Pl} (hb : Bok b) {B : Vx → Bool} {one other : Vx} (h1 : one ∈ contents b) {P : List Vx} (h : W b B one other = some P) : P.head? = some one ∧ P.getLast? = some other ∧ (∀ x ∈ P, x ∈ contents b) ∧ P.length ≤ (contents b).length := by
  have G := gr_out hb h1
  have L := lay_ok (ex := exF one B) (ok := okF other B) G (contents b).length
  have hP := way_is G h
  have pP := (L.1.pth _ _ hP).1
  have ln := (L.1.pth _ _ hP).2
  refine ⟨(on_head pP).1, (on_head pP).2, fun x hx => ?_, ?_⟩
  · obtain ⟨i, hi, rfl⟩ := List.mem_iff_getElem.mp hx
    obtain ⟨q, hq, _⟩ := L.1.min _ _ (on_take pP i hi) (by rw [List.length_take]; omega)
    exact L.2.1 _ _ hq
  · have ne : P.length ≠ (contents b).length + 1 := fun w => by
      have z := (L.1.fr other).mpr ⟨P, hP, w⟩
      rw [lay_end G] at z
      cases z
    omega
end M17

/-! contents compared. -/
namespace M17
open PySem PySem.Spec PyProof.Rows L2 On Du M16
theorem eqv_ints : ∀ a b : List Int, PyData.eqvAll (a.map .int) (b.map .int) = decide (a = b)
  | [], [] => by simp [PyData.eqvAll]
  | [], _ :: _ => by simp [PyData.eqvAll]
  | _ :: _, [] => by simp [PyData.eqvAll]
  | x :: a, y :: b => by
    rw [List.map_cons, List.map_cons, PyData.eqvAll, eqv_ints a b, eqv_int]
    by_cases h : x = y <;> simp [h]
theorem eqv_con (a b : List Int) : PyData.eqv (conD a) (conD b) = decide (a = b) := by
  unfold conD
  rw [PyData.eqv, eqv_ints]
theorem lay_ints : ∀ a : List Int, PyData.canLayAll0 (a.map .int) = true
  | [] => by simp [PyData.canLayAll0]
  | x :: a => by
    rw [List.map_cons, PyData.canLayAll0, lay_ints a, PyData.canLay0]
    rfl
theorem lay_con (a : List Int) : (conD a).canLay0 = true := by
  unfold conD
  rw [PyData.canLay0, lay_ints]
theorem lay_cons : ∀ L : List (List Int), PyData.canLayAll0 (L.map conD) = true
  | [] => by simp [PyData.canLayAll0]
  | x :: a => by rw [List.map_cons, PyData.canLayAll0, lay_cons a, lay_con]; rfl
theorem okEq_con (a b : List Int) : (conD a).canLay0 = true ∧ (conD b).canLay0 = true ∧ min (conD a).depth (conD b).depth ≤ 60 := ⟨lay_con a, lay_con b, by rw [depth_conD, depth_conD]; decide⟩
theorem okNe_con (a b : List Int) : okNe (conD a) (conD b) = true := by
  unfold conD okNe
  have e1 := depth_conD a
  have e2 := depth_conD b
  unfold conD at e1 e2
  simp [lay_ints, e1, e2]
theorem any_con : ∀ (L : List (List Int)) (a : List Int), ((L.map conD).any fun z => PyData.eqv z (conD a)) = decide (a ∈ L)
  | [], a => by simp
  | x :: L, a => by
    rw [List.map_cons, List.any_cons, any_con L a, eqv_con]
    by_cases h : x = a
    · simp [h]
    · have h' : ¬ a = x := fun z => h z.symm
      simp [h, h']
theorem okIn_con (L : List (List Int)) (a : List Int) : okIn (conD a) (L.map conD) = true := by
  unfold okIn
  rw [lay_cons, lay_con, depth_conD]
  simp
theorem depth_cons : ∀ L : List (List Int), PyData.depthAll (L.map conD) ≤ 1
  | [] => by simp [PyData.depthAll]
  | x :: a => by
    rw [List.map_cons, PyData.depthAll, depth_conD]
    have := depth_cons a
    omega
theorem okNe_nil (L : List (List Int)) : okNe (.list (L.map conD)) (.list []) = true := by
  show ((PyData.list (L.map conD)).canLay0 && ((PyData.list []).canLay0 && decide (min (PyData.list (L.map conD)).depth (PyData.list []).depth ≤ 60))) = true
  have := depth_cons L
  have e : min (PyData.list (L.map conD)).depth (PyData.list []).depth ≤ 60 := by
    rw [PyData.depth]
    omega
  rw [decide_eq_true e, PyData.canLay0, PyData.canLay0, lay_cons]
  simp [PyData.canLayAll0]
theorem eqv_nil (L : List (List Int)) : PyData.eqv (.list (L.map conD)) (.list []) = L.isEmpty := by
  rw [PyData.eqv]
  cases L with
  | nil => simp [PyData.eqvAll]
  | cons x L => simp [PyData.eqvAll]
theorem noDic_con (a : List Int) : noDic (conD a) = true := by
  unfold conD
  rw [noDic]
  induction a with
  | nil => simp [noDics]
  | cons x a ih => rw [List.map_cons, noDics, ih, noDic]; rfl
theorem mapc (n : List Int) : PyData.tuple (n.map .int) = conD n := rfl
end M17

/-! parts of ways, fewer barred. -/
namespace M17
open PySem PySem.Spec PyProof.Rows L2 On Du M16
section
variable {nb : Vx → List Vx} {ex ok ex' ok' : Vx → Bool} {s : Vx}
theorem pth_mono (h1 : ∀ x, ex x = true → ex' x = true) (h2 : ∀ x, ok x = true → ok' x = true) {q : List Vx} {z : Vx} (h : Pth nb ex ok s q z) : Pth nb ex' ok' s q z := by
  induction h with
  | one => exact .one
  | snoc _ e ih => exact .snoc ih ⟨e.1, h1 _ e.2.1, h2 _ e.2.2⟩
theorem pth_ext {o : Vx} {R : List Vx} (h1 : ∀ x, ex' x = true → ex x = true) (hR : Pth nb ex ok o (R ++ [s]) s) {q : List Vx} {z : Vx} (h : Pth nb ex' ok s q z) : Pth nb ex ok o (R ++ q) z := by
  induction h with
  | one => exact hR
  | snoc _ e ih =>
    rw [← List.append_assoc]
    exact .snoc ih ⟨e.1, h1 _ e.2.1, e.2.2⟩
end
theorem LeL_unpre : ∀ (c : List Int) {a b : List Int}, LeL (c ++ a) (c ++ b) → LeL a b
  | [], _, _, h => h
  | x :: c, a, b, h => by
    rcases h with h | h
    · exact .inl (List.append_cancel_left h)
    · rcases h with h | ⟨_, h⟩
      · omega
      · exact LeL_unpre c (.inr h)
theorem LeL_anti {a b : List Int} (h1 : LeL a b) (h2 : LeL b a) : a = b := by
  rcases h1 with h1 | h1
  · exact h1
  · rcases h2 with h2 | h2
    · exact h2.symm
    · exact absurd (lexLt_trans h1 h2) (lexLt_irr _)
theorem cd_list {V : List Vx} (inj : ∀ a ∈ V, ∀ b ∈ V, TS.code 6 a = TS.code 6 b → a = b) : ∀ {p q : List Vx}, (∀ x ∈ p, x ∈ V) → (∀ x ∈ q, x ∈ V) → cd p = cd q → p = q
  | [], [], _, _, _ => rfl
  | [], _ :: _, _, _, h => nomatch h
  | _ :: _, [], _, _, h => nomatch h
  | x :: p, y :: q, hp, hq, h => by
    have h : TS.code 6 x :: cd p = TS.code 6 y :: cd q := h
    injection h with h1 h2
    rw [inj x (hp x List.mem_cons_self) y (hq y List.mem_cons_self) h1, cd_list inj (fun z hz => hp z (List.mem_cons_of_mem _ hz)) (fun z hz => hq z (List.mem_cons_of_mem _ hz)) h2]
theorem w_mono {b : List Pl} (hb : Bok b) {B B' : Vx → Bool} {one other : Vx} (h1 : one ∈ contents b) (le : ∀ x, B' x = true → B x = true) {P : List Vx} (h : W b B one other = some P) : ∃ P', W b B' one other = some P' ∧ P'.length ≤ P.length := by
  have G := gr_out hb h1
  have pP := ((lay_ok (ex := exF one B) (ok := okF other B) G (contents b).length).1.pth _ _ (way_is G h)).1
  have nB : ∀ x, (!B x) = true → (!B' x) = true := fun x hx => by
    cases e : B' x with
    | false => rfl
    | true =>
      rw [le x e] at hx
      cases hx
  have pP' : Pth (outV b) (exF one B') (okF other B') one P other := pth_mono (fun x hx => by
    simp only [exF, Bool.or_eq_true] at hx ⊢
    exact hx.imp id (nB x)) (fun x hx => by
    simp only [okF, Bool.or_eq_true] at hx ⊢
    exact hx.imp id (nB x)) pP
  have L := (lay_ok (ex := exF one B') (ok := okF other B') G (contents b).length).1
  have L' := L
  rw [lay_end G] at L'
  obtain ⟨p, hp, hl⟩ := all_found L' pP'
  exact ⟨p, find_key L.nd hp, hl⟩
theorem drop_path {nb : Vx → List Vx} {ex ok ex' : Vx → Bool} {s : Vx} {P : List Vx} (eg : ∀ i, (hi : i + 1 < P.length) → Ed nb ex ok P[i] P[i + 1]) {k : Nat} (hk : k < P.length) (hs : P[k] = s) (he : ∀ j, (hj : k + j + 1 < P.length) → ex' P[k + j] = true) :
    ∀ j, (hj : k + j < P.length) → Pth nb ex' ok s ((P.drop k).take (j + 1)) P[k + j]
  | 0, hj => by
    have e1 : (P.drop k).take 1 = [s] := by
      rw [List.drop_eq_getElem_cons hk, hs]
      rfl
    have e2 : P[k + 0] = s := hs
    rw [e1, e2]
    exact .one
  | j + 1, hj => by
    have ih := drop_path eg hk hs he j (by omega)
    have e1 : (P.drop k).take (j + 1 + 1) = (P.drop k).take (j + 1) ++ [P[k + (j + 1)]] := by
      rw [List.take_add_one, List.getElem?_drop, List.getElem?_eq_getElem hj]
      rfl
    rw [e1]
    have e := eg (k + j) (by omega)
    exact .snoc ih ⟨e.1, he j (by omega), e.2.2⟩
theorem w_drop {b : List Pl} (hb : Bok b) {B : Vx → Bool} {one other : Vx} (h1 : one ∈ contents b) {P : List Vx} (h : W b B one other = some P) (k : Nat) (hk : k < P.length) : W b B P[k] other = some (P.drop k) := by
  have G := gr_out hb h1
  obtain ⟨w3, w4, w5, w6⟩ := w_path hb h1 h
  have L := (lay_ok (ex := exF one B) (ok := okF other B) G (contents b).length).1
  have hP := way_is G h
  have pP := (L.pth _ _ hP).1
  have mn := fun {Q : List Vx} (hQ : On' (outV b) B one other Q other) => min_le L hP hQ
  have eg := on_edge pP
  have lst : P[P.length - 1] = other := by
    rw [List.getLast?_eq_getElem?, List.getElem?_eq_getElem (by omega)] at w4
    exact Option.some.inj w4
  have fst : P[0] = one := by
    rw [List.head?_eq_getElem?, List.getElem?_eq_getElem (by omega)] at w3
    exact Option.some.inj w3
  have whole : ∀ {ex' : Vx → Bool} {s : Vx} {k : Nat} (hk : k < P.length), P[k] = s → (∀ j, (hj : k + j + 1 < P.length) → ex' P[k + j] = true) → Pth (outV b) ex' (okF other B) s (P.drop k) other := fun {ex' s k} hk hs he => by
    have z := drop_path (ex' := ex') eg hk hs he (P.length - 1 - k) (by omega)
    have e1 : (P.drop k).take (P.length - 1 - k + 1) = P.drop k := List.take_of_length_le (by rw [List.length_drop]; omega)
    have e2 : P[k + (P.length - 1 - k)]'(by omega) = other := by
      have : k + (P.length - 1 - k) = P.length - 1 := by omega
      simp only [this]
      exact lst
    rw [e1, e2] at z
    exact z
  have once : ∀ i, (hi : i < P.length) → P[i] = one → i = 0 := fun i hi e => by
    have z := (mn (whole hi e fun j hj => (eg (i + j) hj).2.1)).1
    rw [List.length_drop] at z
    omega
  have pk : Pth (outV b) (exF P[k] B) (okF other B) P[k] (P.drop k) other := whole hk rfl fun j hj => by
    have e := (eg (k + j) hj).2.1
    simp only [exF, Bool.or_eq_true, decide_eq_true_eq] at e ⊢
    rcases e with e | e
    · have z := once (k + j) (by omega) e
      have z1 : k = 0 := by omega
      have z2 : j = 0 := by omega
      subst z1 z2
      exact .inl rfl
    · exact .inr e
  have best : ∀ {Q : List Vx}, Pth (outV b) (exF P[k] B) (okF other B) P[k] Q other → (P.drop k).length ≤ Q.length ∧ ((P.drop k).length = Q.length → LeL (cd (P.drop k)) (cd Q)) := fun {Q} hQ => by
    rw [List.length_drop]
    by_cases c : k + 1 < P.length
    · have ek := (eg k c).2.1
      have e1 : P.take (k + 1) = P.take k ++ [P[k]] := by rw [List.take_add_one, List.getElem?_eq_getElem hk]; rfl
      have pt := on_take pP k hk
      rw [e1] at pt
      have sp : On' (outV b) B one other (P.take k ++ Q) other := pth_ext (ex' := exF P[k] B) (fun x hx => by
        simp only [exF, Bool.or_eq_true, decide_eq_true_eq] at hx ek ⊢
        rcases hx with hx | hx
        · rw [hx]
          exact ek
        · exact .inr hx) pt hQ
      obtain ⟨m1, m2⟩ := mn sp
      rw [List.length_append, List.length_take] at m1 m2
      refine ⟨by omega, fun e => ?_⟩
      have m3 := m2 (by omega)
      have e2 : cd P = cd (P.take k) ++ cd (P.drop k) := by
        unfold cd
        rw [← List.map_append, List.take_append_drop]
      have e3 : cd (P.take k ++ Q) = cd (P.take k) ++ cd Q := by
        unfold cd
        rw [List.map_append]
      rw [e2, e3] at m3
      exact LeL_unpre _ m3
    · have z : k = P.length - 1 := by omega
      have pos := pth_ne _ _ _ _ hQ
      refine ⟨by omega, fun e => ?_⟩
      have l1 : Q.length = 1 := by omega
      have q1 := (show P[k] = other by simp only [z]; exact lst)
      have d1 : P.drop k = [P[k]] := by
        rw [List.drop_eq_getElem_cons hk, List.drop_of_length_le (by omega)]
      cases hQ with
      | one => exact .inl (by rw [d1])
      | snoc hq _ =>
        have := pth_ne _ _ _ _ hq
        rw [List.length_append, List.length_singleton] at l1
        omega
  have kV := w5 _ (List.getElem_mem hk)
  have Gk := gr_out hb kV
  have Lk := lay_ok (ex := exF P[k] B) (ok := okF other B) Gk (contents b).length
  have Lk' := Lk.1
  rw [lay_end Gk] at Lk'
  obtain ⟨p, hp, hl⟩ := all_found Lk' pk
  have wk : W b B P[k] other = some p := find_key Lk.1.nd hp
  rw [wk]
  refine congrArg some ?_
  have pp := (Lk.1.pth _ _ hp).1
  obtain ⟨m1, m2⟩ := min_le Lk.1 hp pk
  obtain ⟨m3, m4⟩ := best pp
  have ec := LeL_anti (m2 (by omega)) (m4 (by omega))
  exact cd_list (cd_inj hb) (w_path hb kV wk).2.2.1 (fun x hx => w5 x (List.mem_of_mem_drop hx)) ec
end M17

/-! >= of data that are alike, whatever they are. -/
namespace Du
open PySem PySem.Spec PyProof.Rows L2 On PySem.W
section
variable {K : PySem.W.Frag} {c : Bs} {X : Cx}
/-- d >= e: of ints and truths, of tuples of such, of data that are alike -/
def geX (d e : PyData) : Option Bool := match geD d e with
  | some r => some r
  | Option.none => if (alike d e && !isNd d) && decide (min d.depth e.depth ≤ 20) then some (!dataLt d e) else Option.none
theorem geX_of {d e : PyData} {r : Bool} (h : geD d e = some r) : geX d e = some r := by
  unfold geX
  rw [h]
theorem geX_al {d e : PyData} (h : geD d e = Option.none) (h1 : alike d e = true) (h2 : isNd d = false) (h3 : min d.depth e.depth ≤ 20) : geX d e = some (!dataLt d e) := by
  unfold geX
  rw [h, h1, h2, decide_eq_true h3]
  rfl
def rGeX (K : PySem.W.Frag) : R2 := fun x y H Q => ∃ d e r, Da K H x d ∧ Da K H y e ∧ geX d e = some r ∧ Q (.bl r) H
theorem op_geX (hu : X.A.units + 66 < cLine) (hK : X.K = K := by rfl) : OpR X (compareOp .GtE) (rGeX K) := by
  intro pins s σ H x y v u Q I rx ry h
  obtain ⟨d, e, r, hd, he, ok, q⟩ := h
  unfold geX at ok
  split at ok
  · rename_i r' hr
    cases ok
    exact op_geD hu hK pins s σ H x y v u Q I rx ry ⟨d, e, _, hd, he, hr, q⟩
  · split at ok
    · rename_i hc
      cases ok
      subst hK
      rw [Bool.and_eq_true, Bool.and_eq_true, decide_eq_true_eq] at hc
      obtain ⟨as, r1, _⟩ := da_reads I hd rx
      obtain ⟨bs, r2, _⟩ := da_reads I he ry
      have nn : d ≠ .none := fun z => by
        have y := hc.1.2
        rw [z] at y
        cases y
      exact rcGe_alike d e X.A s v u as bs r1 r2 hc.1.1 nn (by omega) X.prog X.w X.xe _ ⟨.bl _, H, I, rfl, q⟩
    · cases ok
def fGeX : F2 := fun d e k => match geX d e with
  | some r => k (.bool r)
  | Option.none => False
theorem od_geX : OpD K (rGeX K) fGeX := fun O H x y d e k Q hd hs nx ny hf q => by
  unfold fGeX at hf
  split at hf
  · rename_i r hr
    exact ⟨d, e, r, nx.da, ny.da, hr, q _ _ H hf (Same.refl H) (.bl _)⟩
  · exact hf.elim
end
end Du

/-! two and three names at once, by a tuple that is laid. -/
namespace Du
open PySem PySem.Spec PyProof.Rows L2 On
section
variable {K : PySem.W.Frag} {c : Bs} {X : Cx} {pos : Pos}
def dParVDT (i j : Nat) (m1 : ME) (m2 : MD) : MS := fun env D => m1 env fun d => m2 env fun ps => D.nx ((env.set i (.v d)).set j (.od ps))
theorem ds_parVDT {i j : Nat} {x y : Str} {px py pt pt2 : Pos} {kt k2 : Nat} {a b : Expr} {m1 : ME} {m2 : MD} (hK : X.K = K) (hc : X.calm = true) (ha : PA X [a, b] (tCons (up K c m1) (tCons (upD K c m2) tNil)))
    (hx : PG X (.Name x px) (gName i)) (hy : PG X (.Name y py) (gName j)) (hn : (assignEach [.Name x px, .Name y py] X.env).length = 2) (hst : (assignEach [.Name x px, .Name y py] X.env).findIdx? (·.1) = none)
    (hs : swapsWithSole [.Tuple [.Name x px, .Name y py] kt pt] (.Tuple [a, b] k2 pt2) pos.line X.env = pure false) (hw : swappedStores [.Tuple [.Name x px, .Name y py] kt pt] (.Tuple [a, b] k2 pt2) X.env = pure none)
    (h1 : (assignEach [.Tuple [.Name x px, .Name y py] kt pt] X.env).map (·.2) = [assign (.Tuple [.Name x px, .Name y py] kt pt) X.env]) :
    PS X (.Assign [.Tuple [.Name x px, .Name y py] kt pt] (.Tuple [a, b] k2 pt2) pos) (upS K c (dParVDT i j m1 m2)) := by
  subst hK
  refine ps_mono (ps_asg (pe_tup ha) (pg_tup hc (pgs_cons hx (pgs_cons hy pgs_nil)) hn hst) hs hw h1) fun D σ H ⟨F, env, O, DD, R, hb, h1, h2, h3, h4⟩ => ?_
  refine ⟨F, env, O, _, R, hb, fun d v H1 kd g da => ⟨F, env, O, _, R.gx g, kd, fun ps p ents H2 kd2 g2 np hp ns E => ?_⟩⟩
  have R1 := (R.gx g).set i da
  have R2 := R1.setD j (p := p) (ents := ents) (ps := ps) ⟨g2.kp, g2.bg⟩ np hp ns E
  exact ⟨(show 2 ≤ sizeLine by decide), fun T nT => ⟨T, _, rfl, SqT.of upd_same, rfl, _, _, rfl, _, _, rfl, rfl, h1 _ _ _ _ kd2 (R2.gx (R2.same (Evl.Ex.new nT)))⟩⟩
def dParVLLT (i j l : Nat) (m1 m2 m3 : ME) : MS := fun env D => m1 env fun d => m2 env fun e => m3 env fun f => match e, f with
  | .list xs, .list ys => noLsts ys = true ∧ D.nx (((env.set i (.v d)).set j (.own xs)).set l (.own ys))
  | _, _ => False
theorem ds_parVLLT {i j l : Nat} {x y z : Str} {px py pz pt pt2 : Pos} {kt k2 : Nat} {a b e : Expr} {m1 m2 m3 : ME} (hK : X.K = K) (hc : X.calm = true) (ha : PA X [a, b, e] (tCons (up K c m1) (tCons (upL K c m2) (tCons (upL K c m3) tNil))))
    (hx : PG X (.Name x px) (gName i)) (hy : PG X (.Name y py) (gName j)) (hz : PG X (.Name z pz) (gName l)) (hn : (assignEach [.Name x px, .Name y py, .Name z pz] X.env).length = 3) (hst : (assignEach [.Name x px, .Name y py, .Name z pz] X.env).findIdx? (·.1) = none)
    (hs : swapsWithSole [.Tuple [.Name x px, .Name y py, .Name z pz] kt pt] (.Tuple [a, b, e] k2 pt2) pos.line X.env = pure false) (hw : swappedStores [.Tuple [.Name x px, .Name y py, .Name z pz] kt pt] (.Tuple [a, b, e] k2 pt2) X.env = pure none)
    (h1 : (assignEach [.Tuple [.Name x px, .Name y py, .Name z pz] kt pt] X.env).map (·.2) = [assign (.Tuple [.Name x px, .Name y py, .Name z pz] kt pt) X.env]) :
    PS X (.Assign [.Tuple [.Name x px, .Name y py, .Name z pz] kt pt] (.Tuple [a, b, e] k2 pt2) pos) (upS K c (dParVLLT i j l m1 m2 m3)) := by
  subst hK
  refine ps_mono (ps_asg (pe_tup ha) (pg_tup hc (pgs_cons hx (pgs_cons hy (pgs_cons hz pgs_nil))) hn hst) hs hw h1) fun D σ H ⟨F, env, O, DD, R, hb, h1, h2, h3, h4⟩ => ?_
  refine ⟨F, env, O, _, R, hb, fun d v H1 kd g da => ⟨F, env, O, _, R.gx g, kd, fun d2 p ys ds H2 kd2 ed2 g2 n2 e2 hp2 da2 => ⟨F, env, O, _, (R.gx g).gx g2, kd2, fun d3 p3 ys3 ds3 H3 kd3 ed3 g3 n3 e3 hp3 da3 => ?_⟩⟩⟩
  subst ed2 ed3
  have R1 := (R.gx g).set i da
  have R2 := R1.setL j (p := p) (ys := ys) (ds := ds) ⟨g2.kp, g2.bg⟩ n2 e2 hp2 da2
  have R3 := R2.setL l (p := p3) (ys := ys3) (ds := ds3) ⟨g3.kp, g3.bg⟩ n3 e3 hp3 (daAll_move (fun a o ea hl => by
    obtain ⟨z1, z2⟩ := offs_some ea
    rw [offs_ne fun z => ?_]
    · exact z2
    · rcases List.mem_cons.mp z with z | z
      · exact z1 (by rw [z]; exact List.mem_cons_self)
      · rcases List.mem_cons.mp z with z | z
        · have y := g3.kp p _ ((R.gx g).n0 ((R.gx g).h0 n2)).2 e2
          rw [z, y] at z2
          cases z2
          cases hl
        · exact z1 (List.mem_cons_of_mem _ z)) da3 kd3.1)
  exact ⟨(show 3 ≤ sizeLine by decide), fun T nT => ⟨T, _, rfl, SqT.of upd_same, rfl, _, _, rfl, _, _, rfl, _, _, rfl, rfl, h1 _ _ _ _ kd3.2 (R3.gx (R3.same (Evl.Ex.new nT)))⟩⟩
end
end Du

/-! a list of one's own, given up where it stands. -/
namespace Du
open PySem PySem.Spec PyProof.Rows L2 On
section
variable {K : PySem.W.Frag} {c : Bs} {F : Hp} {env : List DV} {O : List Addr} {σ : L2.St} {H : Hp} {j : Nat}
theorem Rel.weak (R : Rel K c F env O σ H) {ds : List PyData} {a : Addr} (hj : env[j]? = some (.own ds)) (hs : σ[j]? = some (some (.ref a))) : ∃ O1, Rel K c F (env.set j (.v (.list ds))) O1 σ H := by
  obtain ⟨a', xs, q1, q2, q3, q5, q6, q7⟩ := R.sl j _ hj
  rw [hs] at q1
  cases q1
  have n0 := R.n0 q3
  have hjl : j < env.length := (List.getElem?_eq_some_iff.mp hj).1
  have sub : ∀ b, b ∈ O.filter (fun b => decide (b ≠ a)) → b ∈ O := fun b h => (List.mem_filter.mp h).1
  have na : a ∉ O.filter (fun b => decide (b ≠ a)) := fun h => of_decide_eq_true (List.mem_filter.mp h).2 rfl
  have k : Same (offs O H) (offs (O.filter fun b => decide (b ≠ a)) H) := offs_less sub
  refine ⟨O.filter fun b => decide (b ≠ a), {
    dom := fun b h => R.dom b (sub b h)
    sub := fun b h => List.mem_filter.mpr ⟨R.sub b h, decide_eq_true fun z => n0.1 (by rw [← z]; exact h)⟩
    ent := R.ent
    but := R.but
    bg := fun b h => ⟨(R.bg b h).1, (R.bg b h).2.1, fun z => (R.bg b h).2.2 (sub _ z)⟩
    sys := R.sys
    nsys := fun z => R.nsys (sub _ z)
    fz := R.fz.trans k
    sl := fun m e he => ?_
    ap := fun m n e f b hmn h1 h2 m1 m2 h3 => ?_
    len := by rw [List.length_set, R.len] }⟩
  · by_cases c1 : m = j
    · subst c1
      rw [List.getElem?_set_self hjl] at he
      cases he
      exact ⟨.ref a, hs, .lst (by rw [offs_ne na]; exact q6) q5 (daAll_same k q7)⟩
    · rw [List.getElem?_set_ne (Ne.symm c1)] at he
      have q := R.sl m e he
      have apart : ∀ b, mine e = true → σ[m]? = some (some (.ref b)) → b ≠ a := fun b me hb z => R.ap m j e _ b c1 he hj me rfl hb (by rw [z]; exact hs)
      cases e with
      | un => trivial
      | v d =>
        obtain ⟨x, h1, h2⟩ := q
        exact ⟨x, h1, da_same k h2⟩
      | own ds' =>
        obtain ⟨b, zs, h1, h2, h3, h5, h6, h7⟩ := q
        exact ⟨b, zs, h1, List.mem_filter.mpr ⟨h2, decide_eq_true (apart b rfl h1)⟩, h3, h5, h6, daAll_same k h7⟩
      | bag => exact q
      | tab P w kvs =>
        obtain ⟨p', ents, h1, h2⟩ := q
        exact ⟨p', ents, h1, h2.same k⟩
      | dd ps =>
        obtain ⟨b, ents, h1, h2, h3, h4⟩ := q
        exact ⟨b, ents, h1, h2, k _ _ h3, h4.same k⟩
      | od ps =>
        obtain ⟨b, ents, h1, h2, h3, h5, h6, h7⟩ := q
        exact ⟨b, ents, h1, List.mem_filter.mpr ⟨h2, decide_eq_true (apart b rfl h1)⟩, h3, h5, h6, h7.same k⟩
  · have back : ∀ (m : Nat) (e : DV), (env.set j (.v (.list ds)))[m]? = some e → mine e = true → env[m]? = some e := fun m e he me => by
      by_cases c1 : m = j
      · subst c1
        rw [List.getElem?_set_self hjl] at he
        cases he
        cases me
      · rw [List.getElem?_set_ne (Ne.symm c1)] at he
        exact he
    exact R.ap m n e f b hmn (back m e h1 m1) (back n f h2 m2) m1 m2 h3
end
section
variable {K : PySem.W.Frag} {c : Bs} {X : Cx} {st : Stmt}
def dWeak (i : Nat) (B : MS) : MS := fun env D => match env[i]? with
  | some (.own ds) => B (env.set i (.v (.list ds))) D
  | _ => False
theorem ds_weak {i : Nat} {B : MS} (h : PS X st (upS K c B)) : PS X st (upS K c (dWeak i B)) := ps_mono h fun D σ H ⟨F, env, O, DD, R, hb, h1, h2, h3, h4⟩ => by
  unfold dWeak at hb
  split at hb
  · rename_i ds hd
    obtain ⟨a, xs, q1, q2⟩ := R.sl i _ hd
    obtain ⟨O1, R1⟩ := R.weak hd q1
    exact ⟨F, _, O1, DD, R1, hb, h1, h2, h3, h4⟩
  · exact hb.elim
def dParVLL (i j l : Nat) (m1 m2 m3 : ME) : MS := fun env D => m1 env fun d => m2 env fun e => m3 env fun f => match e, f with
  | .list xs, .list ys => noLsts ys = true ∧ D.nx (((env.set i (.v d)).set j (.own xs)).set l (.own ys))
  | _, _ => False
theorem ds_parVLL {i j l : Nat} {m1 m2 m3 : ME} (h : PS X st (tPar3 i j l (tCons (up K c m1) (tCons (upL K c m2) (tCons (upL K c m3) tNil))))) : PS X st (upS K c (dParVLL i j l m1 m2 m3)) := ps_mono h fun D σ H ⟨F, env, O, DD, R, hb, h1, h2, h3, h4⟩ => by
  refine ⟨F, env, O, _, R, hb, fun d v H1 kd g da => ⟨F, env, O, _, R.gx g, kd, fun d2 p ys ds H2 kd2 ed2 g2 n2 e2 hp2 da2 => ⟨F, env, O, _, (R.gx g).gx g2, kd2, fun d3 p3 ys3 ds3 H3 kd3 ed3 g3 n3 e3 hp3 da3 => ?_⟩⟩⟩
  subst ed2 ed3
  have R1 := (R.gx g).set i da
  have R2 := R1.setL j (p := p) (ys := ys) (ds := ds) ⟨g2.kp, g2.bg⟩ n2 e2 hp2 da2
  have R3 := R2.setL l (p := p3) (ys := ys3) (ds := ds3) ⟨g3.kp, g3.bg⟩ n3 e3 hp3 (daAll_move (fun a o ea hl => by
    obtain ⟨z1, z2⟩ := offs_some ea
    rw [offs_ne fun z => ?_]
    · exact z2
    · rcases List.mem_cons.mp z with z | z
      · exact z1 (by rw [z]; exact List.mem_cons_self)
      · rcases List.mem_cons.mp z with z | z
        · have y := g3.kp p _ ((R.gx g).n0 ((R.gx g).h0 n2)).2 e2
          rw [z, y] at z2
          cases z2
          cases hl
        · exact z1 (List.mem_cons_of_mem _ z)) da3 kd3.1)
  exact ⟨_, _, _, rfl, h1 _ _ _ _ kd3.2 R3⟩
def mRevL (m : ME) : ME := fun env k => m env fun d => match d with
  | .list ds => k (.list ds.reverse)
  | _ => False
theorem de_revL {e : Expr} {kk : Nat} {p1 p2 p3 pos : Pos} {m : ME} (hK : X.K = K) (he : PE X e (upN K c m)) : PE X (.Subscript e (.Slice none none (some (.UnaryOp .USub (.Constant (.int 1) kk p1) p2)) p3) pos) (upL K c (mRevL m)) := by
  subst hK
  refine pe_mono (pe_revL he) fun σ H Q ⟨F, env, O, k, R, hm, q⟩ => ?_
  refine ⟨F, env, O, _, R, hm, fun d x H1 kd g n => ?_⟩
  have R1 := R.gx g
  split at kd
  · obtain ⟨a, xs, rfl, h1, _, h3⟩ := nq_lst n.nq
    refine ⟨a, xs, rfl, SqL.of h1, fun p np => ?_⟩
    have s : Same H1 (upd H1 p (.lst xs.reverse)) := Evl.Ex.new np
    have nH : H p = Option.none := by
      cases e : H p with
      | none => rfl
      | some o =>
        by_cases hb : p ∈ c.b
        · obtain ⟨o, eo⟩ := R1.dom p (R.bO p hb)
          rw [np] at eo
          cases eo
        · rw [g.kp p o hb e] at np
          cases np
    exact q _ p _ _ _ kd rfl (g.trans (R1.same s)) nH upd_same (nH_of R1 np) (daAll_same (offs_new np s) (daAll_rev h3))
  · exact kd.elim
end
end Du

/-! what the forms of places and benches are, on data. -/
namespace Fo
open PySem PySem.Spec PyProof.Rows L2 On Du
mutual
/-- isinstance can be asked of it, of what it holds too -/
def okI : PyData → Bool
  | .none => true
  | .bool _ => true
  | .int _ => true
  | .str _ => true
  | .list _ => true
  | .tuple ds => okIs ds
  | .dict ps => isiOk (.dict ps)
def okIs : List PyData → Bool
  | [] => true
  | d :: ds => okI d && okIs ds
end
theorem okI_isi {d : PyData} (h : okI d = true) : isiOk d = true := by
  cases d with
  | dict ps => exact h
  | _ => rfl
theorem okIs_mem : ∀ {ds : List PyData}, okIs ds = true → ∀ d ∈ ds, okI d = true
  | [], _, d, hd => nomatch hd
  | e :: ds, h, d, hd => by
    rw [okIs, Bool.and_eq_true] at h
    rcases List.mem_cons.mp hd with rfl | hd
    · exact h.1
    · exact okIs_mem h.2 d hd
theorem okIs_of : ∀ {ds : List PyData}, (∀ d ∈ ds, okI d = true) → okIs ds = true
  | [], _ => rfl
  | e :: ds, h => by
    rw [okIs, h e List.mem_cons_self, okIs_of fun d hd => h d (List.mem_cons_of_mem _ hd)]
    rfl
/-- a def that tells f of one thing -/
def f1 (f : PyData → Bool) : List DV → (PyData → Prop) → Prop := fun as k => match as with
  | [.v d] => isiOk d = true ∧ k (.bool (f d))
  | _ => False
def isTup (d : PyData) (n : Int) : Bool := match d with
  | .tuple xs => decide ((xs.length : Int) = n)
  | _ => false
def fTupOf : List DV → (PyData → Prop) → Prop := fun as k => match as with
  | [.v d, .v (.int n)] => isiOk d = true ∧ k (.bool (isTup d n))
  | _ => False
/-- a tuple of ints and truths -/
def numT : PyData → Bool
  | .tuple xs => numsD xs
  | _ => false
/-- not one that is less than the next -/
def ups (ms : List PyData) : Bool := (List.range (ms.length - 1)).all fun k => geX (ms.getD k .none) (ms.getD (k + 1) .none) != some true
theorem geAll_some : ∀ {xs ys : List PyData}, numsD xs = true → numsD ys = true → ∃ r, geAll xs ys = some r
  | _, [], _, _ => ⟨true, by unfold geAll; rfl⟩
  | [], _ :: _, _, _ => ⟨false, rfl⟩
  | x :: xs, y :: ys, h1, h2 => by
    rw [numsD, List.all_cons, Bool.and_eq_true] at h1 h2
    show ∃ r, (if PyData.eqv x y = true then geAll xs ys else geNum x y) = some r
    split
    · exact geAll_some h1.2 h2.2
    · exact geNum_some h1.1 h2.1
theorem geD_some {d e : PyData} (h1 : numT d = true) (h2 : numT e = true) : ∃ r, geD d e = some r := by
  unfold numT at h1 h2
  split at h1
  · split at h2
    · rename_i xs _ ys
      show ∃ r, (if numsD xs && numsD ys then geAll xs ys else Option.none) = some r
      rw [h1, h2]
      exact geAll_some h1 h2
    · cases h2
  · cases h1
def freeL (n : Nat) : List (Int × Int) := (List.range n).flatMap fun (v : Nat) => ((List.range n).filter (fun (u : Nat) => u != v)).map fun (w : Nat) => (((v : Nat) : Int), ((w : Nat) : Int))
def freeRows (i : Int) : Option PyData := if 2 ≤ i ∧ i ≤ 6 then some (.tuple ((freeL i.toNat).map duo)) else Option.none
def mvOk (m : Int) : PyData → Bool
  | .tuple [.int v, .int w] => (decide (0 ≤ v) && decide (v < m)) && ((decide (0 ≤ w) && decide (w < m)) && decide (v ≠ w))
  | _ => false
def prD : PyData → List Int
  | .tuple [.int v, .int w] => [v, w]
  | _ => []
def ltP (d e : PyData) : Bool := match prD d, prD e with
  | [a, b], [x, y] => decide (a < x) || (decide (a = x) && decide (b < y))
  | _, _ => false
def asc2 (ms : List PyData) : Bool := (List.range (ms.length - 1)).all fun k => ltP (ms.getD k .none) (ms.getD (k + 1) .none)
theorem eqvAll_len : ∀ {xs ys : List PyData}, PyData.eqvAll xs ys = true → xs.length = ys.length
  | [], [], _ => rfl
  | [], _ :: _, h => by rw [PyData.eqvAll] at h; cases h
  | _ :: _, [], h => by rw [PyData.eqvAll] at h; cases h
  | x :: xs, y :: ys, h => by
    rw [PyData.eqvAll, Bool.and_eq_true] at h
    rw [List.length_cons, List.length_cons, eqvAll_len h.2]
def placeOk : PyData → Bool
  | .tuple [.int m, .tuple ms] => (decide (2 ≤ m) && decide (m ≤ 6)) && (ms.all (mvOk m) && asc2 ms)
  | _ => false
def benchOk : PyData → Bool
  | .tuple ds => decide (0 < ds.length) && ds.all placeOk
  | _ => false
/-- no truth in a pair -/
def noTru : PyData → Bool
  | .tuple [x, y] => !(isBd true x || (isBd false x || (isBd true y || isBd false y)))
  | _ => true
theorem free_mem {n : Nat} {p : Int × Int} : p ∈ freeL n ↔ (0 ≤ p.1 ∧ p.1 < n) ∧ ((0 ≤ p.2 ∧ p.2 < n) ∧ p.1 ≠ p.2) := by
  obtain ⟨v, w⟩ := p
  unfold freeL
  simp only [List.mem_flatMap, List.mem_map, List.mem_filter, List.mem_range, Prod.mk.injEq, bne_iff_ne, ne_eq]
  constructor
  · rintro ⟨a, ha, b, ⟨hb, hab⟩, rfl, rfl⟩
    refine ⟨⟨by omega, by omega⟩, ⟨by omega, by omega⟩, by omega⟩
  · rintro ⟨⟨h1, h2⟩, ⟨h3, h4⟩, h5⟩
    exact ⟨v.toNat, by omega, w.toNat, ⟨by omega, by omega⟩, by omega, by omega⟩
theorem mv_pair {m : Int} {d : PyData} (h : mvOk m d = true) : ∃ p : Int × Int, d = duo p ∧ p ∈ freeL m.toNat := by
  unfold mvOk at h
  split at h
  · rename_i v w
    simp only [Bool.and_eq_true, decide_eq_true_eq] at h
    exact ⟨(v, w), rfl, free_mem.mpr ⟨⟨h.1.1, by simp only; omega⟩, ⟨h.2.1.1, by simp only; omega⟩, h.2.2⟩⟩
  · cases h
theorem pair_mv {m : Int} {p : Int × Int} (hm : 0 ≤ m) (h : p ∈ freeL m.toNat) : mvOk m (duo p) = true := by
  obtain ⟨v, w⟩ := p
  obtain ⟨⟨h1, h2⟩, ⟨h3, h4⟩, h5⟩ := free_mem.mp h
  simp only at h1 h2 h3 h4 h5
  show ((decide (0 ≤ v) && decide (v < m)) && ((decide (0 ≤ w) && decide (w < m)) && decide (v ≠ w))) = true
  simp only [Bool.and_eq_true, decide_eq_true_eq]
  exact ⟨⟨h1, by omega⟩, ⟨h3, by omega⟩, h5⟩
theorem eqv_num {i : Int} {x : PyData} (h : PyData.eqv (.int i) x = true ∨ PyData.eqv x (.int i) = true) : numD x = some i := by
  cases x with
  | int j =>
    have e : i = j := by
      rcases h with h | h
      · simpa [PyData.eqv] using h
      · have := (show j = i by simpa [PyData.eqv] using h); exact this.symm
    rw [e] <;> rfl
  | bool b =>
    have e : i = (if b then 1 else 0) := by
      rcases h with h | h
      · simpa [PyData.eqv] using h
      · have := (show (if b then (1 : Int) else 0) = i by simpa [PyData.eqv] using h); exact this.symm
    rw [e] <;> rfl
  | _ => simp [PyData.eqv] at h
theorem eqv_pair {p : Int × Int} {d : PyData} (h : PyData.eqv (duo p) d = true ∨ PyData.eqv d (duo p) = true) : ∃ x y, d = .tuple [x, y] ∧ numD x = some p.1 ∧ numD y = some p.2 := by
  cases d with
  | tuple xs =>
    match xs with
    | [x, y] =>
      refine ⟨x, y, rfl, eqv_num ?_, eqv_num ?_⟩
      · rcases h with h | h
        · have h' : (PyData.eqv (.int p.1) x && (PyData.eqv (.int p.2) y && true)) = true := h
          simp only [Bool.and_eq_true] at h'
          exact .inl h'.1
        · have h' : (PyData.eqv x (.int p.1) && (PyData.eqv y (.int p.2) && true)) = true := h
          simp only [Bool.and_eq_true] at h'
          exact .inr h'.1
      · rcases h with h | h
        · have h' : (PyData.eqv (.int p.1) x && (PyData.eqv (.int p.2) y && true)) = true := h
          simp only [Bool.and_eq_true] at h'
          exact .inl h'.2.1
        · have h' : (PyData.eqv x (.int p.1) && (PyData.eqv y (.int p.2) && true)) = true := h
          simp only [Bool.and_eq_true] at h'
          exact .inr h'.2.1
    | [] => rcases h with h | h <;> exact absurd (eqvAll_len (show PyData.eqvAll _ _ = true from h)) (by simp)
    | [_] => rcases h with h | h <;> exact absurd (eqvAll_len (show PyData.eqvAll _ _ = true from h)) (by simp)
    | _ :: _ :: _ :: _ => rcases h with h | h <;> exact absurd (eqvAll_len (show PyData.eqvAll _ _ = true from h)) (by simp)
  | _ => rcases h with h | h <;> simp [duo, PyData.eqv] at h
theorem num_int {x : PyData} {i : Int} (h : numD x = some i) (h1 : isBd true x = false) (h2 : isBd false x = false) : x = .int i := by
  cases x with
  | int j => cases h; rfl
  | bool b => cases b <;> simp [isBd] at h1 h2
  | _ => cases h
theorem eqv_exact {p : Int × Int} {d : PyData} (h : PyData.eqv (duo p) d = true ∨ PyData.eqv d (duo p) = true) (hn : noTru d = true) : d = duo p := by
  obtain ⟨x, y, rfl, h1, h2⟩ := eqv_pair h
  unfold noTru at hn
  simp only [Bool.not_eq_true', Bool.or_eq_false_iff] at hn
  rw [num_int h1 hn.1 hn.2.1, num_int h2 hn.2.2.1 hn.2.2.2]
  rfl
theorem mv_noTru {m : Int} {d : PyData} (h : mvOk m d = true) : noTru d = true := by
  obtain ⟨p, rfl, _⟩ := mv_pair h
  rfl
/-- is in the free moves -/
def inF (fs : List (Int × Int)) (d : PyData) : Bool := (fs.map duo).any fun y => PyData.eqv y d
theorem inF_some {fs : List (Int × Int)} {d : PyData} (h : inF fs d = true) : ∃ p ∈ fs, PyData.eqv (duo p) d = true := by
  unfold inF at h
  rw [List.any_eq_true] at h
  obtain ⟨y, hy, e⟩ := h
  obtain ⟨p, hp, rfl⟩ := List.mem_map.mp hy
  exact ⟨p, hp, e⟩
theorem pair_eqv (p : Int × Int) : PyData.eqv (duo p) (duo p) = true := by
  show (PyData.eqv (.int p.1) (.int p.1) && (PyData.eqv (.int p.2) (.int p.2) && true)) = true
  simp [PyData.eqv]
theorem mv_inF {m : Int} {d : PyData} (h : mvOk m d = true) : inF (freeL m.toNat) d = true := by
  obtain ⟨p, rfl, hp⟩ := mv_pair h
  unfold inF
  rw [List.any_eq_true]
  exact ⟨duo p, List.mem_map.mpr ⟨p, hp, rfl⟩, pair_eqv p⟩
theorem ge_pair (p q : Int × Int) : geD (duo p) (duo q) = some (!ltP (duo p) (duo q)) := by
  obtain ⟨a, b⟩ := p
  obtain ⟨c, d⟩ := q
  show (if PyData.eqv (.int a) (.int c) = true then (if PyData.eqv (.int b) (.int d) = true then some true else some (decide (d ≤ b))) else some (decide (c ≤ a))) = some (!(decide (a < c) || (decide (a = c) && decide (b < d))))
  simp only [PyData.eqv, beq_iff_eq]
  by_cases h1 : a = c
  · rw [if_pos h1]
    by_cases h2 : b = d
    · rw [if_pos h2]
      congr 1
      apply Bool.eq_iff_iff.mpr
      simp only [decide_eq_true_eq, Bool.not_eq_true', Bool.or_eq_false_iff, Bool.and_eq_false_iff, decide_eq_false_iff_not, true_iff]
      omega
    · rw [if_neg h2]
      congr 1
      apply Bool.eq_iff_iff.mpr
      simp only [decide_eq_true_eq, Bool.not_eq_true', Bool.or_eq_false_iff, Bool.and_eq_false_iff, decide_eq_false_iff_not]
      omega
  · rw [if_neg h1]
    congr 1
    apply Bool.eq_iff_iff.mpr
    simp only [decide_eq_true_eq, Bool.not_eq_true', Bool.or_eq_false_iff, Bool.and_eq_false_iff, decide_eq_false_iff_not]
    omega
theorem geX_pair (p q : Int × Int) : geX (duo p) (duo q) = some (!ltP (duo p) (duo q)) := geX_of (ge_pair p q)
theorem ups_asc {ms : List PyData} (h : ∀ d ∈ ms, ∃ p, d = duo p) : ups ms = asc2 ms := by
  unfold ups asc2
  apply Bool.eq_iff_iff.mpr
  rw [List.all_eq_true, List.all_eq_true]
  have e : ∀ k, k < ms.length - 1 → geX (ms.getD k .none) (ms.getD (k + 1) .none) = some (!ltP (ms.getD k .none) (ms.getD (k + 1) .none)) := fun k hk => by
    obtain ⟨p, hp⟩ := h (ms.getD k .none) (by rw [gd_at (by omega)]; exact List.getElem_mem _)
    obtain ⟨q, hq⟩ := h (ms.getD (k + 1) .none) (by rw [gd_at (by omega)]; exact List.getElem_mem _)
    rw [hp, hq]
    exact geX_pair p q
  constructor
  · intro hh k hk
    have z := hh k hk
    rw [e k (List.mem_range.mp hk)] at z
    simpa using z
  · intro hh k hk
    rw [e k (List.mem_range.mp hk)]
    have z := hh k hk
    simpa using z
theorem ti_duo (p : Int × Int) : SeqAt.ti (duo p) = true := rfl
theorem tis_duo : ∀ fs : List (Int × Int), SeqAt.tis (fs.map duo) = true
  | [] => rfl
  | p :: fs => by
    rw [List.map_cons, SeqAt.tis, ti_duo, tis_duo fs] <;> rfl
theorem depth_duo : ∀ fs : List (Int × Int), PyData.depthAll (fs.map duo) ≤ 2
  | [] => by rw [List.map_nil, PyData.depthAll]; exact Nat.zero_le _
  | p :: fs => by
    rw [List.map_cons, PyData.depthAll]
    refine Nat.max_le.mpr ⟨?_, depth_duo fs⟩
    show PyData.depth (.tuple [.int p.1, .int p.2]) ≤ 2
    simp [PyData.depth, PyData.depthAll]
theorem all_eqv : ∀ {ms : List PyData} {fs : List (Int × Int)}, PyData.eqvAll ms (fs.map duo) = true → (∀ d ∈ ms, noTru d = true) → ms = fs.map duo
  | [], [], _, _ => rfl
  | [], _ :: _, h, _ => by simp [PyData.eqvAll] at h
  | _ :: _, [], h, _ => by simp [PyData.eqvAll] at h
  | d :: ms, p :: fs, h, hn => by
    have h' : (PyData.eqv d (duo p) && PyData.eqvAll ms (fs.map duo)) = true := h
    rw [Bool.and_eq_true] at h'
    rw [List.map_cons, eqv_exact (.inr h'.1) (hn d List.mem_cons_self), all_eqv h'.2 fun d hd => hn d (List.mem_cons_of_mem _ hd)]
theorem eqv_all_pair : ∀ {ms : List PyData} {fs : List (Int × Int)}, PyData.eqvAll ms (fs.map duo) = true → ∀ d ∈ ms, ∃ p ∈ fs, PyData.eqv d (duo p) = true
  | [], _, _, d, hd => by cases hd
  | _ :: _, [], h, _, _ => by simp [PyData.eqvAll] at h
  | e :: ms, p :: fs, h, d, hd => by
    have h' : (PyData.eqv e (duo p) && PyData.eqvAll ms (fs.map duo)) = true := h
    rw [Bool.and_eq_true] at h'
    rcases List.mem_cons.mp hd with rfl | hd
    · exact ⟨p, List.mem_cons_self, h'.1⟩
    · obtain ⟨q, hq, e⟩ := eqv_all_pair h'.2 d hd
      exact ⟨q, List.mem_cons_of_mem _ hq, e⟩
theorem free_asc {m : Int} (h : 2 ≤ m ∧ m ≤ 6) : asc2 ((freeL m.toNat).map duo) = true := by
  obtain rfl | rfl | rfl | rfl | rfl : m = 2 ∨ m = 3 ∨ m = 4 ∨ m = 5 ∨ m = 6 := by omega
  all_goals decide +kernel
/-- the four ways -/
theorem place1 {m : Int} {ms : List PyData} (hm : 2 ≤ m ∧ m ≤ 6) (h : PyData.eqvAll ms ((freeL m.toNat).map duo) = true) : ms.all noTru = (ms.all (mvOk m) && asc2 ms) := by
  cases hn : ms.all noTru with
  | true =>
    have e := all_eqv h fun d hd => List.all_eq_true.mp hn d hd
    have h1 : ms.all (mvOk m) = true := by
      rw [List.all_eq_true, e]
      intro d hd
      obtain ⟨p, hp, rfl⟩ := List.mem_map.mp hd
      exact pair_mv (by omega) hp
    have h2 : asc2 ms = true := by rw [e]; exact free_asc hm
    rw [h1, h2] <;> rfl
  | false =>
    have h1 : ms.all (mvOk m) = false := by
      cases e : ms.all (mvOk m) with
      | false => rfl
      | true =>
        rw [List.all_eq_true] at e
        have : ms.all noTru = true := List.all_eq_true.mpr fun d hd => mv_noTru (e d hd)
        rw [hn] at this
        cases this
    rw [h1] <;> rfl
theorem place2 {m : Int} {ms : List PyData} (h : ms.all (inF (freeL m.toNat)) = false) : (ms.all (mvOk m) && asc2 ms) = false := by
  cases e : ms.all (mvOk m) with
  | false => rfl
  | true =>
    rw [List.all_eq_true] at e
    have : ms.all (inF (freeL m.toNat)) = true := List.all_eq_true.mpr fun d hd => mv_inF (e d hd)
    rw [h] at this
    cases this
theorem place3 {m : Int} {ms : List PyData} (h : ups ms = false) : (ms.all (mvOk m) && asc2 ms) = false := by
  cases e : ms.all (mvOk m) with
  | false => rfl
  | true =>
    rw [List.all_eq_true] at e
    rw [← ups_asc fun d hd => (mv_pair (e d hd)).elim fun p hp => ⟨p, hp.1⟩, h] <;> rfl
theorem place4 {m : Int} {ms : List PyData} (hm : 2 ≤ m ∧ m ≤ 6) (h1 : ms.all (inF (freeL m.toNat)) = true) (h2 : ups ms = true) : ms.all noTru = (ms.all (mvOk m) && asc2 ms) := by
  cases hn : ms.all noTru with
  | true =>
    rw [List.all_eq_true] at hn h1
    have ex : ∀ d ∈ ms, ∃ p, d = duo p ∧ p ∈ freeL m.toNat := fun d hd => by
      obtain ⟨p, hp, e⟩ := inF_some (h1 d hd)
      exact ⟨p, eqv_exact (.inl e) (hn d hd), hp⟩
    have e1 : ms.all (mvOk m) = true := List.all_eq_true.mpr fun d hd => by
      obtain ⟨p, rfl, hp⟩ := ex d hd
      exact pair_mv (by omega) hp
    rw [e1, ← ups_asc fun d hd => (ex d hd).elim fun p hp => ⟨p, hp.1⟩, h2] <;> rfl
  | false =>
    have h1 : ms.all (mvOk m) = false := by
      cases e : ms.all (mvOk m) with
      | false => rfl
      | true =>
        rw [List.all_eq_true] at e
        have : ms.all noTru = true := List.all_eq_true.mpr fun d hd => mv_noTru (e d hd)
        rw [hn] at this
        cases this
    rw [h1] <;> rfl
/-! the table of the free moves, looked up in the written part -/
def zipB {α β : Type} (f : α → β → Bool) : List α → List β → Bool
  | [], [] => true
  | a :: s, b :: t => f a b && zipB f s t
  | _, _ => false
def seqAt (K : PySem.W.Frag) : Value → Option (List Value)
  | .ref a => match K.lookup a with
    | some o => match o.cls, o.data with
      | .type t, .seq its _ => if t = "tuple" ∧ its.size ≤ sizeLine then some its.toList else Option.none
      | _, _ => Option.none
    | Option.none => Option.none
  | _ => Option.none
def pairAt (K : PySem.W.Frag) (p : Int × Int) (v : Value) : Bool := match seqAt K v with
  | some [.int i _, .int j _] => decide (i = p.1) && decide (j = p.2)
  | _ => false
def rowAt (K : PySem.W.Frag) (ps : List (Int × Int)) (v : Value) : Bool := match seqAt K v with
  | some vs => zipB (pairAt K) ps vs
  | Option.none => false
def keyOk (e : DictEntry) : Bool := match e.key with
  | .int i _ => decide (e.hash = hashInt i)
  | _ => false
def freeAt (K : PySem.W.Frag) (d : Addr) : Bool := match K.lookup d with
  | some ⟨.type t, Option.none, .dict es _, sl⟩ => decide (t = "dict") && (decide (sl.size = 0) && (es.toList.all keyOk && [2, 3, 4, 5, 6].all fun (i : Nat) => match es.toList.find? fun e => Value.isInt (i : Int) e.key with
    | some e => rowAt K (freeL i) e.val
    | Option.none => false))
  | _ => false
section
variable {K : PySem.W.Frag}
theorem seq_of {v : Value} {vs : List Value} (h : seqAt K v = some vs) : ∃ a, v = .ref a ∧ ∀ {xs : List V} (H : Hp), Vals xs vs → SqT K H a xs := by
  unfold seqAt at h
  split at h
  · rename_i a
    split at h
    · rename_i o ho
      split at h
      · rename_i t its n h1 h2
        split at h
        · rename_i hh
          cases h
          exact ⟨a, rfl, fun H r => .inr ⟨o, its, n, ho, by rw [h1, hh.1], h2, hh.2, r⟩⟩
        · cases h
      · cases h
    · cases h
  · cases h
theorem pair_of {p : Int × Int} {v : Value} (h : pairAt K p v = true) : ∃ x, RelV x v ∧ ∀ H, Da K H x (duo p) := by
  unfold pairAt at h
  split at h
  · rename_i i ti j tj e
    rw [Bool.and_eq_true, decide_eq_true_eq, decide_eq_true_eq] at h
    obtain ⟨a, rfl, q⟩ := seq_of e
    obtain ⟨h1, h2⟩ := h
    refine ⟨.ref a, rfl, fun H => .tup (q H (xs := [.int i, .int j]) (.cons ⟨_, rfl⟩ (.cons ⟨_, rfl⟩ .nil))) ?_⟩
    rw [h1, h2]
    exact .cons (.int _) (.cons (.int _) .nil)
  · cases h
theorem row_all : ∀ {ps : List (Int × Int)} {vs : List Value}, zipB (pairAt K) ps vs = true → ∃ xs, Vals xs vs ∧ ∀ H, DaAll K H xs (ps.map duo)
  | [], [], _ => ⟨[], .nil, fun _ => .nil⟩
  | [], _ :: _, h => by simp [zipB] at h
  | _ :: _, [], h => by simp [zipB] at h
  | p :: ps, v :: vs, h => by
    rw [zipB, Bool.and_eq_true] at h
    obtain ⟨x, r, d⟩ := pair_of h.1
    obtain ⟨xs, rs, ds⟩ := row_all h.2
    exact ⟨x :: xs, .cons r rs, fun H => .cons (d H) (ds H)⟩
theorem row_of {ps : List (Int × Int)} {v : Value} (h : rowAt K ps v = true) : ∃ x, RelV x v ∧ ∀ H, Da K H x (.tuple (ps.map duo)) := by
  unfold rowAt at h
  split at h
  · rename_i vs e
    obtain ⟨a, rfl, q⟩ := seq_of e
    obtain ⟨xs, rs, ds⟩ := row_all h
    exact ⟨.ref a, rfl, fun H => .tup (q H rs) (ds H)⟩
  · cases h
theorem kint_of {d : Addr} (h : freeAt K d = true) : KInt K d freeRows := by
  unfold freeAt at h
  split at h
  · rename_i t es n sl hl
    simp only [Bool.and_eq_true, decide_eq_true_eq] at h
    obtain ⟨rfl, h2, h3, h4⟩ := h
    obtain rfl : sl = #[] := Array.eq_empty_of_size_eq_zero h2
    refine ⟨es, n, hl, fun e he => ?_, fun i z hz => ?_⟩
    · have z := List.all_eq_true.mp h3 e (by simpa using he)
      unfold keyOk at z
      split at z
      · rename_i i t hk
        exact ⟨i, t, hk, of_decide_eq_true z⟩
      · cases z
    · unfold freeRows at hz
      split at hz
      · rename_i hi
        cases hz
        have e : ((i.toNat : Nat) : Int) = i := by omega
        have z := List.all_eq_true.mp h4 i.toNat (by
          have : i.toNat = 2 ∨ i.toNat = 3 ∨ i.toNat = 4 ∨ i.toNat = 5 ∨ i.toNat = 6 := by omega
          simpa using this)
        rw [e] at z
        split at z
        · rename_i v hv
          obtain ⟨x, r, da⟩ := row_of z
          exact ⟨v.val, by unfold findBy; rw [← Array.find?_toList, hv] <;> rfl, x, r, da⟩
        · cases z
      · cases hz
  · cases h
end
/-- .. of data that is not too long -/
def fPl (f : PyData → Bool) : List DV → (PyData → Prop) → Prop := fun as k => match as with
  | [.v d] => (wq d ≤ 60000 ∧ okI d = true) ∧ k (.bool (f d))
  | _ => False
theorem isTup2 {d : PyData} (h : isTup d 2 = true) : ∃ a b, d = .tuple [a, b] := by
  unfold isTup at h
  split at h
  · rename_i xs
    have e := of_decide_eq_true h
    match xs, e with
    | [a, b], _ => exact ⟨a, b, rfl⟩
    | [], e => simp at e
    | [_], e => simp at e
    | _ :: _ :: _ :: r, e => simp at e; omega
  · cases h
theorem isTup2_no {d : PyData} (h : isTup d 2 = false) (a b : PyData) : d ≠ .tuple [a, b] := fun z => by
  rw [z] at h
  simp [isTup] at h
theorem placeOk_no {d : PyData} (h : isTup d 2 = false) : placeOk d = false := by
  unfold placeOk
  split
  · exact absurd rfl (isTup2_no h _ _)
  · rfl
end Fo

/-! what the forms of contents, orders and tasks are, on data. -/
namespace Du
open PySem PySem.Spec PyProof.Rows L2 On
/-- both walks told, by the number of all items -/
theorem go2_sum {g : MG} {mt : MT} {mi1 : MI} {g1 : MG} {mt1 : MT} {me : ME} {vs1 : List Nat} {env : List DV} (E : PyData → List DV) (W : PyData → List PyData) (F : PyData → PyData → List DV) (V : PyData → PyData → PyData) (B : PyData → PyData → Bool) :
    ∀ (ds acc : List PyData) (k : PyData → Prop), acc.length + (ds.flatMap W).length ≤ 100000 → (∀ d ∈ ds, ∀ k', k' (E d) → g d env k') → (∀ d ∈ ds, ∀ k' : Bool → Prop, k' true → mt (E d) k') → (∀ d ∈ ds, noOwn (E d) = true) → (∀ d ∈ ds, ∀ k', k' (W d) → mi1 (E d) k') →
    (∀ d ∈ ds, ∀ x ∈ W d, ∀ k', k' (F d x) → g1 x (wipeE (E d) vs1) k') → (∀ d ∈ ds, ∀ x ∈ W d, ∀ k', k' (B d x) → mt1 (F d x) k') → (∀ d ∈ ds, ∀ x ∈ W d, B d x = true → ∀ k', k' (V d x) → me (F d x) k') →
    k (.list (acc ++ ds.flatMap fun d => ((W d).filter (B d)).map (V d))) → lcGo2 g mt mi1 g1 mt1 me vs1 env acc ds k
  | [], acc, k, _, _, _, _, _, _, _, _, h => by
    have h' : k (.list (acc ++ [])) := h
    rw [List.append_nil] at h'
    exact h'
  | d :: ds, acc, k, hl, hg, ht, ho, hi, hg1, ht1, he, h => by
    rw [List.flatMap_cons, List.length_append] at hl
    refine hg d List.mem_cons_self _ (ht d List.mem_cons_self _ ⟨ho d List.mem_cons_self, hi d List.mem_cons_self _ ?_⟩)
    refine in_pure (F d) (B d) (V d) (W d) acc _ (by omega) (hg1 d List.mem_cons_self) (ht1 d List.mem_cons_self) (he d List.mem_cons_self) ?_
    have hf := List.length_filter_le (B d) (W d)
    refine go2_sum E W F V B ds _ k (by rw [List.length_append, List.length_map]; omega) (fun d hd => hg d (List.mem_cons_of_mem _ hd)) (fun d hd => ht d (List.mem_cons_of_mem _ hd)) (fun d hd => ho d (List.mem_cons_of_mem _ hd)) (fun d hd => hi d (List.mem_cons_of_mem _ hd))
      (fun d hd => hg1 d (List.mem_cons_of_mem _ hd)) (fun d hd => ht1 d (List.mem_cons_of_mem _ hd)) (fun d hd => he d (List.mem_cons_of_mem _ hd)) ?_
    rw [List.flatMap_cons, ← List.append_assoc] at h
    exact h
end Du
namespace Fo
open PySem PySem.Spec PyProof.Rows L2 On Du
/-! ### contents -/
def isBelow (n : Int) : PyData → Bool
  | .int i => decide (0 ≤ i) && decide (i < n)
  | _ => false
def plM : PyData → Int
  | .tuple [.int m, _] => m
  | _ => 0
def contentOk (pds : List PyData) : PyData → Bool
  | .tuple vs => decide (vs.length = pds.length) && (List.range pds.length).all fun i => isBelow (plM (pds.getD i .none)) (vs.getD i .none)
  | _ => false
def consOk (pds : List PyData) : PyData → Bool
  | .tuple cs => cs.all (contentOk pds) && ups cs
  | _ => false
def unT : PyData → List PyData
  | .tuple xs => xs
  | _ => []
theorem tup_len {n : Nat} {d : PyData} (h : isTup d (n : Int) = true) : ∃ vs, d = .tuple vs ∧ vs.length = n := by
  cases d with
  | tuple vs =>
    refine ⟨vs, rfl, ?_⟩
    have h' : decide ((vs.length : Int) = (n : Int)) = true := h
    have := of_decide_eq_true h'
    omega
  | _ => cases h
theorem content_no {pds : List PyData} {d : PyData} (h : isTup d (pds.length : Int) = false) : contentOk pds d = false := by
  cases d with
  | tuple vs =>
    have h' : decide ((vs.length : Int) = (pds.length : Int)) = false := h
    have h2 : ¬ vs.length = pds.length := fun e => by
      rw [e, decide_eq_true rfl] at h'
      cases h'
    show (decide (vs.length = pds.length) && _) = false
    rw [decide_eq_false h2] <;> rfl
  | _ => rfl
def wP : PyData → Bool
  | .tuple [x, p] => !isBelow (plM p) x
  | _ => false
def wV : PyData → PyData
  | .tuple [x, _] => x
  | _ => .none
theorem getD_of {l : List PyData} {i : Nat} {x : PyData} (h : l[i]? = some x) : l.getD i .none = x := by
  rw [List.getD_eq_getElem?_getD, h] <;> rfl
theorem zipD_at {xs ys : List PyData} {i : Nat} (h1 : i < xs.length) (h2 : i < ys.length) : (zipD xs ys)[i]? = some (.tuple [xs.getD i .none, ys.getD i .none]) := by
  have lt : i < (zipD xs ys).length := by rw [zipD_len]; omega
  have e := List.getElem?_eq_getElem lt
  obtain ⟨x, y, hx, hy, hd⟩ := zipD_get e
  rw [e, hd, getD_of hx, getD_of hy]
theorem con_iff {xs pds : List PyData} (hl : xs.length = pds.length) : (((zipD xs pds).filter wP).map wV).isEmpty = contentOk pds (.tuple xs) := by
  apply Bool.eq_iff_iff.mpr
  rw [List.isEmpty_iff, List.map_eq_nil_iff, List.filter_eq_nil_iff]
  have e : contentOk pds (.tuple xs) = (decide (xs.length = pds.length) && (List.range pds.length).all fun i => isBelow (plM (pds.getD i .none)) (xs.getD i .none)) := rfl
  rw [e, Bool.and_eq_true, decide_eq_true_eq, List.all_eq_true]
  constructor
  · intro h
    refine ⟨hl, fun i hi => ?_⟩
    have hi := List.mem_range.mp hi
    have z := h _ (List.mem_of_getElem? (zipD_at (xs := xs) (ys := pds) (by omega) hi))
    have z' : ¬ (!isBelow (plM (pds.getD i .none)) (xs.getD i .none)) = true := z
    simpa using z'
  · rintro ⟨_, h⟩ d hd
    obtain ⟨i, hi⟩ := List.getElem?_of_mem hd
    obtain ⟨x, p, hx, hp, rfl⟩ := zipD_get hi
    have z := h i (List.mem_range.mpr (List.getElem?_eq_some_iff.mp hp).1)
    rw [getD_of hx, getD_of hp] at z
    show ¬ (!isBelow (plM p) x) = true
    rw [z]
    decide
theorem flat_empty {α β : Type} {f : α → List β} : ∀ {l : List α}, (l.flatMap f).isEmpty = l.all fun x => (f x).isEmpty
  | [] => rfl
  | x :: l => by
    rw [List.flatMap_cons, List.all_cons, ← flat_empty (f := f) (l := l)]
    cases f x <;> rfl
theorem cons_wrong {pds cs : List PyData} (h : ∀ c ∈ cs, isTup c (pds.length : Int) = true) : (cs.flatMap fun c => ((zipD (unT c) pds).filter wP).map wV).isEmpty = cs.all (contentOk pds) := by
  rw [flat_empty]
  apply Bool.eq_iff_iff.mpr
  rw [List.all_eq_true, List.all_eq_true]
  refine ⟨fun z c hc => ?_, fun z c hc => ?_⟩
  · obtain ⟨vs, rfl, hv⟩ := tup_len (h c hc)
    rw [← con_iff hv]
    exact z _ hc
  · obtain ⟨vs, rfl, hv⟩ := tup_len (h c hc)
    show (((zipD vs pds).filter wP).map wV).isEmpty = true
    rw [con_iff hv]
    exact z _ hc
theorem isBelow_int {n : Int} {d : PyData} (h : isBelow n d = true) : ∃ i, d = .int i ∧ 0 ≤ i ∧ i < n := by
  cases d with
  | int i =>
    have h' : (decide (0 ≤ i) && decide (i < n)) = true := h
    rw [Bool.and_eq_true, decide_eq_true_eq, decide_eq_true_eq] at h'
    exact ⟨i, rfl, h'⟩
  | _ => cases h
theorem content_nums {pds : List PyData} {d : PyData} (h : contentOk pds d = true) : ∃ n : List Int, d = conD n ∧ n.length = pds.length := by
  cases d with
  | tuple vs =>
    have h' : (decide (vs.length = pds.length) && (List.range pds.length).all fun i => isBelow (plM (pds.getD i .none)) (vs.getD i .none)) = true := h
    rw [Bool.and_eq_true, decide_eq_true_eq, List.all_eq_true] at h'
    refine ⟨unC (.tuple vs), ?_, ?_⟩
    · unfold conD unC
      rw [List.map_map]
      refine congrArg PyData.tuple ?_
      refine List.ext_getElem (by rw [List.length_map]) fun i h1 h2 => ?_
      have z := h'.2 i (List.mem_range.mpr (by rw [← h'.1]; exact h1))
      rw [getD_of (List.getElem?_eq_getElem h1)] at z
      obtain ⟨j, ej, _⟩ := isBelow_int z
      rw [List.getElem_map, ej] <;> rfl
    · show (vs.map _).length = _
      rw [List.length_map]
      exact h'.1
  | _ => cases h
theorem numT_con (n : List Int) : numT (conD n) = true := by
  show numsD (n.map .int) = true
  unfold numsD
  rw [List.all_map, List.all_eq_true]
  intro i _
  rfl
/-- each two neighbours can be told apart -/
def okUp (ms : List PyData) : Prop := ∀ k, k + 1 < ms.length → ∃ r, geX (ms.getD k .none) (ms.getD (k + 1) .none) = some r
theorem okUp_of {ms : List PyData} (h : ∀ d ∈ ms, ∀ e ∈ ms, ∃ r, geX d e = some r) : okUp ms := fun k hk => by
  rw [getD_of (List.getElem?_eq_getElem (show k < ms.length by omega)), getD_of (List.getElem?_eq_getElem hk)]
  exact h _ (List.getElem_mem _) _ (List.getElem_mem _)
theorem okUp_nums {ms : List PyData} (h : ∀ d ∈ ms, numT d = true) : okUp ms := okUp_of fun d hd e he => by
  obtain ⟨r, hr⟩ := geD_some (h d hd) (h e he)
  exact ⟨r, geX_of hr⟩
theorem zip_sum {pds : List PyData} : ∀ {cs : List PyData}, (cs.flatMap fun c => zipD (unT c) pds).length ≤ wqs cs
  | [] => Nat.zero_le _
  | c :: cs => by
    have ih := zip_sum (pds := pds) (cs := cs)
    rw [List.flatMap_cons, List.length_append, wqs]
    have h1 : (zipD (unT c) pds).length ≤ wq c := by
      rw [zipD_len]
      cases c with
      | tuple xs =>
        have := wqs_len xs
        have e : wq (.tuple xs) = 4 + wqs xs := by rw [wq]
        show min xs.length pds.length ≤ _
        omega
      | _ => exact Nat.zero_le _
    omega
/-! ### orders -/
def o1 : PyData → PyData
  | .tuple [a, _, _] => a
  | _ => .none
def o2 : PyData → PyData
  | .tuple [_, b, _] => b
  | _ => .none
def o3 : PyData → PyData
  | .tuple [_, _, c] => c
  | _ => .none
def toldO (o : PyData) : List PyData := o1 o :: o2 o :: unT (o3 o)
def inRs (Rs : List (List Int)) (d : PyData) : Bool := (Rs.map conD).any fun z => PyData.eqv z d
def isTru (d : PyData) : Bool := isBd true d || isBd false d
def ordA (o : PyData) : Bool := !PyData.eqv (o1 o) (o2 o) && On.isTuple (o3 o)
def duoO (o : PyData) : PyData := .tuple [o1 o, o2 o]
def ordsOk (Rs : List (List Int)) : PyData → Bool
  | .tuple os => (os.all fun o => isTup o 3) && (os.all ordA && ((os.flatMap toldO).all (inRs Rs) && (((os.flatMap toldO).all fun d => (unT d).all fun x => !isTru x) && ((os.all fun o => ups (unT (o3 o))) && ups (os.map duoO)))))
  | _ => false
theorem tup3 {d : PyData} (h : isTup d 3 = true) : ∃ a b c, d = .tuple [a, b, c] := by
  obtain ⟨vs, rfl, hv⟩ := tup_len (n := 3) h
  match vs, hv with
  | [a, b, c], _ => exact ⟨a, b, c, rfl⟩
theorem eqv_nums : ∀ {ns : List Int} {xs : List PyData}, PyData.eqvAll (ns.map .int) xs = true → (∀ x ∈ xs, isTru x = false) → xs = ns.map .int
  | [], [], _, _ => rfl
  | [], _ :: _, h, _ => by simp [PyData.eqvAll] at h
  | _ :: _, [], h, _ => by simp [PyData.eqvAll] at h
  | n :: ns, x :: xs, h, hn => by
    have h' : (PyData.eqv (.int n) x && PyData.eqvAll (ns.map .int) xs) = true := h
    rw [Bool.and_eq_true] at h'
    have hx := hn x List.mem_cons_self
    unfold isTru at hx
    rw [Bool.or_eq_false_iff] at hx
    rw [List.map_cons, num_int (eqv_num (.inl h'.1)) hx.1 hx.2, eqv_nums h'.2 fun y hy => hn y (List.mem_cons_of_mem _ hy)]
theorem inRs_tup {Rs : List (List Int)} {d : PyData} (h : inRs Rs d = true) : ∃ xs, d = .tuple xs := by
  unfold inRs at h
  rw [List.any_eq_true] at h
  obtain ⟨z, hz, e⟩ := h
  obtain ⟨r, _, rfl⟩ := List.mem_map.mp hz
  cases d with
  | tuple xs => exact ⟨xs, rfl⟩
  | _ => simp [conD, PyData.eqv] at e
theorem inRs_con {Rs : List (List Int)} {d : PyData} (h : inRs Rs d = true) (hn : ((unT d).all fun x => !isTru x) = true) : ∃ r ∈ Rs, d = conD r := by
  obtain ⟨xs, rfl⟩ := inRs_tup h
  unfold inRs at h
  rw [List.any_eq_true] at h
  obtain ⟨z, hz, e⟩ := h
  obtain ⟨r, hr, rfl⟩ := List.mem_map.mp hz
  refine ⟨r, hr, ?_⟩
  have e' : PyData.eqvAll (r.map .int) xs = true := e
  unfold conD
  rw [eqv_nums e' fun x hx => by
    have z := List.all_eq_true.mp hn x hx
    simpa using z]
theorem alike_con (a c : List Int) : PySem.W.alike (conD a) (conD c) = true := by
  unfold conD
  rw [PySem.W.alike]
  exact PySem.W.alike_ints a c
theorem depth_con1 (n : List Int) : (conD n).depth ≤ 1 := by
  unfold conD
  rw [PyData.depth, PySem.W.depth_ints]
  decide
theorem ge_duo (a b c d : List Int) : ∃ r, geX (.tuple [conD a, conD b]) (.tuple [conD c, conD d]) = some r := by
  cases h : geD (.tuple [conD a, conD b]) (.tuple [conD c, conD d]) with
  | some r => exact ⟨r, geX_of h⟩
  | none =>
    refine ⟨_, geX_al h ?_ rfl ?_⟩
    · rw [PySem.W.alike, PySem.W.alikeAll, alike_con, PySem.W.alikeAll, alike_con, PySem.W.alikeAll]
      rfl
    · have h1 := depth_con1 a
      have h2 := depth_con1 b
      have : (PyData.tuple [conD a, conD b]).depth ≤ 2 := by
        rw [PyData.depth, PyData.depthAll, PyData.depthAll, PyData.depthAll]
        omega
      omega
theorem told_sum : ∀ {os : List PyData}, (∀ o ∈ os, isTup o 3 = true) → (os.flatMap toldO).length ≤ wqs os
  | [], _ => Nat.zero_le _
  | o :: os, h => by
    have ih := told_sum (os := os) fun x hx => h x (List.mem_cons_of_mem _ hx)
    obtain ⟨a, b, c, rfl⟩ := tup3 (h o List.mem_cons_self)
    rw [List.flatMap_cons, List.length_append, wqs]
    have e : (toldO (.tuple [a, b, c])).length ≤ wq (.tuple [a, b, c]) := by
      have e1 : wq (.tuple [a, b, c]) = 4 + (wq a + 2 + (wq b + 2 + (wq c + 2 + 0))) := by rw [wq, wqs, wqs, wqs, wqs]
      have e2 : (unT c).length ≤ wq c := by
        cases c with
        | tuple xs =>
          have := wqs_len xs
          have e : wq (.tuple xs) = 4 + wqs xs := by rw [wq]
          show xs.length ≤ _
          omega
        | _ => exact Nat.zero_le _
      show (unT c).length + 1 + 1 ≤ _
      omega
    omega
/-- a task by form -/
def taskOk : PyData → Bool
  | .tuple [b, r, o] => benchOk b && (consOk (unT b) r && (decide (0 < (unT r).length) && ordsOk ((unT r).map unC) o))
  | _ => false
end Fo

/-! orders that ascend: by codes. -/
namespace Fo
open PySem PySem.Spec PyProof.Rows L2 On Du M17 PySem.W
theorem lt_iff_code : ∀ {a b : List Int}, a.length = b.length → TS.Bd 6 a → TS.Bd 6 b → (a < b ↔ TS.code 6 a < TS.code 6 b)
  | [], [], _, _, _ => by
    constructor
    · intro h
      exact absurd h (List.not_lt_nil _)
    · intro h
      exact absurd h (Int.lt_irrefl _)
  | [], _ :: _, l, _, _ => nomatch l
  | _ :: _, [], l, _, _ => nomatch l
  | x :: a, y :: b, l, ha, hb => by
    have l' : a.length = b.length := Nat.succ.inj l
    have ih := lt_iff_code l' ha.tail hb.tail
    have ⟨c0, c1⟩ := code_rng ha.tail
    have ⟨d0, d1⟩ := code_rng hb.tail
    rw [List.cons_lt_cons_iff]
    show x < y ∨ x = y ∧ a < b ↔ x * 6 ^ a.length + TS.code 6 a < y * 6 ^ b.length + TS.code 6 b
    rw [← l'] at d1 ⊢
    rw [ih]
    generalize (6 : Int) ^ a.length = p at *
    rcases Int.lt_trichotomy x y with h | h | h
    · have q : (x + 1) * p ≤ y * p := Int.mul_le_mul_of_nonneg_right (by omega) (by omega)
      rw [Int.add_mul, Int.one_mul] at q
      exact ⟨fun _ => by omega, fun _ => .inl h⟩
    · subst h
      constructor
      · rintro (z | z)
        · omega
        · omega
      · intro z
        exact .inr ⟨rfl, by omega⟩
    · have q : (y + 1) * p ≤ x * p := Int.mul_le_mul_of_nonneg_right (by omega) (by omega)
      rw [Int.add_mul, Int.one_mul] at q
      constructor
      · rintro (z | z)
        · omega
        · omega
      · intro z
        omega
theorem lt_con (a b : List Int) : dataLt (conD a) (conD b) = decide (a < b) := by
  unfold conD
  rw [dataLt_tuple]
  exact dataLt_ints a b
theorem ge_ints : ∀ a b : List Int, geAll (a.map .int) (b.map .int) = some (!decide (a < b))
  | a, [] => by
    have e : decide (a < []) = false := decide_eq_false (List.not_lt_nil _)
    rw [e]
    cases a <;> rfl
  | [], y :: b => by
    have e : decide (([] : List Int) < y :: b) = true := decide_eq_true (List.nil_lt_cons _ _)
    rw [e]
    rfl
  | x :: a, y :: b => by
    have ih := ge_ints a b
    have e : geAll ((x :: a).map .int) ((y :: b).map .int) = if PyData.eqv (.int x) (.int y) = true then geAll (a.map .int) (b.map .int) else some (decide (y ≤ x)) := rfl
    rw [e, ih, eqv_int]
    by_cases h : x = y
    · subst h
      rw [if_pos (decide_eq_true rfl)]
      simp [List.cons_lt_cons_iff]
    · rw [if_neg (by simpa using h)]
      congr 1
      have z : (x :: a < y :: b) ↔ x < y := by
        rw [List.cons_lt_cons_iff]
        exact ⟨fun z => z.elim id fun z => absurd z.1 h, .inl⟩
      apply Bool.eq_iff_iff.mpr
      rw [decide_eq_true_eq, Bool.not_eq_true', decide_eq_false_iff_not, z]
      omega
theorem ge_con (a b : List Int) : geX (conD a) (conD b) = some (!decide (a < b)) := geX_of (by
  show (if numsD (a.map .int) && numsD (b.map .int) then geAll (a.map .int) (b.map .int) else Option.none) = _
  have h1 : numsD (a.map .int) = true := numT_con a
  have h2 : numsD (b.map .int) = true := numT_con b
  rw [h1, h2]
  exact ge_ints a b)
theorem ups_pw {α : Type} {f : α → PyData} {L : List α} (h : L.Pairwise fun x y => geX (f x) (f y) = some false) : ups (L.map f) = true := by
  unfold ups
  rw [List.all_eq_true]
  intro k hk
  rw [List.mem_range, List.length_map] at hk
  have e1 : (L.map f).getD k .none = f (L[k]'(by omega)) := getD_of (by rw [List.getElem?_map, List.getElem?_eq_getElem (by omega)]; rfl)
  have e2 : (L.map f).getD (k + 1) .none = f (L[k + 1]'(by omega)) := getD_of (by rw [List.getElem?_map, List.getElem?_eq_getElem (by omega)]; rfl)
  rw [e1, e2, List.pairwise_iff_getElem.mp h k (k + 1) (by omega) (by omega) (by omega)]
  rfl
/-- contents that ascend, no two the same -/
def Up (L : List Vx) : Prop := L.Pairwise fun a b => TS.code 6 a < TS.code 6 b
theorem up_of {L : List Vx} {d : Nat} (hb : ∀ n ∈ L, n.length = d ∧ TS.Bd 6 n) (nd : L.Nodup) (h : L.Pairwise fun a b => TS.code 6 a ≤ TS.code 6 b) : Up L :=
  (h.and nd).imp_of_mem fun {a b} ha hb' z => by
    have h1 := hb a ha
    have h2 := hb b hb'
    rcases Int.lt_or_eq_of_le z.1 with y | y
    · exact y
    · exact absurd (code_inj (h1.1.trans h2.1.symm) h1.2 h2.2 y) z.2
theorem ups_cons {L : List Vx} {d : Nat} (hb : ∀ n ∈ L, n.length = d ∧ TS.Bd 6 n) (h : Up L) : ups (L.map conD) = true := ups_pw (h.imp_of_mem fun {a b} ha hb' z => by
  have h1 := hb a ha
  have h2 := hb b hb'
  rw [ge_con, decide_eq_true ((lt_iff_code (h1.1.trans h2.1.symm) h1.2 h2.2).mpr z)]
  rfl)
/-! ### orders -/
abbrev Od := (Vx × Vx) × List Vx
def duD (p : Vx × Vx) : PyData := .tuple [conD p.1, conD p.2]
def ordD (o : Od) : PyData := .tuple [conD o.1.1, conD o.1.2, .tuple (o.2.map conD)]
def k2 (p : Vx × Vx) : Int := TS.code 6 p.1 * 7776 + TS.code 6 p.2
theorem code_lt {n : Vx} {d : Nat} (hd : d ≤ 5) (h : n.length = d ∧ TS.Bd 6 n) : 0 ≤ TS.code 6 n ∧ TS.code 6 n < 7776 := by
  have ⟨a, b⟩ := code_rng h.2
  refine ⟨a, Int.lt_of_lt_of_le b ?_⟩
  rw [h.1]
  have : (6 : Nat) ^ d ≤ 6 ^ 5 := Nat.pow_le_pow_right (by decide) hd
  have e : (6 : Nat) ^ 5 = 7776 := by decide
  have z : ((6 : Int) ^ d) = (((6 : Nat) ^ d : Nat) : Int) := by simp
  rw [z]
  omega
/-- couples of contents of one bench -/
structure P2 (d : Nat) (p : Vx × Vx) : Prop where
  a : p.1.length = d ∧ TS.Bd 6 p.1
  b : p.2.length = d ∧ TS.Bd 6 p.2
theorem k2_inj {d : Nat} (hd : d ≤ 5) {p q : Vx × Vx} (hp : P2 d p) (hq : P2 d q) (e : k2 p = k2 q) : p = q := by
  have a1 := code_lt hd hp.a
  have a2 := code_lt hd hp.b
  have b1 := code_lt hd hq.a
  have b2 := code_lt hd hq.b
  unfold k2 at e
  have e1 : TS.code 6 p.1 = TS.code 6 q.1 := by omega
  have e2 : TS.code 6 p.2 = TS.code 6 q.2 := by omega
  exact Prod.ext (code_inj (hp.a.1.trans hq.a.1.symm) hp.a.2 hq.a.2 e1) (code_inj (hp.b.1.trans hq.b.1.symm) hp.b.2 hq.b.2 e2)
theorem eqv_lt_con {d : Nat} {a b : Vx} (ha : a.length = d ∧ TS.Bd 6 a) (hb : b.length = d ∧ TS.Bd 6 b) : PyData.eqv (conD a) (conD b) = decide (TS.code 6 a = TS.code 6 b) ∧ dataLt (conD a) (conD b) = decide (TS.code 6 a < TS.code 6 b) := by
  refine ⟨?_, ?_⟩
  · rw [eqv_con]
    exact decide_eq_decide.mpr ⟨fun z => by rw [z], fun z => code_inj (ha.1.trans hb.1.symm) ha.2 hb.2 z⟩
  · rw [lt_con]
    exact decide_eq_decide.mpr (lt_iff_code (ha.1.trans hb.1.symm) ha.2 hb.2)
theorem lt_du {d : Nat} (hd : d ≤ 5) {p q : Vx × Vx} (hp : P2 d p) (hq : P2 d q) : dataLt (duD p) (duD q) = decide (k2 p < k2 q) := by
  unfold duD
  rw [dataLt_pair (alike_con _ _) (alike_con _ _)]
  have a1 := code_lt hd hp.a
  have a2 := code_lt hd hp.b
  have b1 := code_lt hd hq.a
  have b2 := code_lt hd hq.b
  obtain ⟨e1, l1⟩ := eqv_lt_con hp.a hq.a
  obtain ⟨e2, l2⟩ := eqv_lt_con hp.b hq.b
  rw [e1, e2, l1, l2]
  unfold k2
  by_cases c1 : TS.code 6 p.1 = TS.code 6 q.1
  · rw [if_pos (decide_eq_true c1)]
    by_cases c2 : TS.code 6 p.2 = TS.code 6 q.2
    · rw [if_pos (decide_eq_true c2)]
      exact (decide_eq_false (by omega)).symm
    · rw [if_neg (by simpa using c2)]
      exact decide_eq_decide.mpr (by omega)
  · rw [if_neg (by simpa using c1)]
    exact decide_eq_decide.mpr (by omega)
theorem ge_du {d : Nat} (hd : d ≤ 5) {p q : Vx × Vx} (hp : P2 d p) (hq : P2 d q) : geX (duD p) (duD q) = some (!decide (k2 p < k2 q)) := by
  rw [← lt_du hd hp hq]
  refine geX_al rfl ?_ rfl ?_
  · unfold duD
    rw [alike, alikeAll, alike_con, alikeAll, alike_con, alikeAll]
    rfl
  · have h1 := depth_con1 p.1
    have h2 := depth_con1 p.2
    have : (duD p).depth ≤ 2 := by
      unfold duD
      rw [PyData.depth, PyData.depthAll, PyData.depthAll, PyData.depthAll]
      omega
    omega
theorem lt_self (x : PyData) : dataLt x x = false := lex_irrefl _
/-- of couples that are not the same, the ends don't count -/
theorem lt_ord {d : Nat} (hd : d ≤ 5) {o r : Od} (ho : P2 d o.1) (hr : P2 d r.1) (h : o.1 = r.1 → o = r) : dataLt (ordD o) (ordD r) = decide (k2 o.1 < k2 r.1) := by
  by_cases c : o.1 = r.1
  · rw [h c, lt_self]
    exact (decide_eq_false (Int.lt_irrefl _)).symm
  · unfold ordD
    rw [dataLt_tuple, dataLt_cons (alike_con _ _)]
    have a1 := code_lt hd ho.a
    have a2 := code_lt hd ho.b
    have b1 := code_lt hd hr.a
    have b2 := code_lt hd hr.b
    obtain ⟨e1, l1⟩ := eqv_lt_con ho.a hr.a
    obtain ⟨e2, l2⟩ := eqv_lt_con ho.b hr.b
    have ne : ¬ (k2 o.1 = k2 r.1) := fun e => c (k2_inj hd ho hr e)
    unfold k2 at ne ⊢
    rw [dataLt_cons (alike_con _ _), e1, e2, l1, l2]
    by_cases c1 : TS.code 6 o.1.1 = TS.code 6 r.1.1
    · rw [if_pos (decide_eq_true c1)]
      have c2 : ¬ TS.code 6 o.1.2 = TS.code 6 r.1.2 := by omega
      rw [if_neg (by simpa using c2)]
      exact decide_eq_decide.mpr (by omega)
    · rw [if_neg (by simpa using c1)]
      exact decide_eq_decide.mpr (by omega)
def ksort {α : Type} (f : α → Int) (L : List α) : List α := L.mergeSort fun a b => decide (f a ≤ f b)
theorem ksort_perm {α : Type} (f : α → Int) (L : List α) : (ksort f L).Perm L := List.mergeSort_perm L _
theorem ksort_pw {α : Type} (f : α → Int) (L : List α) : (ksort f L).Pairwise fun a b => f a ≤ f b := by
  have h := List.pairwise_mergeSort (le := fun a b => decide (f a ≤ f b)) (fun a b c h1 h2 => by simp at *; omega) (fun a b => by simp; omega) L
  exact h.imp fun z => by simpa using z
theorem sortD_map {α : Type} {g : α → PyData} {f : α → Int} {L : List α} (h : ∀ a ∈ L, ∀ b ∈ L, dataLt (g a) (g b) = decide (f a < f b)) : sortD (L.map g) = (ksort f L).map g := by
  unfold sortD ksort
  refine (List.map_mergeSort fun a ha b hb => ?_).symm
  rw [dataLe_eq]
  show decide (f a ≤ f b) = !dataLt (g b) (g a)
  rw [h b hb a ha]
  apply Bool.eq_iff_iff.mpr
  simp
theorem sort_dus {d : Nat} (hd : d ≤ 5) {L : List (Vx × Vx)} (h : ∀ p ∈ L, P2 d p) : sortD (L.map duD) = (ksort k2 L).map duD := sortD_map fun a ha b hb => lt_du hd (h a ha) (h b hb)
theorem sort_cons' {d : Nat} {L : List Vx} (h : ∀ n ∈ L, n.length = d ∧ TS.Bd 6 n) : sortD (L.map conD) = (ksort (TS.code 6) L).map conD := sortD_map fun a ha b hb => (eqv_lt_con (h a ha) (h b hb)).2
def k3 (o : Od) : Int := k2 o.1
theorem nodup_key {α β : Type} {f : α → β} : ∀ {L : List α}, (L.map f).Nodup → ∀ {a b : α}, a ∈ L → b ∈ L → f a = f b → a = b
  | x :: L, nd, a, b, ha, hb, e => by
    rw [List.map_cons, List.nodup_cons] at nd
    rcases List.mem_cons.mp ha with rfl | ha
    · rcases List.mem_cons.mp hb with rfl | hb
      · rfl
      · exact absurd (List.mem_map.mpr ⟨b, hb, e.symm⟩) nd.1
    · rcases List.mem_cons.mp hb with z | hb
      · rw [z] at e
        exact absurd (List.mem_map.mpr ⟨a, ha, e⟩) nd.1
      · exact nodup_key nd.2 ha hb e
theorem sort_ords {d : Nat} (hd : d ≤ 5) {L : List Od} (h : ∀ o ∈ L, P2 d o.1) (nd : (L.map Prod.fst).Nodup) : sortD (L.map ordD) = (ksort k3 L).map ordD :=
  sortD_map fun a ha b hb => lt_ord hd (h a ha) (h b hb) fun e => nodup_key nd ha hb e
/-- of the same things the ascending list is one -/
theorem ksort_uniq {α : Type} {f : α → Int} {L M : List α} (inj : ∀ x ∈ M, ∀ y ∈ M, f x = f y → x = y) (p : L.Perm M) (h : M.Pairwise fun a b => f a ≤ f b) : ksort f L = M :=
  (pw_uniq (f := f) inj (p.symm.trans (ksort_perm f L).symm) h (ksort_pw f L)).symm
end Fo

/-! dicts from couples of contents to ends; how large data are. -/
namespace Fo
open PySem PySem.Spec PyProof.Rows L2 On Du M17 PySem.W
def kP (p : Vx × Vx) : NestedKey := .tup [kC p.1, kC p.2]
theorem keyOf_con (n : List Int) : Du.keyOf (conD n) = some (kC n) := by
  unfold conD
  rw [Du.keyOf, keysOf_ints]
  rfl
theorem depth_du (p : Vx × Vx) : (duD p).depth = 2 := by
  unfold duD
  rw [PyData.depth, PyData.depthAll, PyData.depthAll, PyData.depthAll, depth_conD, depth_conD]
  rfl
theorem keyT_du (p : Vx × Vx) : keyT (duD p) = some (kP p) := by
  unfold keyT
  rw [if_pos (by rw [depth_du]; decide)]
  unfold duD
  rw [Du.keyOf, keysOf, keysOf, keysOf, keyOf_con, keyOf_con]
  rfl
theorem isKey_du (p : Vx × Vx) (f : NestedKey → Prop) : isKey (duD p) f = f (kP p) := by
  have e := keyT_du p
  unfold duD at e
  unfold isKey duD
  simp only [e]
theorem kP_inj {p q : Vx × Vx} (h : kP p = kP q) : p = q := by
  unfold kP at h
  injection h with h
  injection h with h1 h2
  injection h2 with h2 _
  exact Prod.ext (kC_inj h1) (kC_inj h2)
theorem key_du (p q : Vx × Vx) : decide (keyT (duD p) = some (kP q)) = decide (p = q) := decide_eq_decide.mpr ⟨fun h => by
  rw [keyT_du] at h
  exact kP_inj (Option.some.inj h), fun h => by rw [h, keyT_du]⟩
def endsD (E : List Vx) : PyData := .tuple (E.map conD)
def encO (M : List Od) : List (PyData × PyData) := M.map fun o => (duD o.1, endsD o.2)
def hasO (M : List Od) (p : Vx × Vx) : Bool := M.any fun o => decide (o.1 = p)
def atO (M : List Od) (p : Vx × Vx) : Option (List Vx) := (M.find? fun o => decide (o.1 = p)).map (·.2)
def putO (M : List Od) (o : Od) : List Od := if hasO M o.1 = true then M.map fun r => if r.1 = o.1 then (r.1, o.2) else r else M ++ [o]
theorem encO_len (M : List Od) : (encO M).length = M.length := List.length_map ..
theorem encO_keys (M : List Od) : (encO M).map Prod.fst = (M.map Prod.fst).map duD := by
  unfold encO
  rw [List.map_map, List.map_map]
  rfl
theorem has_du (M : List Od) (p : Vx × Vx) : hasT (encO M) (kP p) = hasO M p := by
  unfold hasT encO hasO
  rw [List.any_map]
  exact congrArg (fun f => M.any f) (funext fun o => key_du o.1 p)
theorem look_du : ∀ (M : List Od) (p : Vx × Vx), lookT (encO M) (kP p) = (atO M p).map endsD
  | [], p => rfl
  | o :: M, p => by
    have ih := look_du M p
    unfold lookT encO atO at *
    rw [List.map_cons, List.find?_cons, List.find?_cons, key_du]
    cases decide (o.1 = p) with
    | true => rfl
    | false => exact ih
theorem put_du (M : List Od) (o : Od) : putT (encO M) (duD o.1) (kP o.1) (endsD o.2) = encO (putO M o) := by
  unfold putT putO
  rw [has_du]
  split
  · unfold encO
    rw [List.map_map, List.map_map]
    refine List.map_congr_left fun r _ => ?_
    show (if keyT (duD r.1) = some (kP o.1) then (duD r.1, endsD o.2) else (duD r.1, endsD r.2)) = (duD (if r.1 = o.1 then (r.1, o.2) else r).1, endsD (if r.1 = o.1 then (r.1, o.2) else r).2)
    by_cases e : r.1 = o.1
    · rw [if_pos e, if_pos (by rw [e, keyT_du])]
    · rw [if_neg e, if_neg fun z => e (by rw [keyT_du] at z; exact kP_inj (Option.some.inj z))]
  · unfold encO
    rw [List.map_append]
    rfl
theorem hasO_iff {M : List Od} {p : Vx × Vx} : hasO M p = true ↔ p ∈ M.map Prod.fst := by
  unfold hasO
  rw [List.any_eq_true, List.mem_map]
  exact ⟨fun ⟨o, h, e⟩ => ⟨o, h, of_decide_eq_true e⟩, fun ⟨o, h, e⟩ => ⟨o, h, decide_eq_true e⟩⟩
theorem putO_keys (M : List Od) (o : Od) : (putO M o).map Prod.fst = if hasO M o.1 = true then M.map Prod.fst else M.map Prod.fst ++ [o.1] := by
  unfold putO
  split
  · rw [List.map_map]
    refine List.map_congr_left fun r _ => ?_
    show (if r.1 = o.1 then (r.1, o.2) else r).1 = r.1
    split <;> rfl
  · rw [List.map_append]
    rfl
theorem putO_nd {M : List Od} {o : Od} (nd : (M.map Prod.fst).Nodup) : ((putO M o).map Prod.fst).Nodup := by
  rw [putO_keys]
  split
  · exact nd
  · rename_i h
    rw [List.nodup_append]
    refine ⟨nd, by simp, fun a ha b hb => ?_⟩
    rw [List.mem_singleton] at hb
    rw [hb]
    rintro rfl
    exact h (hasO_iff.mpr ha)
theorem putO_mem {M : List Od} {o r : Od} (h : r ∈ putO M o) : r ∈ M ∨ r = o := by
  unfold putO at h
  split at h
  · obtain ⟨x, hx, rfl⟩ := List.mem_map.mp h
    by_cases e : x.1 = o.1
    · rw [if_pos e]
      exact .inr (Prod.ext e rfl)
    · rw [if_neg e]
      exact .inl hx
  · rcases List.mem_append.mp h with h | h
    · exact .inl h
    · exact .inr (by simpa using h)
theorem putO_len (M : List Od) (o : Od) : (putO M o).length ≤ M.length + 1 := by
  unfold putO
  split
  · rw [List.length_map]; omega
  · rw [List.length_append]; exact Nat.le_refl _
theorem atO_some {M : List Od} {p : Vx × Vx} (h : p ∈ M.map Prod.fst) : ∃ E, atO M p = some E ∧ (p, E) ∈ M := by
  obtain ⟨o, ho, rfl⟩ := List.mem_map.mp h
  cases f : M.find? fun r => decide (r.1 = o.1) with
  | none =>
    rw [List.find?_eq_none] at f
    exact absurd (decide_eq_true rfl) (f o ho)
  | some q =>
    have h1 := List.mem_of_find?_eq_some f
    have h2 : q.1 = o.1 := of_decide_eq_true (List.find?_some (p := fun r : Od => decide (r.1 = o.1)) f)
    refine ⟨q.2, by unfold atO; rw [f]; rfl, ?_⟩
    rw [← h2]
    exact h1
/-! ### how large -/
structure Sz (k N : Nat) (d : PyData) : Prop where
  tm : tame d = true
  dp : d.depth ≤ k
  wd : wide d ≤ N
  wq : wq d ≤ N
  oI : okI d = true
theorem wqs_le {B : Nat} : ∀ {xs : List PyData}, (∀ d ∈ xs, On.wq d ≤ B) → wqs xs ≤ xs.length * (B + 2)
  | [], _ => by simp [wqs]
  | x :: xs, h => by
    have h1 := h x List.mem_cons_self
    have h2 := wqs_le (B := B) (xs := xs) fun d hd => h d (List.mem_cons_of_mem _ hd)
    rw [wqs, List.length_cons, Nat.succ_mul]
    omega
theorem Sz.tup {k N m : Nat} {ds : List PyData} (h : ∀ d ∈ ds, Sz k N d) (hm : ds.length ≤ m) : Sz (k + 1) (4 + m * (N + 2)) (.tuple ds) where
  tm := by
    show tames _ = true
    rw [tames_iff]
    exact fun d hd => (h d hd).tm
  dp := by
    have z := depthAll_le fun d hd => (h d hd).dp
    rw [PyData.depth]
    omega
  wd := by
    have z := wides_le fun d hd => (h d hd).wd
    have y := Nat.mul_le_mul_right (N + 2) hm
    show 4 + wides ds ≤ _
    omega
  wq := by
    have z := wqs_le fun d hd => (h d hd).wq
    have y := Nat.mul_le_mul_right (N + 2) hm
    rw [On.wq]
    omega
  oI := okIs_of fun d hd => (h d hd).oI
theorem Sz.lst {k N m : Nat} {ds : List PyData} (h : ∀ d ∈ ds, Sz k N d) (hm : ds.length ≤ m) : Sz (k + 1) (4 + m * (N + 2)) (.list ds) where
  tm := by
    show tames _ = true
    rw [tames_iff]
    exact fun d hd => (h d hd).tm
  dp := by
    have z := depthAll_le fun d hd => (h d hd).dp
    rw [PyData.depth]
    omega
  wd := by
    have z := wides_le fun d hd => (h d hd).wd
    have y := Nat.mul_le_mul_right (N + 2) hm
    show 4 + wides ds ≤ _
    omega
  wq := by
    have z := wqs_le fun d hd => (h d hd).wq
    have y := Nat.mul_le_mul_right (N + 2) hm
    rw [On.wq]
    omega
  oI := rfl
theorem Sz.mono {k N k' N' : Nat} {d : PyData} (h : Sz k N d) (hk : k ≤ k') (hN : N ≤ N') : Sz k' N' d := ⟨h.tm, Nat.le_trans h.dp hk, Nat.le_trans h.wd hN, Nat.le_trans h.wq hN, h.oI⟩
theorem Sz.int {i : Int} (h : i.natAbs < 1000000) : Sz 0 8 (.int i) where
  tm := decide_eq_true h
  dp := by simp [PyData.depth]
  wd := Nat.le_refl _
  wq := by
    rw [On.wq, if_pos h]
    exact Nat.le_refl _
  oI := rfl
theorem Sz.con {n : List Int} {d : Nat} (hd : d ≤ 5) (h : n.length = d ∧ TS.Bd 6 n) : Sz 1 54 (conD n) := by
  have z := Sz.tup (m := 5) (ds := n.map PyData.int) (fun x hx => by
    obtain ⟨i, hi, rfl⟩ := List.mem_map.mp hx
    have := h.2 i hi
    exact Sz.int (i := i) (by omega)) (by rw [List.length_map, h.1]; exact hd)
  exact z
theorem Sz.two {k N : Nat} {a b : PyData} (h1 : Sz k N a) (h2 : Sz k N b) : ∀ d ∈ [a, b], Sz k N d := fun d hd => by
  simp only [List.mem_cons, List.not_mem_nil, or_false] at hd
  rcases hd with rfl | rfl
  · exact h1
  · exact h2
theorem Sz.three {k N : Nat} {a b c : PyData} (h1 : Sz k N a) (h2 : Sz k N b) (h3 : Sz k N c) : ∀ d ∈ [a, b, c], Sz k N d := fun d hd => by
  simp only [List.mem_cons, List.not_mem_nil, or_false] at hd
  rcases hd with rfl | rfl | rfl
  · exact h1
  · exact h2
  · exact h3
/-- an order of rests of one bench -/
structure OrdOk (d : Nat) (o : Od) : Prop where
  p : P2 d o.1
  e : ∀ x ∈ o.2, x.length = d ∧ TS.Bd 6 x
  l : o.2.length ≤ 8
theorem Sz.ord {d : Nat} (hd : d ≤ 5) {o : Od} (h : OrdOk d o) : Sz 3 1400 (ordD o) := by
  have h1 := (Sz.con hd h.p.a).mono (k' := 2) (N' := 452) (by decide) (by decide)
  have h2 := (Sz.con hd h.p.b).mono (k' := 2) (N' := 452) (by decide) (by decide)
  have h3 := Sz.tup (m := 8) (ds := o.2.map conD) (fun x hx => by
    obtain ⟨n, hn, rfl⟩ := List.mem_map.mp hx
    exact Sz.con hd (h.e n hn)) (by rw [List.length_map]; exact h.l)
  exact (Sz.tup (m := 3) (Sz.three h1 h2 h3) (Nat.le_refl _)).mono (Nat.le_refl _) (by decide)
end Fo

namespace K19
open PySem PySem.Spec PyProof.Rows L2 On
def top (i : Nat) : Stmt := PySem.Challenge.pw_onorback_k19_orders_put_in_the_place_of.main.body.getD i (.Pass ⟨0, 0, 0, 0⟩)
abbrev swith_orders : Stmt := top 2
abbrev seither_order : Stmt := top 3
abbrev sis_integer : Stmt := top 5
abbrev s_is_tuple_of : Stmt := top 6
abbrev sascends : Stmt := top 7
abbrev sis_place : Stmt := top 8
abbrev sis_bench : Stmt := top 9
abbrev sare_contents : Stmt := top 10
abbrev sis_task : Stmt := top 11
abbrev sare_orders : Stmt := top 12
abbrev s_law_bag : Stmt := top 14
abbrev s_law_take : Stmt := top 15
abbrev s_law_some : Stmt := top 16
abbrev s_law_alike : Stmt := top 17
abbrev s_law_mixed : Stmt := top 18
abbrev s_law_place : Stmt := top 19
abbrev s_law_bench : Stmt := top 20
abbrev s_law_contents : Stmt := top 21
abbrev s_law_steps : Stmt := top 22
abbrev s_law_graph : Stmt := top 23
abbrev s_law_way_by : Stmt := top 24
abbrev s_law_rests : Stmt := top 25
abbrev s_law_couple : Stmt := top 26
abbrev s_law_ends : Stmt := top 27
abbrev s_law_any_task : Stmt := top 28
abbrev s_law_flat : Stmt := top 29
abbrev slaw : Stmt := top 30
theorem sc_with_orders : FnScope ["task", "orders"] ["task", "orders"] (defScope swith_orders) := ⟨rfl, rfl, rfl, by decide +kernel, rfl, by decide +kernel, by decide +kernel⟩
theorem sc_either_order : FnScope ["start", "goal"] ["start", "goal"] (defScope seither_order) := ⟨rfl, rfl, rfl, by decide +kernel, rfl, by decide +kernel, by decide +kernel⟩
theorem sc_is_integer : FnScope ["thing"] ["thing"] (defScope sis_integer) := ⟨rfl, rfl, rfl, by decide +kernel, rfl, by decide +kernel, by decide +kernel⟩
theorem sc__is_tuple_of : FnScope ["thing", "many"] ["thing", "many"] (defScope s_is_tuple_of) := ⟨rfl, rfl, rfl, by decide +kernel, rfl, by decide +kernel, by decide +kernel⟩
theorem sc_ascends : FnScope ["items", "k"] ["items"] (defScope sascends) := ⟨rfl, rfl, rfl, by decide +kernel, rfl, by decide +kernel, by decide +kernel⟩
theorem sc_is_place : FnScope ["thing", "many", "moves", "free", "move", "v", "w"] ["thing"] (defScope sis_place) := ⟨rfl, rfl, rfl, by decide +kernel, rfl, by decide +kernel, by decide +kernel⟩
theorem sc_is_bench : FnScope ["thing", "place"] ["thing"] (defScope sis_bench) := ⟨rfl, rfl, rfl, by decide +kernel, rfl, by decide +kernel, by decide +kernel⟩
theorem sc_are_contents : FnScope ["bench", "thing", "wrong", "content", "value", "place"] ["bench", "thing"] (defScope sare_contents) := ⟨rfl, rfl, rfl, by decide +kernel, rfl, by decide +kernel, by decide +kernel⟩
theorem sc_is_task : FnScope ["thing", "bench", "rests", "orders"] ["thing"] (defScope sis_task) := ⟨rfl, rfl, rfl, by decide +kernel, rfl, by decide +kernel, by decide +kernel⟩
theorem sc_are_orders : FnScope ["rests", "thing", "told", "order", "start", "goal", "ends", "rest", "value", "_"] ["rests", "thing"] (defScope sare_orders) := ⟨rfl, rfl, rfl, by decide +kernel, rfl, by decide +kernel, by decide +kernel⟩
theorem sc__law_bag : FnScope ["_law_script", "_law_cell"] ["_law_script"] (defScope s_law_bag) := ⟨rfl, rfl, rfl, by decide +kernel, rfl, by decide +kernel, by decide +kernel⟩
theorem sc__law_take : FnScope ["_law_bag_here", "_law_upto", "_law_cell", "_law_stirred", "_law_value", "_law_begin", "_law_second"] ["_law_bag_here", "_law_upto"] (defScope s_law_take) := ⟨rfl, rfl, rfl, by decide +kernel, rfl, by decide +kernel, by decide +kernel⟩
theorem sc__law_some : FnScope ["_law_bag_here", "_law_things"] ["_law_bag_here", "_law_things"] (defScope s_law_some) := ⟨rfl, rfl, rfl, by decide +kernel, rfl, by decide +kernel, by decide +kernel⟩
theorem sc__law_alike : FnScope ["_law_found", "_law_due"] ["_law_found", "_law_due"] (defScope s_law_alike) := ⟨rfl, rfl, rfl, by decide +kernel, rfl, by decide +kernel, by decide +kernel⟩
theorem sc__law_mixed : FnScope ["_law_bag_here", "_law_things", "_law_found", "_law_thing"] ["_law_bag_here", "_law_things"] (defScope s_law_mixed) := ⟨rfl, rfl, rfl, by decide +kernel, rfl, by decide +kernel, by decide +kernel⟩
theorem sc__law_place : FnScope ["_law_bag_here", "_law_most", "_law_many", "_law_way", "_law_every", "_law_v", "_law_w"] ["_law_bag_here", "_law_most"] (defScope s_law_place) := ⟨rfl, rfl, rfl, by decide +kernel, rfl, by decide +kernel, by decide +kernel⟩
theorem sc__law_bench : FnScope ["_law_bag_here", "_law_most", "_law_places", "_law_size", "_law_turn"] ["_law_bag_here", "_law_most"] (defScope s_law_bench) := ⟨rfl, rfl, rfl, by decide +kernel, rfl, by decide +kernel, by decide +kernel⟩
theorem sc__law_contents : FnScope ["_law_bench_here", "_law_found", "_law_place_here", "_law_content", "_law_value"] ["_law_bench_here"] (defScope s_law_contents) := ⟨rfl, rfl, rfl, by decide +kernel, rfl, by decide +kernel, by decide +kernel⟩
theorem sc__law_steps : FnScope ["_law_bench_here", "_law_content", "_law_found", "_law_k", "_law_v", "_law_w"] ["_law_bench_here", "_law_content"] (defScope s_law_steps) := ⟨rfl, rfl, rfl, by decide +kernel, rfl, by decide +kernel, by decide +kernel⟩
theorem sc__law_graph : FnScope ["_law_bench_here", "_law_content"] ["_law_bench_here"] (defScope s_law_graph) := ⟨rfl, rfl, rfl, by decide +kernel, rfl, by decide +kernel, by decide +kernel⟩
theorem sc__law_way_by : FnScope ["_law_bag_here", "_law_graph_here", "_law_start", "_law_goal", "_law_barred", "_law_front", "_law_before", "_law_later", "_law_content", "_law_other", "_law_way"] ["_law_bag_here", "_law_graph_here", "_law_start", "_law_goal", "_law_barred"] (defScope s_law_way_by) := ⟨rfl, rfl, rfl, by decide +kernel, rfl, by decide +kernel, by decide +kernel⟩
theorem sc__law_rests : FnScope ["_law_bag_here", "_law_contents_here", "_law_most", "_law_many"] ["_law_bag_here", "_law_contents_here", "_law_most"] (defScope s_law_rests) := ⟨rfl, rfl, rfl, by decide +kernel, rfl, by decide +kernel, by decide +kernel⟩
theorem sc__law_couple : FnScope ["_law_bag_here", "_law_graph_here", "_law_rests_here", "_law_two", "_law_turn"] ["_law_bag_here", "_law_graph_here", "_law_rests_here"] (defScope s_law_couple) := ⟨rfl, rfl, rfl, by decide +kernel, rfl, by decide +kernel, by decide +kernel⟩
theorem sc__law_ends : FnScope ["_law_bag_here", "_law_rests_here", "_law_start", "_law_goal", "_law_way", "_law_some_here", "_law_rest"] ["_law_bag_here", "_law_rests_here", "_law_start", "_law_goal"] (defScope s_law_ends) := ⟨rfl, rfl, rfl, by decide +kernel, rfl, by decide +kernel, by decide +kernel⟩
theorem sc__law_any_task : FnScope ["_law_bag_here", "_law_bench_here", "_law_most", "_law_orders", "_law_graph_here", "_law_rests_here", "_law_found", "_law_turn", "_law_start", "_law_goal", "_law_two"] ["_law_bag_here", "_law_bench_here", "_law_most", "_law_orders"] (defScope s_law_any_task) := ⟨rfl, rfl, rfl, by decide +kernel, rfl, by decide +kernel, by decide +kernel⟩
theorem sc__law_flat : FnScope ["_law_rows", "_law_found", "_law_row"] ["_law_rows"] (defScope s_law_flat) := ⟨rfl, rfl, rfl, by decide +kernel, rfl, by decide +kernel, by decide +kernel⟩
theorem sc_law : FnScope ["_law_script", "_law_bag_here", "_law_turn", "_law_bench_here", "_law_task", "_law_one", "_law_again", "_law_rests_here", "_law_orders", "_law_twos", "_law_start", "_law_goal", "_law_ends_here", "_law_made", "_law_due", "_law_shown", "_law_told", "_law_back", "_law_to"] ["_law_script"] (defScope slaw) := ⟨rfl, rfl, rfl, by decide +kernel, rfl, by decide +kernel, by decide +kernel⟩
structure Ads where
  awith_orders : Addr
  dwith_orders : FuncData
  aeither_order : Addr
  deither_order : FuncData
  ais_integer : Addr
  dis_integer : FuncData
  a_is_tuple_of : Addr
  d_is_tuple_of : FuncData
  aascends : Addr
  dascends : FuncData
  ais_place : Addr
  dis_place : FuncData
  ais_bench : Addr
  dis_bench : FuncData
  aare_contents : Addr
  dare_contents : FuncData
  ais_task : Addr
  dis_task : FuncData
  aare_orders : Addr
  dare_orders : FuncData
  a_law_bag : Addr
  d_law_bag : FuncData
  a_law_take : Addr
  d_law_take : FuncData
  a_law_some : Addr
  d_law_some : FuncData
  a_law_alike : Addr
  d_law_alike : FuncData
  a_law_mixed : Addr
  d_law_mixed : FuncData
  a_law_place : Addr
  d_law_place : FuncData
  a_law_bench : Addr
  d_law_bench : FuncData
  a_law_contents : Addr
  d_law_contents : FuncData
  a_law_steps : Addr
  d_law_steps : FuncData
  a_law_graph : Addr
  d_law_graph : FuncData
  a_law_way_by : Addr
  d_law_way_by : FuncData
  a_law_rests : Addr
  d_law_rests : FuncData
  a_law_couple : Addr
  d_law_couple : FuncData
  a_law_ends : Addr
  d_law_ends : FuncData
  a_law_any_task : Addr
  d_law_any_task : FuncData
  a_law_flat : Addr
  d_law_flat : FuncData
  alaw : Addr
  dlaw : FuncData
structure NB (mg : Str → Option Value) : Prop where
  nb_abs : mg "abs" = none
  nb_all : mg "all" = none
  nb_any : mg "any" = none
  nb_bool : mg "bool" = none
  nb_dict : mg "dict" = none
  nb_enumerate : mg "enumerate" = none
  nb_int : mg "int" = none
  nb_isinstance : mg "isinstance" = none
  nb_len : mg "len" = none
  nb_list : mg "list" = none
  nb_min : mg "min" = none
  nb_range : mg "range" = none
  nb_repr : mg "repr" = none
  nb_set : mg "set" = none
  nb_sorted : mg "sorted" = none
  nb_sum : mg "sum" = none
  nb_tuple : mg "tuple" = none
  nb_zip : mg "zip" = none
structure Txt (K : PySem.W.Frag) (mg : Str → Option Value) (A : Ads) : Prop extends NB mg where
  with_orders : Df K mg "with_orders" swith_orders ["task", "orders"] A.awith_orders A.dwith_orders
  either_order : Df K mg "either_order" seither_order ["start", "goal"] A.aeither_order A.deither_order
  is_integer : Df K mg "is_integer" sis_integer ["thing"] A.ais_integer A.dis_integer
  _is_tuple_of : Df K mg "_is_tuple_of" s_is_tuple_of ["thing", "many"] A.a_is_tuple_of A.d_is_tuple_of
  ascends : Df K mg "ascends" sascends ["items"] A.aascends A.dascends
  is_place : Df K mg "is_place" sis_place ["thing"] A.ais_place A.dis_place
  is_bench : Df K mg "is_bench" sis_bench ["thing"] A.ais_bench A.dis_bench
  are_contents : Df K mg "are_contents" sare_contents ["bench", "thing"] A.aare_contents A.dare_contents
  is_task : Df K mg "is_task" sis_task ["thing"] A.ais_task A.dis_task
  are_orders : Df K mg "are_orders" sare_orders ["rests", "thing"] A.aare_orders A.dare_orders
  _law_bag : Df K mg "_law_bag" s_law_bag ["_law_script"] A.a_law_bag A.d_law_bag
  _law_take : Df K mg "_law_take" s_law_take ["_law_bag_here", "_law_upto"] A.a_law_take A.d_law_take
  _law_some : Df K mg "_law_some" s_law_some ["_law_bag_here", "_law_things"] A.a_law_some A.d_law_some
  _law_alike : Df K mg "_law_alike" s_law_alike ["_law_found", "_law_due"] A.a_law_alike A.d_law_alike
  _law_mixed : Df K mg "_law_mixed" s_law_mixed ["_law_bag_here", "_law_things"] A.a_law_mixed A.d_law_mixed
  _law_place : Df K mg "_law_place" s_law_place ["_law_bag_here", "_law_most"] A.a_law_place A.d_law_place
  _law_bench : Df K mg "_law_bench" s_law_bench ["_law_bag_here", "_law_most"] A.a_law_bench A.d_law_bench
  _law_contents : Df K mg "_law_contents" s_law_contents ["_law_bench_here"] A.a_law_contents A.d_law_contents
  _law_steps : Df K mg "_law_steps" s_law_steps ["_law_bench_here", "_law_content"] A.a_law_steps A.d_law_steps
  _law_graph : Df K mg "_law_graph" s_law_graph ["_law_bench_here"] A.a_law_graph A.d_law_graph
  _law_way_by : Df K mg "_law_way_by" s_law_way_by ["_law_bag_here", "_law_graph_here", "_law_start", "_law_goal", "_law_barred"] A.a_law_way_by A.d_law_way_by
  _law_rests : Df K mg "_law_rests" s_law_rests ["_law_bag_here", "_law_contents_here", "_law_most"] A.a_law_rests A.d_law_rests
  _law_couple : Df K mg "_law_couple" s_law_couple ["_law_bag_here", "_law_graph_here", "_law_rests_here"] A.a_law_couple A.d_law_couple
  _law_ends : Df K mg "_law_ends" s_law_ends ["_law_bag_here", "_law_rests_here", "_law_start", "_law_goal"] A.a_law_ends A.d_law_ends
  _law_any_task : Df K mg "_law_any_task" s_law_any_task ["_law_bag_here", "_law_bench_here", "_law_most", "_law_orders"] A.a_law_any_task A.d_law_any_task
  _law_flat : Df K mg "_law_flat" s_law_flat ["_law_rows"] A.a_law_flat A.d_law_flat
  law : Df K mg "law" slaw ["_law_script"] A.alaw A.dlaw
theorem small_log {n : Int} (h0 : 0 < n) (h : n < 1000000) : n.natAbs.log2 < 9000 := by
  have h1 : n.natAbs ≠ 0 := by omega
  have h2 : n.natAbs < 2 ^ 20 := by omega
  have h3 := (Nat.log2_lt h1).mpr h2
  omega
def absAt (xs : List V) (i : Nat) : Int := match xs[i]? with
  | some (.int c) => if c < 0 then -c else c
  | _ => 0
theorem head_int (cs : List Int) (lo hi : Option Int) : ∃ c : Int, atI (cutV (cs.map V.int) lo hi ++ [V.int 0]) 0 = some (.int c) := by
  have e : cutV (cs.map V.int) lo hi = ((cs.drop (HT.sIx cs.length 0 lo)).take (HT.sIx cs.length cs.length hi - HT.sIx cs.length 0 lo)).map V.int := by
    unfold cutV
    rw [List.length_map, List.map_take, List.map_drop]
  rw [e]
  cases (cs.drop (HT.sIx cs.length 0 lo)).take (HT.sIx cs.length cs.length hi - HT.sIx cs.length 0 lo) with
  | nil => exact ⟨0, rfl⟩
  | cons c t => exact ⟨c, atI_nat (j := 0) rfl⟩
section
variable {P : Program} {w : World} {K : PySem.W.Frag} {mg : Str → Option Value} {base : Heap} {A : Ads}
theorem ok_take (T : Txt K mg A) : FnOk P w K mg base CX0 1 A.a_law_take A.d_law_take ["_law_bag_here", "_law_upto"] spTake := by
  refine T._law_take.F.ok sc__law_take (fun vs H Q E h => ?_) (fun cdv A' outer s H vs Q E hr h => ?_)
  · obtain ⟨b, c, n, rfl, _⟩ := h
    rfl
  · obtain ⟨b, l, n, rfl, B, hn, hn9, k⟩ := h
    refine ⟨_, (Evl.pss_cut (ps_if (pt_cmpR op_eq (pe_ix (kIxL K) (pv 0) pe_int (fun _ _ => rfl)) pe_int (nomark _)) (pss_cons (ps_set (i := 2) sc__law_take.nd rfl (by first | exact Or.inl rfl | exact Or.inr rfl) (pe_ix (kIxL K) (pe_op op_cat (pe_slice (kSlL K) (pe_ix (kIxL K) (pv 0) pe_int (fun _ _ => rfl)) (po_some (pe_ix (kIxL K) (pv 0) pe_int (fun _ _ => rfl))) po_none) (pe_lst (pa_cons pe_int pa_nil))) pe_int (fun _ _ => rfl)))
      (pss_cons (ps_augS (pv 0) pe_int (kGet K) pe_int ip_add set_list)
      (Evl.pss_cut (ps_if (pt_cmpR op_ge (pv 2) (pe_op op_pow pe_int pe_int) (nomark _)) (pss_one (ps_asg (pv 2) (pg_sub (pv 0) pe_int set_list))) pss_nil)
      (pss_cons (ps_set (i := 3) sc__law_take.nd rfl (by first | exact Or.inl rfl | exact Or.inr rfl) (pe_op op_add (pe_op op_add (pe_op op_mul (pe_ix (kIxL K) (pv 0) pe_int (fun _ _ => rfl)) pe_int) (pe_op op_mod (pe_callTy call_int1 (by rfl) T.nb_int (by decide +kernel) (pa_cons (pv 2) pa_nil)) pe_int)) (pe_op op_mul pe_int (pe_ix (kIxL K) (pv 0) pe_int (fun _ _ => rfl)))))
      (pss_one (ps_asg (pe_op op_mod (pe_callTy call_int1 (by rfl) T.nb_int (by decide +kernel) (pa_cons (pv 3) pa_nil)) pe_int) (pg_sub (pv 0) pe_int set_list))))))) pss_nil)
      (Evl.pss_cut (ps_if (pt_cmpR op_gt (pe_ix (kIxL K) (pv 0) pe_int (fun _ _ => rfl)) pe_int (nomark _)) (pss_cons (ps_set (i := 4) sc__law_take.nd rfl (by first | exact Or.inl rfl | exact Or.inr rfl) (pe_op op_mod (pe_callTy call_int1 (by rfl) T.nb_int (by decide +kernel) (pa_cons (pe_ix (kIxL K) (pv 0) pe_int (fun _ _ => rfl)) pa_nil)) (pv 1)))
      (pss_cons (ps_asg (pe_op op_fdivW (pe_callTy call_int1 (by rfl) T.nb_int (by decide +kernel) (pa_cons (pe_ix (kIxL K) (pv 0) pe_int (fun _ _ => rfl)) pa_nil)) (pv 1)) (pg_sub (pv 0) pe_int set_list))
      (pss_one (ps_ret (pv 4))))) pss_nil)
      (pss_cons (ps_set (i := 5) sc__law_take.nd rfl (by first | exact Or.inl rfl | exact Or.inr rfl) (pe_op op_mod (pe_callTy call_int1 (by rfl) T.nb_int (by decide +kernel) (pa_cons (pe_op op_mul (pe_op op_add (pe_ix (kIxL K) (pv 0) pe_int (fun _ _ => rfl)) pe_int) pe_int) pa_nil)) pe_int))
      (pss_cons (ps_set (i := 6) sc__law_take.nd rfl (by first | exact Or.inl rfl | exact Or.inr rfl) (pe_op op_mod (pe_callTy call_int1 (by rfl) T.nb_int (by decide +kernel) (pa_cons (pe_op op_mul (pe_op op_mod (pe_callTy call_int1 (by rfl) T.nb_int (by decide +kernel) (pa_cons (pe_op op_mul (pv 5) (pv 5)) pa_nil)) pe_int) pe_int) pa_nil)) pe_int))
      (pss_one (ps_ret (pe_op op_mod (pe_callTy call_int1 (by rfl) T.nb_int (by decide +kernel) (pa_cons (pe_op op_fdivW (pv 6) pe_int) pa_nil)) (pv 1)))))))), ?_⟩
    obtain ⟨⟨p, q, r, cs, h1, h2, h3⟩, hsys⟩ := id B
    refine ⟨fun σ' H' => ∃ c s, σ' = [some (.ref b), some (.int n), c, s, none, none, none] ∧ Bag H' b l ∧ But b H H', ?_, ?_⟩
    · -- if bag[0] == 0
      refine ⟨_, rfl, b, _, 0, _, rfl, rfl, SqL.of h1, rfl, rfl, _, rfl, ?_⟩
      refine ite2 (fun _ => ?_) (fun _ => ⟨_, _, rfl, B, But.refl _ _⟩)
      -- cell = (bag[3][bag[2]:] + [0])[0]
      obtain ⟨c, hc⟩ := head_int cs (some r) Option.none
      refine ⟨_, rfl, b, _, 3, _, rfl, rfl, SqL.of h1, rfl, _, rfl, b, _, 2, _, rfl, rfl, SqL.of h1, rfl, r, rfl, l, _, rfl, SqL.of h2, fun p1 n1 => ?_⟩
      refine ⟨(by decide), fun p2 n2 => ?_⟩
      refine ⟨p1, p2, _, _, rfl, rfl, (by rw [upd_ne (ne_of_none upd_same n2)]; exact upd_same), upd_same, ?_, fun p3 n3 => ?_⟩
      · have z := cutV_length (cs.map V.int) (some r) Option.none
        rw [List.length_map] at z
        rw [sizeLine_eq]
        show _ + 1 ≤ _
        omega
      have s1 := ((same_upd n1).trans (same_upd n2)).trans (same_upd (o := .lst (cutV (cs.map V.int) (some r) Option.none ++ [V.int 0])) n3)
      refine ⟨p3, _, 0, _, rfl, rfl, SqL.of upd_same, hc, ?_⟩
      generalize upd (upd (upd H p1 _) p2 _) p3 _ = H1 at s1 ⊢
      -- bag[2] += 1
      refine ⟨_, rfl, b, _, 2, _, rfl, rfl, SqL.of (s1 _ _ h1), rfl, r, 1, rfl, rfl, b, _, 2, 2, rfl, rfl, s1 _ _ h1, rfl, ?_⟩
      have B1 : Bag H1 b l := B.same s1
      have B2 := B1.put p q (r + 1)
      have k2 : But b H (upd H1 b (.lst [.int p, .int q, .int (r + 1), .ref l])) := (But.of_same s1).trans but_put
      show Evl.tCut _ _ _ _ (upd H1 b (.lst [.int p, .int q, .int (r + 1), .ref l]))
      generalize upd H1 b (.lst [.int p, .int q, .int (r + 1), .ref l]) = H2 at B2 k2 ⊢
      refine ⟨fun σ' H' => σ' = [some (.ref b), some (.int n), some (.int c), none, none, none, none] ∧ Bag H' b l ∧ But b H H', ?_, ?_⟩
      · -- if cell >= 10 ** 18: bag[0] = cell
        refine ⟨_, rfl, _, _, rfl, rfl, ⟨by decide, by decide, by decide⟩, _, _, rfl, rfl, _, rfl, ?_⟩
        refine ite2 (fun _ => ?_) (fun _ => ⟨rfl, B2, k2⟩)
        obtain ⟨⟨p', q', r', cs', g1, g2, g3⟩, _⟩ := id B2
        refine ⟨_, rfl, _, rfl, b, _, 0, 0, rfl, rfl, g1, rfl, rfl, B2.put _ _ _, k2.trans but_put⟩
      · rintro σ' H' ⟨rfl, B3, k3⟩
        obtain ⟨⟨p', q', r', cs', g1, g2, g3⟩, _⟩ := id B3
        -- stirred = .. ; bag[1] = ..
        refine ⟨_, rfl, b, _, 1, _, rfl, rfl, SqL.of g1, rfl, _, _, rfl, rfl, .inr ⟨by decide, by decide⟩, _, rfl, .inl ⟨_, rfl, _, _, rfl, rfl, (by show (0 : Int) < 2147483647; decide), ?_⟩⟩
        refine ⟨_, _, rfl, rfl, ?_⟩
        refine ⟨_, rfl, b, _, 2, _, rfl, rfl, SqL.of g1, rfl, _, _, rfl, rfl, .inl ⟨by decide, by decide⟩, _, _, rfl, rfl, ?_⟩
        refine ⟨_, rfl, .inl ⟨_, rfl, _, _, rfl, rfl, (by show (0 : Int) < 2147483647; decide), ?_⟩⟩
        exact ⟨_, rfl, b, _, 1, 1, rfl, rfl, g1, rfl, _, _, rfl, B3.put _ _ _, k3.trans but_put⟩
    · rintro σ' H' ⟨c, s, rfl, B1, k1⟩
      obtain ⟨⟨p, q, r, cs, h1, h2, h3⟩, _⟩ := id B1
      refine ⟨fun σ' H2 => σ' = [some (.ref b), some (.int n), c, s, none, none, none] ∧ H2 = H', ?_, ?_⟩
      · -- if bag[0] > 0
        refine ⟨_, rfl, b, _, 0, _, rfl, rfl, SqL.of h1, rfl, _, _, rfl, rfl, _, rfl, ?_⟩
        refine ite2 (fun _ => ?_) (fun _ => ⟨rfl, rfl⟩)
        refine ⟨_, rfl, b, _, 0, _, rfl, rfl, SqL.of h1, rfl, .inl ⟨_, rfl, _, rfl, _, _, rfl, rfl, hn, ?_⟩⟩
        refine ⟨_, rfl, b, _, 0, _, rfl, rfl, SqL.of h1, rfl, .inl ⟨_, rfl, _, rfl, _, _, rfl, rfl, ⟨hn, hn9⟩, ?_⟩⟩
        refine ⟨_, rfl, b, _, 0, 0, rfl, rfl, h1, rfl, _, rfl, ?_⟩
        exact k _ _ (Int.emod_nonneg _ (by omega)) (Int.emod_lt_of_pos _ hn) (B1.put _ _ _) (k1.trans but_put)
      · rintro σ2 H2 ⟨rfl, rfl⟩
        -- begin, second
        refine ⟨_, rfl, b, _, 1, _, rfl, rfl, SqL.of h1, rfl, _, _, rfl, rfl, _, _, rfl, rfl, .inr ⟨by decide, by decide⟩, .inl ⟨_, rfl, _, _, rfl, rfl, (by show (0 : Int) < 1000000007; decide), ?_⟩⟩
        have b0 : 0 ≤ (q + 1) * 39373 % 1000000007 := Int.emod_nonneg _ (by decide)
        have b1 : (q + 1) * 39373 % 1000000007 < 1000000007 := Int.emod_lt_of_pos _ (by decide)
        generalize (q + 1) * 39373 % 1000000007 = z at b0 b1 ⊢
        refine ⟨_, rfl, _, rfl, _, _, rfl, rfl, .inl ⟨by omega, by omega⟩, .inl ⟨_, rfl, _, _, rfl, rfl, (by show (0 : Int) < 998244353; decide), _, _, rfl, rfl, .inr ⟨by decide, by decide⟩, .inl ⟨_, rfl, _, _, rfl, rfl, (by show (0 : Int) < 998244353; decide), ?_⟩⟩⟩
        refine ⟨_, rfl, _, _, rfl, rfl, ⟨by decide, by decide⟩, .inl ⟨_, rfl, _, rfl, _, _, rfl, rfl, hn, ?_⟩⟩
        exact k _ _ (Int.emod_nonneg _ (by omega)) (Int.emod_lt_of_pos _ hn) B1 k1
theorem ok_some (T : Txt K mg A) (G_law_take : FnOk P w K mg base CX0 1 A.a_law_take A.d_law_take ["_law_bag_here", "_law_upto"] spTake) : FnOk P w K mg base CX0 2 A.a_law_some A.d_law_some ["_law_bag_here", "_law_things"] (spSome K) := by
  refine T._law_some.F.ok sc__law_some (fun vs H Q E h => ?_) (fun cdv A' outer s H vs Q E hr h => ?_)
  · obtain ⟨b, c, l, xs, rfl, _⟩ := h
    rfl
  · obtain ⟨b, c, l, xs, rfl, B, hl, hlb, hx, hz, k⟩ := h
    refine ⟨_, (pss_one (ps_ret (pe_ix (kIxL K) (pv 1) (pe_call G_law_take (hr.mono (by first | decide | omega)) rfl T._law_take.g T._law_take.F.kp T._law_take.b .nil pass0 (pa_cons (pv 0) (pa_cons (pe_callB (kLen K) (by rfl) T.nb_len PySem.boot_len (pa_cons (pv 1) pa_nil)) pa_nil))) (fun _ _ => rfl)))), ?_⟩
    refine ⟨_, rfl, _, rfl, _, rfl, l, _, rfl, .inl (SqL.of hl), b, c, _, rfl, B, by omega, small_log (by omega) (by omega), fun v H' h0 h1 B' k' => ?_⟩
    obtain ⟨i, rfl⟩ : ∃ i : Nat, v = (i : Int) := ⟨v.toNat, by omega⟩
    have hi : i < xs.length := by omega
    refine ⟨l, _, _, xs[i], rfl, rfl, SqL.of (k' _ _ hlb hl), atI_nat (List.getElem?_eq_getElem hi), ?_⟩
    exact k _ _ (List.getElem_mem hi) B' k'
/-- _law_bag(script) -/
def spBag (K : PySem.W.Frag) : Sp := fun vs H Q _ => ∃ (a : Addr) (ns : List Int), vs = [.ref a] ∧ SqL K H a (ns.map V.int) ∧ ns.length ≤ 63 ∧ Sys H ∧ ∀ (b c : Addr) (H' : Hp), H b = Option.none → Bag H' b c → Same H H' → Q (.ref b) H'
theorem ok_bag (T : Txt K mg A) : FnOk P w K mg base CX0 1 A.a_law_bag A.d_law_bag ["_law_script"] (spBag K) := by
  refine T._law_bag.F.ok sc__law_bag (fun vs H Q E h => ?_) (fun cdv A' outer s H vs Q E hr h => ?_)
  · obtain ⟨a, ns, rfl, _⟩ := h
    rfl
  · obtain ⟨a, ns, rfl, hs, h63, hsys, k⟩ := h
    refine ⟨_, (pss_one (ps_ret (pe_lst (pa_cons pe_int (pa_cons pe_int (pa_cons pe_int (pa_cons (pe_lc (own := [("_law_cell", 1)]) rfl sc__law_bag.nd (kPiL K (pe_slice (kSlL K) (pv 0) po_none (po_some pe_int))) (blkOk_by (N := ["_law_script", "_law_cell"]) (sc := defScope s_law_bag) (by decide +kernel)) (fun _ _ _ _ _ => (pg_name (i := 1) sc__law_bag.nd rfl (by first | exact Or.inl rfl | exact Or.inr rfl))) (fun _ _ _ _ _ => pts_nil) (fun _ _ _ _ _ => (pe_callB call_abs (by rfl) T.nb_abs (by decide +kernel) (pa_cons (pv 1) pa_nil)))) pa_nil))))))), ?_⟩
    have hz : (cutV (ns.map V.int) Option.none (some 63)).length ≤ 63 := by
      have z := cutV_length (ns.map V.int) Option.none (some 63)
      rw [List.length_map] at z
      omega
    have hi : ∀ x ∈ cutV (ns.map V.int) Option.none (some 63), ∃ c : Int, x = .int c := fun x hx => by
      have h1 : x ∈ ns.map V.int := List.mem_of_mem_drop (List.mem_of_mem_take hx)
      obtain ⟨c, _, e⟩ := List.mem_map.mp h1
      exact ⟨c, e.symm⟩
    generalize hxs : cutV (ns.map V.int) Option.none (some 63) = xs at hz hi
    refine to_ret (to_lst (to_c (to_c (to_c (to_cons ?_)))))
    refine Evl.el_lcNL (xs := xs) (fun _ => true) (fun i => .int (absAt xs i)) ?_ (by omega) ?_ ?_ ?_ H (Evl.Ex.refl H) _ (fun p H2 np e hp => ?_)
    · rw [← hxs]
      exact Evl.el_sl (Evl.ev_var rfl) Evl.eo_none (Evl.eo_some Evl.ev_c) hs
    · intro x
      rfl
    · intro i x H1 _ _ H2 _ Q' q
      exact q H2 (Evl.Ex.refl H2)
    · intro i x H1 _ hx _
      obtain ⟨c, rfl⟩ := hi x (List.mem_of_getElem? hx)
      refine Evl.ev_cb (Evl.ea_cons (Evl.ev_var rfl) Evl.ea_nil) (fun H2 _ Q' q => ⟨c, rfl, ?_⟩)
      have e2 : absAt xs i = if c < 0 then -c else c := by
        unfold absAt
        rw [hx]
      rw [← e2]
      exact q H2 (Evl.Ex.refl H2)
    · refine ⟨(by show 4 ≤ sizeLine; decide), fun b nb => ?_⟩
      have e3 : Evl.given xs.length (fun _ => true) (fun i => V.int (absAt xs i)) = ((List.range xs.length).map (absAt xs)).map V.int := by
        unfold Evl.given
        rw [List.filter_eq_self.mpr (fun _ _ => rfl), List.map_map]
        rfl
      rw [e3] at hp
      have npb : p ≠ b := ne_of_none hp nb
      have s2 : Same H (upd H2 b (.lst [V.int 0, V.int 1234567891, V.int 0, V.ref p])) := fun x o ex => by
        have y := e x o ex
        rw [upd_ne (ne_of_none y nb)]
        exact y
      obtain ⟨φ, hφ⟩ := hsys
      refine k b p _ ?_ ⟨⟨_, _, _, _, upd_same, by rw [upd_ne npb]; exact hp, by rw [List.length_map, List.length_range]; exact hz⟩, φ, s2 _ _ hφ⟩ s2
      cases hb : H b with
      | none => rfl
      | some o =>
        rw [e b o hb] at nb
        cases nb
theorem ok_alike (T : Txt K mg A) : FnG P w K mg base 1 A.a_law_alike A.d_law_alike ["_law_found", "_law_due"] (spAlike K) := by
  refine okG T._law_alike.F sc__law_alike (fun vs H Q E h => ?_) (fun cdv A' outer s H vs Q E hg hr h => ?_)
  · obtain ⟨x, y, d, rfl, _⟩ := h
    rfl
  · obtain ⟨x, y, d, rfl, dx, dy, fd, k⟩ := h
    refine ⟨_, (pss_one (ps_ret (pe_and (pe_cmpR (kEqD K (un64 hr)) (pv 0) (pv 1) (nomark _)) (pe_one (pe_cmpR op_eq (pe_callB (kRepr K hg (un66 hr)) (by rfl) T.nb_repr (by decide +kernel) (pa_cons (pv 0) pa_nil)) (pe_callB (kRepr K hg (un66 hr)) (by rfl) T.nb_repr (by decide +kernel) (pa_cons (pv 1) pa_nil)) (nomark _)))))), ?_⟩
    refine ⟨_, rfl, _, rfl, d, d, dp_of_dq fd.tm dx, dp_of_dq fd.tm dy, fd.shaped, fd.shaped, _, rfl, ?_⟩
    rw [fd.eqv]
    refine iteT ?_
    have h64 : d.depth ≤ 64 := Nat.le_trans fd.dp (by decide)
    refine ⟨_, rfl, x, d, rfl, dx, tame_show d fd.tm, h64, fd.len, _, rfl, y, d, rfl, dy, tame_show d fd.tm, h64, fd.len, rfl, ?_⟩
    rw [decide_eq_true rfl]
    exact k
end
end K19

namespace L19
open PySem PySem.Spec PyProof.Rows L2 On K19 Du M16
theorem cutD_to (xs : List PyData) (i : Nat) (h : i ≤ xs.length) : Du.cutD xs Option.none (some (i : Int)) = xs.take i := by
  unfold Du.cutD
  rw [HT.sIx_nat]
  show (xs.drop 0).take (min i xs.length - 0) = xs.take i
  rw [Nat.sub_zero, Nat.min_eq_left h]
  rfl
theorem cutD_from (xs : List PyData) (i : Nat) (h : i ≤ xs.length) : Du.cutD xs (some (i : Int)) Option.none = xs.drop i := by
  unfold Du.cutD
  rw [HT.sIx_nat, Nat.min_eq_left h]
  exact List.take_of_length_le (by rw [List.length_drop]; exact Nat.le_refl _)
theorem put_at (xs : List PyData) (i : Nat) (x : PyData) (h : i < xs.length) : xs.take i ++ ([x] ++ xs.drop (i + 1)) = xs.set i x := by
  rw [List.set_eq_take_append_cons_drop, if_pos h]
  rfl
theorem con_set (n : List Int) (k : Nat) (v : Int) : (n.map PyData.int).set k (.int v) = (n.set k v).map .int := by
  rw [List.map_set]
def fWith : List DV → (PyData → Prop) → Prop := fun as k => match as with
  | [.v (.tuple xs), .v (.int p), .v x] => (0 ≤ p ∧ p < xs.length ∧ xs.length ≤ 1000) ∧ k (.tuple (xs.set p.toNat x))
  | _ => False
def stepF (f g : Int × Int → Int) (h : List Pl → List Int → Prop) : List DV → (PyData → Prop) → Prop := fun as k => match as with
  | [.v (.tuple pds), .v (.tuple cs)] => ∃ b n, pds = benD b ∧ cs = n.map .int ∧ (Bok b ∧ Con b n ∧ b ≠ [] ∧ h b n) ∧ k (.list ((srt (stepsBy f g b n)).map conD))
  | _ => False
theorem bench_at {b : List Pl} {k : Nat} (h : k < b.length) : atI (benD b) (k : Int) = some (plD (b.getD k (0, []))) := by
  have e : (benD b)[k]? = some (plD b[k]) := by
    unfold benD
    rw [List.getElem?_map, List.getElem?_eq_getElem h]
    rfl
  rw [List.getD_eq_getElem?_getD, List.getElem?_eq_getElem h]
  exact atI_nat e
theorem pl_at1 (p : Pl) : atI [PyData.int (p.1 : Int), .tuple (p.2.map On.pairD)] (1 : Int) = some (.tuple (p.2.map On.pairD)) := atI_nat (j := 1) rfl
/-- what was found ahead of place k, and of its j-th move -/
def soFar (f g : Int × Int → Int) (b : List Pl) (n : List Int) (k j : Nat) : List (List Int) := ((List.range k).flatMap fun k => ((mvs b k).filter fun q => decide (f q = n.getD k 0)).map fun q => n.set k (g q)) ++ (((mvs b k).take j).filter fun q => decide (f q = n.getD k 0)).map fun q => n.set k (g q)
theorem soFar_next {f g : Int × Int → Int} {b : List Pl} {n : List Int} {k : Nat} : soFar f g b n k (mvs b k).length = soFar f g b n (k + 1) 0 := by
  unfold soFar
  rw [List.take_length, List.take_zero, List.filter_nil, List.map_nil, List.append_nil, List.range_succ, List.flatMap_append]
  simp
theorem soFar_step {f g : Int × Int → Int} {b : List Pl} {n : List Int} {k j : Nat} {q : Int × Int} (h : (mvs b k)[j]? = some q) : soFar f g b n k (j + 1) = soFar f g b n k j ++ (if f q = n.getD k 0 then [n.set k (g q)] else []) := by
  unfold soFar
  rw [List.take_add_one, h, List.filter_append, List.map_append, List.append_assoc]
  congr 2
  by_cases e : f q = n.getD k 0
  · rw [if_pos e]
    show List.map _ (List.filter _ [q]) = _
    rw [List.filter_cons, decide_eq_true e]
    rfl
  · rw [if_neg e]
    show List.map _ (List.filter _ [q]) = _
    rw [List.filter_cons, decide_eq_false e]
    rfl
theorem soFar_end {f g : Int × Int → Int} {b : List Pl} {n : List Int} : soFar f g b n n.length 0 = stepsBy f g b n := by
  unfold soFar stepsBy
  rw [List.take_zero, List.filter_nil, List.map_nil, List.append_nil]
theorem soFar_len {f g : Int × Int → Int} {b : List Pl} {n : List Int} {k j : Nat} (hn : Con b n) (hb : Bok b) (hk : k < n.length) : (soFar f g b n k j).length ≤ 200 := by
  unfold soFar
  have h0 : ∀ k, k < n.length → ∀ l : List (Int × Int), l.length ≤ 36 → ((l.filter fun q => decide (f q = n.getD k 0)).map fun q => n.set k (g q)).length ≤ 36 := fun k _ l hl => by
    rw [List.length_map]
    exact Nat.le_trans (List.length_filter_le _ _) hl
  have ml : ∀ k, k < n.length → (mvs b k).length ≤ 36 := fun k hk => hb.ml _ (getD_mem (d := ((0, []) : Pl)) (by rw [← hn.len]; exact hk))
  have z := flatMap_len (l := List.range k) (f := fun k => ((mvs b k).filter fun q => decide (f q = n.getD k 0)).map fun q => n.set k (g q)) (N := 36) fun i hi => h0 i (by have := List.mem_range.mp hi; omega) _ (ml i (by have := List.mem_range.mp hi; omega))
  have y := h0 k hk ((mvs b k).take j) (by rw [List.length_take]; have := ml k hk; omega)
  rw [List.length_range] at z
  have := hn.len
  have := hb.len
  rw [List.length_append]
  omega
section
variable {P : Program} {w : World} {K : PySem.W.Frag} {mg : Str → Option Value} {base : Heap} {A : Ads}
end
end L19

namespace L19
open PySem PySem.Spec PyProof.Rows L2 On K19 Du M16
def fFlat : List DV → (PyData → Prop) → Prop := fun as k => match as with
  | [.v (.list rows)] => ∃ ls : List (List PyData), rows = ls.map .list ∧ ls.flatten.length ≤ 100000 ∧ k (.list ls.flatten)
  | _ => False
theorem con_snoc (c : List Int) (v : Int) : conD (c ++ [v]) = .tuple (c.map .int ++ [.int v]) := by
  unfold conD
  rw [List.map_append]
  rfl
def fContsL : List DV → (PyData → Prop) → Prop := fun as k => match as with
  | [.v (.tuple pds)] => ∃ b, pds = benD b ∧ Bok b ∧ k (.list ((contents b).map conD))
  | _ => False
section
variable {P : Program} {w : World} {K : PySem.W.Frag} {mg : Str → Option Value} {base : Heap} {A : Ads}
theorem ok_flat (T : Txt K mg A) : FnG P w K mg base 1 A.a_law_flat A.d_law_flat ["_law_rows"] (spF K 1 fFlat) := by
  refine okD T._law_flat.F sc__law_flat (fun c cdv A' outer s H E hg hr => (dss_cons (ds_setL (i := 1) sc__law_flat.nd rfl (by first | exact Or.inl rfl | exact Or.inr rfl) (de_lst da_nil))
      (dss_cons (ds_for PassesOwn.never rfl (di_list rfl (de_var (pv 0))) (dg_name (pg_name (i := 2) sc__law_flat.nd rfl (by first | exact Or.inl rfl | exact Or.inr rfl))) (dss_one (ds_ext (ps_expr (pe_bm PySem.F.plainAttrs_list PySem.F.slot_list_extend PySem.F.type_list_extend mt_extend (pv 1) (pa_cons (de_var (pv 2)) pa_nil))))))
      (dss_one (ds_ret (dn_var (pv 1))))))) ?_
  intro as q hl h
  unfold fFlat at h
  split at h
  · rename_i rows
    obtain ⟨ls, rfl, hz, h⟩ := h
    simp only [dParL, mCallL, mCallB, dRev, bFor, bApp, dBack, mTab, mBack2, fSortE, dRet, dRetN, dIf, dSeq, dDrop, dAsg, gNm, gTp, gsNil, gsCons, dAsgL, dApp, dExt, dIns, dPopAt, dSetIx, dPar, dAug, dNext, mVar, mVarN, mC, m1, m2, mTst, mChain, mNot, mAnd, mOr, mAndV, mOrV, mNotV, mIf, mNil, mCons, mBag, Du.dataOf, mTup, mLst, mB, mCall, mIsi, mIsi2, mNotD, mTru, truD, fAdd, fI, fI0, fMul, fB, fEq, fNe, fIn, fGeD, fIs, isBd, fIsN, isNd, fNeg, fIx, mSlL, mSlT, mNoP, mPart, fLen, fAbs, fInt, fMin2, fTuple, fList, fAll, fAny, fRepr, miL, miT, miR1, miR2, miEn, miZip, miZip3, mRow, mLc, wipeE, dFor, mYes, Du.envOf, Option.map_some, Option.map_none, List.map_cons, List.map_nil, List.length_cons, List.length_nil, Nat.sub_self, Nat.add_sub_cancel, Nat.reduceAdd, Nat.reduceSub, List.replicate, List.cons_append, List.nil_append, List.append_nil, List.getElem?_cons_zero, List.getElem?_cons_succ, List.getElem?_nil, List.set_cons_zero, List.set_cons_succ]
    refine ⟨by decide, fun i e => ∃ x, e = [.v (.list (ls.map .list)), .own (ls.take i).flatten, x], ⟨_, rfl⟩, ?_, ?_⟩
    · rintro i d _ hd ⟨x, rfl⟩
      rw [List.getElem?_map] at hd
      obtain ⟨l, hl, rfl⟩ := Option.map_eq_some_iff.mp hd
      have e : (ls.take (i + 1)).flatten = (ls.take i).flatten ++ l := by
        rw [List.take_add_one, hl, List.flatten_append]
        simp
      have lz : (ls.take (i + 1)).flatten.length ≤ ls.flatten.length := by
        have z : ls.flatten = (ls.take (i + 1)).flatten ++ (ls.drop (i + 1)).flatten := by rw [← List.flatten_append, List.take_append_drop]
        rw [z, List.length_append]
        omega
      rw [e, List.length_append] at lz
      simp only [dParL, mCallL, mCallB, dRev, bFor, bApp, dBack, mTab, mBack2, fSortE, dRet, dRetN, dIf, dSeq, dDrop, dAsg, gNm, gTp, gsNil, gsCons, dAsgL, dApp, dExt, dIns, dPopAt, dSetIx, dPar, dAug, dNext, mVar, mVarN, mC, m1, m2, mTst, mChain, mNot, mAnd, mOr, mAndV, mOrV, mNotV, mIf, mNil, mCons, mBag, Du.dataOf, mTup, mLst, mB, mCall, mIsi, mIsi2, mNotD, mTru, truD, fAdd, fI, fI0, fMul, fB, fEq, fNe, fIn, fGeD, fIs, isBd, fIsN, isNd, fNeg, fIx, mSlL, mSlT, mNoP, mPart, fLen, fAbs, fInt, fMin2, fTuple, fList, fAll, fAny, fRepr, miL, miT, miR1, miR2, miEn, miZip, miZip3, mRow, mLc, wipeE, dFor, mYes, Du.envOf, Option.map_some, Option.map_none, List.map_cons, List.map_nil, List.length_cons, List.length_nil, Nat.sub_self, Nat.add_sub_cancel, Nat.reduceAdd, Nat.reduceSub, List.replicate, List.cons_append, List.nil_append, List.append_nil, List.getElem?_cons_zero, List.getElem?_cons_succ, List.getElem?_nil, List.set_cons_zero, List.set_cons_succ]
      exact ⟨by omega, _, by rw [e]⟩
    · rintro _ ⟨x, rfl⟩
      rw [List.length_map, List.take_length]
      exact h
  · exact h.elim
theorem ok_lconts (T : Txt K mg A) (G_law_flat : FnG P w K mg base 1 A.a_law_flat A.d_law_flat ["_law_rows"] (spF K 1 fFlat)) : FnG P w K mg base 2 A.a_law_contents A.d_law_contents ["_law_bench_here"] (spF K 1 fContsL) := by
  refine okD T._law_contents.F sc__law_contents (fun c cdv A' outer s H E hg hr => (dss_cons (ds_set (i := 1) sc__law_contents.nd rfl (by first | exact Or.inl rfl | exact Or.inr rfl) (de_l (de_lst (da_cons (de_tup da_nil) da_nil))))
      (dss_cons (ds_for PassesOwn.never rfl (di_tup rfl (de_var (pv 0))) (dg_name (pg_name (i := 2) sc__law_contents.nd rfl (by first | exact Or.inl rfl | exact Or.inr rfl))) (dss_one (ds_set (i := 1) sc__law_contents.nd rfl (by first | exact Or.inl rfl | exact Or.inr rfl) (de_call (pe_callG G_law_flat hg (hr.mono (by first | decide | omega)) rfl T._law_flat.g T._law_flat.F.kp T._law_flat.b (da_cons (de_l (de_lc (own := [("_law_content", 3)]) rfl sc__law_contents.nd (di_list rfl (de_var (pv 1))) (blkOk_by (N := ["_law_bench_here", "_law_found", "_law_place_here", "_law_content", "_law_value"]) (sc := defScope s_law_contents) (by decide +kernel)) (fun _ _ _ _ _ => (dg_name (pg_name (i := 3) sc__law_contents.nd rfl (by first | exact Or.inl rfl | exact Or.inr rfl)))) (fun _ _ _ _ _ => dts_nil) (fun _ _ _ _ _ => (de_l (de_lc (own := [("_law_value", 4)]) rfl sc__law_contents.nd (di_range1 rfl T.nb_range (da_cons (de_ix (kIxS K) (de_n (de_var (pv 2))) (de_n (de_c pe_int (fun _ => .int _))) (fun _ _ => rfl)) da_nil)) (blkOk_by (by rfl)) (fun _ _ _ _ _ => (dg_name (pg_name (i := 4) sc__law_contents.nd rfl (by first | exact Or.inl rfl | exact Or.inr rfl)))) (fun _ _ _ _ _ => dts_nil) (fun _ _ _ _ _ => (de_op op_addD od_add (de_n (de_var (pv 3))) (de_n (de_tup (da_cons (de_var (pv 4)) da_nil))))) (by decide)))) (by decide))) da_nil))))))
      (dss_one (ds_ret (de_n (de_var (pv 1)))))))) ?_
  intro as q hl h
  unfold fContsL at h
  split at h
  · rename_i pds
    obtain ⟨b, rfl, hb, h⟩ := h
    have hbl := hb.len
    simp only [dParL, mCallL, mCallB, dRev, bFor, bApp, dBack, mTab, mBack2, fSortE, dRet, dRetN, dIf, dSeq, dDrop, dAsg, gNm, gTp, gsNil, gsCons, dAsgL, dApp, dExt, dIns, dPopAt, dSetIx, dPar, dAug, dNext, mVar, mVarN, mC, m1, m2, mTst, mChain, mNot, mAnd, mOr, mAndV, mOrV, mNotV, mIf, mNil, mCons, mBag, Du.dataOf, mTup, mLst, mB, mCall, mIsi, mIsi2, mNotD, mTru, truD, fAdd, fI, fI0, fMul, fB, fEq, fNe, fIn, fGeD, fIs, isBd, fIsN, isNd, fNeg, fIx, mSlL, mSlT, mNoP, mPart, fLen, fAbs, fInt, fMin2, fTuple, fList, fAll, fAny, fRepr, miL, miT, miR1, miR2, miEn, miZip, miZip3, mRow, mLc, wipeE, dFor, mYes, Du.envOf, Option.map_some, Option.map_none, List.map_cons, List.map_nil, List.length_cons, List.length_nil, Nat.sub_self, Nat.add_sub_cancel, Nat.reduceAdd, Nat.reduceSub, List.replicate, List.cons_append, List.nil_append, List.append_nil, List.getElem?_cons_zero, List.getElem?_cons_succ, List.getElem?_nil, List.set_cons_zero, List.set_cons_succ]
    refine ⟨by decide, by decide, fun i e => ∃ x2 x3 x4, e = [.v (.tuple (benD b)), .v (.list ((contents (b.take i)).map conD)), x2, x3, x4], ⟨.un, .un, .un, rfl⟩, ?_, ?_⟩
    · rintro i d _ hd ⟨x2, x3, x4, rfl⟩
      unfold benD at hd
      rw [List.getElem?_map] at hd
      obtain ⟨p, hp, rfl⟩ := Option.map_eq_some_iff.mp hd
      have hi : i < b.length := (List.getElem?_eq_some_iff.mp hp).1
      have hpm := List.mem_of_getElem? hp
      have hp6 := hb.lo p hpm
      have hz := conts_len (fun p hp => (hb.lo p hp).2) i (Nat.le_of_lt hi)
      have h6 : 6 ^ i ≤ 6 ^ 4 := Nat.pow_le_pow_right (by decide) (by omega)
      have e6 : 6 ^ 4 = 1296 := by decide
      have hc := conts_take hp
      have hlen := conts_inlen i (b := b) (by omega)
      simp only [dParL, mCallL, mCallB, dRev, bFor, bApp, dBack, mTab, mBack2, fSortE, dRet, dRetN, dIf, dSeq, dDrop, dAsg, gNm, gTp, gsNil, gsCons, dAsgL, dApp, dExt, dIns, dPopAt, dSetIx, dPar, dAug, dNext, mVar, mVarN, mC, m1, m2, mTst, mChain, mNot, mAnd, mOr, mAndV, mOrV, mNotV, mIf, mNil, mCons, mBag, Du.dataOf, mTup, mLst, mB, mCall, mIsi, mIsi2, mNotD, mTru, truD, fAdd, fI, fI0, fMul, fB, fEq, fNe, fIn, fGeD, fIs, isBd, fIsN, isNd, fNeg, fIx, mSlL, mSlT, mNoP, mPart, fLen, fAbs, fInt, fMin2, fTuple, fList, fAll, fAny, fRepr, miL, miT, miR1, miR2, miEn, miZip, miZip3, mRow, mLc, wipeE, dFor, mYes, Du.envOf, Option.map_some, Option.map_none, List.map_cons, List.map_nil, List.length_cons, List.length_nil, Nat.sub_self, Nat.add_sub_cancel, Nat.reduceAdd, Nat.reduceSub, List.replicate, List.cons_append, List.nil_append, List.append_nil, List.getElem?_cons_zero, List.getElem?_cons_succ, List.getElem?_nil, List.set_cons_zero, List.set_cons_succ]
      generalize contents (b.take i) = cs at hz hc hlen ⊢
      refine lc_pure (fun c => [.v (.tuple (benD b)), .v (.list (cs.map conD)), .v (plD p), .v c, x4]) (fun _ => true) (fun c => .list ((grow1 p.1 (unC c)).map conD)) (cs.map conD) [] _ (by rw [List.length_nil, List.length_map]; omega) (fun c hc k' hk => hk) (fun c hc k' hk => hk) (fun c hc _ k' hk => ?_) ?_
      · obtain ⟨n, hn, rfl⟩ := List.mem_map.mp hc
        rw [unC_con] at hk
        simp only [plD, conD, dParL, mCallL, mCallB, dRev, bFor, bApp, dBack, mTab, mBack2, fSortE, dRet, dRetN, dIf, dSeq, dDrop, dAsg, gNm, gTp, gsNil, gsCons, dAsgL, dApp, dExt, dIns, dPopAt, dSetIx, dPar, dAug, dNext, mVar, mVarN, mC, m1, m2, mTst, mChain, mNot, mAnd, mOr, mAndV, mOrV, mNotV, mIf, mNil, mCons, mBag, Du.dataOf, mTup, mLst, mB, mCall, mIsi, mIsi2, mNotD, mTru, truD, fAdd, fI, fI0, fMul, fB, fEq, fNe, fIn, fGeD, fIs, isBd, fIsN, isNd, fNeg, fIx, mSlL, mSlT, mNoP, mPart, fLen, fAbs, fInt, fMin2, fTuple, fList, fAll, fAny, fRepr, miL, miT, miR1, miR2, miEn, miZip, miZip3, mRow, mLc, wipeE, dFor, mYes, Du.envOf, Option.map_some, Option.map_none, List.map_cons, List.map_nil, List.length_cons, List.length_nil, Nat.sub_self, Nat.add_sub_cancel, Nat.reduceAdd, Nat.reduceSub, List.replicate, List.cons_append, List.nil_append, List.append_nil, List.getElem?_cons_zero, List.getElem?_cons_succ, List.getElem?_nil, List.set_cons_zero, List.set_cons_succ]
        rw [show atI [PyData.int (p.1 : Int), PyData.tuple (p.2.map On.pairD)] (0 : Int) = some (.int (p.1 : Int)) from atI_nat (j := 0) rfl]
        refine ⟨⟨by omega, by omega⟩, ?_⟩
        refine lc_pure (fun v => [.v (.tuple (benD b)), .v (.list (cs.map conD)), .v (plD p), .v (conD n), .v v]) (fun _ => true) (fun v => .tuple (n.map .int ++ [v])) (intsD 0 p.1) [] _ (by rw [List.length_nil, ints_len]; omega) (fun c hc k' hk => hk) (fun c hc k' hk => hk) (fun v hv _ k' hk => ?_) ?_
        · simp only [conD, dParL, mCallL, mCallB, dRev, bFor, bApp, dBack, mTab, mBack2, fSortE, dRet, dRetN, dIf, dSeq, dDrop, dAsg, gNm, gTp, gsNil, gsCons, dAsgL, dApp, dExt, dIns, dPopAt, dSetIx, dPar, dAug, dNext, mVar, mVarN, mC, m1, m2, mTst, mChain, mNot, mAnd, mOr, mAndV, mOrV, mNotV, mIf, mNil, mCons, mBag, Du.dataOf, mTup, mLst, mB, mCall, mIsi, mIsi2, mNotD, mTru, truD, fAdd, fI, fI0, fMul, fB, fEq, fNe, fIn, fGeD, fIs, isBd, fIsN, isNd, fNeg, fIx, mSlL, mSlT, mNoP, mPart, fLen, fAbs, fInt, fMin2, fTuple, fList, fAll, fAny, fRepr, miL, miT, miR1, miR2, miEn, miZip, miZip3, mRow, mLc, wipeE, dFor, mYes, Du.envOf, Option.map_some, Option.map_none, List.map_cons, List.map_nil, List.length_cons, List.length_nil, Nat.sub_self, Nat.add_sub_cancel, Nat.reduceAdd, Nat.reduceSub, List.replicate, List.cons_append, List.nil_append, List.append_nil, List.getElem?_cons_zero, List.getElem?_cons_succ, List.getElem?_nil, List.set_cons_zero, List.set_cons_succ]
          refine ⟨by decide, ?_, hk⟩
          have := hlen n hn
          rw [List.length_map]
          omega
        · have e : ((intsD 0 p.1).filter fun _ => true).map (fun v => PyData.tuple (n.map .int ++ [v])) = (grow1 p.1 n).map conD := by
            rw [List.filter_eq_self.mpr fun _ _ => rfl]
            unfold intsD grow1
            rw [List.map_map, List.map_map]
            refine List.map_congr_left fun v _ => ?_
            show PyData.tuple _ = conD (n ++ [(v : Int)])
            rw [con_snoc]
            simp
          rw [e]
          exact hk
      · rw [List.filter_eq_self.mpr fun _ _ => rfl, List.map_map]
        refine ⟨trivial, cs.map fun n => (grow1 p.1 n).map conD, ?_, ?_, ?_⟩
        · rw [List.map_map, List.nil_append]
          refine List.map_congr_left fun n _ => ?_
          show PyData.list ((grow1 p.1 (unC (conD n))).map conD) = _
          rw [unC_con]
          rfl
        · rw [← List.flatMap_def]
          refine Nat.le_trans (flatMap_len (N := 6) fun n _ => ?_) (by omega)
          rw [List.length_map, grow1_len]
          exact hp6.2
        · refine ⟨.v (plD p), x3, x4, ?_⟩
          rw [← List.flatMap_def, hc, List.map_flatMap]
    · rintro _ ⟨x2, x3, x4, rfl⟩
      have e : b.take (benD b).length = b := by unfold benD; rw [List.length_map, List.take_length]
      rw [e]
      exact h
  · exact h.elim
theorem ok_lsteps (T : Txt K mg A) : FnG P w K mg base 1 A.a_law_steps A.d_law_steps ["_law_bench_here", "_law_content"] (spF K 2 (stepF Prod.fst Prod.snd fun _ _ => True)) := by
  refine okD T._law_steps.F sc__law_steps (fun c cdv A' outer s H E hg hr => (dss_cons (ds_setL (i := 2) sc__law_steps.nd rfl (by first | exact Or.inl rfl | exact Or.inr rfl) (de_lst da_nil))
      (dss_cons (ds_for PassesOwn.never rfl (di_range1 rfl T.nb_range (da_cons (de_b cd_len (pe_callB (kLen K) (by rfl) T.nb_len PySem.boot_len (dan_cons (de_n (de_var (pv 0))) dan_nil))) da_nil)) (dg_name (pg_name (i := 3) sc__law_steps.nd rfl (by first | exact Or.inl rfl | exact Or.inr rfl))) (dss_one (ds_for PassesOwn.never rfl (di_tup rfl (de_ix (kIxS K) (de_n (de_ix (kIxS K) (de_n (de_var (pv 0))) (de_n (de_var (pv 3))) (fun _ _ => rfl))) (de_n (de_c pe_int (fun _ => .int _))) (fun _ _ => rfl))) (dg_tup (n := 2) rfl rfl (dgs_cons (dg_name (pg_name (i := 4) sc__law_steps.nd rfl (by first | exact Or.inl rfl | exact Or.inr rfl))) (dgs_cons (dg_name (pg_name (i := 5) sc__law_steps.nd rfl (by first | exact Or.inl rfl | exact Or.inr rfl))) dgs_nil))) (dss_one (ds_ext (ps_expr (pe_bm PySem.F.plainAttrs_list PySem.F.slot_list_extend PySem.F.type_list_extend mt_extend (pv 2) (pa_cons (de_op op_mulD od_mul (de_ln (de_lst (da_cons (de_op op_addD od_add (de_n (de_op op_addD od_add (de_n (de_slT (kSlT K) (de_n (de_var (pv 1))) do_none (do_some (de_n (de_var (pv 3)))))) (de_n (de_tup (da_cons (de_var (pv 5)) da_nil))))) (de_n (de_slT (kSlT K) (de_n (de_var (pv 1))) (do_some (de_n (de_op op_addD od_add (de_n (de_var (pv 3))) (de_n (de_c pe_int (fun _ => .int _)))))) do_none))) da_nil))) (de_n (de_b cd_int (pe_callTy call_int1 (by rfl) T.nb_int (by decide +kernel) (dan_cons (de_n (de_cmp (op_eqQ (un66 hr)) od_eq (de_n (de_var (pv 4))) (de_n (de_ix (kIxS K) (de_n (de_var (pv 1))) (de_n (de_var (pv 3))) (fun _ _ => rfl))) (nomark _))) dan_nil))))) pa_nil))))))))
      (dss_one (ds_ret (de_ln (de_bl cl_sortE (pe_callB (kSortE (K := K)) (by rfl) T.nb_sorted (by decide +kernel) (dan_cons (dn_var (pv 2)) dan_nil))))))))) ?_
  intro as q hl h
  unfold stepF at h
  split at h
  · rename_i pds cs
    obtain ⟨b, n, rfl, rfl, ⟨hb, hn, hne, _⟩, h⟩ := h
    have hnl := hn.len
    have hbl := hb.len
    have lb : (benD b).length = n.length := by unfold benD; rw [List.length_map]; exact hnl.symm
    simp only [dParL, mCallL, mCallB, dRev, bFor, bApp, dBack, mTab, mBack2, fSortE, dRet, dRetN, dIf, dSeq, dDrop, dAsg, gNm, gTp, gsNil, gsCons, dAsgL, dApp, dExt, dIns, dPopAt, dSetIx, dPar, dAug, dNext, mVar, mVarN, mC, m1, m2, mTst, mChain, mNot, mAnd, mOr, mAndV, mOrV, mNotV, mIf, mNil, mCons, mBag, Du.dataOf, mTup, mLst, mB, mCall, mIsi, mIsi2, mNotD, mTru, truD, fAdd, fI, fI0, fMul, fB, fEq, fNe, fIn, fGeD, fIs, isBd, fIsN, isNd, fNeg, fIx, mSlL, mSlT, mNoP, mPart, fLen, fAbs, fInt, fMin2, fTuple, fList, fAll, fAny, fRepr, miL, miT, miR1, miR2, miEn, miZip, miZip3, mRow, mLc, wipeE, dFor, mYes, Du.envOf, Option.map_some, Option.map_none, List.map_cons, List.map_nil, List.length_cons, List.length_nil, Nat.sub_self, Nat.add_sub_cancel, Nat.reduceAdd, Nat.reduceSub, List.replicate, List.cons_append, List.nil_append, List.append_nil, List.getElem?_cons_zero, List.getElem?_cons_succ, List.getElem?_nil, List.set_cons_zero, List.set_cons_succ]
    refine ⟨by decide, ⟨by omega, by omega⟩, fun i e => ∃ x3 x4 x5, e = [.v (.tuple (benD b)), .v (.tuple (n.map .int)), .own ((soFar Prod.fst Prod.snd b n i 0).map conD), x3, x4, x5], ⟨.un, .un, .un, rfl⟩, ?_, ?_⟩
    · rintro i d _ hd ⟨x3, x4, x5, rfl⟩
      obtain ⟨i', hi', hd'⟩ := mem_ints (List.mem_of_getElem? hd)
      have hi : i < n.length := by
        have := (List.getElem?_eq_some_iff.mp hd).1
        rw [ints_len] at this
        omega
      have ed : d = .int (i : Int) := by
        unfold intsD at hd
        rw [List.getElem?_map, List.getElem?_range (by omega)] at hd
        cases hd
        show PyData.int (0 + (i : Int)) = _
        rw [Int.zero_add]
      subst ed
      obtain ⟨v0, hv⟩ : ∃ v, n[i]? = some v := ⟨_, List.getElem?_eq_getElem hi⟩
      have gv : n.getD i 0 = v0 := getD_at hv
      simp only [dParL, mCallL, mCallB, dRev, bFor, bApp, dBack, mTab, mBack2, fSortE, dRet, dRetN, dIf, dSeq, dDrop, dAsg, gNm, gTp, gsNil, gsCons, dAsgL, dApp, dExt, dIns, dPopAt, dSetIx, dPar, dAug, dNext, mVar, mVarN, mC, m1, m2, mTst, mChain, mNot, mAnd, mOr, mAndV, mOrV, mNotV, mIf, mNil, mCons, mBag, Du.dataOf, mTup, mLst, mB, mCall, mIsi, mIsi2, mNotD, mTru, truD, fAdd, fI, fI0, fMul, fB, fEq, fNe, fIn, fGeD, fIs, isBd, fIsN, isNd, fNeg, fIx, mSlL, mSlT, mNoP, mPart, fLen, fAbs, fInt, fMin2, fTuple, fList, fAll, fAny, fRepr, miL, miT, miR1, miR2, miEn, miZip, miZip3, mRow, mLc, wipeE, dFor, mYes, Du.envOf, Option.map_some, Option.map_none, List.map_cons, List.map_nil, List.length_cons, List.length_nil, Nat.sub_self, Nat.add_sub_cancel, Nat.reduceAdd, Nat.reduceSub, List.replicate, List.cons_append, List.nil_append, List.append_nil, List.getElem?_cons_zero, List.getElem?_cons_succ, List.getElem?_nil, List.set_cons_zero, List.set_cons_succ]
      rw [bench_at (by omega)]
      simp only [plD]
      rw [pl_at1]
      refine ⟨fun j e => ∃ x4 x5, e = [.v (.tuple (benD b)), .v (.tuple (n.map .int)), .own ((soFar Prod.fst Prod.snd b n i j).map conD), .v (.int i), x4, x5], ⟨_, _, rfl⟩, ?_, ?_⟩
      · rintro j d _ hd ⟨x4, x5, rfl⟩
        rw [List.getElem?_map] at hd
        obtain ⟨q, hq, rfl⟩ := Option.map_eq_some_iff.mp hd
        have hq : (mvs b i)[j]? = some q := hq
        have hs := soFar_step (f := Prod.fst) (g := Prod.snd) (n := n) hq
        have hl2 := soFar_len (f := Prod.fst) (g := Prod.snd) (k := i) (j := j) hn hb hi
        rw [gv] at hs
        have e1 : (i : Int) + 1 = ((i + 1 : Nat) : Int) := by omega
        have at_i : atI (n.map PyData.int) (i : Int) = some (.int v0) := atI_nat (by rw [List.getElem?_map, hv]; rfl)
        simp only [On.pairD, dParL, mCallL, mCallB, dRev, bFor, bApp, dBack, mTab, mBack2, fSortE, dRet, dRetN, dIf, dSeq, dDrop, dAsg, gNm, gTp, gsNil, gsCons, dAsgL, dApp, dExt, dIns, dPopAt, dSetIx, dPar, dAug, dNext, mVar, mVarN, mC, m1, m2, mTst, mChain, mNot, mAnd, mOr, mAndV, mOrV, mNotV, mIf, mNil, mCons, mBag, Du.dataOf, mTup, mLst, mB, mCall, mIsi, mIsi2, mNotD, mTru, truD, fAdd, fI, fI0, fMul, fB, fEq, fNe, fIn, fGeD, fIs, isBd, fIsN, isNd, fNeg, fIx, mSlL, mSlT, mNoP, mPart, fLen, fAbs, fInt, fMin2, fTuple, fList, fAll, fAny, fRepr, miL, miT, miR1, miR2, miEn, miZip, miZip3, mRow, mLc, wipeE, dFor, mYes, Du.envOf, Option.map_some, Option.map_none, List.map_cons, List.map_nil, List.length_cons, List.length_nil, Nat.sub_self, Nat.add_sub_cancel, Nat.reduceAdd, Nat.reduceSub, List.replicate, List.cons_append, List.nil_append, List.append_nil, List.getElem?_cons_zero, List.getElem?_cons_succ, List.getElem?_nil, List.set_cons_zero, List.set_cons_succ]
        rw [e1, cutD_to _ i (by rw [List.length_map]; omega), cutD_from _ (i + 1) (by rw [List.length_map]; omega), at_i]
        simp only [List.length_append, List.length_take, List.length_drop, List.length_cons, List.length_nil, List.length_map]
        refine ⟨trivial, by decide, by omega, by omega, by decide, okEq_int _ _, ?_⟩
        rw [eqv_int, List.append_assoc, put_at _ i _ (by rw [List.length_map]; omega), con_set]
        by_cases e : q.1 = v0
        · rw [if_pos e] at hs
          refine ⟨by rw [decide_eq_true e]; decide, ?_, ?_⟩
          · rw [decide_eq_true e]
            show _ + ([PyData.tuple ((n.set i q.2).map .int)] ++ []).length ≤ 100000
            show _ + 1 ≤ 100000
            omega
          · refine ⟨.v (.int q.1), .v (.int q.2), ?_⟩
            rw [hs, List.map_append, decide_eq_true e]
            rfl
        · rw [if_neg e, List.append_nil] at hs
          refine ⟨by rw [decide_eq_false e]; decide, ?_, ?_⟩
          · rw [decide_eq_false e]
            show _ + 0 ≤ 100000
            omega
          · refine ⟨.v (.int q.1), .v (.int q.2), ?_⟩
            rw [hs, decide_eq_false e]
            show [_, _, DV.own (_ ++ []), _, _, _] = _
            rw [List.append_nil]
      · rintro _ ⟨x4, x5, rfl⟩
        refine ⟨.v (.int i), x4, x5, ?_⟩
        rw [List.length_map]
        have z := soFar_next (f := Prod.fst) (g := Prod.snd) (b := b) (n := n) (k := i)
        unfold mvs at z
        rw [z]
    · rintro _ ⟨x3, x4, x5, rfl⟩
      have le : (intsD 0 ((benD b).length : Int).toNat).length = n.length := by
        rw [ints_len]
        omega
      rw [le, soFar_end]
      have hs := steps_len (f := Prod.fst) (g := Prod.snd) hn hbl hb.fr
      simp only [dParL, mCallL, mCallB, dRev, bFor, bApp, dBack, mTab, mBack2, fSortE, dRet, dRetN, dIf, dSeq, dDrop, dAsg, gNm, gTp, gsNil, gsCons, dAsgL, dApp, dExt, dIns, dPopAt, dSetIx, dPar, dAug, dNext, mVar, mVarN, mC, m1, m2, mTst, mChain, mNot, mAnd, mOr, mAndV, mOrV, mNotV, mIf, mNil, mCons, mBag, Du.dataOf, mTup, mLst, mB, mCall, mIsi, mIsi2, mNotD, mTru, truD, fAdd, fI, fI0, fMul, fB, fEq, fNe, fIn, fGeD, fIs, isBd, fIsN, isNd, fNeg, fIx, mSlL, mSlT, mNoP, mPart, fLen, fAbs, fInt, fMin2, fTuple, fList, fAll, fAny, fRepr, miL, miT, miR1, miR2, miEn, miZip, miZip3, mRow, mLc, wipeE, dFor, mYes, Du.envOf, Option.map_some, Option.map_none, List.map_cons, List.map_nil, List.length_cons, List.length_nil, Nat.sub_self, Nat.add_sub_cancel, Nat.reduceAdd, Nat.reduceSub, List.replicate, List.cons_append, List.nil_append, List.append_nil, List.getElem?_cons_zero, List.getElem?_cons_succ, List.getElem?_nil, List.set_cons_zero, List.set_cons_succ]
      refine ⟨_, rfl, by omega, ⟨b.length, List.length_pos_iff.mpr hne, steps_bd hb hn fun p hp q hq => (hb.mv p hp q hq).2⟩, h⟩
  · exact h.elim
end
end L19

namespace L19
open PySem PySem.Spec PyProof.Rows L2 On K19 Du M16
/-- == of two texts -/
def fEqS : F2 := fun d e k => match d, e with
  | .str x, .str y => k (.bool (decide (x = y)))
  | _, _ => False
theorem od_eqS {K : PySem.W.Frag} : OpD K rEq fEqS := fun O H x y d e k Q hd hs nx ny hf q => by
  unfold fEqS at hf
  split at hf
  · rename_i a b
    cases nq_str nx
    cases nq_str ny
    refine ⟨rfl, ?_⟩
    have e : decide (V.str a = V.str b) = decide (a = b) := decide_eq_decide.mpr ⟨fun z => by injection z, fun z => by rw [z]⟩
    rw [e]
    exact q _ _ H hf (Same.refl H) (.bl _)
  · exact hf.elim
def pqI (d : PyData) : Int × Int := match d with
  | .tuple [.int a, .int b] => (a, b)
  | _ => (0, 0)
theorem pqI_pair (q : Int × Int) : pqI (On.pairD q) = q := rfl
theorem sel_map (B : Int × Int → Bool) : ∀ qs : List (Int × Int), ((qs.map On.pairD).filter fun d => B (pqI d)).map (fun d => On.pairD (pqI d)) = (qs.filter B).map On.pairD
  | [] => rfl
  | q :: qs => by
    rw [List.map_cons, List.filter_cons, List.filter_cons, pqI_pair]
    cases B q with
    | true => rw [if_pos rfl, if_pos rfl, List.map_cons, List.map_cons, pqI_pair, sel_map B qs]
    | false => rw [if_neg Bool.false_ne_true, if_neg Bool.false_ne_true, sel_map B qs]
/-- pairs that are picked out by B -/
theorem lc_sel {g : MG} {mt : MT} {me : ME} {env : List DV} (E : Int × Int → List DV) (B : Int × Int → Bool) (qs : List (Int × Int)) (k : PyData → Prop) (hl : qs.length ≤ 100000) (hg : ∀ q ∈ qs, ∀ k', k' (E q) → g (On.pairD q) env k')
    (ht : ∀ q ∈ qs, ∀ k', k' (B q) → mt (E q) k') (he : ∀ q ∈ qs, ∀ k', k' (On.pairD q) → me (E q) k') (hk : k (.list ((qs.filter B).map On.pairD))) : lcGo g mt me env [] (qs.map On.pairD) k := by
  refine lc_pure (fun d => E (pqI d)) (fun d => B (pqI d)) (fun d => On.pairD (pqI d)) (qs.map On.pairD) [] k (by rw [List.length_nil, List.length_map]; omega) (fun d hd k' h => ?_) (fun d hd k' h => ?_) (fun d hd _ k' h => ?_) ?_
  · obtain ⟨q, hq, rfl⟩ := List.mem_map.mp hd
    exact hg q hq k' h
  · obtain ⟨q, hq, rfl⟩ := List.mem_map.mp hd
    exact ht q hq k' h
  · obtain ⟨q, hq, rfl⟩ := List.mem_map.mp hd
    exact he q hq k' h
  · rw [List.nil_append, sel_map]
    exact hk
theorem in2 (z a b : Int) : (false != ([PyData.int a, .int b].any fun x => x.eqv (.int z))) = (decide (z = a) || decide (z = b)) := by
  rw [Bool.false_bne, List.any_cons, List.any_cons, List.any_nil, Bool.or_false, eqv_int, eqv_int]
  congr 1 <;> exact decide_eq_decide.mpr ⟨fun h => h.symm, fun h => h.symm⟩
theorem okIn2 (z a b : Int) : okIn (.int z) [.int a, .int b] = true := by
  unfold okIn
  simp [PyData.canLay0, PyData.canLayAll0, PyData.depth, PyData.depthAll]
structure OkA (d : PyData) : Prop where
  tm : tame d = true
  dp : d.depth ≤ 60
  wd : wide d ≤ 10000000
theorem OkA.len {d : PyData} (f : OkA d) : d.shown.length ≤ sizeLine := by
  have h1 := tame_len d f.tm
  have h2 := f.wd
  rw [sizeLine_eq]
  omega
def fAlike : List DV → (PyData → Prop) → Prop := fun as k => match as with
  | [.v d, .v e] => (d = e ∧ OkA e) ∧ k (.bool true)
  | _ => False
def ev (m : Nat) : List (Int × Int) := (List.range m).flatMap fun v => ((List.range m).filter fun w => !decide (v = w)).map fun (w : Nat) => ((v : Int), (w : Int))
def made (m : Nat) : List Pl := [(m, ev m), (m, (ev m).filter fun q => decide (q.1 - q.2 = 1) || decide (q.1 - q.2 = -1)), (m, (ev m).filter fun q => decide (q.1 < q.2))] ++
  (if 2 < m then [(m, (ev m).filter fun q => decide ((q.1 - q.2) % (m : Int) = 1) || decide ((q.1 - q.2) % (m : Int) = (m : Int) - 1))] else [])
theorem ev_len {n : Nat} (h : n ≤ 6) : (ev n).length ≤ 36 := by
  unfold ev
  refine Nat.le_trans (flatMap_len (N := 6) fun v _ => ?_) (by rw [List.length_range]; omega)
  rw [List.length_map]
  refine Nat.le_trans (List.length_filter_le _ _) ?_
  rw [List.length_range]
  omega
/-- one row of the law's own list -/
def evRowL (n : Nat) (d : PyData) : List PyData := ((intsD 0 n).filter fun w => !PyData.eqv d w).map fun w => .tuple [d, w]
def evRow (n : Nat) (d : PyData) : PyData := .list (evRowL n d)
theorem evRow_lists (n : Nat) : (intsD 0 n).map (evRow n) = ((intsD 0 n).map (evRowL n)).map .list := by
  rw [List.map_map]
  rfl
theorem evRow_flat (n : Nat) : ((intsD 0 n).map (evRowL n)).flatten = (ev n).map On.pairD := by
  rw [← List.flatMap_def]
  unfold ev
  rw [List.map_flatMap]
  unfold intsD
  rw [List.flatMap_map]
  refine congrArg (fun f => List.flatMap f (List.range n)) (funext fun v => ?_)
  show ((intsD 0 n).filter fun w => !PyData.eqv (.int (0 + (v : Int))) w).map (fun w => PyData.tuple [.int (0 + (v : Int)), w]) = _
  unfold intsD
  rw [List.filter_map, List.map_map, List.map_map]
  have e : ((fun w => !PyData.eqv (.int (0 + (v : Int))) w) ∘ fun (i : Nat) => PyData.int (0 + (i : Int))) = fun w => !decide (v = w) := funext fun w => by
    show (!PyData.eqv (.int (0 + (v : Int))) (.int (0 + (w : Int)))) = _
    rw [eqv_int]
    congr 1
    exact decide_eq_decide.mpr ⟨fun z => by omega, fun z => by omega⟩
  rw [e]
  refine List.map_congr_left fun w _ => ?_
  show PyData.tuple [.int (0 + (v : Int)), .int (0 + (w : Int))] = PyData.tuple [.int (v : Int), .int (w : Int)]
  rw [Int.zero_add, Int.zero_add]
section
variable {P : Program} {w : World} {K : PySem.W.Frag} {mg : Str → Option Value} {base : Heap} {A : Ads}
theorem ok_alikeD (T : Txt K mg A) : FnG P w K mg base 1 A.a_law_alike A.d_law_alike ["_law_found", "_law_due"] (spF K 2 fAlike) := by
  refine okD T._law_alike.F sc__law_alike (fun c cdv A' outer s H E hg hr => (dss_one (ds_ret (de_n (de_and (de_cmp (op_eqQ (un66 hr)) od_eq (de_n (de_var (pv 0))) (de_n (de_var (pv 1))) (nomark _)) (de_one (de_cmp op_eq od_eqS (de_n (de_b cd_repr (pe_callB (call_reprA hg (un66 hr)) (by rfl) T.nb_repr (by decide +kernel) (dan_cons (de_n (de_var (pv 0))) dan_nil)))) (de_n (de_b cd_repr (pe_callB (call_reprA hg (un66 hr)) (by rfl) T.nb_repr (by decide +kernel) (dan_cons (de_n (de_var (pv 1))) dan_nil)))) (nomark _)))))))) ?_
  intro as q hl h
  unfold fAlike at h
  split at h
  · rename_i d e
    obtain ⟨⟨rfl, f⟩, h⟩ := h
    simp only [fEqS, dParL, mCallL, mCallB, dRev, bFor, bApp, dBack, mTab, mBack2, fSortE, dRet, dRetN, dIf, dSeq, dDrop, dAsg, gNm, gTp, gsNil, gsCons, dAsgL, dApp, dExt, dIns, dPopAt, dSetIx, dPar, dAug, dNext, mVar, mVarN, mC, m1, m2, mTst, mChain, mNot, mAnd, mOr, mAndV, mOrV, mNotV, mIf, mNil, mCons, mBag, Du.dataOf, mTup, mLst, mB, mCall, mIsi, mIsi2, mNotD, mTru, truD, fAdd, fI, fI0, fMul, fB, fEq, fNe, fIn, fGeD, fIs, isBd, fIsN, isNd, fNeg, fIx, mSlL, mSlT, mNoP, mPart, fLen, fAbs, fInt, fMin2, fTuple, fList, fAll, fAny, fRepr, miL, miT, miR1, miR2, miEn, miZip, miZip3, mRow, mLc, wipeE, dFor, mYes, Du.envOf, Option.map_some, Option.map_none, List.map_cons, List.map_nil, List.length_cons, List.length_nil, Nat.sub_self, Nat.add_sub_cancel, Nat.reduceAdd, Nat.reduceSub, List.replicate, List.cons_append, List.nil_append, List.append_nil, List.getElem?_cons_zero, List.getElem?_cons_succ, List.getElem?_nil, List.set_cons_zero, List.set_cons_succ]
    refine ⟨⟨tame_lay d f.tm, tame_lay d f.tm, by rw [Nat.min_self]; exact f.dp⟩, ?_⟩
    rw [SeqAt.eqv_refl d (tame_lay d f.tm)]
    refine ⟨⟨tame_show d f.tm, by have := f.dp; omega, f.len⟩, ⟨tame_show d f.tm, by have := f.dp; omega, f.len⟩, ?_⟩
    have e : decide True = true := rfl
    first | exact h | (rw [e]; exact h)
  · exact h.elim
end
end L19

namespace L19
open PySem PySem.Spec PyProof.Rows L2 On K19 Du M16
theorem FnG_imp {P : Program} {w : World} {K : PySem.W.Frag} {mg : Str → Option Value} {base : Heap} {k : Nat} {f : Addr} {fd : FuncData} {ps : List Str} {sp sp' : Sp} (F : FnG P w K mg base k f fd ps sp) (h : ∀ vs H Q E, sp' vs H Q E → sp vs H Q E) : FnG P w K mg base k f fd ps sp' :=
  ⟨fun vs H Q E q => F.ln vs H Q E (h _ _ _ _ q), fun A outer s H args us vs Q E hg hr e0 b r q => F.go A outer s H args us vs Q E hg hr e0 b r (h _ _ _ _ q)⟩
def fTake : List DV → (PyData → Prop) → Prop := fun as k => match as with
  | [.bag, .v (.int n)] => (0 < n ∧ n.natAbs.log2 < 9000) ∧ ∀ v : Int, 0 ≤ v → v < n → k (.int v)
  | _ => False
def fSome : List DV → (PyData → Prop) → Prop := fun as k => match as with
  | [.bag, .v (.list ds)] => (ds ≠ [] ∧ ds.length < 1000000) ∧ ∀ d ∈ ds, k d
  | _ => False
def fMixed : List DV → (PyData → Prop) → Prop := fun as k => match as with
  | [.bag, .v (.list ds)] => ds.length ≤ 20000 ∧ ∀ es : List PyData, es.Perm ds → k (.list es)
  | [.bag, .v (.tuple ds)] => ds.length ≤ 20000 ∧ ∀ es : List PyData, es.Perm ds → k (.list es)
  | _ => False
/-- a place that may be drawn -/
def ltQ (a b : Int × Int) : Prop := a.1 < b.1 ∨ (a.1 = b.1 ∧ a.2 < b.2)
structure PlOk (p : Pl) : Prop where
  lo : 2 ≤ p.1 ∧ p.1 ≤ 6
  nd : p.2.Nodup
  mv : ∀ q ∈ p.2, q ∈ ev p.1
  up : p.2.Pairwise ltQ
def evRowW (n : Nat) (d : PyData) : List PyData := ((intsD 0 n).filter fun w => !PyData.eqv w d).map fun w => .tuple [d, w]
theorem evRowW_flat (n : Nat) : ((intsD 0 n).map (evRowW n)).flatten = (ev n).map On.pairD := by
  rw [← evRow_flat]
  congr 1
  refine List.map_congr_left fun d hd => ?_
  obtain ⟨i, hi, rfl⟩ := mem_ints hd
  unfold evRowW evRowL
  congr 1
  refine List.filter_congr fun w hw => ?_
  obtain ⟨j, hj, rfl⟩ := mem_ints hw
  rw [eqv_int, eqv_int]
  congr 1
  exact decide_eq_decide.mpr ⟨fun z => z.symm, fun z => z.symm⟩
def two (q : Int × Int) : List Int := [q.1, q.2]
def un2 (n : List Int) : Int × Int := (n.getD 0 0, n.getD 1 0)
theorem un2_two (q : Int × Int) : un2 (two q) = q := rfl
theorem map_un2 (qs : List (Int × Int)) : (qs.map two).map un2 = qs := by
  rw [List.map_map]
  exact List.map_id qs
theorem sort_pairs (qs : List (Int × Int)) : ∃ rs : List (Int × Int), rs.Perm qs ∧ (rs.Pairwise fun a b => TS.code 6 (two a) ≤ TS.code 6 (two b)) ∧ (srt (qs.map two)).map conD = rs.map On.pairD := by
  have hp := srt_perm (qs.map two)
  refine ⟨(srt (qs.map two)).map un2, ?_, ?_, ?_⟩
  · have z := hp.map un2
    rw [map_un2] at z
    exact z
  · rw [List.pairwise_map]
    refine (srt_pw (qs.map two)).imp_of_mem fun {a b} ha hb h => ?_
    obtain ⟨q, _, rfl⟩ := List.mem_map.mp (hp.mem_iff.mp ha)
    obtain ⟨r, _, rfl⟩ := List.mem_map.mp (hp.mem_iff.mp hb)
    rw [un2_two, un2_two]
    exact h
  · rw [List.map_map]
    refine List.map_congr_left fun n hn => ?_
    obtain ⟨q, _, rfl⟩ := List.mem_map.mp (hp.mem_iff.mp hn)
    rfl
theorem perm_pairs {es : List PyData} {qs : List (Int × Int)} (p : es.Perm (qs.map On.pairD)) : ∃ rs : List (Int × Int), rs.Perm qs ∧ es = rs.map On.pairD := by
  refine ⟨es.map pqI, ?_, ?_⟩
  · have z := p.map pqI
    rw [List.map_map] at z
    have e : qs.map (pqI ∘ On.pairD) = qs := List.map_id qs
    rwa [e] at z
  · rw [List.map_map]
    have e : es.map (On.pairD ∘ pqI) = es.map id := List.map_congr_left fun d hd => by
      obtain ⟨q, _, rfl⟩ := List.mem_map.mp (p.mem_iff.mp hd)
      rfl
    rw [e, List.map_id]
def fPlace : List DV → (PyData → Prop) → Prop := fun as k => match as with
  | [.bag, .v (.int n)] => (2 ≤ n ∧ n ≤ 6) ∧ ∀ p : Pl, PlOk p → k (plD p)
  | _ => False
theorem mem_ev {m : Nat} {q : Int × Int} : q ∈ ev m ↔ (0 ≤ q.1 ∧ q.1 < m) ∧ (0 ≤ q.2 ∧ q.2 < m) ∧ q.1 ≠ q.2 := by
  unfold ev
  rw [List.mem_flatMap]
  constructor
  · rintro ⟨v, hv, h⟩
    obtain ⟨w, hw, rfl⟩ := List.mem_map.mp h
    obtain ⟨h1, h2⟩ := List.mem_filter.mp hw
    have := List.mem_range.mp hv
    have := List.mem_range.mp h1
    have h3 : ¬ v = w := by simpa using h2
    show ((0 : Int) ≤ (v : Int) ∧ (v : Int) < m) ∧ ((0 : Int) ≤ (w : Int) ∧ (w : Int) < m) ∧ (v : Int) ≠ (w : Int)
    omega
  · rintro ⟨⟨a1, a2⟩, ⟨a3, a4⟩, a5⟩
    refine ⟨q.1.toNat, List.mem_range.mpr (by omega), List.mem_map.mpr ⟨q.2.toNat, List.mem_filter.mpr ⟨List.mem_range.mpr (by omega), ?_⟩, ?_⟩⟩
    · have : ¬ q.1.toNat = q.2.toNat := by omega
      simp [this]
    · obtain ⟨x, y⟩ := q
      show (((x.toNat : Nat) : Int), ((y.toNat : Nat) : Int)) = (x, y)
      have a1 : 0 ≤ x := a1
      have a3 : 0 ≤ y := a3
      rw [Int.toNat_of_nonneg a1, Int.toNat_of_nonneg a3]
theorem ev_nodup (m : Nat) : (ev m).Nodup := by
  unfold ev List.Nodup
  rw [List.pairwise_flatMap]
  refine ⟨fun v _ => ?_, (List.nodup_range (n := m)).imp fun {a b} ne x hx y hy e => ?_⟩
  · rw [List.pairwise_map]
    refine ((List.nodup_range (n := m)).filter _).imp fun {a b} ne e => ne ?_
    injection e with _ e
    omega
  · obtain ⟨u, _, rfl⟩ := List.mem_map.mp hx
    obtain ⟨w, _, rfl⟩ := List.mem_map.mp hy
    injection e with e _
    exact ne (by omega)
theorem ev_up (m : Nat) : (ev m).Pairwise ltQ := by
  unfold ev
  rw [List.pairwise_flatMap]
  refine ⟨fun v _ => ?_, (List.pairwise_lt_range (n := m)).imp fun {a b} lt x hx y hy => ?_⟩
  · rw [List.pairwise_map]
    refine ((List.pairwise_lt_range (n := m)).filter _).imp fun {a b} lt => .inr ⟨rfl, ?_⟩
    show (a : Int) < (b : Int)
    omega
  · obtain ⟨u, _, rfl⟩ := List.mem_map.mp hx
    obtain ⟨w, _, rfl⟩ := List.mem_map.mp hy
    refine .inl ?_
    show (a : Int) < (b : Int)
    omega
theorem lt_code {a b : Int × Int} (h1 : 0 ≤ a.2 ∧ a.2 < 6) (h2 : 0 ≤ b.2 ∧ b.2 < 6) (h : TS.code 6 (two a) ≤ TS.code 6 (two b)) (ne : a ≠ b) : ltQ a b := by
  obtain ⟨x, y⟩ := a
  obtain ⟨u, v⟩ := b
  have h : x * 6 ^ 1 + (y * 6 ^ 0 + 0) ≤ u * 6 ^ 1 + (v * 6 ^ 0 + 0) := h
  have ne : ¬ (x = u ∧ y = v) := fun z => ne (by rw [z.1, z.2])
  have h1 : 0 ≤ y ∧ y < 6 := h1
  have h2 : 0 ≤ v ∧ v < 6 := h2
  show x < u ∨ (x = u ∧ y < v)
  omega
theorem plOk_filter {m : Nat} (h2 : 2 ≤ m) (h6 : m ≤ 6) (B : Int × Int → Bool) : PlOk (m, (ev m).filter B) :=
  ⟨⟨h2, h6⟩, (ev_nodup m).filter B, fun q hq => (List.mem_filter.mp hq).1, (ev_up m).filter B⟩
theorem plOk_ev {m : Nat} (h2 : 2 ≤ m) (h6 : m ≤ 6) : PlOk (m, ev m) := ⟨⟨h2, h6⟩, ev_nodup m, fun q hq => hq, ev_up m⟩
section
variable {P : Program} {w : World} {K : PySem.W.Frag} {mg : Str → Option Value} {base : Heap} {A : Ads}
theorem ok_takeD (T : Txt K mg A) : FnG P w K mg base 1 A.a_law_take A.d_law_take ["_law_bag_here", "_law_upto"] (spF K 2 fTake) := FnG_imp (FnG.of (K19.ok_take T)) fun vs H Q E h => by
  obtain ⟨O, b, l, as, k, h1, h2, hs, ns, ps, hl, hf, q⟩ := h
  unfold fTake at hf
  split at hf
  · rename_i n
    obtain ⟨⟨n0, nl⟩, hf⟩ := hf
    cases ps with
    | cons r1 t =>
      cases t with
      | cons r2 t =>
        cases t
        obtain ⟨a, rfl, rfl⟩ := r1
        have r2' : Da K (offs O H) _ (.int n) := r2
        cases r2'
        obtain ⟨b1, b2, b3⟩ := h2 a (by simp)
        exact ⟨a, l, n, rfl, b2, n0, nl, fun v H' v0 v1 B' bu => q (.int v) (.int v) H' (hf v v0 v1) (fun a' o nb e => bu a' o (fun z => nb (by rw [z]; simp)) e) (fun a' ha => by
          rw [List.mem_singleton] at ha
          rw [ha]
          exact B') (.int v)⟩
  · exact hf.elim
theorem ok_someD (T : Txt K mg A) (G_law_take : FnG P w K mg base 1 A.a_law_take A.d_law_take ["_law_bag_here", "_law_upto"] (spF K 2 fTake)) : FnG P w K mg base 2 A.a_law_some A.d_law_some ["_law_bag_here", "_law_things"] (spF K 2 fSome) := by
  refine okD T._law_some.F sc__law_some (fun c cdv A' outer s H E hg hr => (dss_one (ds_ret (de_n (de_ix (kIxS K) (de_n (de_var (pv 1))) (de_n (de_call (pe_callG G_law_take hg (hr.mono (by first | decide | omega)) rfl T._law_take.g T._law_take.F.kp T._law_take.b (da_bag (pv 0) (da_cons (de_b cd_len (pe_callB (kLen K) (by rfl) T.nb_len PySem.boot_len (dan_cons (de_n (de_var (pv 1))) dan_nil))) da_nil))))) (fun _ _ => rfl)))))) ?_
  intro as q hl h
  unfold fSome at h
  split at h
  · rename_i ds
    obtain ⟨⟨hne, hz⟩, h⟩ := h
    have lp := List.length_pos_iff.mpr hne
    simp only [fTake, dParL, mCallL, mCallB, dRev, bFor, bApp, dBack, mTab, mBack2, fSortE, dRet, dRetN, dIf, dSeq, dDrop, dAsg, gNm, gTp, gsNil, gsCons, dAsgL, dApp, dExt, dIns, dPopAt, dSetIx, dPar, dAug, dNext, mVar, mVarN, mC, m1, m2, mTst, mChain, mNot, mAnd, mOr, mAndV, mOrV, mNotV, mIf, mNil, mCons, mBag, Du.dataOf, mTup, mLst, mB, mCall, mIsi, mIsi2, mNotD, mTru, truD, fAdd, fI, fI0, fMul, fB, fEq, fNe, fIn, fGeD, fIs, isBd, fIsN, isNd, fNeg, fIx, mSlL, mSlT, mNoP, mPart, fLen, fAbs, fInt, fMin2, fTuple, fList, fAll, fAny, fRepr, miL, miT, miR1, miR2, miEn, miZip, miZip3, mRow, mLc, wipeE, dFor, mYes, Du.envOf, Option.map_some, Option.map_none, List.map_cons, List.map_nil, List.length_cons, List.length_nil, Nat.sub_self, Nat.add_sub_cancel, Nat.reduceAdd, Nat.reduceSub, List.replicate, List.cons_append, List.nil_append, List.append_nil, List.getElem?_cons_zero, List.getElem?_cons_succ, List.getElem?_nil, List.set_cons_zero, List.set_cons_succ]
    refine ⟨trivial, ⟨by omega, small_log (by omega) (by omega)⟩, fun v v0 v1 => ?_⟩
    obtain ⟨i, rfl⟩ : ∃ i : Nat, v = (i : Int) := ⟨v.toNat, by omega⟩
    have hi : i < ds.length := by omega
    rw [atI_nat (List.getElem?_eq_getElem hi)]
    exact h _ (List.getElem_mem hi)
  · exact h.elim
theorem ok_mixedD (T : Txt K mg A) (G_law_take : FnG P w K mg base 1 A.a_law_take A.d_law_take ["_law_bag_here", "_law_upto"] (spF K 2 fTake)) : FnG P w K mg base 2 A.a_law_mixed A.d_law_mixed ["_law_bag_here", "_law_things"] (spF K 2 fMixed) := by
  refine okD T._law_mixed.F sc__law_mixed (fun c cdv A' outer s H E hg hr => (dss_cons (ds_setL (i := 2) sc__law_mixed.nd rfl (by first | exact Or.inl rfl | exact Or.inr rfl) (de_lst da_nil))
      (dss_cons (ds_for PassesOwn.never rfl (di_seqV (di_list rfl (de_var (pv 1))) (di_tup rfl (de_var (pv 1)))) (dg_name (pg_name (i := 3) sc__law_mixed.nd rfl (by first | exact Or.inl rfl | exact Or.inr rfl))) (dss_one (ds_ins (ps_expr (pe_bm PySem.F.plainAttrs_list PySem.F.slot_list_insert PySem.F.type_list_insert mt_insert (pv 2) (pa_cons (de_call (pe_callG G_law_take hg (hr.mono (by first | decide | omega)) rfl T._law_take.g T._law_take.F.kp T._law_take.b (da_bag (pv 0) (da_cons (de_op op_addD od_add (de_n (de_b cd_len (pe_callB (kLen K) (by rfl) T.nb_len PySem.boot_len (dan_cons (dn_var (pv 2)) dan_nil)))) (de_n (de_c pe_int (fun _ => .int _)))) da_nil)))) (pa_cons (de_var (pv 3)) pa_nil)))))))
      (dss_one (ds_ret (dn_var (pv 2))))))) ?_
  intro as q hl h
  unfold fMixed at h
  split at h
  · rename_i ds
    obtain ⟨hz, h⟩ := h
    simp only [dParL, mCallL, mCallB, dRev, bFor, bApp, dBack, mTab, mBack2, fSortE, dRet, dRetN, dIf, dSeq, dDrop, dAsg, gNm, gTp, gsNil, gsCons, dAsgL, dApp, dExt, dIns, dPopAt, dSetIx, dPar, dAug, dNext, mVar, mVarN, mC, m1, m2, mTst, mChain, mNot, mAnd, mOr, mAndV, mOrV, mNotV, mIf, mNil, mCons, mBag, Du.dataOf, mTup, mLst, mB, mCall, mIsi, mIsi2, mNotD, mTru, truD, fAdd, fI, fI0, fMul, fB, fEq, fNe, fIn, fGeD, fIs, isBd, fIsN, isNd, fNeg, fIx, mSlL, mSlT, mNoP, mPart, fLen, fAbs, fInt, fMin2, fTuple, fList, fAll, fAny, fRepr, miL, miT, miR1, miR2, miEn, miZip, miZip3, mRow, mLc, wipeE, dFor, mYes, Du.envOf, Option.map_some, Option.map_none, List.map_cons, List.map_nil, List.length_cons, List.length_nil, Nat.sub_self, Nat.add_sub_cancel, Nat.reduceAdd, Nat.reduceSub, List.replicate, List.cons_append, List.nil_append, List.append_nil, List.getElem?_cons_zero, List.getElem?_cons_succ, List.getElem?_nil, List.set_cons_zero, List.set_cons_succ]
    refine ⟨by decide, fun i e => ∃ es x, e = [.bag, .v (.list ds), .own es, x] ∧ es.Perm (ds.take i), ⟨_, _, rfl, List.Perm.refl _⟩, ?_, ?_⟩
    · rintro i d _ hd ⟨es, x, rfl, hp⟩
      have lt := (List.getElem?_eq_some_iff.mp hd).1
      have le := hp.length_eq
      rw [List.length_take] at le
      simp only [fTake, dParL, mCallL, mCallB, dRev, bFor, bApp, dBack, mTab, mBack2, fSortE, dRet, dRetN, dIf, dSeq, dDrop, dAsg, gNm, gTp, gsNil, gsCons, dAsgL, dApp, dExt, dIns, dPopAt, dSetIx, dPar, dAug, dNext, mVar, mVarN, mC, m1, m2, mTst, mChain, mNot, mAnd, mOr, mAndV, mOrV, mNotV, mIf, mNil, mCons, mBag, Du.dataOf, mTup, mLst, mB, mCall, mIsi, mIsi2, mNotD, mTru, truD, fAdd, fI, fI0, fMul, fB, fEq, fNe, fIn, fGeD, fIs, isBd, fIsN, isNd, fNeg, fIx, mSlL, mSlT, mNoP, mPart, fLen, fAbs, fInt, fMin2, fTuple, fList, fAll, fAny, fRepr, miL, miT, miR1, miR2, miEn, miZip, miZip3, mRow, mLc, wipeE, dFor, mYes, Du.envOf, Option.map_some, Option.map_none, List.map_cons, List.map_nil, List.length_cons, List.length_nil, Nat.sub_self, Nat.add_sub_cancel, Nat.reduceAdd, Nat.reduceSub, List.replicate, List.cons_append, List.nil_append, List.append_nil, List.getElem?_cons_zero, List.getElem?_cons_succ, List.getElem?_nil, List.set_cons_zero, List.set_cons_succ]
      refine ⟨by omega, trivial, ⟨by omega, small_log (by omega) (by omega)⟩, fun v v0 v1 => ⟨⟨v0, by omega⟩, _, _, rfl, ?_⟩⟩
      rw [List.take_add_one, hd]
      show (es.take v.toNat ++ [d] ++ es.drop v.toNat).Perm (ds.take i ++ [d])
      have p1 : (es.take v.toNat ++ [d] ++ es.drop v.toNat).Perm (es.take v.toNat ++ es.drop v.toNat ++ [d]) := by
        rw [List.append_assoc, List.append_assoc]
        exact List.Perm.append_left _ List.perm_append_comm
      rw [List.take_append_drop] at p1
      exact p1.trans (hp.append_right _)
    · rintro _ ⟨es, x, rfl, hp⟩
      rw [List.take_length] at hp
      exact h es hp
  · rename_i ds
    obtain ⟨hz, h⟩ := h
    simp only [dParL, mCallL, mCallB, dRev, bFor, bApp, dBack, mTab, mBack2, fSortE, dRet, dRetN, dIf, dSeq, dDrop, dAsg, gNm, gTp, gsNil, gsCons, dAsgL, dApp, dExt, dIns, dPopAt, dSetIx, dPar, dAug, dNext, mVar, mVarN, mC, m1, m2, mTst, mChain, mNot, mAnd, mOr, mAndV, mOrV, mNotV, mIf, mNil, mCons, mBag, Du.dataOf, mTup, mLst, mB, mCall, mIsi, mIsi2, mNotD, mTru, truD, fAdd, fI, fI0, fMul, fB, fEq, fNe, fIn, fGeD, fIs, isBd, fIsN, isNd, fNeg, fIx, mSlL, mSlT, mNoP, mPart, fLen, fAbs, fInt, fMin2, fTuple, fList, fAll, fAny, fRepr, miL, miT, miR1, miR2, miEn, miZip, miZip3, mRow, mLc, wipeE, dFor, mYes, Du.envOf, Option.map_some, Option.map_none, List.map_cons, List.map_nil, List.length_cons, List.length_nil, Nat.sub_self, Nat.add_sub_cancel, Nat.reduceAdd, Nat.reduceSub, List.replicate, List.cons_append, List.nil_append, List.append_nil, List.getElem?_cons_zero, List.getElem?_cons_succ, List.getElem?_nil, List.set_cons_zero, List.set_cons_succ]
    refine ⟨by decide, fun i e => ∃ es x, e = [.bag, .v (.tuple ds), .own es, x] ∧ es.Perm (ds.take i), ⟨_, _, rfl, List.Perm.refl _⟩, ?_, ?_⟩
    · rintro i d _ hd ⟨es, x, rfl, hp⟩
      have lt := (List.getElem?_eq_some_iff.mp hd).1
      have le := hp.length_eq
      rw [List.length_take] at le
      simp only [fTake, dParL, mCallL, mCallB, dRev, bFor, bApp, dBack, mTab, mBack2, fSortE, dRet, dRetN, dIf, dSeq, dDrop, dAsg, gNm, gTp, gsNil, gsCons, dAsgL, dApp, dExt, dIns, dPopAt, dSetIx, dPar, dAug, dNext, mVar, mVarN, mC, m1, m2, mTst, mChain, mNot, mAnd, mOr, mAndV, mOrV, mNotV, mIf, mNil, mCons, mBag, Du.dataOf, mTup, mLst, mB, mCall, mIsi, mIsi2, mNotD, mTru, truD, fAdd, fI, fI0, fMul, fB, fEq, fNe, fIn, fGeD, fIs, isBd, fIsN, isNd, fNeg, fIx, mSlL, mSlT, mNoP, mPart, fLen, fAbs, fInt, fMin2, fTuple, fList, fAll, fAny, fRepr, miL, miT, miR1, miR2, miEn, miZip, miZip3, mRow, mLc, wipeE, dFor, mYes, Du.envOf, Option.map_some, Option.map_none, List.map_cons, List.map_nil, List.length_cons, List.length_nil, Nat.sub_self, Nat.add_sub_cancel, Nat.reduceAdd, Nat.reduceSub, List.replicate, List.cons_append, List.nil_append, List.append_nil, List.getElem?_cons_zero, List.getElem?_cons_succ, List.getElem?_nil, List.set_cons_zero, List.set_cons_succ]
      refine ⟨by omega, trivial, ⟨by omega, small_log (by omega) (by omega)⟩, fun v v0 v1 => ⟨⟨v0, by omega⟩, _, _, rfl, ?_⟩⟩
      rw [List.take_add_one, hd]
      show (es.take v.toNat ++ [d] ++ es.drop v.toNat).Perm (ds.take i ++ [d])
      have p1 : (es.take v.toNat ++ [d] ++ es.drop v.toNat).Perm (es.take v.toNat ++ es.drop v.toNat ++ [d]) := by
        rw [List.append_assoc, List.append_assoc]
        exact List.Perm.append_left _ List.perm_append_comm
      rw [List.take_append_drop] at p1
      exact p1.trans (hp.append_right _)
    · rintro _ ⟨es, x, rfl, hp⟩
      rw [List.take_length] at hp
      exact h es hp
  · exact h.elim
theorem ok_placeD (T : Txt K mg A) (G_law_take : FnG P w K mg base 1 A.a_law_take A.d_law_take ["_law_bag_here", "_law_upto"] (spF K 2 fTake)) (G_law_some : FnG P w K mg base 2 A.a_law_some A.d_law_some ["_law_bag_here", "_law_things"] (spF K 2 fSome)) (G_law_flat : FnG P w K mg base 1 A.a_law_flat A.d_law_flat ["_law_rows"] (spF K 1 fFlat)) (G_law_mixed : FnG P w K mg base 2 A.a_law_mixed A.d_law_mixed ["_law_bag_here", "_law_things"] (spF K 2 fMixed)) : FnG P w K mg base 3 A.a_law_place A.d_law_place ["_law_bag_here", "_law_most"] (spF K 2 fPlace) := by
  refine okD T._law_place.F sc__law_place (fun c cdv A' outer s H E hg hr => (dss_cons (ds_set (i := 2) sc__law_place.nd rfl (by first | exact Or.inl rfl | exact Or.inr rfl) (de_op op_addD od_add (de_n (de_c pe_int (fun _ => .int _))) (de_n (de_call (pe_callG G_law_take hg (hr.mono (by first | decide | omega)) rfl T._law_take.g T._law_take.F.kp T._law_take.b (da_bag (pv 0) (da_cons (de_op op_sub od_I0 (de_n (de_var (pv 1))) (de_n (de_c pe_int (fun _ => .int _)))) da_nil)))))))
      (dss_cons (ds_set (i := 3) sc__law_place.nd rfl (by first | exact Or.inl rfl | exact Or.inr rfl) (de_call (pe_callG G_law_some hg (hr.mono (by first | decide | omega)) rfl T._law_some.g T._law_some.F.kp T._law_some.b (da_bag (pv 0) (da_cons (de_l (de_lst (da_cons (de_c pe_int (fun _ => .int _)) (da_cons (de_c pe_int (fun _ => .int _)) (da_cons (de_c pe_int (fun _ => .int _)) (da_cons (de_c pe_int (fun _ => .int _)) (da_cons (de_c pe_int (fun _ => .int _)) (da_cons (de_c pe_int (fun _ => .int _)) (da_cons (de_c pe_int (fun _ => .int _)) (da_cons (de_c pe_int (fun _ => .int _)) (da_cons (de_c pe_int (fun _ => .int _)) (da_cons (de_c pe_int (fun _ => .int _)) (da_cons (de_c pe_int (fun _ => .int _)) da_nil))))))))))))) da_nil)))))
      (dss_cons (ds_set (i := 4) sc__law_place.nd rfl (by first | exact Or.inl rfl | exact Or.inr rfl) (de_call (pe_callG G_law_flat hg (hr.mono (by first | decide | omega)) rfl T._law_flat.g T._law_flat.F.kp T._law_flat.b (da_cons (de_l (de_lc (own := [("_law_v", 5)]) rfl sc__law_place.nd (di_range1 rfl T.nb_range (da_cons (de_var (pv 2)) da_nil)) (blkOk_by (N := ["_law_bag_here", "_law_most", "_law_many", "_law_way", "_law_every", "_law_v", "_law_w"]) (sc := defScope s_law_place) (by decide +kernel)) (fun _ _ _ _ _ => (dg_name (pg_name (i := 5) sc__law_place.nd rfl (by first | exact Or.inl rfl | exact Or.inr rfl)))) (fun _ _ _ _ _ => dts_nil) (fun _ _ _ _ _ => (de_l (de_lc (own := [("_law_w", 6)]) rfl sc__law_place.nd (di_range1 rfl T.nb_range (da_cons (de_var (pv 2)) da_nil)) (blkOk_by (by rfl)) (fun _ _ _ _ _ => (dg_name (pg_name (i := 6) sc__law_place.nd rfl (by first | exact Or.inl rfl | exact Or.inr rfl)))) (fun _ _ _ _ _ => (dts_one (dt_cmp (op_neQ (un66 hr)) od_ne (de_n (de_var (pv 6))) (de_n (de_var (pv 5))) (nomark _)))) (fun _ _ _ _ _ => (de_tup (da_cons (de_var (pv 5)) (da_cons (de_var (pv 6)) da_nil)))) (by decide)))) (by decide))) da_nil))))
      (dss_cons (ds_if (dt_cmp op_lt od_B (de_n (de_var (pv 3))) (de_n (de_c pe_int (fun _ => .int _))) (nomark _)) (dss_one (ds_ret (de_n (de_tup (da_cons (de_var (pv 2)) (da_cons (de_b cd_tuple (pe_callTy (kTuple K) (by rfl) T.nb_tuple (by decide +kernel) (dan_cons (de_n (de_var (pv 4))) dan_nil))) da_nil)))))) dss_nil)
      (dss_cons (ds_if (PW.pt (dw_or (dt_cmp op_lt od_B (de_n (de_var (pv 3))) (de_n (de_c pe_int (fun _ => .int _))) (nomark _)) (dw_or1 (PW.pt (dw_and (dt_cmp (op_eqQ (un66 hr)) od_eq (de_n (de_var (pv 3))) (de_n (de_c pe_int (fun _ => .int _))) (nomark _)) (dw_and1 (dt_cmp op_lt od_B (de_n (de_var (pv 2))) (de_n (de_c pe_int (fun _ => .int _))) (nomark _)))))))) (dss_one (ds_ret (de_n (de_tup (da_cons (de_var (pv 2)) (da_cons (de_b cd_tuple (pe_callTy (kTuple K) (by rfl) T.nb_tuple (by decide +kernel) (dan_cons (de_ln (de_lc (own := [("_law_v", 5), ("_law_w", 6)]) rfl sc__law_place.nd (di_list rfl (de_var (pv 4))) (blkOk_by (N := ["_law_bag_here", "_law_most", "_law_many", "_law_way", "_law_every", "_law_v", "_law_w"]) (sc := defScope s_law_place) (by decide +kernel)) (fun _ _ _ _ _ => (dg_tup (n := 2) rfl rfl (dgs_cons (dg_name (pg_name (i := 5) sc__law_place.nd rfl (by first | exact Or.inl rfl | exact Or.inr rfl))) (dgs_cons (dg_name (pg_name (i := 6) sc__law_place.nd rfl (by first | exact Or.inl rfl | exact Or.inr rfl))) dgs_nil)))) (fun _ _ _ _ _ => (dts_one (dt_cmp (op_inG (un66 hr)) od_in (de_n (de_op op_sub od_I0 (de_n (de_var (pv 5))) (de_n (de_var (pv 6))))) (de_n (de_tup (da_cons (de_c pe_int (fun _ => .int _)) (da_cons (de_un un_neg od_neg (de_n (de_c pe_int (fun _ => .int _)))) da_nil)))) rfl))) (fun _ _ _ _ _ => (de_tup (da_cons (de_var (pv 5)) (da_cons (de_var (pv 6)) da_nil)))) (by decide))) dan_nil))) da_nil)))))) dss_nil)
      (dss_cons (ds_if (dt_cmp (op_eqQ (un66 hr)) od_eq (de_n (de_var (pv 3))) (de_n (de_c pe_int (fun _ => .int _))) (nomark _)) (dss_one (ds_ret (de_n (de_tup (da_cons (de_var (pv 2)) (da_cons (de_b cd_tuple (pe_callTy (kTuple K) (by rfl) T.nb_tuple (by decide +kernel) (dan_cons (de_ln (de_lc (own := [("_law_v", 5), ("_law_w", 6)]) rfl sc__law_place.nd (di_list rfl (de_var (pv 4))) (blkOk_by (N := ["_law_bag_here", "_law_most", "_law_many", "_law_way", "_law_every", "_law_v", "_law_w"]) (sc := defScope s_law_place) (by decide +kernel)) (fun _ _ _ _ _ => (dg_tup (n := 2) rfl rfl (dgs_cons (dg_name (pg_name (i := 5) sc__law_place.nd rfl (by first | exact Or.inl rfl | exact Or.inr rfl))) (dgs_cons (dg_name (pg_name (i := 6) sc__law_place.nd rfl (by first | exact Or.inl rfl | exact Or.inr rfl))) dgs_nil)))) (fun _ _ _ _ _ => (dts_one (dt_cmp (op_inG (un66 hr)) od_in (de_n (de_op op_mod od_I (de_n (de_b cd_int (pe_callTy call_int1 (by rfl) T.nb_int (by decide +kernel) (dan_cons (de_n (de_op op_sub od_I0 (de_n (de_var (pv 5))) (de_n (de_var (pv 6))))) dan_nil)))) (de_n (de_var (pv 2))))) (de_n (de_tup (da_cons (de_c pe_int (fun _ => .int _)) (da_cons (de_op op_sub od_I0 (de_n (de_var (pv 2))) (de_n (de_c pe_int (fun _ => .int _)))) da_nil)))) rfl))) (fun _ _ _ _ _ => (de_tup (da_cons (de_var (pv 5)) (da_cons (de_var (pv 6)) da_nil)))) (by decide))) dan_nil))) da_nil)))))) dss_nil)
      (dss_cons (ds_if (dt_cmp (op_inG (un66 hr)) od_in (de_n (de_var (pv 3))) (de_n (de_tup (da_cons (de_c pe_int (fun _ => .int _)) (da_cons (de_c pe_int (fun _ => .int _)) da_nil)))) rfl) (dss_one (ds_ret (de_n (de_tup (da_cons (de_var (pv 2)) (da_cons (de_b cd_tuple (pe_callTy (kTuple K) (by rfl) T.nb_tuple (by decide +kernel) (dan_cons (de_ln (de_lc (own := [("_law_v", 5), ("_law_w", 6)]) rfl sc__law_place.nd (di_list rfl (de_var (pv 4))) (blkOk_by (N := ["_law_bag_here", "_law_most", "_law_many", "_law_way", "_law_every", "_law_v", "_law_w"]) (sc := defScope s_law_place) (by decide +kernel)) (fun _ _ _ _ _ => (dg_tup (n := 2) rfl rfl (dgs_cons (dg_name (pg_name (i := 5) sc__law_place.nd rfl (by first | exact Or.inl rfl | exact Or.inr rfl))) (dgs_cons (dg_name (pg_name (i := 6) sc__law_place.nd rfl (by first | exact Or.inl rfl | exact Or.inr rfl))) dgs_nil)))) (fun _ _ _ _ _ => (dts_one (PW.pt (dw_and (dt_cmp op_lt od_B (de_n (de_var (pv 5))) (de_n (de_var (pv 6))) (nomark _)) (dw_and1 (PW.pt (dw_or (dt_cmp (op_eqQ (un66 hr)) od_eq (de_n (de_var (pv 3))) (de_n (de_c pe_int (fun _ => .int _))) (nomark _)) (dw_or1 (dt_cmp (op_eqQ (un66 hr)) od_eq (de_n (de_var (pv 6))) (de_n (de_op op_addD od_add (de_n (de_var (pv 5))) (de_n (de_c pe_int (fun _ => .int _))))) (nomark _)))))))))) (fun _ _ _ _ _ => (de_tup (da_cons (de_var (pv 5)) (da_cons (de_var (pv 6)) da_nil)))) (by decide))) dan_nil))) da_nil)))))) dss_nil)
      (dss_one (ds_ret (de_n (de_tup (da_cons (de_var (pv 2)) (da_cons (de_b cd_tuple (pe_callTy (kTuple K) (by rfl) T.nb_tuple (by decide +kernel) (dan_cons (de_ln (de_bl cl_sortE (pe_callB (kSortE (K := K)) (by rfl) T.nb_sorted (by decide +kernel) (dan_cons (de_ln (de_slL (kSlL K) (de_n (de_call (pe_callG G_law_mixed hg (hr.mono (by first | decide | omega)) rfl T._law_mixed.g T._law_mixed.F.kp T._law_mixed.b (da_bag (pv 0) (da_cons (de_var (pv 4)) da_nil))))) do_none (do_some (de_n (de_call (pe_callG G_law_take hg (hr.mono (by first | decide | omega)) rfl T._law_take.g T._law_take.F.kp T._law_take.b (da_bag (pv 0) (da_cons (de_op op_addD od_add (de_n (de_b cd_len (pe_callB (kLen K) (by rfl) T.nb_len PySem.boot_len (dan_cons (de_n (de_var (pv 4))) dan_nil)))) (de_n (de_c pe_int (fun _ => .int _)))) da_nil)))))))) dan_nil)))) dan_nil))) da_nil)))))))))))))) ?_
  intro as q hl h
  unfold fPlace at h
  split at h
  · rename_i n
    obtain ⟨⟨n2, n6⟩, h⟩ := h
    simp only [fTake, fSome, dParL, mCallL, mCallB, dRev, bFor, bApp, dBack, mTab, mBack2, fSortE, dRet, dRetN, dIf, dSeq, dDrop, dAsg, gNm, gTp, gsNil, gsCons, dAsgL, dApp, dExt, dIns, dPopAt, dSetIx, dPar, dAug, dNext, mVar, mVarN, mC, m1, m2, mTst, mChain, mNot, mAnd, mOr, mAndV, mOrV, mNotV, mIf, mNil, mCons, mBag, Du.dataOf, mTup, mLst, mB, mCall, mIsi, mIsi2, mNotD, mTru, truD, fAdd, fI, fI0, fMul, fB, fEq, fNe, fIn, fGeD, fIs, isBd, fIsN, isNd, fNeg, fIx, mSlL, mSlT, mNoP, mPart, fLen, fAbs, fInt, fMin2, fTuple, fList, fAll, fAny, fRepr, miL, miT, miR1, miR2, miEn, miZip, miZip3, mRow, mLc, wipeE, dFor, mYes, Du.envOf, Option.map_some, Option.map_none, List.map_cons, List.map_nil, List.length_cons, List.length_nil, Nat.sub_self, Nat.add_sub_cancel, Nat.reduceAdd, Nat.reduceSub, List.replicate, List.cons_append, List.nil_append, List.append_nil, List.getElem?_cons_zero, List.getElem?_cons_succ, List.getElem?_nil, List.set_cons_zero, List.set_cons_succ]
    refine ⟨trivial, ⟨by omega, small_log (by omega) (by omega)⟩, fun v v0 v1 => ⟨by decide, trivial, ⟨by simp, by decide⟩, fun d hd => ?_⟩⟩
    obtain ⟨m, hm⟩ : ∃ m : Nat, 2 + v = (m : Int) := ⟨(2 + v).toNat, by omega⟩
    rw [hm]
    have m2' : 2 ≤ m := by omega
    have m6 : m ≤ 6 := by omega
    have le := ev_len m6
    simp only [Int.toNat_natCast]
    refine ⟨⟨by omega, by omega⟩, ?_⟩
    refine lc_pure (fun x => [.bag, .v (.int n), .v (.int (m : Int)), .v d, .un, .v x, .un]) (fun _ => true) (fun x => .list (evRowW m x)) (intsD 0 m) [] _ (by rw [List.length_nil, ints_len]; omega) (fun d hd k' hk => hk) (fun d hd k' hk => hk) (fun x hx _ k' hk => ?_) ?_
    · obtain ⟨i, hi, rfl⟩ := mem_ints hx
      simp only [dParL, mCallL, mCallB, dRev, bFor, bApp, dBack, mTab, mBack2, fSortE, dRet, dRetN, dIf, dSeq, dDrop, dAsg, gNm, gTp, gsNil, gsCons, dAsgL, dApp, dExt, dIns, dPopAt, dSetIx, dPar, dAug, dNext, mVar, mVarN, mC, m1, m2, mTst, mChain, mNot, mAnd, mOr, mAndV, mOrV, mNotV, mIf, mNil, mCons, mBag, Du.dataOf, mTup, mLst, mB, mCall, mIsi, mIsi2, mNotD, mTru, truD, fAdd, fI, fI0, fMul, fB, fEq, fNe, fIn, fGeD, fIs, isBd, fIsN, isNd, fNeg, fIx, mSlL, mSlT, mNoP, mPart, fLen, fAbs, fInt, fMin2, fTuple, fList, fAll, fAny, fRepr, miL, miT, miR1, miR2, miEn, miZip, miZip3, mRow, mLc, wipeE, dFor, mYes, Du.envOf, Option.map_some, Option.map_none, List.map_cons, List.map_nil, List.length_cons, List.length_nil, Nat.sub_self, Nat.add_sub_cancel, Nat.reduceAdd, Nat.reduceSub, List.replicate, List.cons_append, List.nil_append, List.append_nil, List.getElem?_cons_zero, List.getElem?_cons_succ, List.getElem?_nil, List.set_cons_zero, List.set_cons_succ, Int.toNat_natCast]
      refine ⟨⟨by omega, by omega⟩, ?_⟩
      refine lc_pure (fun w => [.bag, .v (.int n), .v (.int (m : Int)), .v d, .un, .v (.int (0 + (i : Int))), .v w]) (fun w => !PyData.eqv w (.int (0 + (i : Int)))) (fun w => .tuple [.int (0 + (i : Int)), w]) (intsD 0 m) [] _ (by rw [List.length_nil, ints_len]; omega) (fun d hd k' hk => hk) (fun d hd k' hk => ?_) (fun d hd _ k' hk => ?_) hk
      · obtain ⟨j, hj, rfl⟩ := mem_ints hd
        simp only [dParL, mCallL, mCallB, dRev, bFor, bApp, dBack, mTab, mBack2, fSortE, dRet, dRetN, dIf, dSeq, dDrop, dAsg, gNm, gTp, gsNil, gsCons, dAsgL, dApp, dExt, dIns, dPopAt, dSetIx, dPar, dAug, dNext, mVar, mVarN, mC, m1, m2, mTst, mChain, mNot, mAnd, mOr, mAndV, mOrV, mNotV, mIf, mNil, mCons, mBag, Du.dataOf, mTup, mLst, mB, mCall, mIsi, mIsi2, mNotD, mTru, truD, fAdd, fI, fI0, fMul, fB, fEq, fNe, fIn, fGeD, fIs, isBd, fIsN, isNd, fNeg, fIx, mSlL, mSlT, mNoP, mPart, fLen, fAbs, fInt, fMin2, fTuple, fList, fAll, fAny, fRepr, miL, miT, miR1, miR2, miEn, miZip, miZip3, mRow, mLc, wipeE, dFor, mYes, Du.envOf, Option.map_some, Option.map_none, List.map_cons, List.map_nil, List.length_cons, List.length_nil, Nat.sub_self, Nat.add_sub_cancel, Nat.reduceAdd, Nat.reduceSub, List.replicate, List.cons_append, List.nil_append, List.append_nil, List.getElem?_cons_zero, List.getElem?_cons_succ, List.getElem?_nil, List.set_cons_zero, List.set_cons_succ]
        exact ⟨okNe_int _ _, hk⟩
      · simp only [dParL, mCallL, mCallB, dRev, bFor, bApp, dBack, mTab, mBack2, fSortE, dRet, dRetN, dIf, dSeq, dDrop, dAsg, gNm, gTp, gsNil, gsCons, dAsgL, dApp, dExt, dIns, dPopAt, dSetIx, dPar, dAug, dNext, mVar, mVarN, mC, m1, m2, mTst, mChain, mNot, mAnd, mOr, mAndV, mOrV, mNotV, mIf, mNil, mCons, mBag, Du.dataOf, mTup, mLst, mB, mCall, mIsi, mIsi2, mNotD, mTru, truD, fAdd, fI, fI0, fMul, fB, fEq, fNe, fIn, fGeD, fIs, isBd, fIsN, isNd, fNeg, fIx, mSlL, mSlT, mNoP, mPart, fLen, fAbs, fInt, fMin2, fTuple, fList, fAll, fAny, fRepr, miL, miT, miR1, miR2, miEn, miZip, miZip3, mRow, mLc, wipeE, dFor, mYes, Du.envOf, Option.map_some, Option.map_none, List.map_cons, List.map_nil, List.length_cons, List.length_nil, Nat.sub_self, Nat.add_sub_cancel, Nat.reduceAdd, Nat.reduceSub, List.replicate, List.cons_append, List.nil_append, List.append_nil, List.getElem?_cons_zero, List.getElem?_cons_succ, List.getElem?_nil, List.set_cons_zero, List.set_cons_succ]
        first | exact hk | exact ⟨by decide, hk⟩
    · rw [List.filter_eq_self.mpr fun _ _ => rfl, List.nil_append]
      refine ⟨trivial, (intsD 0 m).map (evRowW m), by rw [List.map_map]; rfl, by rw [evRowW_flat, List.length_map]; omega, ?_⟩
      rw [evRowW_flat]
      have near : ∀ (E : Int × Int → List DV) (g : MG) (mt : MT) (me : ME) (env : List DV) (B : Int × Int → Bool), (∀ q ∈ ev m, ∀ k', k' (E q) → g (On.pairD q) env k') → (∀ q ∈ ev m, ∀ k', k' (B q) → mt (E q) k') → (∀ q ∈ ev m, ∀ k', k' (On.pairD q) → me (E q) k') → lcGo g mt me env [] ((ev m).map On.pairD) fun d => match [d] with
        | [PyData.list ds] => 2 ≤ 100000 ∧ q (PyData.tuple [PyData.int (m : Int), PyData.tuple ds])
        | [PyData.tuple ds] => 2 ≤ 100000 ∧ q (PyData.tuple [PyData.int (m : Int), PyData.tuple ds])
        | x => False := fun E g mt me env B h1 h2 h3 => lc_sel E B (ev m) _ (by omega) h1 h2 h3 ⟨by decide, h (m, (ev m).filter B) (plOk_filter m2' m6 B)⟩
      simp only [List.mem_cons, List.not_mem_nil, or_false] at hd
      have hd' : d = .int 0 ∨ d = .int 2 ∨ d = .int 4 ∨ d = .int 5 ∨ d = .int 6 ∨ d = .int 7 := by
        rcases hd with h | h | h | h | h | h | h | h | h | h | h <;> simp [h]
      rcases hd' with rfl | rfl | rfl | rfl | rfl | rfl
      · exact ⟨by decide, h (m, ev m) (plOk_ev m2' m6)⟩
      · refine near (fun q => [.bag, .v (.int n), .v (.int (m : Int)), .v (.int 2), .v (.list ((ev m).map On.pairD)), .v (.int q.1), .v (.int q.2)]) _ _ _ _ (fun q => decide (q.1 - q.2 = 1) || decide (q.1 - q.2 = -1)) (fun q hq k' hk => ⟨rfl, hk⟩) (fun q hq k' hk => ?_) (fun q hq k' hk => ?_)
        · simp only [dParL, mCallL, mCallB, dRev, bFor, bApp, dBack, mTab, mBack2, fSortE, dRet, dRetN, dIf, dSeq, dDrop, dAsg, gNm, gTp, gsNil, gsCons, dAsgL, dApp, dExt, dIns, dPopAt, dSetIx, dPar, dAug, dNext, mVar, mVarN, mC, m1, m2, mTst, mChain, mNot, mAnd, mOr, mAndV, mOrV, mNotV, mIf, mNil, mCons, mBag, Du.dataOf, mTup, mLst, mB, mCall, mIsi, mIsi2, mNotD, mTru, truD, fAdd, fI, fI0, fMul, fB, fEq, fNe, fIn, fGeD, fIs, isBd, fIsN, isNd, fNeg, fIx, mSlL, mSlT, mNoP, mPart, fLen, fAbs, fInt, fMin2, fTuple, fList, fAll, fAny, fRepr, miL, miT, miR1, miR2, miEn, miZip, miZip3, mRow, mLc, wipeE, dFor, mYes, Du.envOf, Option.map_some, Option.map_none, List.map_cons, List.map_nil, List.length_cons, List.length_nil, Nat.sub_self, Nat.add_sub_cancel, Nat.reduceAdd, Nat.reduceSub, List.replicate, List.cons_append, List.nil_append, List.append_nil, List.getElem?_cons_zero, List.getElem?_cons_succ, List.getElem?_nil, List.set_cons_zero, List.set_cons_succ]
          refine ⟨by decide, okIn2 _ _ _, ?_⟩
          rw [in2]
          exact hk
        · simp only [dParL, mCallL, mCallB, dRev, bFor, bApp, dBack, mTab, mBack2, fSortE, dRet, dRetN, dIf, dSeq, dDrop, dAsg, gNm, gTp, gsNil, gsCons, dAsgL, dApp, dExt, dIns, dPopAt, dSetIx, dPar, dAug, dNext, mVar, mVarN, mC, m1, m2, mTst, mChain, mNot, mAnd, mOr, mAndV, mOrV, mNotV, mIf, mNil, mCons, mBag, Du.dataOf, mTup, mLst, mB, mCall, mIsi, mIsi2, mNotD, mTru, truD, fAdd, fI, fI0, fMul, fB, fEq, fNe, fIn, fGeD, fIs, isBd, fIsN, isNd, fNeg, fIx, mSlL, mSlT, mNoP, mPart, fLen, fAbs, fInt, fMin2, fTuple, fList, fAll, fAny, fRepr, miL, miT, miR1, miR2, miEn, miZip, miZip3, mRow, mLc, wipeE, dFor, mYes, Du.envOf, Option.map_some, Option.map_none, List.map_cons, List.map_nil, List.length_cons, List.length_nil, Nat.sub_self, Nat.add_sub_cancel, Nat.reduceAdd, Nat.reduceSub, List.replicate, List.cons_append, List.nil_append, List.append_nil, List.getElem?_cons_zero, List.getElem?_cons_succ, List.getElem?_nil, List.set_cons_zero, List.set_cons_succ]
          first | exact hk | exact ⟨by decide, hk⟩
      · simp only [show decide ((4 : Int) < 2) = false from rfl, show decide ((4 : Int) < 4) = false from rfl, eqv_int, show decide ((4 : Int) = 4) = true from rfl]
        refine ⟨okEq_int _ _, ?_⟩
        by_cases h3 : (m : Int) < 3
        · rw [decide_eq_true h3]
          refine near (fun q => [.bag, .v (.int n), .v (.int (m : Int)), .v (.int 4), .v (.list ((ev m).map On.pairD)), .v (.int q.1), .v (.int q.2)]) _ _ _ _ (fun q => decide (q.1 - q.2 = 1) || decide (q.1 - q.2 = -1)) (fun q hq k' hk => ⟨rfl, hk⟩) (fun q hq k' hk => ?_) (fun q hq k' hk => ?_)
          · simp only [dParL, mCallL, mCallB, dRev, bFor, bApp, dBack, mTab, mBack2, fSortE, dRet, dRetN, dIf, dSeq, dDrop, dAsg, gNm, gTp, gsNil, gsCons, dAsgL, dApp, dExt, dIns, dPopAt, dSetIx, dPar, dAug, dNext, mVar, mVarN, mC, m1, m2, mTst, mChain, mNot, mAnd, mOr, mAndV, mOrV, mNotV, mIf, mNil, mCons, mBag, Du.dataOf, mTup, mLst, mB, mCall, mIsi, mIsi2, mNotD, mTru, truD, fAdd, fI, fI0, fMul, fB, fEq, fNe, fIn, fGeD, fIs, isBd, fIsN, isNd, fNeg, fIx, mSlL, mSlT, mNoP, mPart, fLen, fAbs, fInt, fMin2, fTuple, fList, fAll, fAny, fRepr, miL, miT, miR1, miR2, miEn, miZip, miZip3, mRow, mLc, wipeE, dFor, mYes, Du.envOf, Option.map_some, Option.map_none, List.map_cons, List.map_nil, List.length_cons, List.length_nil, Nat.sub_self, Nat.add_sub_cancel, Nat.reduceAdd, Nat.reduceSub, List.replicate, List.cons_append, List.nil_append, List.append_nil, List.getElem?_cons_zero, List.getElem?_cons_succ, List.getElem?_nil, List.set_cons_zero, List.set_cons_succ]
            refine ⟨by decide, okIn2 _ _ _, ?_⟩
            rw [in2]
            exact hk
          · simp only [dParL, mCallL, mCallB, dRev, bFor, bApp, dBack, mTab, mBack2, fSortE, dRet, dRetN, dIf, dSeq, dDrop, dAsg, gNm, gTp, gsNil, gsCons, dAsgL, dApp, dExt, dIns, dPopAt, dSetIx, dPar, dAug, dNext, mVar, mVarN, mC, m1, m2, mTst, mChain, mNot, mAnd, mOr, mAndV, mOrV, mNotV, mIf, mNil, mCons, mBag, Du.dataOf, mTup, mLst, mB, mCall, mIsi, mIsi2, mNotD, mTru, truD, fAdd, fI, fI0, fMul, fB, fEq, fNe, fIn, fGeD, fIs, isBd, fIsN, isNd, fNeg, fIx, mSlL, mSlT, mNoP, mPart, fLen, fAbs, fInt, fMin2, fTuple, fList, fAll, fAny, fRepr, miL, miT, miR1, miR2, miEn, miZip, miZip3, mRow, mLc, wipeE, dFor, mYes, Du.envOf, Option.map_some, Option.map_none, List.map_cons, List.map_nil, List.length_cons, List.length_nil, Nat.sub_self, Nat.add_sub_cancel, Nat.reduceAdd, Nat.reduceSub, List.replicate, List.cons_append, List.nil_append, List.append_nil, List.getElem?_cons_zero, List.getElem?_cons_succ, List.getElem?_nil, List.set_cons_zero, List.set_cons_succ]
            first | exact hk | exact ⟨by decide, hk⟩
        · rw [decide_eq_false h3]
          refine ⟨okEq_int _ _, ?_⟩
          refine near (fun q => [.bag, .v (.int n), .v (.int (m : Int)), .v (.int 4), .v (.list ((ev m).map On.pairD)), .v (.int q.1), .v (.int q.2)]) _ _ _ _ (fun q => decide ((q.1 - q.2) % (m : Int) = 1) || decide ((q.1 - q.2) % (m : Int) = (m : Int) - 1)) (fun q hq k' hk => ⟨rfl, hk⟩) (fun q hq k' hk => ?_) (fun q hq k' hk => ?_)
          · simp only [dParL, mCallL, mCallB, dRev, bFor, bApp, dBack, mTab, mBack2, fSortE, dRet, dRetN, dIf, dSeq, dDrop, dAsg, gNm, gTp, gsNil, gsCons, dAsgL, dApp, dExt, dIns, dPopAt, dSetIx, dPar, dAug, dNext, mVar, mVarN, mC, m1, m2, mTst, mChain, mNot, mAnd, mOr, mAndV, mOrV, mNotV, mIf, mNil, mCons, mBag, Du.dataOf, mTup, mLst, mB, mCall, mIsi, mIsi2, mNotD, mTru, truD, fAdd, fI, fI0, fMul, fB, fEq, fNe, fIn, fGeD, fIs, isBd, fIsN, isNd, fNeg, fIx, mSlL, mSlT, mNoP, mPart, fLen, fAbs, fInt, fMin2, fTuple, fList, fAll, fAny, fRepr, miL, miT, miR1, miR2, miEn, miZip, miZip3, mRow, mLc, wipeE, dFor, mYes, Du.envOf, Option.map_some, Option.map_none, List.map_cons, List.map_nil, List.length_cons, List.length_nil, Nat.sub_self, Nat.add_sub_cancel, Nat.reduceAdd, Nat.reduceSub, List.replicate, List.cons_append, List.nil_append, List.append_nil, List.getElem?_cons_zero, List.getElem?_cons_succ, List.getElem?_nil, List.set_cons_zero, List.set_cons_succ]
            refine ⟨by omega, by decide, okIn2 _ _ _, ?_⟩
            rw [in2]
            exact hk
          · simp only [dParL, mCallL, mCallB, dRev, bFor, bApp, dBack, mTab, mBack2, fSortE, dRet, dRetN, dIf, dSeq, dDrop, dAsg, gNm, gTp, gsNil, gsCons, dAsgL, dApp, dExt, dIns, dPopAt, dSetIx, dPar, dAug, dNext, mVar, mVarN, mC, m1, m2, mTst, mChain, mNot, mAnd, mOr, mAndV, mOrV, mNotV, mIf, mNil, mCons, mBag, Du.dataOf, mTup, mLst, mB, mCall, mIsi, mIsi2, mNotD, mTru, truD, fAdd, fI, fI0, fMul, fB, fEq, fNe, fIn, fGeD, fIs, isBd, fIsN, isNd, fNeg, fIx, mSlL, mSlT, mNoP, mPart, fLen, fAbs, fInt, fMin2, fTuple, fList, fAll, fAny, fRepr, miL, miT, miR1, miR2, miEn, miZip, miZip3, mRow, mLc, wipeE, dFor, mYes, Du.envOf, Option.map_some, Option.map_none, List.map_cons, List.map_nil, List.length_cons, List.length_nil, Nat.sub_self, Nat.add_sub_cancel, Nat.reduceAdd, Nat.reduceSub, List.replicate, List.cons_append, List.nil_append, List.append_nil, List.getElem?_cons_zero, List.getElem?_cons_succ, List.getElem?_nil, List.set_cons_zero, List.set_cons_succ]
            first | exact hk | exact ⟨by decide, hk⟩
      · simp only [show decide ((5 : Int) < 2) = false from rfl, show decide ((5 : Int) < 4) = false from rfl, eqv_int, show decide ((5 : Int) = 4) = false from rfl, in2, show decide ((5 : Int) = 5) = true from rfl, Bool.true_or]
        refine ⟨okEq_int _ _, okEq_int _ _, by decide, okIn2 _ _ _, ?_⟩
        refine near (fun q => [.bag, .v (.int n), .v (.int (m : Int)), .v (.int 5), .v (.list ((ev m).map On.pairD)), .v (.int q.1), .v (.int q.2)]) _ _ _ _ (fun q => decide (q.1 < q.2)) (fun q hq k' hk => ⟨rfl, hk⟩) (fun q hq k' hk => ?_) (fun q hq k' hk => ?_)
        · simp only [eqv_int, show decide ((5 : Int) = 5) = true from rfl, dParL, mCallL, mCallB, dRev, bFor, bApp, dBack, mTab, mBack2, fSortE, dRet, dRetN, dIf, dSeq, dDrop, dAsg, gNm, gTp, gsNil, gsCons, dAsgL, dApp, dExt, dIns, dPopAt, dSetIx, dPar, dAug, dNext, mVar, mVarN, mC, m1, m2, mTst, mChain, mNot, mAnd, mOr, mAndV, mOrV, mNotV, mIf, mNil, mCons, mBag, Du.dataOf, mTup, mLst, mB, mCall, mIsi, mIsi2, mNotD, mTru, truD, fAdd, fI, fI0, fMul, fB, fEq, fNe, fIn, fGeD, fIs, isBd, fIsN, isNd, fNeg, fIx, mSlL, mSlT, mNoP, mPart, fLen, fAbs, fInt, fMin2, fTuple, fList, fAll, fAny, fRepr, miL, miT, miR1, miR2, miEn, miZip, miZip3, mRow, mLc, wipeE, dFor, mYes, Du.envOf, Option.map_some, Option.map_none, List.map_cons, List.map_nil, List.length_cons, List.length_nil, Nat.sub_self, Nat.add_sub_cancel, Nat.reduceAdd, Nat.reduceSub, List.replicate, List.cons_append, List.nil_append, List.append_nil, List.getElem?_cons_zero, List.getElem?_cons_succ, List.getElem?_nil, List.set_cons_zero, List.set_cons_succ]
          by_cases c : q.1 < q.2
          · rw [decide_eq_true c] at hk ⊢
            exact ⟨okEq_int _ _, hk⟩
          · rw [decide_eq_false c] at hk ⊢
            exact hk
        · simp only [dParL, mCallL, mCallB, dRev, bFor, bApp, dBack, mTab, mBack2, fSortE, dRet, dRetN, dIf, dSeq, dDrop, dAsg, gNm, gTp, gsNil, gsCons, dAsgL, dApp, dExt, dIns, dPopAt, dSetIx, dPar, dAug, dNext, mVar, mVarN, mC, m1, m2, mTst, mChain, mNot, mAnd, mOr, mAndV, mOrV, mNotV, mIf, mNil, mCons, mBag, Du.dataOf, mTup, mLst, mB, mCall, mIsi, mIsi2, mNotD, mTru, truD, fAdd, fI, fI0, fMul, fB, fEq, fNe, fIn, fGeD, fIs, isBd, fIsN, isNd, fNeg, fIx, mSlL, mSlT, mNoP, mPart, fLen, fAbs, fInt, fMin2, fTuple, fList, fAll, fAny, fRepr, miL, miT, miR1, miR2, miEn, miZip, miZip3, mRow, mLc, wipeE, dFor, mYes, Du.envOf, Option.map_some, Option.map_none, List.map_cons, List.map_nil, List.length_cons, List.length_nil, Nat.sub_self, Nat.add_sub_cancel, Nat.reduceAdd, Nat.reduceSub, List.replicate, List.cons_append, List.nil_append, List.append_nil, List.getElem?_cons_zero, List.getElem?_cons_succ, List.getElem?_nil, List.set_cons_zero, List.set_cons_succ]
          first | exact hk | exact ⟨by decide, hk⟩
      · simp only [show decide ((6 : Int) < 2) = false from rfl, show decide ((6 : Int) < 4) = false from rfl, eqv_int, show decide ((6 : Int) = 4) = false from rfl, in2, show decide ((6 : Int) = 5) = false from rfl, show decide ((6 : Int) = 7) = false from rfl, Bool.or_false]
        refine ⟨okEq_int _ _, okEq_int _ _, by decide, okIn2 _ _ _, ?_⟩
        simp only [fMixed, fTake, dParL, mCallL, mCallB, dRev, bFor, bApp, dBack, mTab, mBack2, fSortE, dRet, dRetN, dIf, dSeq, dDrop, dAsg, gNm, gTp, gsNil, gsCons, dAsgL, dApp, dExt, dIns, dPopAt, dSetIx, dPar, dAug, dNext, mVar, mVarN, mC, m1, m2, mTst, mChain, mNot, mAnd, mOr, mAndV, mOrV, mNotV, mIf, mNil, mCons, mBag, Du.dataOf, mTup, mLst, mB, mCall, mIsi, mIsi2, mNotD, mTru, truD, fAdd, fI, fI0, fMul, fB, fEq, fNe, fIn, fGeD, fIs, isBd, fIsN, isNd, fNeg, fIx, mSlL, mSlT, mNoP, mPart, fLen, fAbs, fInt, fMin2, fTuple, fList, fAll, fAny, fRepr, miL, miT, miR1, miR2, miEn, miZip, miZip3, mRow, mLc, wipeE, dFor, mYes, Du.envOf, Option.map_some, Option.map_none, List.map_cons, List.map_nil, List.length_cons, List.length_nil, Nat.sub_self, Nat.add_sub_cancel, Nat.reduceAdd, Nat.reduceSub, List.replicate, List.cons_append, List.nil_append, List.append_nil, List.getElem?_cons_zero, List.getElem?_cons_succ, List.getElem?_nil, List.set_cons_zero, List.set_cons_succ]
        refine ⟨trivial, by rw [List.length_map]; omega, fun es hp => ⟨trivial, ⟨by omega, small_log (by omega) (by rw [List.length_map]; omega)⟩, fun v v0 v1 => ?_⟩⟩
        obtain ⟨i, rfl⟩ : ∃ i : Nat, v = (i : Int) := ⟨v.toNat, by omega⟩
        have lp := hp.length_eq
        obtain ⟨qs, hq, rfl⟩ := perm_pairs hp
        have le2 := hq.length_eq
        have v1 := (List.length_map (f := On.pairD) (as := ev m)) ▸ v1
        rw [cutD_to _ i (by rw [List.length_map]; omega), ← List.map_take]
        obtain ⟨rs, hr, hu, er⟩ := sort_pairs (qs.take i)
        refine ⟨(qs.take i).map two, by rw [List.map_map]; rfl, ?_, ⟨2, by decide, fun n hn => ?_⟩, by decide, ?_⟩
        · rw [List.length_map, List.length_take]
          have := hq.length_eq
          omega
        · obtain ⟨q, hqm, rfl⟩ := List.mem_map.mp hn
          obtain ⟨⟨a1, a2⟩, ⟨a3, a4⟩, _⟩ := mem_ev.mp (hq.mem_iff.mp (List.mem_of_mem_take hqm))
          refine ⟨rfl, fun x hx => ?_⟩
          have hx : x ∈ [q.1, q.2] := hx
          simp only [List.mem_cons, List.not_mem_nil, or_false] at hx
          rcases hx with rfl | rfl <;> omega
        · rw [er]
          have nd : rs.Nodup := hr.symm.nodup ((hq.symm.nodup (ev_nodup m)).sublist (List.take_sublist _ _))
          have mv : ∀ q ∈ rs, q ∈ ev m := fun q hqm => hq.mem_iff.mp (List.mem_of_mem_take (hr.mem_iff.mp hqm))
          refine h (m, rs) ⟨⟨m2', m6⟩, nd, mv, (hu.and nd).imp_of_mem fun {a b} ha hb z => ?_⟩
          obtain ⟨_, ⟨a3, a4⟩, _⟩ := mem_ev.mp (mv a ha)
          obtain ⟨_, ⟨b3, b4⟩, _⟩ := mem_ev.mp (mv b hb)
          exact lt_code ⟨a3, by omega⟩ ⟨b3, by omega⟩ z.1 z.2
      · simp only [show decide ((7 : Int) < 2) = false from rfl, show decide ((7 : Int) < 4) = false from rfl, eqv_int, show decide ((7 : Int) = 4) = false from rfl, in2, show decide ((7 : Int) = 5) = false from rfl, show decide ((7 : Int) = 7) = true from rfl, Bool.or_true]
        refine ⟨okEq_int _ _, okEq_int _ _, by decide, okIn2 _ _ _, ?_⟩
        refine near (fun q => [.bag, .v (.int n), .v (.int (m : Int)), .v (.int 7), .v (.list ((ev m).map On.pairD)), .v (.int q.1), .v (.int q.2)]) _ _ _ _ (fun q => decide (q.1 < q.2) && decide (q.2 = q.1 + 1)) (fun q hq k' hk => ⟨rfl, hk⟩) (fun q hq k' hk => ?_) (fun q hq k' hk => ?_)
        · simp only [eqv_int, show decide ((7 : Int) = 5) = false from rfl, dParL, mCallL, mCallB, dRev, bFor, bApp, dBack, mTab, mBack2, fSortE, dRet, dRetN, dIf, dSeq, dDrop, dAsg, gNm, gTp, gsNil, gsCons, dAsgL, dApp, dExt, dIns, dPopAt, dSetIx, dPar, dAug, dNext, mVar, mVarN, mC, m1, m2, mTst, mChain, mNot, mAnd, mOr, mAndV, mOrV, mNotV, mIf, mNil, mCons, mBag, Du.dataOf, mTup, mLst, mB, mCall, mIsi, mIsi2, mNotD, mTru, truD, fAdd, fI, fI0, fMul, fB, fEq, fNe, fIn, fGeD, fIs, isBd, fIsN, isNd, fNeg, fIx, mSlL, mSlT, mNoP, mPart, fLen, fAbs, fInt, fMin2, fTuple, fList, fAll, fAny, fRepr, miL, miT, miR1, miR2, miEn, miZip, miZip3, mRow, mLc, wipeE, dFor, mYes, Du.envOf, Option.map_some, Option.map_none, List.map_cons, List.map_nil, List.length_cons, List.length_nil, Nat.sub_self, Nat.add_sub_cancel, Nat.reduceAdd, Nat.reduceSub, List.replicate, List.cons_append, List.nil_append, List.append_nil, List.getElem?_cons_zero, List.getElem?_cons_succ, List.getElem?_nil, List.set_cons_zero, List.set_cons_succ]
          by_cases c : q.1 < q.2
          · rw [decide_eq_true c] at hk ⊢
            exact ⟨okEq_int _ _, okEq_int _ _, hk⟩
          · rw [decide_eq_false c] at hk ⊢
            exact hk
        · simp only [dParL, mCallL, mCallB, dRev, bFor, bApp, dBack, mTab, mBack2, fSortE, dRet, dRetN, dIf, dSeq, dDrop, dAsg, gNm, gTp, gsNil, gsCons, dAsgL, dApp, dExt, dIns, dPopAt, dSetIx, dPar, dAug, dNext, mVar, mVarN, mC, m1, m2, mTst, mChain, mNot, mAnd, mOr, mAndV, mOrV, mNotV, mIf, mNil, mCons, mBag, Du.dataOf, mTup, mLst, mB, mCall, mIsi, mIsi2, mNotD, mTru, truD, fAdd, fI, fI0, fMul, fB, fEq, fNe, fIn, fGeD, fIs, isBd, fIsN, isNd, fNeg, fIx, mSlL, mSlT, mNoP, mPart, fLen, fAbs, fInt, fMin2, fTuple, fList, fAll, fAny, fRepr, miL, miT, miR1, miR2, miEn, miZip, miZip3, mRow, mLc, wipeE, dFor, mYes, Du.envOf, Option.map_some, Option.map_none, List.map_cons, List.map_nil, List.length_cons, List.length_nil, Nat.sub_self, Nat.add_sub_cancel, Nat.reduceAdd, Nat.reduceSub, List.replicate, List.cons_append, List.nil_append, List.append_nil, List.getElem?_cons_zero, List.getElem?_cons_succ, List.getElem?_nil, List.set_cons_zero, List.set_cons_succ]
          first | exact hk | exact ⟨by decide, hk⟩
  · exact h.elim
end
end L19

namespace Du
open PySem PySem.Spec PyProof.Rows L2 On
section
variable {K : PySem.W.Frag} {c : Bs} {X : Cx}
/-- a, b = a new list, a value -/
def dParLV (i j : Nat) (m1 m2 : ME) : MS := fun env D => m1 env fun d => m2 env fun e => match d, e with
  | .list xs, .int y => D.nx ((env.set i (.own xs)).set j (.v (.int y)))
  | _, _ => False
theorem ds_parLV {i j : Nat} {m1 m2 : ME} {st : Stmt} (h : PS X st (tPar i j (tCons (upL K c m1) (tCons (up K c m2) tNil)))) : PS X st (upS K c (dParLV i j m1 m2)) := ps_mono h fun D σ H ⟨F, env, O, DD, R, hb, h1, h2, h3, h4⟩ => by
  refine ⟨F, env, O, _, R, hb, fun d p ys ds H1 kd ed g n e hp da => ⟨F, env, O, _, R.gx g, kd, fun d2 x2 H2 kd2 g2 da2 => ?_⟩⟩
  subst ed
  cases d2 with
  | int y =>
    cases da2
    have R1 := (R.setL i g n e hp da).gx ⟨g2.kp, g2.bg⟩
    exact ⟨_, _, rfl, h1 _ _ _ H2 kd2 (R1.set j (.int y))⟩
  | _ => exact kd2.elim
end
end Du
namespace L19
open PySem PySem.Spec PyProof.Rows L2 On K19 Du M16
theorem log_small {i : Int} (h : i.natAbs < 1000000) : i.natAbs.log2 < 30 := by
  by_cases z : i.natAbs = 0
  · rw [z]
    decide
  · exact (Nat.log2_lt z).mpr (by omega)
theorem mulW {i j : Int} (hi : i.natAbs < 1000000) (hj : j.natAbs < 1000000) : CMulW i j := by
  have h1 := log_small hi
  have h2 := log_small hj
  unfold CMulW
  omega
theorem at_last (vs : List PyData) (v : PyData) : atI (vs ++ [v]) (-1) = some v := by
  have e : (((-1 : Int) + ((vs ++ [v]).length : Nat) : Int)).toNat = vs.length := by
    rw [List.length_append]
    show ((-1 : Int) + ((vs.length + 1 : Nat) : Int)).toNat = _
    omega
  unfold atI ixN
  rw [if_neg (by decide), if_pos (by rw [List.length_append]; show -(((vs.length + 1 : Nat) : Int)) ≤ -1; omega)]
  show (vs ++ [v])[((-1 : Int) + ((vs ++ [v]).length : Nat) : Int).toNat]? = some v
  rw [e]
  simp
def fBench : List DV → (PyData → Prop) → Prop := fun as k => match as with
  | [.bag, .v (.int n)] => n = 36 ∧ ∀ b : List Pl, Bok b → (∀ p ∈ b, PlOk p) → b ≠ [] → k (.tuple (benD b))
  | _ => False
theorem nodup_le : ∀ (n : Nat) {l : List Int}, l.Nodup → (∀ x ∈ l, 0 ≤ x ∧ x < (n : Int)) → l.length ≤ n
  | 0, l, _, h => by
    cases l with
    | nil => exact Nat.le_refl _
    | cons x l => have := h x List.mem_cons_self; omega
  | n + 1, l, nd, h => by
    have ih := nodup_le n (l := l.erase (n : Int)) (nd.erase _) fun x hx => by
      obtain ⟨h1, h2⟩ := (nd.mem_erase_iff).mp hx
      have := h x h2
      omega
    have := List.length_erase_le (a := (n : Int)) (l := l)
    have h2 := List.le_length_erase (a := (n : Int)) (l := l)
    omega
theorem bok_of {b : List Pl} (h5 : b.length ≤ 5) (h : ∀ p ∈ b, PlOk p) : Bok b where
  len := h5
  lo := fun p hp => (h p hp).lo
  mv := fun p hp q hq => by
    obtain ⟨a, b, _⟩ := mem_ev.mp ((h p hp).mv q hq)
    exact ⟨a, b⟩
  fr := fun p hp v => by
    have z := nodup_le 6 (l := (p.2.filter fun q => decide (q.1 = v)).map (·.2)) ?_ fun x hx => ?_
    · rwa [List.length_map] at z
    · unfold List.Nodup
      rw [List.pairwise_map]
      refine ((h p hp).nd.filter _).imp_of_mem fun {a b} ha hb ne e => ne ?_
      have e1 := of_decide_eq_true (List.mem_filter.mp ha).2
      have e2 := of_decide_eq_true (List.mem_filter.mp hb).2
      exact Prod.ext (e1.trans e2.symm) e
    · obtain ⟨q, hq, rfl⟩ := List.mem_map.mp hx
      obtain ⟨_, c, _⟩ := mem_ev.mp ((h p hp).mv q (List.mem_filter.mp hq).1)
      have := (h p hp).lo
      omega
  to := fun p hp v => by
    have z := nodup_le 6 (l := (p.2.filter fun q => decide (q.2 = v)).map (·.1)) ?_ fun x hx => ?_
    · rwa [List.length_map] at z
    · unfold List.Nodup
      rw [List.pairwise_map]
      refine ((h p hp).nd.filter _).imp_of_mem fun {a b} ha hb ne e => ne ?_
      have e1 := of_decide_eq_true (List.mem_filter.mp ha).2
      have e2 := of_decide_eq_true (List.mem_filter.mp hb).2
      exact Prod.ext e (e1.trans e2.symm)
    · obtain ⟨q, hq, rfl⟩ := List.mem_map.mp hx
      obtain ⟨c, _, _⟩ := mem_ev.mp ((h p hp).mv q (List.mem_filter.mp hq).1)
      have := (h p hp).lo
      omega
  ml := fun p hp => by
    have z := nodup_le 36 (l := p.2.map fun q => q.1 * 6 + q.2) ?_ fun x hx => ?_
    · rwa [List.length_map] at z
    · unfold List.Nodup
      rw [List.pairwise_map]
      refine (h p hp).nd.imp_of_mem fun {a b} ha hb ne e => ne ?_
      obtain ⟨a1, a2, _⟩ := mem_ev.mp ((h p hp).mv a ha)
      obtain ⟨b1, b2, _⟩ := mem_ev.mp ((h p hp).mv b hb)
      have := (h p hp).lo
      exact Prod.ext (by omega) (by omega)
    · obtain ⟨q, hq, rfl⟩ := List.mem_map.mp hx
      obtain ⟨c1, c2, _⟩ := mem_ev.mp ((h p hp).mv q hq)
      have := (h p hp).lo
      omega
section
variable {P : Program} {w : World} {K : PySem.W.Frag} {mg : Str → Option Value} {base : Heap} {A : Ads}
theorem ok_benchD (T : Txt K mg A) (G_law_some : FnG P w K mg base 2 A.a_law_some A.d_law_some ["_law_bag_here", "_law_things"] (spF K 2 fSome)) (G_law_place : FnG P w K mg base 3 A.a_law_place A.d_law_place ["_law_bag_here", "_law_most"] (spF K 2 fPlace)) : FnG P w K mg base 4 A.a_law_bench A.d_law_bench ["_law_bag_here", "_law_most"] (spF K 2 fBench) := by
  refine okD T._law_bench.F sc__law_bench (fun c cdv A' outer s H E hg hr => (dss_cons (ds_parLV (i := 2) (j := 3) (ps_par (i := 2) (j := 3) rfl sc__law_bench.nd rfl rfl (by decide) rfl rfl (pa_cons (de_lst da_nil) (pa_cons (de_c pe_int (fun _ => .int _)) pa_nil)) rfl))
      (dss_cons (ds_for PassesOwn.never rfl (di_range1 rfl T.nb_range (da_cons (de_call (pe_callG G_law_some hg (hr.mono (by first | decide | omega)) rfl T._law_some.g T._law_some.F.kp T._law_some.b (da_bag (pv 0) (da_cons (de_l (de_lst (da_cons (de_c pe_int (fun _ => .int _)) (da_cons (de_c pe_int (fun _ => .int _)) (da_cons (de_c pe_int (fun _ => .int _)) (da_cons (de_c pe_int (fun _ => .int _)) (da_cons (de_c pe_int (fun _ => .int _)) (da_cons (de_c pe_int (fun _ => .int _)) (da_cons (de_c pe_int (fun _ => .int _)) da_nil))))))))) da_nil)))) da_nil)) (dg_name (pg_name (i := 4) sc__law_bench.nd rfl (by first | exact Or.inl rfl | exact Or.inr rfl))) (dss_one (ds_if (dt_cmp op_le od_B (de_n (de_op op_mulD od_mul (de_n (de_var (pv 3))) (de_n (de_c pe_int (fun _ => .int _))))) (de_n (de_var (pv 1))) (nomark _)) (dss_cons (ds_app (ps_expr (pe_bm PySem.F.plainAttrs_list PySem.F.slot_list_append PySem.F.type_list_append mt_append (pv 2) (pa_cons (de_call (pe_callG G_law_place hg (hr.mono (by first | decide | omega)) rfl T._law_place.g T._law_place.F.kp T._law_place.b (da_bag (pv 0) (da_cons (de_b cd_min2 (pe_callB (call_min2 rfl) (by rfl) T.nb_min (by decide +kernel) (dan_cons (de_n (de_call (pe_callG G_law_some hg (hr.mono (by first | decide | omega)) rfl T._law_some.g T._law_some.F.kp T._law_some.b (da_bag (pv 0) (da_cons (de_l (de_lst (da_cons (de_c pe_int (fun _ => .int _)) (da_cons (de_c pe_int (fun _ => .int _)) (da_cons (de_c pe_int (fun _ => .int _)) (da_cons (de_c pe_int (fun _ => .int _)) (da_cons (de_c pe_int (fun _ => .int _)) da_nil))))))) da_nil))))) (dan_cons (de_n (de_op op_fdivW od_I (de_n (de_var (pv 1))) (de_n (de_var (pv 3))))) dan_nil)))) da_nil)))) pa_nil))))
      (dss_one (ds_set (i := 3) sc__law_bench.nd rfl (by first | exact Or.inl rfl | exact Or.inr rfl) (de_op op_mulD od_mul (de_n (de_var (pv 3))) (de_n (de_ix (kIxS K) (de_n (de_ix (kIxS K) (dn_var (pv 2)) (de_n (de_un un_neg od_neg (de_n (de_c pe_int (fun _ => .int _))))) (fun _ _ => rfl))) (de_n (de_c pe_int (fun _ => .int _))) (fun _ _ => rfl))))))) dss_nil)))
      (dss_one (ds_ret (de_n (de_b cd_tuple (pe_callTy (kTuple K) (by rfl) T.nb_tuple (by decide +kernel) (dan_cons (dn_var (pv 2)) dan_nil))))))))) ?_
  intro as q hl h
  unfold fBench at h
  split at h
  · rename_i n
    obtain ⟨rfl, h⟩ := h
    simp only [fSome, fPlace, dParLV, dParL, mCallL, mCallB, dRev, bFor, bApp, dBack, mTab, mBack2, fSortE, dRet, dRetN, dIf, dSeq, dDrop, dAsg, gNm, gTp, gsNil, gsCons, dAsgL, dApp, dExt, dIns, dPopAt, dSetIx, dPar, dAug, dNext, mVar, mVarN, mC, m1, m2, mTst, mChain, mNot, mAnd, mOr, mAndV, mOrV, mNotV, mIf, mNil, mCons, mBag, Du.dataOf, mTup, mLst, mB, mCall, mIsi, mIsi2, mNotD, mTru, truD, fAdd, fI, fI0, fMul, fB, fEq, fNe, fIn, fGeD, fIs, isBd, fIsN, isNd, fNeg, fIx, mSlL, mSlT, mNoP, mPart, fLen, fAbs, fInt, fMin2, fTuple, fList, fAll, fAny, fRepr, miL, miT, miR1, miR2, miEn, miZip, miZip3, mRow, mLc, wipeE, dFor, mYes, Du.envOf, Option.map_some, Option.map_none, List.map_cons, List.map_nil, List.length_cons, List.length_nil, Nat.sub_self, Nat.add_sub_cancel, Nat.reduceAdd, Nat.reduceSub, List.replicate, List.cons_append, List.nil_append, List.append_nil, List.getElem?_cons_zero, List.getElem?_cons_succ, List.getElem?_nil, List.set_cons_zero, List.set_cons_succ]
    refine ⟨by decide, by decide, trivial, ⟨by simp, by decide⟩, fun d hd => ?_⟩
    obtain ⟨t, rfl, t1, t5⟩ : ∃ t : Nat, d = .int (t : Int) ∧ 1 ≤ t ∧ t ≤ 5 := by
      simp only [List.mem_cons, List.not_mem_nil, or_false] at hd
      rcases hd with h | h | h | h | h | h | h
      · exact ⟨1, h, by decide, by decide⟩
      · exact ⟨2, h, by decide, by decide⟩
      · exact ⟨2, h, by decide, by decide⟩
      · exact ⟨3, h, by decide, by decide⟩
      · exact ⟨3, h, by decide, by decide⟩
      · exact ⟨4, h, by decide, by decide⟩
      · exact ⟨5, h, by decide, by decide⟩
    refine ⟨⟨by omega, by omega⟩, fun i e => ∃ (ps : List Pl) (sz : Int) (x : DV), e = [.bag, .v (.int 36), .own (ps.map plD), .v (.int sz), x] ∧ (∀ p ∈ ps, PlOk p) ∧ ps.length ≤ i ∧ 1 ≤ sz ∧ sz ≤ 216 ∧ (ps = [] → sz = 1 ∧ i = 0), ⟨[], 1, .un, rfl, (fun _ hh => nomatch hh), Nat.le_refl _, by decide, by decide, fun _ => ⟨rfl, rfl⟩⟩, ?_, ?_⟩
    · rintro i d _ hd ⟨ps, sz, x, rfl, hp, hl, z1, z2, ze⟩
      have lt := (List.getElem?_eq_some_iff.mp hd).1
      rw [ints_len] at lt
      simp only [fSome, fPlace, fMin2, dParL, mCallL, mCallB, dRev, bFor, bApp, dBack, mTab, mBack2, fSortE, dRet, dRetN, dIf, dSeq, dDrop, dAsg, gNm, gTp, gsNil, gsCons, dAsgL, dApp, dExt, dIns, dPopAt, dSetIx, dPar, dAug, dNext, mVar, mVarN, mC, m1, m2, mTst, mChain, mNot, mAnd, mOr, mAndV, mOrV, mNotV, mIf, mNil, mCons, mBag, Du.dataOf, mTup, mLst, mB, mCall, mIsi, mIsi2, mNotD, mTru, truD, fAdd, fI, fI0, fMul, fB, fEq, fNe, fIn, fGeD, fIs, isBd, fIsN, isNd, fNeg, fIx, mSlL, mSlT, mNoP, mPart, fLen, fAbs, fInt, fMin2, fTuple, fList, fAll, fAny, fRepr, miL, miT, miR1, miR2, miEn, miZip, miZip3, mRow, mLc, wipeE, dFor, mYes, Du.envOf, Option.map_some, Option.map_none, List.map_cons, List.map_nil, List.length_cons, List.length_nil, Nat.sub_self, Nat.add_sub_cancel, Nat.reduceAdd, Nat.reduceSub, List.replicate, List.cons_append, List.nil_append, List.append_nil, List.getElem?_cons_zero, List.getElem?_cons_succ, List.getElem?_nil, List.set_cons_zero, List.set_cons_succ]
      refine ⟨mulW (by omega) (by omega), ?_⟩
      by_cases c : sz * 2 ≤ 36
      · rw [decide_eq_true c]
        refine ⟨by rw [List.length_map]; omega, by decide, trivial, ⟨by simp, by decide⟩, fun y hy => ?_⟩
        obtain ⟨u, rfl, u2, u6⟩ : ∃ u : Int, y = .int u ∧ 2 ≤ u ∧ u ≤ 6 := by
          simp only [List.mem_cons, List.not_mem_nil, or_false] at hy
          rcases hy with h | h | h | h | h <;> exact ⟨_, h, by decide, by decide⟩
        have y2 : 2 ≤ 36 / sz := (Int.le_ediv_iff_mul_le (by omega)).mpr (by omega)
        refine ⟨⟨by omega, small_log (by omega) (by omega)⟩, trivial, ⟨by split <;> omega, by split <;> omega⟩, fun p hpl => ?_⟩
        have p6 := hpl.lo
        have al : atI (ps.map plD ++ [plD p]) (-1) = some (plD p) := at_last _ _
        rw [al]
        simp only [plD]
        rw [show atI [PyData.int (p.1 : Int), PyData.tuple (p.2.map On.pairD)] (0 : Int) = some (.int (p.1 : Int)) from atI_nat (j := 0) rfl]
        refine ⟨mulW (by omega) (by omega), ps ++ [p], sz * (p.1 : Int), .v d, ?_, fun r hr => ?_, by rw [List.length_append]; show _ + 1 ≤ _; omega, ?_, ?_, fun e => ?_⟩
        · rw [List.map_append]
          rfl
        · rcases List.mem_append.mp hr with h | h
          · exact hp r h
          · rw [List.mem_singleton] at h
            rw [h]
            exact hpl
        · have a2 : (1 : Int) * 1 ≤ sz * (p.1 : Int) := Int.mul_le_mul (by omega) (by omega) (by omega) (by omega)
          omega
        · have a2 : sz * (p.1 : Int) ≤ 18 * 6 := Int.mul_le_mul (by omega) (by omega) (by omega) (by omega)
          omega
        · simp at e
      · rw [decide_eq_false c]
        refine ⟨ps, sz, .v d, rfl, hp, by omega, z1, z2, fun e => ?_⟩
        have := (ze e).1
        omega
    · rintro _ ⟨ps, sz, x, rfl, hp, hl, z1, z2, ze⟩
      rw [ints_len] at hl ze
      have ne : ps ≠ [] := fun e => by
        have := (ze e).2
        omega
      exact h ps (bok_of (by omega) hp) hp ne
  · exact h.elim
end
end L19

namespace L19
open PySem PySem.Spec PyProof.Rows L2 On K19 Du M16 M17
/-- the law's own steps of each content -/
def stepsD (b : List Pl) (n : List Int) : PyData := .list ((srt (outs b n)).map conD)
def graphM (b : List Pl) : Tab := tabC (contents b) (stepsD b)
def fGraph : List DV → (PyData → Prop) → Prop := fun as k => match as with
  | [.v (.tuple pds)] => ∃ b, pds = benD b ∧ Bok b ∧ b ≠ [] ∧ k (.dict (encT (graphM b)))
  | _ => False
theorem conts_ne {b : List Pl} (hb : Bok b) : contents b ≠ [] := fun e => by
  have z : List.replicate b.length (0 : Int) ∈ contents b := mem_conts.mpr ⟨List.length_replicate .., fun k hk => by
    have y := (hb.lo _ (getD_mem (d := ((0, []) : Pl)) hk)).1
    unfold many
    rw [List.getD_eq_getElem?_getD, List.getElem?_replicate, if_pos hk]
    show 0 ≤ (0 : Int) ∧ (0 : Int) < _
    omega⟩
  rw [e] at z
  cases z
/-- any of the things may be picked -/
theorem lc_any {g : MG} {mt : MT} {me : ME} {env : List DV} (E : PyData → List DV) : ∀ (ds acc : List PyData) (k : PyData → Prop), acc.length + ds.length ≤ 100000 → (∀ d ∈ ds, ∀ k', k' (E d) → g d env k') →
    (∀ d ∈ ds, ∀ k', k' true → k' false → mt (E d) k') → (∀ d ∈ ds, ∀ k', k' d → me (E d) k') → (∀ ss, ss.Sublist ds → k (.list (acc ++ ss))) → lcGo g mt me env acc ds k
  | [], acc, k, _, _, _, _, h => by
    have h' := h [] (List.Sublist.refl _)
    rw [List.append_nil] at h'
    exact h'
  | d :: ds, acc, k, hl, hg, ht, he, h => by
    rw [List.length_cons] at hl
    refine hg d List.mem_cons_self _ (ht d List.mem_cons_self _ ⟨by omega, he d List.mem_cons_self _ ?_⟩ ?_)
    · refine lc_any E ds (acc ++ [d]) k (by rw [List.length_append, List.length_singleton]; omega) (fun x hx => hg x (List.mem_cons_of_mem _ hx)) (fun x hx => ht x (List.mem_cons_of_mem _ hx)) (fun x hx => he x (List.mem_cons_of_mem _ hx)) fun ss hs => ?_
      rw [List.append_assoc]
      exact h (d :: ss) (hs.cons₂ d)
    · exact lc_any E ds acc k (by omega) (fun x hx => hg x (List.mem_cons_of_mem _ hx)) (fun x hx => ht x (List.mem_cons_of_mem _ hx)) (fun x hx => he x (List.mem_cons_of_mem _ hx)) fun ss hs => h ss (hs.cons d)
/-- some of the things, in any order -/
def fDrawn : List DV → (PyData → Prop) → Prop := fun as k => match as with
  | [.bag, .v (.list ds)] => ds.length ≤ 20000 ∧ ∀ ss : List PyData, ss.Sublist ds → ∀ es : List PyData, es.Perm ss → k (.list es)
  | _ => False
section
variable {P : Program} {w : World} {K : PySem.W.Frag} {mg : Str → Option Value} {base : Heap} {A : Ads}
theorem ok_graph (T : Txt K mg A) (G_law_contents : FnG P w K mg base 2 A.a_law_contents A.d_law_contents ["_law_bench_here"] (spF K 1 fContsL)) (G_law_steps : FnG P w K mg base 1 A.a_law_steps A.d_law_steps ["_law_bench_here", "_law_content"] (spF K 2 (stepF Prod.fst Prod.snd fun _ _ => True))) : FnG P w K mg base 3 A.a_law_graph A.d_law_graph ["_law_bench_here"] (spF K 1 fGraph) := by
  refine okD T._law_graph.F sc__law_graph (fun c cdv A' outer s H E hg hr => (dss_one (ds_ret (de_n (de_of (de_dict rfl (pe_callTy (cr_dictG rfl (un12 hr)) (by rfl) T.nb_dict (by decide +kernel) (dan_cons (de_ln (de_lc (own := [("_law_content", 1)]) rfl sc__law_graph.nd (di_list rfl (de_call (pe_callG G_law_contents hg (hr.mono (by first | decide | omega)) rfl T._law_contents.g T._law_contents.F.kp T._law_contents.b (da_cons (de_var (pv 0)) da_nil)))) (blkOk_by (N := ["_law_bench_here", "_law_content"]) (sc := defScope s_law_graph) (by decide +kernel)) (fun _ _ _ _ _ => (dg_name (pg_name (i := 1) sc__law_graph.nd rfl (by first | exact Or.inl rfl | exact Or.inr rfl)))) (fun _ _ _ _ _ => dts_nil) (fun _ _ _ _ _ => (de_tup (da_cons (de_var (pv 1)) (da_cons (de_call (pe_callG G_law_steps hg (hr.mono (by first | decide | omega)) rfl T._law_steps.g T._law_steps.F.kp T._law_steps.b (da_cons (de_var (pv 0)) (da_cons (de_var (pv 1)) da_nil)))) da_nil)))) (by decide))) dan_nil)))))))) ?_
  intro as q hl h
  unfold fGraph at h
  split at h
  · rename_i pds
    obtain ⟨b, rfl, hb, hne, h⟩ := h
    have lc := conts_len' hb
    simp only [fContsL, mGetN, mInN, mDGetV, mDGet2, dPutN, dRetD, mD0, mD1, mDict, mOf, dSetD, mConsD, mVarDD, mDc, dParVD, dParDL, dParLD, dParDV, dGive, miSV, mOrX, mSortK, fSortG, onD, dOf_od, dOf_dd, Option.bind_some, Option.bind_none, Option.getD_some, Option.getD_none, dParL, mCallL, mCallB, dRev, fSortE, dRet, dRetN, dIf, dSeq, dDrop, dAsg, gNm, gTp, gsNil, gsCons, dAsgL, dApp, dExt, dIns, dPopAt, dSetIx, dPar, dAug, dNext, mVar, mVarN, mC, m1, m2, mTst, mChain, mNot, mAnd, mOr, mAndV, mOrV, mNotV, mIf, mNil, mCons, mBag, Du.dataOf, mTup, mLst, mB, mCall, mIsi, mIsi2, mNotD, mTru, truD, fAdd, fI, fI0, fMul, fB, fEq, fNe, fIn, fGeD, fIs, isBd, fIsN, isNd, fNeg, fIx, mSlL, mSlT, mNoP, mPart, fLen, fAbs, fInt, fMin2, fTuple, fList, fAll, fAny, fRepr, miL, miT, miR1, miR2, miEn, miZip, miZip3, mRow, mLc, wipeE, dFor, mYes, Du.envOf, Option.map_some, Option.map_none, List.map_cons, List.map_nil, List.length_cons, List.length_nil, Nat.sub_self, Nat.add_sub_cancel, Nat.reduceAdd, Nat.reduceSub, List.replicate, List.cons_append, List.nil_append, List.append_nil, List.getElem?_cons_zero, List.getElem?_cons_succ, List.getElem?_nil, List.set_cons_zero, List.set_cons_succ]
    refine ⟨trivial, b, rfl, hb, ?_⟩
    refine lc_pure (fun c => [.v (.tuple (benD b)), .v c]) (fun _ => true) (fun c => .tuple [c, stepsD b (unC c)]) ((contents b).map conD) [] _ (by rw [List.length_nil, List.length_map]; omega) (fun d hd k' hk => hk) (fun d hd k' hk => hk) (fun d hd _ k' hk => ?_) ?_
    · obtain ⟨n, hn, rfl⟩ := List.mem_map.mp hd
      rw [unC_con] at hk
      simp only [stepF, conD, mGetN, mInN, mDGetV, mDGet2, dPutN, dRetD, mD0, mD1, mDict, mOf, dSetD, mConsD, mVarDD, mDc, dParVD, dParDL, dParLD, dParDV, dGive, miSV, mOrX, mSortK, fSortG, onD, dOf_od, dOf_dd, Option.bind_some, Option.bind_none, Option.getD_some, Option.getD_none, dParL, mCallL, mCallB, dRev, fSortE, dRet, dRetN, dIf, dSeq, dDrop, dAsg, gNm, gTp, gsNil, gsCons, dAsgL, dApp, dExt, dIns, dPopAt, dSetIx, dPar, dAug, dNext, mVar, mVarN, mC, m1, m2, mTst, mChain, mNot, mAnd, mOr, mAndV, mOrV, mNotV, mIf, mNil, mCons, mBag, Du.dataOf, mTup, mLst, mB, mCall, mIsi, mIsi2, mNotD, mTru, truD, fAdd, fI, fI0, fMul, fB, fEq, fNe, fIn, fGeD, fIs, isBd, fIsN, isNd, fNeg, fIx, mSlL, mSlT, mNoP, mPart, fLen, fAbs, fInt, fMin2, fTuple, fList, fAll, fAny, fRepr, miL, miT, miR1, miR2, miEn, miZip, miZip3, mRow, mLc, wipeE, dFor, mYes, Du.envOf, Option.map_some, Option.map_none, List.map_cons, List.map_nil, List.length_cons, List.length_nil, Nat.sub_self, Nat.add_sub_cancel, Nat.reduceAdd, Nat.reduceSub, List.replicate, List.cons_append, List.nil_append, List.append_nil, List.getElem?_cons_zero, List.getElem?_cons_succ, List.getElem?_nil, List.set_cons_zero, List.set_cons_succ]
      exact ⟨trivial, b, n, rfl, rfl, ⟨hb, con_of hb hn, hne, trivial⟩, by decide, hk⟩
    · rw [List.filter_eq_self.mpr fun _ _ => rfl, List.map_map, List.nil_append]
      refine ⟨encT (graphM b), ?_, pairsOk_tab ?_ ?_, ?_, h⟩
      · unfold graphM tabC encT
        rw [List.map_map, List.map_map]
        refine congrArg PyData.list (List.map_congr_left fun n _ => ?_)
        show PyData.tuple [conD n, stepsD b (unC (conD n))] = _
        rw [unC_con]
        rfl
      · unfold graphM tabC
        rw [List.map_map]
        have e : Prod.fst ∘ (fun n => (n, stepsD b n)) = id := rfl
        rw [e, List.map_id]
        exact conts_nodup b
      · unfold graphM tabC
        rw [List.length_map]
        omega
      · intro e
        have z := congrArg List.length e
        unfold graphM tabC encT at z
        rw [List.length_map, List.length_map] at z
        exact conts_ne hb (List.length_eq_zero_iff.mp z)
  · exact h.elim
end
end L19

namespace L19
open PySem PySem.Spec PyProof.Rows L2 On K19 Du M16 M17
theorem depth_con' (n : List Int) : (conD n).depth ≤ 20 := by rw [depth_conD]; decide
theorem alike_ints' : ∀ a c : List Int, PySem.W.alikeAll (a.map .int) (c.map .int) = true
  | [], [] => by simp [PySem.W.alikeAll]
  | [], _ :: _ => by simp [PySem.W.alikeAll]
  | _ :: _, [] => by simp [PySem.W.alikeAll]
  | x :: a, y :: c => by
    rw [List.map_cons, List.map_cons, PySem.W.alikeAll, alike_ints' a c, PySem.W.alike]
    rfl
theorem alike_cons (L : List Vx) : PySem.W.AllAlike (L.map conD) := fun d hd e he => by
  obtain ⟨a, _, rfl⟩ := List.mem_map.mp hd
  obtain ⟨c, _, rfl⟩ := List.mem_map.mp he
  unfold conD
  rw [PySem.W.alike]
  exact alike_ints' a c
theorem sort_cons {L : List Vx} (h : ∀ n ∈ L, n ≠ []) : PySem.W.Sortable (L.map conD) := .inl fun d hd => by
  obtain ⟨a, ha, rfl⟩ := List.mem_map.mp hd
  cases a with
  | nil => exact absurd rfl (h _ ha)
  | cons x a => exact ⟨.int x, a.map .int, rfl⟩
/-- either_order -/
def fEither : List DV → (PyData → Prop) → Prop := fun as k => match as with
  | [.v d, .v e] => ∃ a c : Vx, d = conD a ∧ e = conD c ∧ (a ≠ [] ∧ c ≠ []) ∧ k (.tuple [conD a, conD c, .tuple (sortD [conD a, conD c])])
  | _ => False
/-- with_orders -/
def fWithO : List DV → (PyData → Prop) → Prop := fun as k => match as with
  | [.v (.tuple [t0, t1, t2]), .v (.list os)] => (PySem.W.AllAlike os ∧ PySem.W.Sortable os ∧ os.length ≤ 100000 ∧ ∀ d ∈ os, d.depth ≤ 20) ∧ k (.tuple [t0, t1, .tuple (sortD os)])
  | _ => False
section
variable {P : Program} {w : World} {K : PySem.W.Frag} {mg : Str → Option Value} {base : Heap} {A : Ads}
theorem ok_either (T : Txt K mg A) : FnG P w K mg base 1 A.aeither_order A.deither_order ["start", "goal"] (spF K 2 fEither) := by
  refine okD T.either_order.F sc_either_order (fun c cdv A' outer s H E hg hr => (dss_one (ds_ret (de_n (de_tup (da_cons (de_var (pv 0)) (da_cons (de_var (pv 1)) (da_cons (de_b cd_tuple (pe_callTy (kTuple K) (by rfl) T.nb_tuple (by decide +kernel) (dan_cons (de_ln (de_bl (cl_sortG rfl) (pe_callB (cr_sortG (un32 hr)) (by rfl) T.nb_sorted (by decide +kernel) (dan_cons (de_ln (de_lst (da_cons (de_var (pv 0)) (da_cons (de_var (pv 1)) da_nil)))) dan_nil)))) dan_nil))) da_nil)))))))) ?_
  intro as q hl h
  unfold fEither at h
  split at h
  · obtain ⟨a, c, rfl, rfl, ⟨ha, hc⟩, h⟩ := h
    simp only [mGetN, mInN, mDGetV, mDGet2, dPutN, dRetD, mD0, mD1, mDict, mOf, dSetD, mConsD, mVarDD, mDc, dParVD, dParDL, dParLD, dParDV, dGive, miSV, mOrX, mSortK, fSortG, onD, dOf_od, dOf_dd, Option.bind_some, Option.bind_none, Option.getD_some, Option.getD_none, dParL, mCallL, mCallB, dRev, fSortE, dRet, dRetN, dIf, dSeq, dDrop, dAsg, gNm, gTp, gsNil, gsCons, dAsgL, dApp, dExt, dIns, dPopAt, dSetIx, dPar, dAug, dNext, mVar, mVarN, mC, m1, m2, mTst, mChain, mNot, mAnd, mOr, mAndV, mOrV, mNotV, mIf, mNil, mCons, mBag, Du.dataOf, mTup, mLst, mB, mCall, mIsi, mIsi2, mNotD, mTru, truD, fAdd, fI, fI0, fMul, fB, fEq, fNe, fIn, fGeD, fIs, isBd, fIsN, isNd, fNeg, fIx, mSlL, mSlT, mNoP, mPart, fLen, fAbs, fInt, fMin2, fTuple, fList, fAll, fAny, fRepr, miL, miT, miR1, miR2, miEn, miZip, miZip3, mRow, mLc, wipeE, dFor, mYes, Du.envOf, Option.map_some, Option.map_none, List.map_cons, List.map_nil, List.length_cons, List.length_nil, Nat.sub_self, Nat.add_sub_cancel, Nat.reduceAdd, Nat.reduceSub, List.replicate, List.cons_append, List.nil_append, List.append_nil, List.getElem?_cons_zero, List.getElem?_cons_succ, List.getElem?_nil, List.set_cons_zero, List.set_cons_succ]
    refine ⟨by decide, alike_cons [a, c], sort_cons (L := [a, c]) (by simp [ha, hc]), by decide, by simp [depth_con'], by decide, h⟩
  · exact h.elim
theorem ok_witho (T : Txt K mg A) : FnG P w K mg base 1 A.awith_orders A.dwith_orders ["task", "orders"] (spF K 2 fWithO) := by
  refine okD T.with_orders.F sc_with_orders (fun c cdv A' outer s H E hg hr => (dss_one (ds_ret (de_n (de_tup (da_cons (de_ix (kIxS K) (de_n (de_var (pv 0))) (de_n (de_c pe_int (fun _ => .int _))) (fun _ _ => rfl)) (da_cons (de_ix (kIxS K) (de_n (de_var (pv 0))) (de_n (de_c pe_int (fun _ => .int _))) (fun _ _ => rfl)) (da_cons (de_b cd_tuple (pe_callTy (kTuple K) (by rfl) T.nb_tuple (by decide +kernel) (dan_cons (de_ln (de_bl (cl_sortG rfl) (pe_callB (cr_sortG (un32 hr)) (by rfl) T.nb_sorted (by decide +kernel) (dan_cons (de_n (de_var (pv 1))) dan_nil)))) dan_nil))) da_nil)))))))) ?_
  intro as q hl h
  unfold fWithO at h
  split at h
  · rename_i t0 t1 t2 os
    obtain ⟨⟨h1, h2, h3, h4⟩, h⟩ := h
    simp only [mGetN, mInN, mDGetV, mDGet2, dPutN, dRetD, mD0, mD1, mDict, mOf, dSetD, mConsD, mVarDD, mDc, dParVD, dParDL, dParLD, dParDV, dGive, miSV, mOrX, mSortK, fSortG, onD, dOf_od, dOf_dd, Option.bind_some, Option.bind_none, Option.getD_some, Option.getD_none, dParL, mCallL, mCallB, dRev, fSortE, dRet, dRetN, dIf, dSeq, dDrop, dAsg, gNm, gTp, gsNil, gsCons, dAsgL, dApp, dExt, dIns, dPopAt, dSetIx, dPar, dAug, dNext, mVar, mVarN, mC, m1, m2, mTst, mChain, mNot, mAnd, mOr, mAndV, mOrV, mNotV, mIf, mNil, mCons, mBag, Du.dataOf, mTup, mLst, mB, mCall, mIsi, mIsi2, mNotD, mTru, truD, fAdd, fI, fI0, fMul, fB, fEq, fNe, fIn, fGeD, fIs, isBd, fIsN, isNd, fNeg, fIx, mSlL, mSlT, mNoP, mPart, fLen, fAbs, fInt, fMin2, fTuple, fList, fAll, fAny, fRepr, miL, miT, miR1, miR2, miEn, miZip, miZip3, mRow, mLc, wipeE, dFor, mYes, Du.envOf, Option.map_some, Option.map_none, List.map_cons, List.map_nil, List.length_cons, List.length_nil, Nat.sub_self, Nat.add_sub_cancel, Nat.reduceAdd, Nat.reduceSub, List.replicate, List.cons_append, List.nil_append, List.append_nil, List.getElem?_cons_zero, List.getElem?_cons_succ, List.getElem?_nil, List.set_cons_zero, List.set_cons_succ]
    rw [show atI [t0, t1, t2] (0 : Int) = some t0 from atI_nat (j := 0) rfl, show atI [t0, t1, t2] (1 : Int) = some t1 from atI_nat (j := 1) rfl]
    exact ⟨h1, h2, h3, h4, by decide, h⟩
  · exact h.elim
end
end L19

namespace L19
open PySem PySem.Spec PyProof.Rows L2 On K19 Du M16 M17
theorem cut_to' (xs : List PyData) (i : Nat) : Du.cutD xs Option.none (some (i : Int)) = xs.take i := by
  unfold Du.cutD
  rw [HT.sIx_nat]
  show (xs.drop 0).take (min i xs.length - 0) = xs.take i
  rw [Nat.sub_zero, List.drop_zero]
  rcases Nat.le_total i xs.length with h | h
  · rw [Nat.min_eq_left h]
  · rw [Nat.min_eq_right h, List.take_of_length_le (Nat.le_refl _), List.take_of_length_le h]
structure RestsOk (V : List Vx) (Rs : List Vx) : Prop where
  sub : ∀ x ∈ Rs, x ∈ V
  nd : Rs.Nodup
  asc : Rs.Pairwise fun a c => TS.code 6 a ≤ TS.code 6 c
  len : Rs.length ≤ 8
  ne : Rs ≠ []
def fRests : List DV → (PyData → Prop) → Prop := fun as k => match as with
  | [.bag, .v (.list ds), .v (.int m)] => ∃ (b : List Pl) (Cs : List Vx), m = 8 ∧ ds = Cs.map conD ∧ (Bok b ∧ b ≠ [] ∧ Cs.Perm (contents b)) ∧ ∀ Rs, RestsOk (contents b) Rs → k (.tuple (Rs.map conD))
  | _ => False
theorem dims {b : List Pl} (hb : Bok b) (hne : b ≠ []) {L : List Vx} (h : ∀ x ∈ L, x ∈ contents b) : ∃ d, 1 ≤ d ∧ ∀ n ∈ L, n.length = d ∧ TS.Bd 6 n := ⟨b.length, List.length_pos_iff.mpr hne, fun n hn => ⟨(con_of hb (h n hn)).len, (con_of hb (h n hn)).bd⟩⟩
/-- the ends of an order: of the rests, ascending -/
def fEnds : List DV → (PyData → Prop) → Prop := fun as k => match as with
  | [.bag, .v (.tuple ds), .v a, .v c] => ∃ (b : List Pl) (Rs : List Vx) (s g : Vx), ds = Rs.map conD ∧ a = conD s ∧ c = conD g ∧ (Bok b ∧ b ≠ [] ∧ RestsOk (contents b) Rs ∧ s ∈ Rs ∧ g ∈ Rs ∧ s ≠ g) ∧
    ∀ Es : List Vx, (∀ x ∈ Es, x ∈ Rs) → Es.Nodup → Es.Pairwise (fun a c => TS.code 6 a ≤ TS.code 6 c) → Es.length ≤ 8 → k (.tuple (Es.map conD))
  | _ => False
section
variable {P : Program} {w : World} {K : PySem.W.Frag} {mg : Str → Option Value} {base : Heap} {A : Ads}
theorem ok_rests (T : Txt K mg A) (G_law_take : FnG P w K mg base 1 A.a_law_take A.d_law_take ["_law_bag_here", "_law_upto"] (spF K 2 fTake)) (G_law_some : FnG P w K mg base 2 A.a_law_some A.d_law_some ["_law_bag_here", "_law_things"] (spF K 2 fSome)) (G_law_mixed : FnG P w K mg base 2 A.a_law_mixed A.d_law_mixed ["_law_bag_here", "_law_things"] (spF K 2 fMixed)) : FnG P w K mg base 3 A.a_law_rests A.d_law_rests ["_law_bag_here", "_law_contents_here", "_law_most"] (spF K 3 fRests) := by
  refine okD T._law_rests.F sc__law_rests (fun c cdv A' outer s H E hg hr => (dss_cons (ds_set (i := 3) sc__law_rests.nd rfl (by first | exact Or.inl rfl | exact Or.inr rfl) (de_call (pe_callG G_law_some hg (hr.mono (by first | decide | omega)) rfl T._law_some.g T._law_some.F.kp T._law_some.b (da_bag (pv 0) (da_cons (de_l (de_lst (da_cons (de_c pe_int (fun _ => .int _)) (da_cons (de_c pe_int (fun _ => .int _)) (da_cons (de_c pe_int (fun _ => .int _)) (da_cons (de_c pe_int (fun _ => .int _)) (da_cons (de_var (pv 2)) (da_cons (de_op op_addD od_add (de_n (de_c pe_int (fun _ => .int _))) (de_n (de_call (pe_callG G_law_take hg (hr.mono (by first | decide | omega)) rfl T._law_take.g T._law_take.F.kp T._law_take.b (da_bag (pv 0) (da_cons (de_var (pv 2)) da_nil)))))) (da_cons (de_c pe_int (fun _ => .int _)) (da_cons (de_c pe_int (fun _ => .int _)) da_nil)))))))))) da_nil)))))
      (dss_one (ds_ret (de_n (de_b cd_tuple (pe_callTy (kTuple K) (by rfl) T.nb_tuple (by decide +kernel) (dan_cons (de_ln (de_bl cl_sortE (pe_callB (kSortE (K := K)) (by rfl) T.nb_sorted (by decide +kernel) (dan_cons (de_ln (de_slL (kSlL K) (de_n (de_call (pe_callG G_law_mixed hg (hr.mono (by first | decide | omega)) rfl T._law_mixed.g T._law_mixed.F.kp T._law_mixed.b (da_bag (pv 0) (da_cons (de_var (pv 1)) da_nil))))) do_none (do_some (de_n (de_b cd_min2 (pe_callB (call_min2 rfl) (by rfl) T.nb_min (by decide +kernel) (dan_cons (de_n (de_var (pv 3))) (dan_cons (de_n (de_var (pv 2))) dan_nil)))))))) dan_nil)))) dan_nil)))))))) ?_
  intro as q hl h
  unfold fRests at h
  split at h
  · rename_i ds m
    obtain ⟨b, Cs, rfl, rfl, ⟨hb, hne, hp⟩, h⟩ := h
    have lC := conts_len' hb
    have lCs := hp.length_eq
    simp only [fSome, fTake, fMixed, mGetN, mInN, mDGetV, mDGet2, dPutN, dRetD, mD0, mD1, mDict, mOf, dSetD, mConsD, mVarDD, mDc, dParVD, dParDL, dParLD, dParDV, dGive, miSV, mOrX, mSortK, fSortG, onD, dOf_od, dOf_dd, Option.bind_some, Option.bind_none, Option.getD_some, Option.getD_none, dParL, mCallL, mCallB, dRev, fSortE, dRet, dRetN, dIf, dSeq, dDrop, dAsg, gNm, gTp, gsNil, gsCons, dAsgL, dApp, dExt, dIns, dPopAt, dSetIx, dPar, dAug, dNext, mVar, mVarN, mC, m1, m2, mTst, mChain, mNot, mAnd, mOr, mAndV, mOrV, mNotV, mIf, mNil, mCons, mBag, Du.dataOf, mTup, mLst, mB, mCall, mIsi, mIsi2, mNotD, mTru, truD, fAdd, fI, fI0, fMul, fB, fEq, fNe, fIn, fGeD, fIs, isBd, fIsN, isNd, fNeg, fIx, mSlL, mSlT, mNoP, mPart, fLen, fAbs, fInt, fMin2, fTuple, fList, fAll, fAny, fRepr, miL, miT, miR1, miR2, miEn, miZip, miZip3, mRow, mLc, wipeE, dFor, mYes, Du.envOf, Option.map_some, Option.map_none, List.map_cons, List.map_nil, List.length_cons, List.length_nil, Nat.sub_self, Nat.add_sub_cancel, Nat.reduceAdd, Nat.reduceSub, List.replicate, List.cons_append, List.nil_append, List.append_nil, List.getElem?_cons_zero, List.getElem?_cons_succ, List.getElem?_nil, List.set_cons_zero, List.set_cons_succ]
    refine ⟨trivial, ⟨by decide, by decide⟩, fun v v0 v1 => ⟨by decide, trivial, ⟨by simp, by decide⟩, fun d hd => ⟨trivial, by rw [List.length_map]; omega, fun es he => ?_⟩⟩⟩
    obtain ⟨L, hL, rfl⟩ := perm_con he
    have hLC := hL.trans hp
    obtain ⟨i, rfl, i1, i8⟩ : ∃ i : Nat, d = .int (i : Int) ∧ 1 ≤ i ∧ i ≤ 8 := by
      simp only [List.mem_cons, List.not_mem_nil, or_false] at hd
      rcases hd with h | h | h | h | h | h | h | h
      · exact ⟨2, h, by decide, by decide⟩
      · exact ⟨3, h, by decide, by decide⟩
      · exact ⟨2, h, by decide, by decide⟩
      · exact ⟨3, h, by decide, by decide⟩
      · exact ⟨8, h, by decide, by decide⟩
      · exact ⟨(1 + v).toNat, by rw [h]; congr 1; omega, by omega, by omega⟩
      · exact ⟨2, h, by decide, by decide⟩
      · exact ⟨4, h, by decide, by decide⟩
    show ∃ L', _ ∧ _
    rw [if_neg (by omega), cut_to', ← List.map_take]
    have lt := List.length_take (i := i) (l := L)
    have sub : ∀ x ∈ L.take i, x ∈ contents b := fun x hx => hLC.mem_iff.mp (List.mem_of_mem_take hx)
    have sp := srt_perm (L.take i)
    refine ⟨L.take i, rfl, by omega, dims hb hne sub, h _ ⟨fun x hx => sub x (sp.mem_iff.mp hx), sp.nodup_iff.mpr ((hLC.nodup_iff.mpr (conts_nodup b)).sublist (List.take_sublist i L)), srt_pw _, by rw [srt_len]; omega, fun e => ?_⟩⟩
    have z := congrArg List.length e
    rw [srt_len, lt] at z
    have : 0 < (contents b).length := List.length_pos_iff.mpr (conts_ne hb)
    have lL := hLC.length_eq
    have z : min i L.length = 0 := z
    omega
  · exact h.elim
theorem ok_ends (T : Txt K mg A) (G_law_take : FnG P w K mg base 1 A.a_law_take A.d_law_take ["_law_bag_here", "_law_upto"] (spF K 2 fTake)) : FnG P w K mg base 2 A.a_law_ends A.d_law_ends ["_law_bag_here", "_law_rests_here", "_law_start", "_law_goal"] (spF K 4 fEnds) := by
  refine okD T._law_ends.F sc__law_ends (fun c cdv A' outer s H E hg hr => (dss_cons (ds_set (i := 4) sc__law_ends.nd rfl (by first | exact Or.inl rfl | exact Or.inr rfl) (de_call (pe_callG G_law_take hg (hr.mono (by first | decide | omega)) rfl T._law_take.g T._law_take.F.kp T._law_take.b (da_bag (pv 0) (da_cons (de_c pe_int (fun _ => .int _)) da_nil)))))
      (dss_cons (ds_set (i := 5) sc__law_ends.nd rfl (by first | exact Or.inl rfl | exact Or.inr rfl) (de_l (de_lst (da_cons (de_l (de_lst (da_cons (de_var (pv 2)) (da_cons (de_var (pv 3)) da_nil)))) (da_cons (de_l (de_lst (da_cons (de_var (pv 2)) (da_cons (de_var (pv 3)) da_nil)))) (da_cons (de_l (de_lst (da_cons (de_var (pv 2)) (da_cons (de_var (pv 3)) da_nil)))) (da_cons (de_l (de_lst (da_cons (de_var (pv 3)) da_nil))) (da_cons (de_l (de_lst (da_cons (de_var (pv 2)) da_nil))) (da_cons (de_l (de_lst da_nil)) (da_cons (de_l (de_bl cl_list (pe_callTy (kList K) (by rfl) T.nb_list (by decide +kernel) (dan_cons (de_n (de_var (pv 1))) dan_nil)))) da_nil))))))))))
      (dss_cons (ds_if (dt_cmp op_lt od_B (de_n (de_var (pv 4))) (de_n (de_c pe_int (fun _ => .int _))) (nomark _)) (dss_one (ds_ret (de_n (de_b cd_tuple (pe_callTy (kTuple K) (by rfl) T.nb_tuple (by decide +kernel) (dan_cons (de_ln (de_bl cl_sortE (pe_callB (kSortE (K := K)) (by rfl) T.nb_sorted (by decide +kernel) (dan_cons (de_n (de_ix (kIxS K) (de_n (de_var (pv 5))) (de_n (de_var (pv 4))) (fun _ _ => rfl))) dan_nil)))) dan_nil)))))) dss_nil)
      (dss_one (ds_ret (de_n (de_b cd_tuple (pe_callTy (kTuple K) (by rfl) T.nb_tuple (by decide +kernel) (dan_cons (de_ln (de_lc (own := [("_law_rest", 6)]) rfl sc__law_ends.nd (di_tup rfl (de_var (pv 1))) (blkOk_by (N := ["_law_bag_here", "_law_rests_here", "_law_start", "_law_goal", "_law_way", "_law_some_here", "_law_rest"]) (sc := defScope s_law_ends) (by decide +kernel)) (fun _ _ _ _ _ => (dg_name (pg_name (i := 6) sc__law_ends.nd rfl (by first | exact Or.inl rfl | exact Or.inr rfl)))) (fun _ _ _ _ _ => (dts_one (dt_cmp (op_eqQ (un66 hr)) od_eq (de_n (de_call (pe_callG G_law_take hg (hr.mono (by first | decide | omega)) rfl T._law_take.g T._law_take.F.kp T._law_take.b (da_bag (pv 0) (da_cons (de_c pe_int (fun _ => .int _)) da_nil))))) (de_n (de_c pe_int (fun _ => .int _))) (nomark _)))) (fun _ _ _ _ _ => (de_var (pv 6))) (by decide))) dan_nil)))))))))) ?_
  intro as q hl h
  unfold fEnds at h
  split at h
  · rename_i ds a c
    obtain ⟨b, Rs, s, g, rfl, rfl, rfl, ⟨hb, hne, hR, hs, hg, hsg⟩, h⟩ := h
    have lR := hR.len
    have fin : ∀ L : List Vx, (∀ x ∈ L, x ∈ Rs) → L.Nodup → L.length ≤ 8 → ∃ L' : List Vx, L.map conD = L'.map conD ∧ L'.length < 64 ∧ (∃ d, 1 ≤ d ∧ ∀ n ∈ L', n.length = d ∧ TS.Bd 6 n) ∧ q (.tuple ((srt L').map conD)) := fun L h1 h2 h3 =>
      ⟨L, rfl, by omega, dims hb hne fun x hx => hR.sub x (h1 x hx), h _ (fun x hx => h1 x ((srt_perm L).mem_iff.mp hx)) ((srt_perm L).nodup_iff.mpr h2) (srt_pw L) (by rw [srt_len]; exact h3)⟩
    have two := fin [s, g] (by simp [hs, hg]) (by simp [hsg]) (by simp)
    simp only [fTake, mGetN, mInN, mDGetV, mDGet2, dPutN, dRetD, mD0, mD1, mDict, mOf, dSetD, mConsD, mVarDD, mDc, dParVD, dParDL, dParLD, dParDV, dGive, miSV, mOrX, mSortK, fSortG, onD, dOf_od, dOf_dd, Option.bind_some, Option.bind_none, Option.getD_some, Option.getD_none, dParL, mCallL, mCallB, dRev, fSortE, dRet, dRetN, dIf, dSeq, dDrop, dAsg, gNm, gTp, gsNil, gsCons, dAsgL, dApp, dExt, dIns, dPopAt, dSetIx, dPar, dAug, dNext, mVar, mVarN, mC, m1, m2, mTst, mChain, mNot, mAnd, mOr, mAndV, mOrV, mNotV, mIf, mNil, mCons, mBag, Du.dataOf, mTup, mLst, mB, mCall, mIsi, mIsi2, mNotD, mTru, truD, fAdd, fI, fI0, fMul, fB, fEq, fNe, fIn, fGeD, fIs, isBd, fIsN, isNd, fNeg, fIx, mSlL, mSlT, mNoP, mPart, fLen, fAbs, fInt, fMin2, fTuple, fList, fAll, fAny, fRepr, miL, miT, miR1, miR2, miEn, miZip, miZip3, mRow, mLc, wipeE, dFor, mYes, Du.envOf, Option.map_some, Option.map_none, List.map_cons, List.map_nil, List.length_cons, List.length_nil, Nat.sub_self, Nat.add_sub_cancel, Nat.reduceAdd, Nat.reduceSub, List.replicate, List.cons_append, List.nil_append, List.append_nil, List.getElem?_cons_zero, List.getElem?_cons_succ, List.getElem?_nil, List.set_cons_zero, List.set_cons_succ]
    refine ⟨trivial, ⟨by decide, by decide⟩, fun v v0 v1 => ⟨by decide, by decide, by decide, by decide, by decide, by decide, by decide, ?_⟩⟩
    by_cases c : v < 7
    · rw [decide_eq_true c]
      have hv : v = 0 ∨ v = 1 ∨ v = 2 ∨ v = 3 ∨ v = 4 ∨ v = 5 ∨ v = 6 := by omega
      rcases hv with rfl | rfl | rfl | rfl | rfl | rfl | rfl
      · exact two
      · exact two
      · exact two
      · exact fin [g] (by simp [hg]) (by simp) (by simp)
      · exact fin [s] (by simp [hs]) (by simp) (by simp)
      · exact fin [] (by simp) (by simp) (by simp)
      · exact fin Rs (fun _ h => h) hR.nd lR
    · rw [decide_eq_false c]
      refine lc_any (fun x => [.bag, .v (.tuple (Rs.map conD)), .v (conD s), .v (conD g), .v (.int v), .v (.list [.list [conD s, conD g], .list [conD s, conD g], .list [conD s, conD g], .list [conD g], .list [conD s], .list [], .list (Rs.map conD)]), .v x]) (Rs.map conD) [] _ (by rw [List.length_nil, List.length_map]; omega) (fun d hd k' hk => hk) (fun d hd k' k1 k2 => ?_) (fun d hd k' hk => hk) (fun ss hs => ?_)
      · simp only [fTake, mGetN, mInN, mDGetV, mDGet2, dPutN, dRetD, mD0, mD1, mDict, mOf, dSetD, mConsD, mVarDD, mDc, dParVD, dParDL, dParLD, dParDV, dGive, miSV, mOrX, mSortK, fSortG, onD, dOf_od, dOf_dd, Option.bind_some, Option.bind_none, Option.getD_some, Option.getD_none, dParL, mCallL, mCallB, dRev, fSortE, dRet, dRetN, dIf, dSeq, dDrop, dAsg, gNm, gTp, gsNil, gsCons, dAsgL, dApp, dExt, dIns, dPopAt, dSetIx, dPar, dAug, dNext, mVar, mVarN, mC, m1, m2, mTst, mChain, mNot, mAnd, mOr, mAndV, mOrV, mNotV, mIf, mNil, mCons, mBag, Du.dataOf, mTup, mLst, mB, mCall, mIsi, mIsi2, mNotD, mTru, truD, fAdd, fI, fI0, fMul, fB, fEq, fNe, fIn, fGeD, fIs, isBd, fIsN, isNd, fNeg, fIx, mSlL, mSlT, mNoP, mPart, fLen, fAbs, fInt, fMin2, fTuple, fList, fAll, fAny, fRepr, miL, miT, miR1, miR2, miEn, miZip, miZip3, mRow, mLc, wipeE, dFor, mYes, Du.envOf, Option.map_some, Option.map_none, List.map_cons, List.map_nil, List.length_cons, List.length_nil, Nat.sub_self, Nat.add_sub_cancel, Nat.reduceAdd, Nat.reduceSub, List.replicate, List.cons_append, List.nil_append, List.append_nil, List.getElem?_cons_zero, List.getElem?_cons_succ, List.getElem?_nil, List.set_cons_zero, List.set_cons_succ]
        refine ⟨trivial, ⟨by decide, by decide⟩, fun u u0 u1 => ⟨okEq_int _ _, ?_⟩⟩
        rw [eqv_int]
        by_cases e : u = 0
        · rw [decide_eq_true e]
          exact k1
        · rw [decide_eq_false e]
          exact k2
      · obtain ⟨S0, hS0, rfl⟩ := List.sublist_map_iff.mp hs
        exact h S0 (fun x hx => hS0.subset hx) (hR.nd.sublist hS0) (hR.asc.sublist hS0) (Nat.le_trans hS0.length_le lR)
  · exact h.elim
end
end L19

namespace L19
open PySem PySem.Spec PyProof.Rows L2 On K19 Du M16 M17
def fCouple : List DV → (PyData → Prop) → Prop := fun as k => match as with
  | [.bag, .v (.dict gs), .v (.tuple ds)] => ∃ (b : List Pl) (Rs : List Vx), gs = encT (graphM b) ∧ ds = Rs.map conD ∧ (Bok b ∧ b ≠ [] ∧ RestsOk (contents b) Rs ∧ 2 ≤ Rs.length) ∧ ∀ s ∈ Rs, ∀ g ∈ Rs, s ≠ g → k (.tuple [conD s, conD g])
  | _ => False
theorem dOf_enc {M : Tab} (h : M ≠ []) : dOf (.v (.dict (encT M))) = some (encT M) := by
  cases M with
  | nil => exact absurd rfl h
  | cons p M => rfl
theorem graph_ne {b : List Pl} (hb : Bok b) : graphM b ≠ [] := fun e => conts_ne hb (List.map_eq_nil_iff.mp (show (contents b).map (fun n => (n, stepsD b n)) = [] from e))
theorem two_of {Rs : List Vx} (nd : Rs.Nodup) (h2 : 2 ≤ Rs.length) {es : List PyData} (hp : es.Perm (Rs.map conD)) : ∃ s g, s ∈ Rs ∧ g ∈ Rs ∧ s ≠ g ∧ es.take 2 = [conD s, conD g] := by
  obtain ⟨L, hL, rfl⟩ := perm_con hp
  have nL := hL.nodup_iff.mpr nd
  have ll := hL.length_eq
  cases L with
  | nil => simp at ll; omega
  | cons s L => cases L with
    | nil => simp at ll; omega
    | cons g L =>
      refine ⟨s, g, hL.mem_iff.mp (by simp), hL.mem_iff.mp (by simp), fun e => ?_, rfl⟩
      rw [List.nodup_cons] at nL
      exact nL.1 (by rw [e]; simp)
section
variable {P : Program} {w : World} {K : PySem.W.Frag} {mg : Str → Option Value} {base : Heap} {A : Ads}
theorem ok_couple (T : Txt K mg A) (G_law_mixed : FnG P w K mg base 2 A.a_law_mixed A.d_law_mixed ["_law_bag_here", "_law_things"] (spF K 2 fMixed)) : FnG P w K mg base 3 A.a_law_couple A.d_law_couple ["_law_bag_here", "_law_graph_here", "_law_rests_here"] (spF K 3 fCouple) := by
  refine okD T._law_couple.F sc__law_couple (fun c cdv A' outer s H E hg hr => (dss_cons (ds_set (i := 3) sc__law_couple.nd rfl (by first | exact Or.inl rfl | exact Or.inr rfl) (de_l (de_slL (kSlL K) (de_n (de_call (pe_callG G_law_mixed hg (hr.mono (by first | decide | omega)) rfl T._law_mixed.g T._law_mixed.F.kp T._law_mixed.b (da_bag (pv 0) (da_cons (de_var (pv 2)) da_nil))))) do_none (do_some (de_n (de_c pe_int (fun _ => .int _)))))))
      (dss_cons (ds_for PassesOwn.never rfl (di_range1 rfl T.nb_range (da_cons (de_c pe_int (fun _ => .int _)) da_nil)) (dg_name (pg_name (i := 4) sc__law_couple.nd rfl (by first | exact Or.inl rfl | exact Or.inr rfl))) (dss_one (ds_set (i := 3) sc__law_couple.nd rfl (by first | exact Or.inl rfl | exact Or.inr rfl) (de_if (dt_cmp (op_inG (un66 hr)) od_in (de_n (de_ix (kIxS K) (de_n (de_var (pv 3))) (de_n (de_c pe_int (fun _ => .int _))) (fun _ _ => rfl))) (de_n (de_nget rfl (pe_nget (un12 hr) (pv 1) (de_ix (kIxS K) (de_n (de_var (pv 3))) (de_n (de_c pe_int (fun _ => .int _))) (fun _ _ => rfl)) (fun _ _ => rfl)))) rfl) (de_l (de_slL (kSlL K) (de_n (de_call (pe_callG G_law_mixed hg (hr.mono (by first | decide | omega)) rfl T._law_mixed.g T._law_mixed.F.kp T._law_mixed.b (da_bag (pv 0) (da_cons (de_var (pv 2)) da_nil))))) do_none (do_some (de_n (de_c pe_int (fun _ => .int _)))))) (de_var (pv 3))))))
      (dss_one (ds_ret (de_n (de_tup (da_cons (de_ix (kIxS K) (de_n (de_var (pv 3))) (de_n (de_c pe_int (fun _ => .int _))) (fun _ _ => rfl)) (da_cons (de_ix (kIxS K) (de_n (de_var (pv 3))) (de_n (de_c pe_int (fun _ => .int _))) (fun _ _ => rfl)) da_nil))))))))) ?_
  intro as q hl h
  unfold fCouple at h
  split at h
  · rename_i gs ds
    obtain ⟨b, Rs, rfl, rfl, ⟨hb, hbn, hR, h2⟩, h⟩ := h
    have lR := hR.len
    simp only [fMixed, mGetN, mInN, mDGetV, mDGet2, dPutN, dRetD, mD0, mD1, mDict, mOf, dSetD, mConsD, mVarDD, mDc, dParVD, dParDL, dParLD, dParDV, dGive, miSV, mOrX, mSortK, fSortG, onD, dOf_od, dOf_dd, Option.bind_some, Option.bind_none, Option.getD_some, Option.getD_none, dParL, mCallL, mCallB, dRev, fSortE, dRet, dRetN, dIf, dSeq, dDrop, dAsg, gNm, gTp, gsNil, gsCons, dAsgL, dApp, dExt, dIns, dPopAt, dSetIx, dPar, dAug, dNext, mVar, mVarN, mC, m1, m2, mTst, mChain, mNot, mAnd, mOr, mAndV, mOrV, mNotV, mIf, mNil, mCons, mBag, Du.dataOf, mTup, mLst, mB, mCall, mIsi, mIsi2, mNotD, mTru, truD, fAdd, fI, fI0, fMul, fB, fEq, fNe, fIn, fGeD, fIs, isBd, fIsN, isNd, fNeg, fIx, mSlL, mSlT, mNoP, mPart, fLen, fAbs, fInt, fMin2, fTuple, fList, fAll, fAny, fRepr, miL, miT, miR1, miR2, miEn, miZip, miZip3, mRow, mLc, wipeE, dFor, mYes, Du.envOf, Option.map_some, Option.map_none, List.map_cons, List.map_nil, List.length_cons, List.length_nil, Nat.sub_self, Nat.add_sub_cancel, Nat.reduceAdd, Nat.reduceSub, List.replicate, List.cons_append, List.nil_append, List.append_nil, List.getElem?_cons_zero, List.getElem?_cons_succ, List.getElem?_nil, List.set_cons_zero, List.set_cons_succ]
    refine ⟨trivial, by rw [List.length_map]; omega, fun es hp => ?_⟩
    obtain ⟨s, g, hs, hg, hsg, e2⟩ := two_of hR.nd h2 hp
    rw [show (2 : Int) = ((2 : Nat) : Int) from rfl, cut_to', e2]
    refine ⟨by decide, fun i e => ∃ s g x4, s ∈ Rs ∧ g ∈ Rs ∧ s ≠ g ∧ e = [.bag, .v (.dict (encT (graphM b))), .v (.tuple (Rs.map conD)), .v (.list [conD s, conD g]), x4], ⟨s, g, _, hs, hg, hsg, rfl⟩, ?_, ?_⟩
    · rintro i d _ hd ⟨s, g, x4, hs, hg, hsg, rfl⟩
      simp only [fMixed, mGetN, mInN, mDGetV, mDGet2, dPutN, dRetD, mD0, mD1, mDict, mOf, dSetD, mConsD, mVarDD, mDc, dParVD, dParDL, dParLD, dParDV, dGive, miSV, mOrX, mSortK, fSortG, onD, dOf_od, dOf_dd, Option.bind_some, Option.bind_none, Option.getD_some, Option.getD_none, dParL, mCallL, mCallB, dRev, fSortE, dRet, dRetN, dIf, dSeq, dDrop, dAsg, gNm, gTp, gsNil, gsCons, dAsgL, dApp, dExt, dIns, dPopAt, dSetIx, dPar, dAug, dNext, mVar, mVarN, mC, m1, m2, mTst, mChain, mNot, mAnd, mOr, mAndV, mOrV, mNotV, mIf, mNil, mCons, mBag, Du.dataOf, mTup, mLst, mB, mCall, mIsi, mIsi2, mNotD, mTru, truD, fAdd, fI, fI0, fMul, fB, fEq, fNe, fIn, fGeD, fIs, isBd, fIsN, isNd, fNeg, fIx, mSlL, mSlT, mNoP, mPart, fLen, fAbs, fInt, fMin2, fTuple, fList, fAll, fAny, fRepr, miL, miT, miR1, miR2, miEn, miZip, miZip3, mRow, mLc, wipeE, dFor, mYes, Du.envOf, Option.map_some, Option.map_none, List.map_cons, List.map_nil, List.length_cons, List.length_nil, Nat.sub_self, Nat.add_sub_cancel, Nat.reduceAdd, Nat.reduceSub, List.replicate, List.cons_append, List.nil_append, List.append_nil, List.getElem?_cons_zero, List.getElem?_cons_succ, List.getElem?_nil, List.set_cons_zero, List.set_cons_succ]
      rw [dOf_enc (graph_ne hb), show atI [conD s, conD g] (0 : Int) = some (conD s) from atI_nat (j := 0) rfl, show atI [conD s, conD g] (1 : Int) = some (conD g) from atI_nat (j := 1) rfl]
      dsimp only
      rw [isKey_con, look_con, show atM (graphM b) s = some (stepsD b s) from atM_tab (hR.sub s hs)]
      unfold stepsD
      refine ⟨okIn_con _ _, ?_⟩
      rw [any_con]
      cases decide (g ∈ srt (outs b s)) with
      | false => exact ⟨s, g, _, hs, hg, hsg, rfl⟩
      | true =>
        refine ⟨trivial, by rw [List.length_map]; omega, fun es hp => ?_⟩
        obtain ⟨s', g', hs', hg', hsg', e2⟩ := two_of hR.nd h2 hp
        rw [cut_to', e2]
        exact ⟨s', g', _, hs', hg', hsg', rfl⟩
    · rintro _ ⟨s, g, x4, hs, hg, hsg, rfl⟩
      simp only [mGetN, mInN, mDGetV, mDGet2, dPutN, dRetD, mD0, mD1, mDict, mOf, dSetD, mConsD, mVarDD, mDc, dParVD, dParDL, dParLD, dParDV, dGive, miSV, mOrX, mSortK, fSortG, onD, dOf_od, dOf_dd, Option.bind_some, Option.bind_none, Option.getD_some, Option.getD_none, dParL, mCallL, mCallB, dRev, fSortE, dRet, dRetN, dIf, dSeq, dDrop, dAsg, gNm, gTp, gsNil, gsCons, dAsgL, dApp, dExt, dIns, dPopAt, dSetIx, dPar, dAug, dNext, mVar, mVarN, mC, m1, m2, mTst, mChain, mNot, mAnd, mOr, mAndV, mOrV, mNotV, mIf, mNil, mCons, mBag, Du.dataOf, mTup, mLst, mB, mCall, mIsi, mIsi2, mNotD, mTru, truD, fAdd, fI, fI0, fMul, fB, fEq, fNe, fIn, fGeD, fIs, isBd, fIsN, isNd, fNeg, fIx, mSlL, mSlT, mNoP, mPart, fLen, fAbs, fInt, fMin2, fTuple, fList, fAll, fAny, fRepr, miL, miT, miR1, miR2, miEn, miZip, miZip3, mRow, mLc, wipeE, dFor, mYes, Du.envOf, Option.map_some, Option.map_none, List.map_cons, List.map_nil, List.length_cons, List.length_nil, Nat.sub_self, Nat.add_sub_cancel, Nat.reduceAdd, Nat.reduceSub, List.replicate, List.cons_append, List.nil_append, List.append_nil, List.getElem?_cons_zero, List.getElem?_cons_succ, List.getElem?_nil, List.set_cons_zero, List.set_cons_succ]
      rw [show atI [conD s, conD g] (0 : Int) = some (conD s) from atI_nat (j := 0) rfl, show atI [conD s, conD g] (1 : Int) = some (conD g) from atI_nat (j := 1) rfl]
      exact ⟨by decide, h s hs g hg hsg⟩
  · exact h.elim
end
end L19

namespace L19
open PySem PySem.Spec PyProof.Rows L2 On K19 Du M16 M17
/-- whom one came from -/
def parD (p : List Vx) : PyData := match p.dropLast.getLast? with
  | some y => conD y
  | Option.none => .none
def pB (M : PT) : Tab := M.map fun p => (p.1, parD p.2)
theorem inM_pB (M : PT) (z : Vx) : inM (pB M) z = inP M z := by
  unfold inM pB inP
  rw [List.any_map]
  rfl
theorem atM_pB {M : PT} (nd : (M.map Prod.fst).Nodup) {z : Vx} {p : List Vx} (h : (z, p) ∈ M) : atM (pB M) z = some (parD p) := by
  unfold atM pB
  rw [List.find?_map]
  show Option.map Prod.snd (Option.map _ (M.find? fun p => decide (p.1 = z))) = _
  have e := find_key nd h
  cases f : M.find? fun p => decide (p.1 = z) with
  | none =>
    rw [f] at e
    cases e
  | some q =>
    rw [f] at e
    have e : some q.2 = some p := e
    show some (parD q.2) = _
    rw [Option.some.inj e]
theorem putM_pB {M : PT} {z : Vx} {q : List Vx} {y : Vx} (h : inP M z = false) (hq : q.getLast? = some y) : putM (pB M) z (conD y) = pB (M ++ [(z, q ++ [z])]) := by
  rw [putM_new (by rw [inM_pB]; exact h)]
  unfold pB
  rw [List.map_append]
  refine congrArg _ ?_
  show [(z, conD y)] = [(z, parD (q ++ [z]))]
  unfold parD
  rw [List.dropLast_concat, hq]
/-- ways that were come by: all their parts stand there -/
structure PC (V : List Vx) (s : Vx) (M : PT) : Prop where
  nd : (M.map Prod.fst).Nodup
  sub : ∀ p ∈ M, p.1 ∈ V
  lst : ∀ z p, (z, p) ∈ M → p.getLast? = some z ∧ p.head? = some s
  pre : ∀ z p, (z, p) ∈ M → ∀ i, (hi : i < p.length) → (p[i], p.take (i + 1)) ∈ M
theorem PC.one {V : List Vx} {s : Vx} (h : s ∈ V) : PC V s [(s, [s])] where
  nd := by simp
  sub := fun p hp => by
    rw [List.mem_singleton] at hp
    rw [hp]
    exact h
  lst := fun z p hp => by
    rw [List.mem_singleton] at hp
    cases hp
    exact ⟨rfl, rfl⟩
  pre := fun z p hp i hi => by
    rw [List.mem_singleton] at hp
    cases hp
    have : i = 0 := by simpa using hi
    subst this
    simp
theorem PC.add {V : List Vx} {s : Vx} {M : PT} (h : PC V s M) {y z : Vx} {q : List Vx} (hy : (y, q) ∈ M) (hz : z ∈ V) (nz : inP M z = false) : PC V s (M ++ [(z, q ++ [z])]) where
  nd := by
    rw [List.map_append, List.nodup_append]
    refine ⟨h.nd, by simp, fun a ha b hb => ?_⟩
    have hb : b = z := by simpa using hb
    rintro rfl
    obtain ⟨⟨u, p⟩, h1, h2⟩ := List.mem_map.mp ha
    have h2 : u = a := h2
    rw [h2, hb] at h1
    rw [inP_iff.mpr ⟨p, h1⟩] at nz
    cases nz
  sub := fun p hp => by
    rcases List.mem_append.mp hp with hp | hp
    · exact h.sub p hp
    · rw [List.mem_singleton] at hp
      rw [hp]
      exact hz
  lst := fun u p hp => by
    rcases List.mem_append.mp hp with hp | hp
    · exact h.lst u p hp
    · rw [List.mem_singleton] at hp
      cases hp
      refine ⟨by simp, ?_⟩
      rw [List.head?_append, (h.lst y q hy).2]
      rfl
  pre := fun u p hp i hi => by
    rcases List.mem_append.mp hp with hp | hp
    · exact List.mem_append_left _ (h.pre u p hp i hi)
    · rw [List.mem_singleton] at hp
      cases hp
      rw [List.length_append, List.length_singleton] at hi
      by_cases c : i < q.length
      · rw [List.getElem_append_left c, List.take_append_of_le_length (by omega)]
        exact List.mem_append_left _ (h.pre y q hy i c)
      · have w : i = q.length := by omega
        subst w
        rw [List.getElem_concat_length rfl, List.take_of_length_le (by simp)]
        exact List.mem_append_right _ (by simp)
theorem PC.len {V : List Vx} {s : Vx} {M : PT} (h : PC V s M) : M.length ≤ V.length := by
  have z := len_sub (M.map Prod.fst) V h.nd fun x hx => by
    obtain ⟨p, h1, rfl⟩ := List.mem_map.mp hx
    exact h.sub p h1
  rwa [List.length_map] at z
theorem seq_go {a b : MS} {env : List DV} {D : DE} (C : List DV → Prop) (ha : ∀ C' : List DV → Prop, (∀ e, C e → C' e) → a env { D with nx := C' }) (hb : ∀ e, C e → b e D) : dSeq a b env D := ha _ hb
structure LI (V : List Vx) (s : Vx) (M : PT) (S : PT × List Vx) : Prop where
  pc : PC V s S.1
  nn : ∃ N : PT, S.1 = M ++ N ∧ S.2 = N.map Prod.fst
theorem or_match {A B : Bool} {Ok G N : Prop} (ok : Ok) (hG : (A || !B) = true → G) (hN : (A || !B) = false → N) : (match (generalizing := false) A with
    | true => G
    | false => Ok ∧ match (generalizing := false) (true != B) with
      | true => G
      | false => N) := by
  cases A with
  | true => exact hG rfl
  | false =>
    cases B with
    | true => exact ⟨ok, hN rfl⟩
    | false => exact ⟨ok, hG rfl⟩
def fWayBy : List DV → (PyData → Prop) → Prop := fun as k => match as with
  | [.bag, .v (.dict gs), .v (.tuple d1), .v (.tuple d2), .v (.list [])] => ∃ (b : List Pl) (s g : Vx), gs = encT (graphM b) ∧ d1 = s.map .int ∧ d2 = g.map .int ∧ (Bok b ∧ b ≠ [] ∧ s ∈ contents b ∧ g ∈ contents b) ∧ k .none ∧ ∀ P : List Vx, k (.tuple (P.map conD))
  | _ => False
section
variable {P : Program} {w : World} {K : PySem.W.Frag} {mg : Str → Option Value} {base : Heap} {A : Ads}
theorem ok_wayby (T : Txt K mg A) (G_law_mixed : FnG P w K mg base 2 A.a_law_mixed A.d_law_mixed ["_law_bag_here", "_law_things"] (spF K 2 fMixed)) : FnG P w K mg base 3 A.a_law_way_by A.d_law_way_by ["_law_bag_here", "_law_graph_here", "_law_start", "_law_goal", "_law_barred"] (spF K 5 fWayBy) := by
  refine okD T._law_way_by.F sc__law_way_by (fun c cdv A' outer s H E hg hr => (dss_cons (ds_parVD (i := 5) (j := 6) (ps_par (i := 5) (j := 6) rfl sc__law_way_by.nd rfl rfl (by decide) rfl rfl (pa_cons (de_l (de_lst (da_cons (de_var (pv 2)) da_nil))) (pa_cons (de_d1 rfl (pe_none1 (un12 hr) (de_var (pv 2)) (de_c pe_non (fun _ => .non)))) pa_nil)) rfl))
      (dss_cons (ds_while PassesOwn.never (PW.pt (dw_and (dt_cmp (op_neQ (un66 hr)) od_ne (de_n (de_var (pv 5))) (de_ln (de_lst da_nil)) (nomark _)) (dw_and1 (dt_notIn (un12 hr) rfl (de_var (pv 3)) (pv 6) rfl)))) (dss_cons (ds_setL (i := 7) sc__law_way_by.nd rfl (by first | exact Or.inl rfl | exact Or.inr rfl) (de_lst da_nil))
      (dss_cons (ds_for PassesOwn.never rfl (di_list rfl (de_var (pv 5))) (dg_name (pg_name (i := 8) sc__law_way_by.nd rfl (by first | exact Or.inl rfl | exact Or.inr rfl))) (dss_one (ds_for PassesOwn.never rfl (di_list rfl (de_call (pe_callG G_law_mixed hg (hr.mono (by first | decide | omega)) rfl T._law_mixed.g T._law_mixed.F.kp T._law_mixed.b (da_bag (pv 0) (da_cons (de_nget rfl (pe_nget (un12 hr) (pv 1) (de_var (pv 8)) (fun _ _ => rfl))) da_nil))))) (dg_name (pg_name (i := 9) sc__law_way_by.nd rfl (by first | exact Or.inl rfl | exact Or.inr rfl))) (dss_one (ds_if (PW.pt (dw_and (dt_notIn (un12 hr) rfl (de_var (pv 9)) (pv 6) rfl) (dw_and1 (PW.pt (dw_or (dt_cmp (op_eqQ (un66 hr)) od_eq (de_n (de_var (pv 9))) (de_n (de_var (pv 3))) (nomark _)) (dw_or1 (dt_cmp (op_notInG (un66 hr)) od_in (de_n (de_var (pv 9))) (de_n (de_var (pv 4))) rfl))))))) (dss_cons (ds_nput rfl (ps_nput (un12 hr) (pv 6) (de_var (pv 9)) (de_var (pv 8)) rfl))
      (dss_one (ds_app (ps_expr (pe_bm PySem.F.plainAttrs_list PySem.F.slot_list_append PySem.F.type_list_append mt_append (pv 7) (pa_cons (de_var (pv 9)) pa_nil)))))) dss_nil)))))
      (dss_one (ds_give (i := 5) (j := 7) (by decide) (ps_set sc__law_way_by.nd rfl (by first | exact Or.inl rfl | exact Or.inr rfl) (pv 7)))))))
      (dss_cons (ds_if (PW.pt (dw_or (dt_notIn (un12 hr) rfl (de_var (pv 3)) (pv 6) rfl) (dw_or1 (dt_cmp (op_eqQ (un66 hr)) od_eq (de_n (de_var (pv 2))) (de_n (de_var (pv 3))) (nomark _))))) (dss_one (ds_ret (de_n (de_c pe_non (fun _ => .non))))) dss_nil)
      (dss_cons (ds_setL (i := 10) sc__law_way_by.nd rfl (by first | exact Or.inl rfl | exact Or.inr rfl) (de_lst (da_cons (de_var (pv 3)) da_nil)))
      (dss_cons (ds_while PassesOwn.never (dt_cmp (op_neQ (un66 hr)) od_ne (de_n (de_ix (kIxS K) (dn_var (pv 10)) (de_n (de_c pe_int (fun _ => .int _))) (fun _ _ => rfl))) (de_n (de_var (pv 2))) (nomark _)) (dss_one (ds_ins (ps_expr (pe_bm PySem.F.plainAttrs_list PySem.F.slot_list_insert PySem.F.type_list_insert mt_insert (pv 10) (pa_cons (de_c pe_int (fun _ => .int _)) (pa_cons (de_nget rfl (pe_nget (un12 hr) (pv 6) (de_ix (kIxS K) (dn_var (pv 10)) (de_n (de_c pe_int (fun _ => .int _))) (fun _ _ => rfl)) (fun _ _ => rfl))) pa_nil)))))))
      (dss_one (ds_ret (de_n (de_b cd_tuple (pe_callTy (kTuple K) (by rfl) T.nb_tuple (by decide +kernel) (dan_cons (dn_var (pv 10)) dan_nil)))))))))))) ?_
  intro as q hl h
  unfold fWayBy at h
  split at h
  · rename_i gs d1 d2
    obtain ⟨b, s, g, rfl, rfl, rfl, ⟨hb, hbn, h1, h2⟩, hN, hP⟩ := h
    have lC := conts_len' hb
    refine seq_go (fun e => e = [.bag, .v (.dict (encT (graphM b))), .v (conD s), .v (conD g), .v (.list []), .v (.list ([s].map conD)), .od (encT (pB [(s, [s])])), .un, .un, .un, .un]) (fun C' hC => ?_) ?_
    · simp only [mGetN, mInN, mDGetV, mDGet2, dPutN, dRetD, mD0, mD1, mDict, mOf, dSetD, mConsD, mVarDD, mDc, dParVD, dParDL, dParLD, dParDV, dGive, miSV, mOrX, mSortK, fSortG, onD, dOf_od, dOf_dd, Option.bind_some, Option.bind_none, Option.getD_some, Option.getD_none, dParL, mCallL, mCallB, dRev, fSortE, dRet, dRetN, dIf, dSeq, dDrop, dAsg, gNm, gTp, gsNil, gsCons, dAsgL, dApp, dExt, dIns, dPopAt, dSetIx, dPar, dAug, dNext, mVar, mVarN, mC, m1, m2, mTst, mChain, mNot, mAnd, mOr, mAndV, mOrV, mNotV, mIf, mNil, mCons, mBag, Du.dataOf, mTup, mLst, mB, mCall, mIsi, mIsi2, mNotD, mTru, truD, fAdd, fI, fI0, fMul, fB, fEq, fNe, fIn, fGeD, fIs, isBd, fIsN, isNd, fNeg, fIx, mSlL, mSlT, mNoP, mPart, fLen, fAbs, fInt, fMin2, fTuple, fList, fAll, fAny, fRepr, miL, miT, miR1, miR2, miEn, miZip, miZip3, mRow, mLc, wipeE, dFor, mYes, Du.envOf, Option.map_some, Option.map_none, List.map_cons, List.map_nil, List.length_cons, List.length_nil, Nat.sub_self, Nat.add_sub_cancel, Nat.reduceAdd, Nat.reduceSub, List.replicate, List.cons_append, List.nil_append, List.append_nil, List.getElem?_cons_zero, List.getElem?_cons_succ, List.getElem?_nil, List.set_cons_zero, List.set_cons_succ]
      simp only [mapc, isKey_con]
      exact ⟨by decide, hC _ rfl⟩
    rintro _ rfl
    refine seq_go (fun e => ∃ (M : PT) (F : List Vx) (x7 x8 x9 x10 : DV), PC (contents b) s M ∧ e = [.bag, .v (.dict (encT (graphM b))), .v (conD s), .v (conD g), .v (.list []), .v (.list (F.map conD)), .od (encT (pB M)), x7, x8, x9, x10]) (fun C' hC => ?_) ?_
    · unfold dWhile
      refine ⟨fun m env => ∃ (M : PT) (F : List Vx) (x7 x8 x9 x10 : DV), PC (contents b) s M ∧ (∀ x ∈ F, inP M x = true) ∧ env = [.bag, .v (.dict (encT (graphM b))), .v (conD s), .v (conD g), .v (.list []), .v (.list (F.map conD)), .od (encT (pB M)), x7, x8, x9, x10] ∧ m = 2 * ((contents b).length - M.length) + (if F = [] then 0 else 1),
        ⟨_, [(s, [s])], [s], .un, .un, .un, .un, PC.one h1, fun x hx => ?_, rfl, rfl⟩, ?_⟩
      · rw [List.mem_singleton] at hx
        rw [hx]
        exact inP_iff.mpr ⟨[s], by simp⟩
      rintro _ _ ⟨M, F, x7, x8, x9, x10, pc, hF, rfl, rfl⟩
      have lM := pc.len
      simp only [mGetN, mInN, mDGetV, mDGet2, dPutN, dRetD, mD0, mD1, mDict, mOf, dSetD, mConsD, mVarDD, mDc, dParVD, dParDL, dParLD, dParDV, dGive, miSV, mOrX, mSortK, fSortG, onD, dOf_od, dOf_dd, Option.bind_some, Option.bind_none, Option.getD_some, Option.getD_none, dParL, mCallL, mCallB, dRev, fSortE, dRet, dRetN, dIf, dSeq, dDrop, dAsg, gNm, gTp, gsNil, gsCons, dAsgL, dApp, dExt, dIns, dPopAt, dSetIx, dPar, dAug, dNext, mVar, mVarN, mC, m1, m2, mTst, mChain, mNot, mAnd, mOr, mAndV, mOrV, mNotV, mIf, mNil, mCons, mBag, Du.dataOf, mTup, mLst, mB, mCall, mIsi, mIsi2, mNotD, mTru, truD, fAdd, fI, fI0, fMul, fB, fEq, fNe, fIn, fGeD, fIs, isBd, fIsN, isNd, fNeg, fIx, mSlL, mSlT, mNoP, mPart, fLen, fAbs, fInt, fMin2, fTuple, fList, fAll, fAny, fRepr, miL, miT, miR1, miR2, miEn, miZip, miZip3, mRow, mLc, wipeE, dFor, mYes, Du.envOf, Option.map_some, Option.map_none, List.map_cons, List.map_nil, List.length_cons, List.length_nil, Nat.sub_self, Nat.add_sub_cancel, Nat.reduceAdd, Nat.reduceSub, List.replicate, List.cons_append, List.nil_append, List.append_nil, List.getElem?_cons_zero, List.getElem?_cons_succ, List.getElem?_nil, List.set_cons_zero, List.set_cons_succ]
      rw [eqv_nil]
      refine ⟨by decide, okNe_nil F, ?_⟩
      have fin := hC [.bag, .v (.dict (encT (graphM b))), .v (conD s), .v (conD g), .v (.list []), .v (.list (F.map conD)), .od (encT (pB M)), x7, x8, x9, x10] ⟨M, F, x7, x8, x9, x10, pc, rfl⟩
      cases eF : F.isEmpty with
      | true => exact fin
      | false =>
        have nF : F ≠ [] := fun e => by rw [e] at eF; cases eF
        show isKey (conD g) _
        rw [isKey_con, has_con, inM_pB]
        cases c : inP M g with
        | true => exact fin
        | false =>
          refine ⟨by decide, fun i e => ∃ (S : PT × List Vx) (x8 x9 x10 : DV), LI (contents b) s M S ∧ e = [.bag, .v (.dict (encT (graphM b))), .v (conD s), .v (conD g), .v (.list []), .v (.list (F.map conD)), .od (encT (pB S.1)), .own (S.2.map conD), x8, x9, x10], ⟨(M, []), _, _, _, ⟨pc, [], by rw [List.append_nil], rfl⟩, rfl⟩, ?_, ?_⟩
          · rintro i d _ hd ⟨S, x8, x9, x10, li, rfl⟩
            rw [List.getElem?_map] at hd
            obtain ⟨n, hn, rfl⟩ := Option.map_eq_some_iff.mp hd
            obtain ⟨pn, hpn⟩ := inP_iff.mp (hF n (List.mem_of_getElem? hn))
            have nV : n ∈ contents b := pc.sub _ hpn
            simp only [fMixed, mGetN, mInN, mDGetV, mDGet2, dPutN, dRetD, mD0, mD1, mDict, mOf, dSetD, mConsD, mVarDD, mDc, dParVD, dParDL, dParLD, dParDV, dGive, miSV, mOrX, mSortK, fSortG, onD, dOf_od, dOf_dd, Option.bind_some, Option.bind_none, Option.getD_some, Option.getD_none, dParL, mCallL, mCallB, dRev, fSortE, dRet, dRetN, dIf, dSeq, dDrop, dAsg, gNm, gTp, gsNil, gsCons, dAsgL, dApp, dExt, dIns, dPopAt, dSetIx, dPar, dAug, dNext, mVar, mVarN, mC, m1, m2, mTst, mChain, mNot, mAnd, mOr, mAndV, mOrV, mNotV, mIf, mNil, mCons, mBag, Du.dataOf, mTup, mLst, mB, mCall, mIsi, mIsi2, mNotD, mTru, truD, fAdd, fI, fI0, fMul, fB, fEq, fNe, fIn, fGeD, fIs, isBd, fIsN, isNd, fNeg, fIx, mSlL, mSlT, mNoP, mPart, fLen, fAbs, fInt, fMin2, fTuple, fList, fAll, fAny, fRepr, miL, miT, miR1, miR2, miEn, miZip, miZip3, mRow, mLc, wipeE, dFor, mYes, Du.envOf, Option.map_some, Option.map_none, List.map_cons, List.map_nil, List.length_cons, List.length_nil, Nat.sub_self, Nat.add_sub_cancel, Nat.reduceAdd, Nat.reduceSub, List.replicate, List.cons_append, List.nil_append, List.append_nil, List.getElem?_cons_zero, List.getElem?_cons_succ, List.getElem?_nil, List.set_cons_zero, List.set_cons_succ]
            rw [dOf_enc (graph_ne hb)]
            dsimp only
            rw [isKey_con, look_con, show atM (graphM b) n = some (stepsD b n) from atM_tab nV]
            unfold stepsD
            have lo : (srt (outs b n)).length ≤ 20000 := by
              rw [srt_len]
              have := steps_len (f := Prod.fst) (g := Prod.snd) (con_of hb nV) hb.len hb.fr
              show (stepsBy Prod.fst Prod.snd b n).length ≤ 20000
              omega
            refine ⟨trivial, by rw [List.length_map]; exact lo, fun es hp => ?_⟩
            obtain ⟨L, hL, rfl⟩ := perm_con hp
            have LV : ∀ z ∈ L, z ∈ contents b := fun z hz => out_in hb nV (mem_srt.mp (hL.mem_iff.mp hz))
            refine ⟨fun j e => ∃ (S : PT × List Vx) (x9 x10 : DV), LI (contents b) s M S ∧ e = [.bag, .v (.dict (encT (graphM b))), .v (conD s), .v (conD g), .v (.list []), .v (.list (F.map conD)), .od (encT (pB S.1)), .own (S.2.map conD), .v (conD n), x9, x10], ⟨S, x9, x10, li, rfl⟩, ?_, ?_⟩
            · rintro j d _ hd ⟨S, x9, x10, li, rfl⟩
              rw [List.getElem?_map] at hd
              obtain ⟨z, hz, rfl⟩ := Option.map_eq_some_iff.mp hd
              have zV := LV z (List.mem_of_getElem? hz)
              obtain ⟨N, e1, e2⟩ := li.nn
              have lS := li.pc.len
              have l2 : S.2.length ≤ S.1.length := by rw [e1, e2, List.length_map, List.length_append]; omega
              simp only [mGetN, mInN, mDGetV, mDGet2, dPutN, dRetD, mD0, mD1, mDict, mOf, dSetD, mConsD, mVarDD, mDc, dParVD, dParDL, dParLD, dParDV, dGive, miSV, mOrX, mSortK, fSortG, onD, dOf_od, dOf_dd, Option.bind_some, Option.bind_none, Option.getD_some, Option.getD_none, dParL, mCallL, mCallB, dRev, fSortE, dRet, dRetN, dIf, dSeq, dDrop, dAsg, gNm, gTp, gsNil, gsCons, dAsgL, dApp, dExt, dIns, dPopAt, dSetIx, dPar, dAug, dNext, mVar, mVarN, mC, m1, m2, mTst, mChain, mNot, mAnd, mOr, mAndV, mOrV, mNotV, mIf, mNil, mCons, mBag, Du.dataOf, mTup, mLst, mB, mCall, mIsi, mIsi2, mNotD, mTru, truD, fAdd, fI, fI0, fMul, fB, fEq, fNe, fIn, fGeD, fIs, isBd, fIsN, isNd, fNeg, fIx, mSlL, mSlT, mNoP, mPart, fLen, fAbs, fInt, fMin2, fTuple, fList, fAll, fAny, fRepr, miL, miT, miR1, miR2, miEn, miZip, miZip3, mRow, mLc, wipeE, dFor, mYes, Du.envOf, Option.map_some, Option.map_none, List.map_cons, List.map_nil, List.length_cons, List.length_nil, Nat.sub_self, Nat.add_sub_cancel, Nat.reduceAdd, Nat.reduceSub, List.replicate, List.cons_append, List.nil_append, List.append_nil, List.getElem?_cons_zero, List.getElem?_cons_succ, List.getElem?_nil, List.set_cons_zero, List.set_cons_succ]
              rw [isKey_con, has_con, inM_pB]
              cases cz : inP S.1 z with
              | true => exact ⟨S, _, _, li, rfl⟩
              | false =>
                rw [eqv_con, show (([] : List PyData).any fun y => y.eqv (conD z)) = false from rfl]
                refine ⟨okEq_con _ _, or_match (B := false) (N := True) (show okIn (conD z) [] = true from okIn_con [] z) (fun _ => ?_) (fun e => by simp at e)⟩
                rw [isKey_con]
                have hS : (n, pn) ∈ S.1 := by rw [e1]; exact List.mem_append_left _ hpn
                refine ⟨by rw [encT_len]; unfold pB; rw [List.length_map]; omega, by rw [List.length_map]; omega, (S.1 ++ [(z, pn ++ [z])], S.2 ++ [z]), .v (conD z), x10, ⟨li.pc.add hS zV cz, N ++ [(z, pn ++ [z])], ?_, ?_⟩, ?_⟩
                · show S.1 ++ _ = _
                  rw [e1, List.append_assoc]
                · show S.2 ++ _ = _
                  rw [e2, List.map_append]
                  rfl
                · rw [put_con, putM_pB cz (li.pc.lst n pn hS).1, List.map_append]
                  rfl
            · rintro _ ⟨S, x9, x10, li, rfl⟩
              exact ⟨S, _, _, _, li, rfl⟩
          · rintro _ ⟨S, x8, x9, x10, li, rfl⟩
            obtain ⟨N, e1, e2⟩ := li.nn
            have lS := li.pc.len
            refine ⟨_, ?_, S.1, S.2, .un, x8, x9, x10, li.pc, fun x hx => ?_, rfl, rfl⟩
            · rw [if_neg nF]
              rw [e1, List.length_append] at lS
              rw [e1, e2, List.length_append]
              cases N with
              | nil => simp
              | cons a N => rw [if_neg (by simp), List.length_cons] at *; omega
            · rw [e2] at hx
              obtain ⟨p, hp, rfl⟩ := List.mem_map.mp hx
              exact inP_iff.mpr ⟨p.2, by rw [e1]; exact List.mem_append_right _ hp⟩
    rintro _ ⟨M, F, x7, x8, x9, x10, pc, rfl⟩
    refine seq_go (fun e => inP M g = true ∧ e = [.bag, .v (.dict (encT (graphM b))), .v (conD s), .v (conD g), .v (.list []), .v (.list (F.map conD)), .od (encT (pB M)), x7, x8, x9, x10]) (fun C' hC => ?_) ?_
    · simp only [mGetN, mInN, mDGetV, mDGet2, dPutN, dRetD, mD0, mD1, mDict, mOf, dSetD, mConsD, mVarDD, mDc, dParVD, dParDL, dParLD, dParDV, dGive, miSV, mOrX, mSortK, fSortG, onD, dOf_od, dOf_dd, Option.bind_some, Option.bind_none, Option.getD_some, Option.getD_none, dParL, mCallL, mCallB, dRev, fSortE, dRet, dRetN, dIf, dSeq, dDrop, dAsg, gNm, gTp, gsNil, gsCons, dAsgL, dApp, dExt, dIns, dPopAt, dSetIx, dPar, dAug, dNext, mVar, mVarN, mC, m1, m2, mTst, mChain, mNot, mAnd, mOr, mAndV, mOrV, mNotV, mIf, mNil, mCons, mBag, Du.dataOf, mTup, mLst, mB, mCall, mIsi, mIsi2, mNotD, mTru, truD, fAdd, fI, fI0, fMul, fB, fEq, fNe, fIn, fGeD, fIs, isBd, fIsN, isNd, fNeg, fIx, mSlL, mSlT, mNoP, mPart, fLen, fAbs, fInt, fMin2, fTuple, fList, fAll, fAny, fRepr, miL, miT, miR1, miR2, miEn, miZip, miZip3, mRow, mLc, wipeE, dFor, mYes, Du.envOf, Option.map_some, Option.map_none, List.map_cons, List.map_nil, List.length_cons, List.length_nil, Nat.sub_self, Nat.add_sub_cancel, Nat.reduceAdd, Nat.reduceSub, List.replicate, List.cons_append, List.nil_append, List.append_nil, List.getElem?_cons_zero, List.getElem?_cons_succ, List.getElem?_nil, List.set_cons_zero, List.set_cons_succ]
      rw [isKey_con, has_con, inM_pB]
      cases c : inP M g with
      | false => exact hN
      | true =>
        refine ⟨okEq_con _ _, ?_⟩
        rw [eqv_con]
        cases decide (s = g) with
        | true => exact hN
        | false => exact hC _ ⟨c, rfl⟩
    rintro _ ⟨c, rfl⟩
    obtain ⟨p, hp⟩ := inP_iff.mp c
    obtain ⟨l1, l2⟩ := pc.lst g p hp
    have lM := pc.len
    have pos : 0 < p.length := by
      cases p with
      | nil => cases l2
      | cons _ _ => simp
    have lst : p[p.length - 1] = g := by
      rw [List.getLast?_eq_getElem?, List.getElem?_eq_getElem (by omega)] at l1
      exact Option.some.inj l1
    have fst : p[0] = s := by
      rw [List.head?_eq_getElem?, List.getElem?_eq_getElem pos] at l2
      exact Option.some.inj l2
    refine seq_go (fun e => e = [.bag, .v (.dict (encT (graphM b))), .v (conD s), .v (conD g), .v (.list []), .v (.list (F.map conD)), .od (encT (pB M)), x7, x8, x9, .own ((p.drop (p.length - 1)).map conD)]) (fun C' hC => ?_) ?_
    · simp only [mGetN, mInN, mDGetV, mDGet2, dPutN, dRetD, mD0, mD1, mDict, mOf, dSetD, mConsD, mVarDD, mDc, dParVD, dParDL, dParLD, dParDV, dGive, miSV, mOrX, mSortK, fSortG, onD, dOf_od, dOf_dd, Option.bind_some, Option.bind_none, Option.getD_some, Option.getD_none, dParL, mCallL, mCallB, dRev, fSortE, dRet, dRetN, dIf, dSeq, dDrop, dAsg, gNm, gTp, gsNil, gsCons, dAsgL, dApp, dExt, dIns, dPopAt, dSetIx, dPar, dAug, dNext, mVar, mVarN, mC, m1, m2, mTst, mChain, mNot, mAnd, mOr, mAndV, mOrV, mNotV, mIf, mNil, mCons, mBag, Du.dataOf, mTup, mLst, mB, mCall, mIsi, mIsi2, mNotD, mTru, truD, fAdd, fI, fI0, fMul, fB, fEq, fNe, fIn, fGeD, fIs, isBd, fIsN, isNd, fNeg, fIx, mSlL, mSlT, mNoP, mPart, fLen, fAbs, fInt, fMin2, fTuple, fList, fAll, fAny, fRepr, miL, miT, miR1, miR2, miEn, miZip, miZip3, mRow, mLc, wipeE, dFor, mYes, Du.envOf, Option.map_some, Option.map_none, List.map_cons, List.map_nil, List.length_cons, List.length_nil, Nat.sub_self, Nat.add_sub_cancel, Nat.reduceAdd, Nat.reduceSub, List.replicate, List.cons_append, List.nil_append, List.append_nil, List.getElem?_cons_zero, List.getElem?_cons_succ, List.getElem?_nil, List.set_cons_zero, List.set_cons_succ]
      refine ⟨by decide, hC _ ?_⟩
      rw [List.drop_eq_getElem_cons (by omega), lst, List.drop_of_length_le (by omega)]
      rfl
    rintro _ rfl
    refine seq_go (fun e => ∃ i, e = [.bag, .v (.dict (encT (graphM b))), .v (conD s), .v (conD g), .v (.list []), .v (.list (F.map conD)), .od (encT (pB M)), x7, x8, x9, .own ((p.drop i).map conD)]) (fun C' hC => ?_) ?_
    · unfold dWhile
      refine ⟨fun m env => ∃ i, i < p.length ∧ env = [.bag, .v (.dict (encT (graphM b))), .v (conD s), .v (conD g), .v (.list []), .v (.list (F.map conD)), .od (encT (pB M)), x7, x8, x9, .own ((p.drop i).map conD)] ∧ m = i, ⟨_, p.length - 1, by omega, rfl, rfl⟩, ?_⟩
      rintro m _ ⟨i, hi, rfl, hm⟩
      have h0 : atI ((p.drop i).map conD) (0 : Int) = some (conD p[i]) := by
        rw [List.drop_eq_getElem_cons hi]
        exact atI_nat (j := 0) rfl
      simp only [mGetN, mInN, mDGetV, mDGet2, dPutN, dRetD, mD0, mD1, mDict, mOf, dSetD, mConsD, mVarDD, mDc, dParVD, dParDL, dParLD, dParDV, dGive, miSV, mOrX, mSortK, fSortG, onD, dOf_od, dOf_dd, Option.bind_some, Option.bind_none, Option.getD_some, Option.getD_none, dParL, mCallL, mCallB, dRev, fSortE, dRet, dRetN, dIf, dSeq, dDrop, dAsg, gNm, gTp, gsNil, gsCons, dAsgL, dApp, dExt, dIns, dPopAt, dSetIx, dPar, dAug, dNext, mVar, mVarN, mC, m1, m2, mTst, mChain, mNot, mAnd, mOr, mAndV, mOrV, mNotV, mIf, mNil, mCons, mBag, Du.dataOf, mTup, mLst, mB, mCall, mIsi, mIsi2, mNotD, mTru, truD, fAdd, fI, fI0, fMul, fB, fEq, fNe, fIn, fGeD, fIs, isBd, fIsN, isNd, fNeg, fIx, mSlL, mSlT, mNoP, mPart, fLen, fAbs, fInt, fMin2, fTuple, fList, fAll, fAny, fRepr, miL, miT, miR1, miR2, miEn, miZip, miZip3, mRow, mLc, wipeE, dFor, mYes, Du.envOf, Option.map_some, Option.map_none, List.map_cons, List.map_nil, List.length_cons, List.length_nil, Nat.sub_self, Nat.add_sub_cancel, Nat.reduceAdd, Nat.reduceSub, List.replicate, List.cons_append, List.nil_append, List.append_nil, List.getElem?_cons_zero, List.getElem?_cons_succ, List.getElem?_nil, List.set_cons_zero, List.set_cons_succ]
      rw [h0]
      refine ⟨okNe_con _ _, ?_⟩
      rw [eqv_con]
      by_cases e : p[i] = s
      · rw [decide_eq_true e]
        exact hC _ ⟨i, rfl⟩
      · rw [decide_eq_false e]
        have ip : 0 < i := by
          rcases Nat.eq_zero_or_pos i with z | z
          · subst z
            exact absurd fst e
          · exact z
        obtain ⟨j, rfl⟩ : ∃ j, i = j + 1 := ⟨i - 1, by omega⟩
        have ndp : p.Nodup := by
          rw [List.nodup_iff_pairwise_ne, List.pairwise_iff_getElem]
          intro a c ha hc hac e
          have z1 := pc.pre g p hp a ha
          have z2 := pc.pre g p hp c hc
          rw [e] at z1
          have z := congrArg List.length (key_uniq pc.nd z1 z2)
          rw [List.length_take, List.length_take] at z
          omega
        have lp : p.length ≤ M.length := by
          have z := len_sub p (M.map Prod.fst) ndp fun x hx => by
            obtain ⟨a, ha, rfl⟩ := List.mem_iff_getElem.mp hx
            exact List.mem_map.mpr ⟨_, pc.pre g p hp a ha, rfl⟩
          rwa [List.length_map] at z
        have t1 : p.take (j + 1) = p.take j ++ [p[j]] := by rw [List.take_add_one, List.getElem?_eq_getElem (by omega)]; rfl
        have t2 : p.take (j + 1 + 1) = p.take (j + 1) ++ [p[j + 1]] := by rw [List.take_add_one, List.getElem?_eq_getElem hi]; rfl
        have ep : parD (p.take (j + 1 + 1)) = conD p[j] := by
          unfold parD
          rw [t2, List.dropLast_concat, t1, List.getLast?_concat]
        show _ < 100000 ∧ (0 ≤ 0 ∧ 0 < 1000000) ∧ isKey (conD p[j + 1]) _
        rw [isKey_con, look_con, atM_pB pc.nd (pc.pre g p hp (j + 1) hi), ep]
        refine ⟨by rw [List.length_map, List.length_drop]; omega, ⟨by decide, by decide⟩, j, by omega, j, by omega, ?_, rfl⟩
        rw [List.drop_eq_getElem_cons (i := j) (by omega)]
        rfl
    rintro _ ⟨i, rfl⟩
    simp only [mGetN, mInN, mDGetV, mDGet2, dPutN, dRetD, mD0, mD1, mDict, mOf, dSetD, mConsD, mVarDD, mDc, dParVD, dParDL, dParLD, dParDV, dGive, miSV, mOrX, mSortK, fSortG, onD, dOf_od, dOf_dd, Option.bind_some, Option.bind_none, Option.getD_some, Option.getD_none, dParL, mCallL, mCallB, dRev, fSortE, dRet, dRetN, dIf, dSeq, dDrop, dAsg, gNm, gTp, gsNil, gsCons, dAsgL, dApp, dExt, dIns, dPopAt, dSetIx, dPar, dAug, dNext, mVar, mVarN, mC, m1, m2, mTst, mChain, mNot, mAnd, mOr, mAndV, mOrV, mNotV, mIf, mNil, mCons, mBag, Du.dataOf, mTup, mLst, mB, mCall, mIsi, mIsi2, mNotD, mTru, truD, fAdd, fI, fI0, fMul, fB, fEq, fNe, fIn, fGeD, fIs, isBd, fIsN, isNd, fNeg, fIx, mSlL, mSlT, mNoP, mPart, fLen, fAbs, fInt, fMin2, fTuple, fList, fAll, fAny, fRepr, miL, miT, miR1, miR2, miEn, miZip, miZip3, mRow, mLc, wipeE, dFor, mYes, Du.envOf, Option.map_some, Option.map_none, List.map_cons, List.map_nil, List.length_cons, List.length_nil, Nat.sub_self, Nat.add_sub_cancel, Nat.reduceAdd, Nat.reduceSub, List.replicate, List.cons_append, List.nil_append, List.append_nil, List.getElem?_cons_zero, List.getElem?_cons_succ, List.getElem?_nil, List.set_cons_zero, List.set_cons_succ]
    exact hP _
  · exact h.elim
end
end L19

namespace L19
open PySem PySem.Spec PyProof.Rows L2 On K19 Du Fo M16 M17
/-- whether things ascend, things of which each two neighbours can be told apart -/
def fAsc : List DV → (PyData → Prop) → Prop := fun as k => match as with
  | [.v (.tuple ms)] => (okUp ms ∧ ms.length ≤ 90000) ∧ k (.bool (ups ms))
  | [.v (.list ms)] => (okUp ms ∧ ms.length ≤ 90000) ∧ k (.bool (ups ms))
  | _ => False
def goD (ms : List PyData) (d : PyData) : Bool := match d with
  | .int k => geX (ms.getD k.toNat .none) (ms.getD (k.toNat + 1) .none) == some true
  | _ => false
theorem ups_of (ms : List PyData) : ((intsD 0 (ms.length - 1)).filter (goD ms)).isEmpty = ups ms := by
  apply Bool.eq_iff_iff.mpr
  unfold ups
  rw [List.isEmpty_iff, List.filter_eq_nil_iff, List.all_eq_true]
  constructor
  · intro hh k hk
    have hk := List.mem_range.mp hk
    have z := hh (.int (0 + (k : Int))) (by unfold intsD; exact List.mem_map.mpr ⟨k, List.mem_range.mpr hk, rfl⟩)
    rw [Int.zero_add] at z
    have z' : ¬ (geX (ms.getD k .none) (ms.getD (k + 1) .none) == some true) = true := z
    simpa using z'
  · intro hh d hd
    obtain ⟨i, hi, rfl⟩ := mem_ints hd
    rw [Int.zero_add]
    have z := hh i (List.mem_range.mpr hi)
    show ¬ (geX (ms.getD i .none) (ms.getD (i + 1) .none) == some true) = true
    simpa using z
section
variable {P : Program} {w : World} {K : PySem.W.Frag} {mg : Str → Option Value} {base : Heap} {A : Ads}
theorem ok_is_integer (T : Txt K mg A) : FnG P w K mg base 1 A.ais_integer A.dis_integer ["thing"] (spF K 1 (f1 isInt)) := by
  refine okD T.is_integer.F sc_is_integer (fun c cdv A' outer s H E hg hr => (dss_one (ds_ret (de_n (de_and (de_isi (pe_callB (kIsi K) (by rfl) T.nb_isinstance (by decide +kernel) (pa_cons (de_n (de_var (pv 0))) (pa_cons (pe_bltn (v := .ty "int") (u := .type "int") rfl (T.nb_int) (by decide +kernel) rfl) pa_nil)))) (de_one (de_not rfl (de_n (de_isi (pe_callB (kIsi K) (by rfl) T.nb_isinstance (by decide +kernel) (pa_cons (de_n (de_var (pv 0))) (pa_cons (pe_bltn (v := .ty "bool") (u := .type "bool") rfl (T.nb_bool) (by decide +kernel) rfl) pa_nil)))))))))))) ?_
  intro as q hl h
  unfold f1 at h
  split at h
  · rename_i d
    obtain ⟨hi, h⟩ := h
    rw [← isK_int] at h
    simp only [dRet, dRetN, dIf, dSeq, dDrop, dAsg, gNm, gTp, gsNil, gsCons, dAsgL, dApp, dExt, dIns, dPopAt, dSetIx, dPar, dAug, dNext, mVar, mVarN, mC, m1, m2, mTst, mChain, mNot, mAnd, mOr, mAndV, mOrV, mNotV, mIf, mNil, mCons, mBag, Du.dataOf, mTup, mLst, mB, mCall, mIsi, mIsi2, mNotD, mTru, truD, fAdd, fI, fI0, fMul, fB, fEq, fNe, fIn, fGeD, fIs, isBd, fIsN, isNd, fNeg, fIx, mSlL, mSlT, mNoP, mPart, fLen, fAbs, fInt, fMin2, fTuple, fList, fAll, fAny, fRepr, miL, miT, miR1, miR2, miEn, miZip, miZip3, mRow, mLc, wipeE, dFor, mYes, Du.envOf, Option.map_some, Option.map_none, List.map_cons, List.map_nil, List.length_cons, List.length_nil, Nat.sub_self, Nat.add_sub_cancel, Nat.reduceAdd, Nat.reduceSub, List.replicate, List.cons_append, List.nil_append, List.append_nil, List.getElem?_cons_zero, List.getElem?_cons_succ, List.getElem?_nil, List.set_cons_zero, List.set_cons_succ]
    refine ⟨⟨rfl, hi⟩, ?_⟩
    cases h1 : isK d "int" with
    | true =>
      rw [h1] at h
      exact ⟨⟨rfl, hi⟩, h⟩
    | false =>
      rw [h1] at h
      exact h
  · exact h.elim
theorem ok_tup (T : Txt K mg A) : FnG P w K mg base 1 A.a_is_tuple_of A.d_is_tuple_of ["thing", "many"] (spF K 2 fTupOf) := by
  refine okD T._is_tuple_of.F sc__is_tuple_of (fun c cdv A' outer s H E hg hr => (dss_one (ds_ret (de_n (de_and (de_isi (pe_callB (kIsi K) (by rfl) T.nb_isinstance (by decide +kernel) (pa_cons (de_n (de_var (pv 0))) (pa_cons (pe_bltn (v := .ty "tuple") (u := .type "tuple") rfl (T.nb_tuple) (by decide +kernel) rfl) pa_nil)))) (de_one (de_cmp (op_eqQ (un66 hr)) od_eq (de_n (de_b cd_len (pe_callB (kLen K) (by rfl) T.nb_len PySem.boot_len (dan_cons (de_n (de_var (pv 0))) dan_nil)))) (de_n (de_var (pv 1))) (nomark _)))))))) ?_
  intro as q hl h
  unfold fTupOf at h
  split at h
  · rename_i d n
    obtain ⟨hi, h⟩ := h
    simp only [dRet, dRetN, dIf, dSeq, dDrop, dAsg, gNm, gTp, gsNil, gsCons, dAsgL, dApp, dExt, dIns, dPopAt, dSetIx, dPar, dAug, dNext, mVar, mVarN, mC, m1, m2, mTst, mChain, mNot, mAnd, mOr, mAndV, mOrV, mNotV, mIf, mNil, mCons, mBag, Du.dataOf, mTup, mLst, mB, mCall, mIsi, mIsi2, mNotD, mTru, truD, fAdd, fI, fI0, fMul, fB, fEq, fNe, fIn, fGeD, fIs, isBd, fIsN, isNd, fNeg, fIx, mSlL, mSlT, mNoP, mPart, fLen, fAbs, fInt, fMin2, fTuple, fList, fAll, fAny, fRepr, miL, miT, miR1, miR2, miEn, miZip, miZip3, mRow, mLc, wipeE, dFor, mYes, Du.envOf, Option.map_some, Option.map_none, List.map_cons, List.map_nil, List.length_cons, List.length_nil, Nat.sub_self, Nat.add_sub_cancel, Nat.reduceAdd, Nat.reduceSub, List.replicate, List.cons_append, List.nil_append, List.append_nil, List.getElem?_cons_zero, List.getElem?_cons_succ, List.getElem?_nil, List.set_cons_zero, List.set_cons_succ]
    refine ⟨⟨rfl, hi⟩, ?_⟩
    rw [isK_tuple]
    cases d with
    | tuple xs =>
      refine ⟨⟨by rw [PyData.canLay0], by rw [PyData.canLay0], by simp [PyData.depth]⟩, ?_⟩
      have e : PyData.eqv (.int (xs.length : Int)) (.int n) = isTup (.tuple xs) n := by
        show ((xs.length : Int) == n) = decide ((xs.length : Int) = n)
        rw [Bool.beq_eq_decide_eq]
      rw [e]
      exact h
    | _ => exact h
  · exact h.elim
theorem ok_asc (T : Txt K mg A) : FnG P w K mg base 1 A.aascends A.dascends ["items"] (spF K 1 fAsc) := by
  refine okD T.ascends.F sc_ascends (fun c cdv A' outer s H E hg hr => (dss_one (ds_ret (de_n (de_not rfl (de_ln (de_lc (own := [("k", 1)]) rfl sc_ascends.nd (di_range1 rfl T.nb_range (da_cons (de_op op_sub od_I0 (de_n (de_b cd_len (pe_callB (kLen K) (by rfl) T.nb_len PySem.boot_len (dan_cons (de_n (de_var (pv 0))) dan_nil)))) (de_n (de_c pe_int (fun _ => .int _)))) da_nil)) (blkOk_by (N := ["items", "k"]) (sc := defScope sascends) (by decide +kernel)) (fun _ _ _ _ _ => (dg_name (pg_name (i := 1) sc_ascends.nd rfl (by first | exact Or.inl rfl | exact Or.inr rfl)))) (fun _ _ _ _ _ => (dts_one (dt_cmp (op_geX (un66 hr)) od_geX (de_n (de_ix (kIxS K) (de_n (de_var (pv 0))) (de_n (de_var (pv 1))) (fun _ _ => rfl))) (de_n (de_ix (kIxS K) (de_n (de_var (pv 0))) (de_n (de_op op_addD od_add (de_n (de_var (pv 1))) (de_n (de_c pe_int (fun _ => .int _))))) (fun _ _ => rfl))) (nomark _)))) (fun _ _ _ _ _ => (de_var (pv 1))) (by decide)))))))) ?_
  intro as q hl h
  unfold fAsc at h
  split at h
  · rename_i ms
    simp only [dRet, dRetN, dIf, dSeq, dDrop, dAsg, gNm, gTp, gsNil, gsCons, dAsgL, dApp, dExt, dIns, dPopAt, dSetIx, dPar, dAug, dNext, mVar, mVarN, mC, m1, m2, mTst, mChain, mNot, mAnd, mOr, mAndV, mOrV, mNotV, mIf, mNil, mCons, mBag, Du.dataOf, mTup, mLst, mB, mCall, mIsi, mIsi2, mNotD, mTru, truD, fAdd, fI, fI0, fMul, fB, fEq, fNe, fIn, fGeD, fIs, isBd, fIsN, isNd, fNeg, fIx, mSlL, mSlT, mNoP, mPart, fLen, fAbs, fInt, fMin2, fTuple, fList, fAll, fAny, fRepr, miL, miT, miR1, miR2, miEn, miZip, miZip3, mRow, mLc, wipeE, dFor, mYes, Du.envOf, Option.map_some, Option.map_none, List.map_cons, List.map_nil, List.length_cons, List.length_nil, Nat.sub_self, Nat.add_sub_cancel, Nat.reduceAdd, Nat.reduceSub, List.replicate, List.cons_append, List.nil_append, List.append_nil, List.getElem?_cons_zero, List.getElem?_cons_succ, List.getElem?_nil, List.set_cons_zero, List.set_cons_succ]
    refine ⟨⟨by omega, by omega⟩, ?_⟩
    have en : ((ms.length : Int) - 1).toNat = ms.length - 1 := by omega
    rw [en]
    refine lc_pure (fun d => [.v (.tuple ms), .v d]) (goD ms) id _ [] _ ?_ (fun d hd k' hk => hk) ?_ ?_ ?_
    · simp [intsD]
      omega
    · intro d hd k' hk
      obtain ⟨i, hi, rfl⟩ := mem_ints hd
      rw [Int.zero_add] at hk ⊢
      obtain ⟨r, hr⟩ := h.1.1 i (by omega)
      have hk' : k' (geX (ms.getD i .none) (ms.getD (i + 1) .none) == some true) := hk
      rw [hr] at hk'
      have a1 : atI ms (i : Int) = some (ms.getD i .none) := atI_gd (by omega)
      have a2 : atI ms ((i : Int) + 1) = some (ms.getD (i + 1) .none) := atI_gd1 (by omega)
      simp only [dRet, dRetN, dIf, dSeq, dDrop, dAsg, gNm, gTp, gsNil, gsCons, dAsgL, dApp, dExt, dIns, dPopAt, dSetIx, dPar, dAug, dNext, mVar, mVarN, mC, m1, m2, mTst, mChain, mNot, mAnd, mOr, mAndV, mOrV, mNotV, mIf, mNil, mCons, mBag, Du.dataOf, mTup, mLst, mB, mCall, mIsi, mIsi2, mNotD, mTru, truD, fAdd, fI, fI0, fMul, fB, fEq, fNe, fIn, fGeD, fIs, isBd, fIsN, isNd, fNeg, fIx, mSlL, mSlT, mNoP, mPart, fLen, fAbs, fInt, fMin2, fTuple, fList, fAll, fAny, fRepr, miL, miT, miR1, miR2, miEn, miZip, miZip3, mRow, mLc, wipeE, dFor, mYes, Du.envOf, Option.map_some, Option.map_none, List.map_cons, List.map_nil, List.length_cons, List.length_nil, Nat.sub_self, Nat.add_sub_cancel, Nat.reduceAdd, Nat.reduceSub, List.replicate, List.cons_append, List.nil_append, List.append_nil, List.getElem?_cons_zero, List.getElem?_cons_succ, List.getElem?_nil, List.set_cons_zero, List.set_cons_succ, fGeX, a1, a2, hr]
      cases r <;> exact hk'
    · intro d hd hp k' hk
      exact hk
    · show q (.bool (!(!(([] : List PyData) ++ List.map id _).isEmpty)))
      rw [List.nil_append, map_id', Bool.not_not, ups_of]
      exact h.2
  · rename_i ms
    simp only [dRet, dRetN, dIf, dSeq, dDrop, dAsg, gNm, gTp, gsNil, gsCons, dAsgL, dApp, dExt, dIns, dPopAt, dSetIx, dPar, dAug, dNext, mVar, mVarN, mC, m1, m2, mTst, mChain, mNot, mAnd, mOr, mAndV, mOrV, mNotV, mIf, mNil, mCons, mBag, Du.dataOf, mTup, mLst, mB, mCall, mIsi, mIsi2, mNotD, mTru, truD, fAdd, fI, fI0, fMul, fB, fEq, fNe, fIn, fGeD, fIs, isBd, fIsN, isNd, fNeg, fIx, mSlL, mSlT, mNoP, mPart, fLen, fAbs, fInt, fMin2, fTuple, fList, fAll, fAny, fRepr, miL, miT, miR1, miR2, miEn, miZip, miZip3, mRow, mLc, wipeE, dFor, mYes, Du.envOf, Option.map_some, Option.map_none, List.map_cons, List.map_nil, List.length_cons, List.length_nil, Nat.sub_self, Nat.add_sub_cancel, Nat.reduceAdd, Nat.reduceSub, List.replicate, List.cons_append, List.nil_append, List.append_nil, List.getElem?_cons_zero, List.getElem?_cons_succ, List.getElem?_nil, List.set_cons_zero, List.set_cons_succ]
    refine ⟨⟨by omega, by omega⟩, ?_⟩
    have en : ((ms.length : Int) - 1).toNat = ms.length - 1 := by omega
    rw [en]
    refine lc_pure (fun d => [.v (.list ms), .v d]) (goD ms) id _ [] _ ?_ (fun d hd k' hk => hk) ?_ ?_ ?_
    · simp [intsD]
      omega
    · intro d hd k' hk
      obtain ⟨i, hi, rfl⟩ := mem_ints hd
      rw [Int.zero_add] at hk ⊢
      obtain ⟨r, hr⟩ := h.1.1 i (by omega)
      have hk' : k' (geX (ms.getD i .none) (ms.getD (i + 1) .none) == some true) := hk
      rw [hr] at hk'
      have a1 : atI ms (i : Int) = some (ms.getD i .none) := atI_gd (by omega)
      have a2 : atI ms ((i : Int) + 1) = some (ms.getD (i + 1) .none) := atI_gd1 (by omega)
      simp only [dRet, dRetN, dIf, dSeq, dDrop, dAsg, gNm, gTp, gsNil, gsCons, dAsgL, dApp, dExt, dIns, dPopAt, dSetIx, dPar, dAug, dNext, mVar, mVarN, mC, m1, m2, mTst, mChain, mNot, mAnd, mOr, mAndV, mOrV, mNotV, mIf, mNil, mCons, mBag, Du.dataOf, mTup, mLst, mB, mCall, mIsi, mIsi2, mNotD, mTru, truD, fAdd, fI, fI0, fMul, fB, fEq, fNe, fIn, fGeD, fIs, isBd, fIsN, isNd, fNeg, fIx, mSlL, mSlT, mNoP, mPart, fLen, fAbs, fInt, fMin2, fTuple, fList, fAll, fAny, fRepr, miL, miT, miR1, miR2, miEn, miZip, miZip3, mRow, mLc, wipeE, dFor, mYes, Du.envOf, Option.map_some, Option.map_none, List.map_cons, List.map_nil, List.length_cons, List.length_nil, Nat.sub_self, Nat.add_sub_cancel, Nat.reduceAdd, Nat.reduceSub, List.replicate, List.cons_append, List.nil_append, List.append_nil, List.getElem?_cons_zero, List.getElem?_cons_succ, List.getElem?_nil, List.set_cons_zero, List.set_cons_succ, fGeX, a1, a2, hr]
      cases r <;> exact hk'
    · intro d hd hp k' hk
      exact hk
    · show q (.bool (!(!(([] : List PyData) ++ List.map id _).isEmpty)))
      rw [List.nil_append, map_id', Bool.not_not, ups_of]
      exact h.2
  · exact h.elim
theorem ok_place (T : Txt K mg A) (hfm : ∃ d, mg "FREE_MOVES" = some (.ref d) ∧ KInt K d freeRows) (Gis_integer : FnG P w K mg base 1 A.ais_integer A.dis_integer ["thing"] (spF K 1 (f1 isInt))) (G_is_tuple_of : FnG P w K mg base 1 A.a_is_tuple_of A.d_is_tuple_of ["thing", "many"] (spF K 2 fTupOf)) (Gascends : FnG P w K mg base 1 A.aascends A.dascends ["items"] (spF K 1 fAsc)) : FnG P w K mg base 2 A.ais_place A.dis_place ["thing"] (spF K 1 (fPl placeOk)) := by
  obtain ⟨ad, hm, hk⟩ := hfm
  refine okD T.is_place.F sc_is_place (fun c cdv A' outer s H E hg hr => (dss_cons (ds_if (dt_not (dt_val rfl (de_n (de_call (pe_callG G_is_tuple_of hg (hr.mono (by first | decide | omega)) rfl T._is_tuple_of.g T._is_tuple_of.F.kp T._is_tuple_of.b (da_cons (de_var (pv 0)) (da_cons (de_c pe_int (fun _ => .int _)) da_nil))))))) (dss_one (ds_ret (de_n (de_c pe_bl (fun _ => .bl _))))) dss_nil)
      (dss_cons (ds_asg (de_var (pv 0)) (dg_tup (n := 2) rfl rfl (dgs_cons (dg_name (pg_name (i := 1) sc_is_place.nd rfl (by first | exact Or.inl rfl | exact Or.inr rfl))) (dgs_cons (dg_name (pg_name (i := 2) sc_is_place.nd rfl (by first | exact Or.inl rfl | exact Or.inr rfl))) dgs_nil))))
      (dss_cons (ds_if (PW.pt (dw_or (dt_not (dt_val rfl (de_n (de_call (pe_callG Gis_integer hg (hr.mono (by first | decide | omega)) rfl T.is_integer.g T.is_integer.F.kp T.is_integer.b (da_cons (de_var (pv 1)) da_nil)))))) (dw_or (dt_not (dt_chain op_le od_B op_le od_B (de_n (de_c pe_int (fun _ => .int _))) (de_n (de_var (pv 1))) (de_n (de_c pe_int (fun _ => .int _))))) (dw_or1 (dt_not (dt_val rfl (de_n (de_isi (pe_callB (kIsi K) (by rfl) T.nb_isinstance (by decide +kernel) (pa_cons (de_n (de_var (pv 2))) (pa_cons (pe_bltn (v := .ty "tuple") (u := .type "tuple") rfl (T.nb_tuple) (by decide +kernel) rfl) pa_nil))))))))))) (dss_one (ds_ret (de_n (de_c pe_bl (fun _ => .bl _))))) dss_nil)
      (dss_cons (ds_set (i := 3) sc_is_place.nd rfl (by first | exact Or.inl rfl | exact Or.inr rfl) (de_kint rfl rfl hm hk (de_n (de_var (pv 1))) (fun _ _ => rfl)))
      (dss_cons (ds_if (PW.pt (dw_and (dt_cmp (op_neQ (un66 hr)) od_ne (de_n (de_var (pv 2))) (de_n (de_var (pv 3))) (nomark _)) (dw_and1 (PW.pt (dw_or (dt_val rfl (de_ln (de_lc (own := [("move", 4)]) rfl sc_is_place.nd (di_tup rfl (de_var (pv 2))) (blkOk_by (N := ["thing", "many", "moves", "free", "move", "v", "w"]) (sc := defScope sis_place) (by decide +kernel)) (fun _ _ _ _ _ => (dg_name (pg_name (i := 4) sc_is_place.nd rfl (by first | exact Or.inl rfl | exact Or.inr rfl)))) (fun _ _ _ _ _ => (dts_one (dt_cmp (op_notInG (un66 hr)) od_in (de_n (de_var (pv 4))) (de_n (de_var (pv 3))) rfl))) (fun _ _ _ _ _ => (de_var (pv 4))) (by decide)))) (dw_or1 (dt_not (dt_val rfl (de_n (de_call (pe_callG Gascends hg (hr.mono (by first | decide | omega)) rfl T.ascends.g T.ascends.F.kp T.ascends.b (da_cons (de_var (pv 2)) da_nil)))))))))))) (dss_one (ds_ret (de_n (de_c pe_bl (fun _ => .bl _))))) dss_nil)
      (dss_one (ds_ret (de_n (de_not rfl (de_ln (de_lc (own := [("v", 5), ("w", 6)]) rfl sc_is_place.nd (di_tup rfl (de_var (pv 2))) (blkOk_by (N := ["thing", "many", "moves", "free", "move", "v", "w"]) (sc := defScope sis_place) (by decide +kernel)) (fun _ _ _ _ _ => (dg_tup (n := 2) rfl rfl (dgs_cons (dg_name (pg_name (i := 5) sc_is_place.nd rfl (by first | exact Or.inl rfl | exact Or.inr rfl))) (dgs_cons (dg_name (pg_name (i := 6) sc_is_place.nd rfl (by first | exact Or.inl rfl | exact Or.inr rfl))) dgs_nil)))) (fun _ _ _ _ _ => (dts_one (PW.pt (dw_or (dt_cmp op_isG od_is (de_n (de_var (pv 5))) (de_n (de_c pe_bl (fun _ => .bl _))) (nomark _)) (dw_or (dt_cmp op_isG od_is (de_n (de_var (pv 5))) (de_n (de_c pe_bl (fun _ => .bl _))) (nomark _)) (dw_or (dt_cmp op_isG od_is (de_n (de_var (pv 6))) (de_n (de_c pe_bl (fun _ => .bl _))) (nomark _)) (dw_or1 (dt_cmp op_isG od_is (de_n (de_var (pv 6))) (de_n (de_c pe_bl (fun _ => .bl _))) (nomark _))))))))) (fun _ _ _ _ _ => (de_var (pv 5))) (by decide))))))))))))) ?_
  intro as q hl h
  unfold fPl at h
  split at h
  · rename_i d
    obtain ⟨⟨hw, hI⟩, h⟩ := h
    have hi := okI_isi hI
    cases h1 : isTup d 2 with
    | false =>
      rw [placeOk_no h1] at h
      simp only [dRet, dRetN, dIf, dSeq, dDrop, dAsg, gNm, gTp, gsNil, gsCons, dAsgL, dApp, dExt, dIns, dPopAt, dSetIx, dPar, dAug, dNext, mVar, mVarN, mC, m1, m2, mTst, mChain, mNot, mAnd, mOr, mAndV, mOrV, mNotV, mIf, mNil, mCons, mBag, Du.dataOf, mTup, mLst, mB, mCall, mIsi, mIsi2, mNotD, mTru, truD, fAdd, fI, fI0, fMul, fB, fEq, fNe, fIn, fGeD, fIs, isBd, fIsN, isNd, fNeg, fIx, mSlL, mSlT, mNoP, mPart, fLen, fAbs, fInt, fMin2, fTuple, fList, fAll, fAny, fRepr, miL, miT, miR1, miR2, miEn, miZip, miZip3, mRow, mLc, wipeE, dFor, mYes, Du.envOf, Option.map_some, Option.map_none, List.map_cons, List.map_nil, List.length_cons, List.length_nil, Nat.sub_self, Nat.add_sub_cancel, Nat.reduceAdd, Nat.reduceSub, List.replicate, List.cons_append, List.nil_append, List.append_nil, List.getElem?_cons_zero, List.getElem?_cons_succ, List.getElem?_nil, List.set_cons_zero, List.set_cons_succ, fTupOf, f1, h1, Bool.not_false]
      exact ⟨trivial, hi, h⟩
    | true =>
      obtain ⟨dm, dv, rfl⟩ := isTup2 h1
      have im := okI_isi (okIs_mem (show okIs [dm, dv] = true from hI) dm (by simp))
      have iv := okI_isi (okIs_mem (show okIs [dm, dv] = true from hI) dv (by simp))
      have hwv : wq (.tuple [dm, dv]) = 4 + (wq dm + 2 + (wq dv + 2 + 0)) := by rw [wq, wqs, wqs, wqs]
      cases h2 : On.isInt dm with
      | false =>
        have e : placeOk (.tuple [dm, dv]) = false := by
          cases dm <;> first | rfl | cases h2
        rw [e] at h
        simp only [dRet, dRetN, dIf, dSeq, dDrop, dAsg, gNm, gTp, gsNil, gsCons, dAsgL, dApp, dExt, dIns, dPopAt, dSetIx, dPar, dAug, dNext, mVar, mVarN, mC, m1, m2, mTst, mChain, mNot, mAnd, mOr, mAndV, mOrV, mNotV, mIf, mNil, mCons, mBag, Du.dataOf, mTup, mLst, mB, mCall, mIsi, mIsi2, mNotD, mTru, truD, fAdd, fI, fI0, fMul, fB, fEq, fNe, fIn, fGeD, fIs, isBd, fIsN, isNd, fNeg, fIx, mSlL, mSlT, mNoP, mPart, fLen, fAbs, fInt, fMin2, fTuple, fList, fAll, fAny, fRepr, miL, miT, miR1, miR2, miEn, miZip, miZip3, mRow, mLc, wipeE, dFor, mYes, Du.envOf, Option.map_some, Option.map_none, List.map_cons, List.map_nil, List.length_cons, List.length_nil, Nat.sub_self, Nat.add_sub_cancel, Nat.reduceAdd, Nat.reduceSub, List.replicate, List.cons_append, List.nil_append, List.append_nil, List.getElem?_cons_zero, List.getElem?_cons_succ, List.getElem?_nil, List.set_cons_zero, List.set_cons_succ, fTupOf, f1, h1, h2, Bool.not_false, Bool.not_true]
        exact ⟨trivial, hi, trivial, trivial, im, h⟩
      | true =>
        obtain ⟨m, rfl⟩ : ∃ m, dm = .int m := by cases dm <;> first | exact ⟨_, rfl⟩ | cases h2
        simp only [dRet, dRetN, dIf, dSeq, dDrop, dAsg, gNm, gTp, gsNil, gsCons, dAsgL, dApp, dExt, dIns, dPopAt, dSetIx, dPar, dAug, dNext, mVar, mVarN, mC, m1, m2, mTst, mChain, mNot, mAnd, mOr, mAndV, mOrV, mNotV, mIf, mNil, mCons, mBag, Du.dataOf, mTup, mLst, mB, mCall, mIsi, mIsi2, fAdd, fI, fI0, fMul, fB, fEq, fNe, fIn, fGeD, fIs, isBd, fIsN, isNd, fNeg, fIx, mSlL, mSlT, mNoP, mPart, fLen, fAbs, fInt, fMin2, fTuple, fList, fAll, fAny, fRepr, miL, miT, miR1, miR2, miEn, miZip, miZip3, mRow, wipeE, dFor, mYes, Du.envOf, Option.map_some, Option.map_none, List.map_cons, List.map_nil, List.length_cons, List.length_nil, Nat.sub_self, Nat.add_sub_cancel, Nat.reduceAdd, Nat.reduceSub, List.replicate, List.cons_append, List.nil_append, List.append_nil, List.getElem?_cons_zero, List.getElem?_cons_succ, List.getElem?_nil, List.set_cons_zero, List.set_cons_succ, fTupOf, f1, h1, h2, Bool.not_false, Bool.not_true, mTru, truD]
        refine ⟨trivial, hi, trivial, trivial, im, ?_⟩
        cases g1 : decide (2 ≤ m) with
        | false =>
          have e : placeOk (.tuple [.int m, dv]) = false := by
            cases dv <;> first | rfl | (show ((decide (2 ≤ m) && _) && _) = false; rw [g1]; rfl)
          rw [e] at h
          exact h
        | true =>
          cases g2 : decide (m ≤ 6) with
          | false =>
            have e : placeOk (.tuple [.int m, dv]) = false := by
              cases dv <;> first | rfl | (show ((decide (2 ≤ m) && decide (m ≤ 6)) && _) = false; rw [g2, Bool.and_false]; rfl)
            rw [e] at h
            exact h
          | true =>
            have hmm : 2 ≤ m ∧ m ≤ 6 := ⟨of_decide_eq_true g1, of_decide_eq_true g2⟩
            have hfr : freeRows m = some (.tuple ((freeL m.toNat).map duo)) := by unfold freeRows; rw [if_pos hmm]
            refine ⟨⟨rfl, iv⟩, ?_⟩
            rw [isK_tuple, hfr]
            cases dv with
            | tuple ms =>
              have hz : ms.length ≤ 30000 := by
                have y1 := wqs_len ms
                have y3 : wq (.tuple ms) = 4 + wqs ms := by rw [wq]
                omega
              have e : placeOk (.tuple [.int m, .tuple ms]) = (ms.all (mvOk m) && asc2 ms) := by
                show ((decide (2 ≤ m) && decide (m ≤ 6)) && _) = _
                rw [g1, g2] <;> rfl
              rw [e] at h
              have last : ∀ z, (∀ d ∈ ms, ∃ x y, d = .tuple [x, y]) → ms.all noTru = (ms.all (mvOk m) && asc2 ms) → mNotD
                (mLc (miT (mVar 2)) (gTp 2 (gsCons (gNm 5) (gsCons (gNm 6) gsNil)))
                  (mOr (mTst (m2 (fIs false) (mVar 5) (mC (.bool true)))) (mOr (mTst (m2 (fIs false) (mVar 5) (mC (.bool false)))) (mOr (mTst (m2 (fIs false) (mVar 6) (mC (.bool true)))) (mTst (m2 (fIs false) (mVar 6) (mC (.bool false)))))))
                  (mVar 5) [5, 6]) [.v (.tuple [.int m, .tuple ms]), .v (.int m), .v (.tuple ms), .v z, .un, .un, .un] q := fun z hp he => by
                refine not_lc ms (fun d => match d with | .tuple [x, y] => [.v (.tuple [.int m, .tuple ms]), .v (.int m), .v (.tuple ms), .v z, .un, .v x, .v y] | _ => []) (fun d => !noTru d)
                  (fun d => match d with | .tuple [x, y] => x | _ => .none) (fun k' hk' => hk') (by omega) (fun d hd k' hk' => ?_) (fun d hd k' hk' => ?_) (fun d hd _ k' hk' => ?_) ?_
                · obtain ⟨x, y, rfl⟩ := hp d hd
                  exact ⟨rfl, hk'⟩
                · obtain ⟨x, y, rfl⟩ := hp d hd
                  have hk2 : k' (!(!(isBd true x || (isBd false x || (isBd true y || isBd false y))))) := hk'
                  rw [Bool.not_not] at hk2
                  simp only [mOr, mTst, m2, fIs, mVar, mC, List.getElem?_cons_zero, List.getElem?_cons_succ, Bool.false_bne]
                  cases b1 : isBd true x with
                  | true => rw [b1] at hk2; exact hk2
                  | false =>
                    cases b2 : isBd false x with
                    | true => rw [b1, b2] at hk2; exact hk2
                    | false =>
                      cases b3 : isBd true y with
                      | true => rw [b1, b2, b3] at hk2; exact hk2
                      | false => rw [b1, b2, b3] at hk2; exact hk2
                · obtain ⟨x, y, rfl⟩ := hp d hd
                  exact hk'
                · rw [filter_none]
                  have e2 : (ms.all fun d => !(!noTru d)) = ms.all noTru := by
                    congr 1
                    funext d
                    rw [Bool.not_not]
                  rw [e2, he]
                  exact h
              refine ⟨?_, ?_⟩
              · show (((_ && _) || (_ || SeqAt.tis _)) && decide (min _ _ ≤ 60)) = true
                rw [tis_duo, Bool.or_true, Bool.or_true, Bool.true_and]
                have dd := depth_duo (freeL m.toNat)
                have e3 : (PyData.tuple ((freeL m.toNat).map duo)).depth = PyData.depthAll ((freeL m.toNat).map duo) + 1 := rfl
                exact decide_eq_true (by omega)
              · have ee : PyData.eqv (.tuple ms) (.tuple ((freeL m.toNat).map duo)) = PyData.eqvAll ms ((freeL m.toNat).map duo) := rfl
                rw [ee]
                cases hb : PyData.eqvAll ms ((freeL m.toNat).map duo) with
                | true =>
                  refine last _ (fun d hd => ?_) (place1 hmm hb)
                  obtain ⟨p, _, e⟩ := eqv_all_pair hb d hd
                  obtain ⟨x, y, rfl, _⟩ := eqv_pair (.inr e)
                  exact ⟨x, y, rfl⟩
                | false =>
                  refine mLc_pure ms (fun d => [.v (.tuple [.int m, .tuple ms]), .v (.int m), .v (.tuple ms), .v (.tuple ((freeL m.toNat).map duo)), .v d, .un, .un]) (fun d => !inF (freeL m.toNat) d) id (fun k' hk' => hk') (by omega) (fun d hd k' hk' => hk') (fun d hd k' hk' => ?_) (fun d hd _ k' hk' => hk') ?_
                  · refine ⟨?_, (show k' (true != inF (freeL m.toNat) d) by rw [Bool.true_bne]; exact hk')⟩
                    show (((_ && _) || (SeqAt.tis _ || _)) && decide (_ ∨ _)) = true
                    rw [tis_duo, Bool.true_or, Bool.or_true, Bool.true_and]
                    have dd := depth_duo (freeL m.toNat)
                    exact decide_eq_true (.inr (by omega))
                  · have fe := filter_none (ds := ms) (P := fun d => !inF (freeL m.toNat) d)
                    have fe2 : (ms.all fun d => !(!inF (freeL m.toNat) d)) = ms.all (inF (freeL m.toNat)) := by
                      congr 1
                      funext d
                      rw [Bool.not_not]
                    rw [fe2] at fe
                    rw [map_id']
                    cases hf : ms.filter (fun d => !inF (freeL m.toNat) d) with
                    | cons d0 r0 =>
                      rw [hf] at fe
                      rw [place2 fe.symm] at h
                      exact h
                    | nil =>
                      rw [hf] at fe
                      have hall : ms.all (inF (freeL m.toNat)) = true := fe.symm
                      have pr : ∀ d ∈ ms, ∃ x y, d = .tuple [x, y] ∧ (numD x).isSome = true ∧ (numD y).isSome = true := fun d hd => by
                        obtain ⟨p, _, e⟩ := inF_some (List.all_eq_true.mp hall d hd)
                        obtain ⟨x, y, rfl, e1, e2⟩ := eqv_pair (.inl e)
                        exact ⟨x, y, rfl, by rw [e1]; rfl, by rw [e2]; rfl⟩
                      refine ⟨trivial, ⟨okUp_nums fun d hd => ?_, by omega⟩, ?_⟩
                      · obtain ⟨x, y, rfl, e1, e2⟩ := pr d hd
                        show ([x, y].all fun d => (numD d).isSome) = true
                        simp [e1, e2]
                      · cases hu : ups ms with
                        | false =>
                          rw [place3 hu] at h
                          exact h
                        | true =>
                          exact last _ (fun d hd => (pr d hd).elim fun x hx => hx.elim fun y hy => ⟨x, y, hy.1⟩) (place4 hmm hall hu)
            | _ => exact h
  · exact h.elim
theorem ok_bench (T : Txt K mg A) (Gis_place : FnG P w K mg base 2 A.ais_place A.dis_place ["thing"] (spF K 1 (fPl placeOk))) : FnG P w K mg base 3 A.ais_bench A.dis_bench ["thing"] (spF K 1 (fPl benchOk)) := by
  refine okD T.is_bench.F sc_is_bench (fun c cdv A' outer s H E hg hr => (dss_one (ds_ret (de_n (de_and (de_isi (pe_callB (kIsi K) (by rfl) T.nb_isinstance (by decide +kernel) (pa_cons (de_n (de_var (pv 0))) (pa_cons (pe_bltn (v := .ty "tuple") (u := .type "tuple") rfl (T.nb_tuple) (by decide +kernel) rfl) pa_nil)))) (de_and (de_cmp op_gt od_B (de_n (de_b cd_len (pe_callB (kLen K) (by rfl) T.nb_len PySem.boot_len (dan_cons (de_n (de_var (pv 0))) dan_nil)))) (de_n (de_c pe_int (fun _ => .int _))) (nomark _)) (de_one (de_b cd_all (pe_callB (kAll K rfl) (by rfl) T.nb_all (by decide +kernel) (dan_cons (de_ln (de_lc (own := [("place", 1)]) rfl sc_is_bench.nd (di_tup rfl (de_var (pv 0))) (blkOk_by (N := ["thing", "place"]) (sc := defScope sis_bench) (by decide +kernel)) (fun _ _ _ _ _ => (dg_name (pg_name (i := 1) sc_is_bench.nd rfl (by first | exact Or.inl rfl | exact Or.inr rfl)))) (fun _ _ _ _ _ => dts_nil) (fun _ _ _ _ _ => (de_call (pe_callG Gis_place hg (hr.mono (by first | decide | omega)) rfl T.is_place.g T.is_place.F.kp T.is_place.b (da_cons (de_var (pv 1)) da_nil)))) (by decide))) dan_nil)))))))))) ?_
  intro as q hl h
  unfold fPl at h
  split at h
  · rename_i d
    obtain ⟨⟨hw, hI⟩, h⟩ := h
    simp only [dRet, dRetN, dIf, dSeq, dDrop, dAsg, gNm, gTp, gsNil, gsCons, dAsgL, dApp, dExt, dIns, dPopAt, dSetIx, dPar, dAug, dNext, mVar, mVarN, mC, m1, m2, mTst, mChain, mNot, mAnd, mOr, mAndV, mOrV, mNotV, mIf, mNil, mCons, mBag, Du.dataOf, mTup, mLst, mB, mCall, mIsi, mIsi2, fAdd, fI, fI0, fMul, fB, fEq, fNe, fIn, fGeD, fIs, isBd, fIsN, isNd, fNeg, fIx, mSlL, mSlT, mNoP, mPart, fLen, fAbs, fInt, fMin2, fTuple, fList, fAll, fAny, fRepr, miL, miT, miR1, miR2, miEn, miZip, miZip3, mRow, wipeE, dFor, mYes, Du.envOf, Option.map_some, Option.map_none, List.map_cons, List.map_nil, List.length_cons, List.length_nil, Nat.sub_self, Nat.add_sub_cancel, Nat.reduceAdd, Nat.reduceSub, List.replicate, List.cons_append, List.nil_append, List.append_nil, List.getElem?_cons_zero, List.getElem?_cons_succ, List.getElem?_nil, List.set_cons_zero, List.set_cons_succ, truD]
    rw [isK_tuple]
    refine ⟨⟨rfl, okI_isi hI⟩, ?_⟩
    cases d with
    | tuple ds =>
      have y3 : wq (.tuple ds) = 4 + wqs ds := by rw [wq]
      have y1 := wqs_len ds
      show (match PyData.bool (decide ((0 : Int) < (ds.length : Int))) with | .bool true => _ | .bool false => _ | _ => False)
      have ei : decide ((0 : Int) < (ds.length : Int)) = decide (0 < ds.length) := decide_eq_decide.mpr (by omega)
      have eb : benchOk (.tuple ds) = (decide (0 < ds.length) && ds.all placeOk) := rfl
      rw [eb] at h
      rw [ei]
      cases hz : decide (0 < ds.length) with
      | false => rw [hz] at h; exact h
      | true =>
        rw [hz] at h
        refine mLc_pure ds (fun d => [.v (.tuple ds), .v d]) (fun _ => true) (fun d => .bool (placeOk d)) (fun k' hk' => hk') (by omega) (fun d hd k' hk' => hk') (fun d hd k' hk' => hk') (fun d hd _ k' hk' => ?_) ?_
        · have := wqs_mem hd
          exact ⟨rfl, ⟨by omega, okIs_mem hI _ hd⟩, hk'⟩
        · rw [List.filter_eq_self.mpr (fun _ _ => rfl)]
          show (match boolsOf (ds.map fun d => .bool (placeOk d)) with | some bs => q (.bool (bs.all id)) | Option.none => False)
          rw [bools_map]
          have e2 : (ds.map placeOk).all id = ds.all placeOk := by rw [List.all_map]; rfl
          show q (.bool ((ds.map placeOk).all id))
          rw [e2]
          exact h
    | _ => exact h
  · exact h.elim
end
end L19

namespace L19
open PySem PySem.Spec PyProof.Rows L2 On K19 Du Fo M16 M17
/-- contents of a bench -/
def fAre : List DV → (PyData → Prop) → Prop := fun as k => match as with
  | [.v (.tuple pds), .v d] => (pds.all placeOk = true ∧ wq d ≤ 60000 ∧ okI d = true) ∧ k (.bool (consOk pds d))
  | _ => False
theorem isK_k {d : PyData} {T : String} {b : Bool} (s : String) (h : On.kindOf d = s) (g : kitB s T = some b) : isK d T = b := by unfold isK; rw [h, g]
theorem wqs_tups {N : Nat} : ∀ {cs : List PyData}, (∀ c ∈ cs, isTup c (N : Int) = true) → cs.length * N ≤ wqs cs
  | [], _ => by simp
  | c :: cs, h => by
    have ih := wqs_tups (N := N) (cs := cs) fun x hx => h x (List.mem_cons_of_mem _ hx)
    obtain ⟨vs, rfl, hv⟩ := tup_len (h c List.mem_cons_self)
    have := wqs_len vs
    rw [List.length_cons, Nat.succ_mul, wqs, show wq (.tuple vs) = 4 + wqs vs by rw [wq]]
    omega
section
variable {P : Program} {w : World} {K : PySem.W.Frag} {mg : Str → Option Value} {base : Heap} {A : Ads}
theorem ok_are (T : Txt K mg A) (G_is_tuple_of : FnG P w K mg base 1 A.a_is_tuple_of A.d_is_tuple_of ["thing", "many"] (spF K 2 fTupOf)) (Gascends : FnG P w K mg base 1 A.aascends A.dascends ["items"] (spF K 1 fAsc)) : FnG P w K mg base 2 A.aare_contents A.dare_contents ["bench", "thing"] (spF K 2 fAre) := by
  refine okD T.are_contents.F sc_are_contents (fun c cdv A' outer s H E hg hr => (dss_cons (ds_if (PW.pt (dw_or (dt_not (dt_val rfl (de_n (de_isi (pe_callB (kIsi K) (by rfl) T.nb_isinstance (by decide +kernel) (pa_cons (de_n (de_var (pv 1))) (pa_cons (pe_bltn (v := .ty "tuple") (u := .type "tuple") rfl (T.nb_tuple) (by decide +kernel) rfl) pa_nil))))))) (dw_or1 (dt_val rfl (de_ln (de_lc (own := [("content", 3)]) rfl sc_are_contents.nd (di_tup rfl (de_var (pv 1))) (blkOk_by (N := ["bench", "thing", "wrong", "content", "value", "place"]) (sc := defScope sare_contents) (by decide +kernel)) (fun _ _ _ _ _ => (dg_name (pg_name (i := 3) sc_are_contents.nd rfl (by first | exact Or.inl rfl | exact Or.inr rfl)))) (fun _ _ _ _ _ => (dts_one (dt_not (dt_val rfl (de_n (de_call (pe_callG G_is_tuple_of hg (hr.mono (by first | decide | omega)) rfl T._is_tuple_of.g T._is_tuple_of.F.kp T._is_tuple_of.b (da_cons (de_var (pv 3)) (da_cons (de_b cd_len (pe_callB (kLen K) (by rfl) T.nb_len PySem.boot_len (dan_cons (de_n (de_var (pv 0))) dan_nil))) da_nil))))))))) (fun _ _ _ _ _ => (de_var (pv 3))) (by decide))))))) (dss_one (ds_ret (de_n (de_c pe_bl (fun _ => .bl _))))) dss_nil)
      (dss_cons (ds_setLc2V (i := 2) (own := [("content", 3), ("value", 4), ("place", 5)]) (vs1 := [4, 5]) rfl sc_are_contents.nd rfl rfl (sw_true rfl rfl rfl (by decide +kernel)) (di_tup rfl (de_var (pv 1))) (blkOk_by (N := ["bench", "thing", "wrong", "content", "value", "place"]) (sc := defScope sare_contents) (by decide +kernel)) (by decide) (fun _ _ _ _ _ => (dg_name (pg_name (i := 3) sc_are_contents.nd rfl (by first | exact Or.inl rfl | exact Or.inr rfl)))) (fun _ _ _ _ _ => dts_nil) (fun _ _ _ _ _ => (di_zip rfl (fun h => RZ.pi_zipA rfl T.nb_zip h) (da_cons (de_var (pv 3)) (da_cons (de_var (pv 0)) da_nil)))) (fun _ _ _ _ _ => (dg_tup (n := 2) rfl rfl (dgs_cons (dg_name (pg_name (i := 4) sc_are_contents.nd rfl (by first | exact Or.inl rfl | exact Or.inr rfl))) (dgs_cons (dg_name (pg_name (i := 5) sc_are_contents.nd rfl (by first | exact Or.inl rfl | exact Or.inr rfl))) dgs_nil)))) (fun _ _ _ _ _ => (dts_one (PW.pt (dw_or (dt_not (dt_val rfl (de_n (de_isi (pe_callB (kIsi K) (by rfl) T.nb_isinstance (by decide +kernel) (pa_cons (de_n (de_var (pv 4))) (pa_cons (pe_bltn (v := .ty "int") (u := .type "int") rfl (T.nb_int) (by decide +kernel) rfl) pa_nil))))))) (dw_or (dt_cmp op_isG od_is (de_n (de_var (pv 4))) (de_n (de_c pe_bl (fun _ => .bl _))) (nomark _)) (dw_or (dt_cmp op_isG od_is (de_n (de_var (pv 4))) (de_n (de_c pe_bl (fun _ => .bl _))) (nomark _)) (dw_or1 (dt_not (dt_chain op_le od_B op_lt od_B (de_n (de_c pe_int (fun _ => .int _))) (de_n (de_var (pv 4))) (de_n (de_ix (kIxS K) (de_n (de_var (pv 5))) (de_n (de_c pe_int (fun _ => .int _))) (fun _ _ => rfl)))))))))))) (fun _ _ _ _ _ => (de_var (pv 4))) (by decide) (by decide))
      (dss_one (ds_ret (de_n (de_and (de_not rfl (de_n (de_var (pv 2)))) (de_one (de_call (pe_callG Gascends hg (hr.mono (by first | decide | omega)) rfl T.ascends.g T.ascends.F.kp T.ascends.b (da_cons (de_var (pv 1)) da_nil))))))))))) ?_
  intro as q hl h
  unfold fAre at h
  split at h
  · rename_i pds d
    obtain ⟨⟨hp, hw, hI⟩, h⟩ := h
    simp only [dRet, dRetN, dIf, dSeq, dDrop, dAsg, gNm, gTp, gsNil, gsCons, dAsgL, dApp, dExt, dIns, dPopAt, dSetIx, dPar, dAug, dNext, mVar, mVarN, mC, m1, m2, mTst, mChain, mNot, mAnd, mOr, mAndV, mOrV, mNotV, mIf, mNil, mCons, mBag, Du.dataOf, mTup, mLst, mB, mCall, mIsi, mIsi2, fAdd, fI, fI0, fMul, fB, fEq, fNe, fIn, fGeD, fIs, isBd, fIsN, isNd, fNeg, fIx, mSlL, mSlT, mNoP, mPart, fLen, fAbs, fInt, fMin2, fTuple, fList, fAll, fAny, fRepr, miL, miT, miR1, miR2, miEn, miZip, miZip3, mRow, wipeE, dFor, mYes, Du.envOf, Option.map_some, Option.map_none, List.map_cons, List.map_nil, List.length_cons, List.length_nil, Nat.sub_self, Nat.add_sub_cancel, Nat.reduceAdd, Nat.reduceSub, List.replicate, List.cons_append, List.nil_append, List.append_nil, List.getElem?_cons_zero, List.getElem?_cons_succ, List.getElem?_nil, List.set_cons_zero, List.set_cons_succ, fTupOf, isK_tuple, truD]
    refine ⟨⟨rfl, okI_isi hI⟩, ?_⟩
    cases d with
    | tuple cs =>
      have hwc : wq (.tuple cs) = 4 + wqs cs := by rw [wq]
      have hlc := wqs_len cs
      have hI' : okIs cs = true := hI
      have hb : consOk pds (.tuple cs) = (cs.all (contentOk pds) && ups cs) := rfl
      rw [hb] at h
      rw [isK_tuple]
      refine tru_lc cs (fun d => [.v (.tuple pds), .v (.tuple cs), .un, .v d, .un, .un]) (fun d => !isTup d (pds.length : Int)) id (fun k' hk' => hk') (by omega) (fun d hd k' hk' => hk') (fun d hd k' hk' => ⟨rfl, okI_isi (okIs_mem hI' d hd), hk'⟩) (fun d hd _ k' hk' => hk') ?_
      cases hf : (cs.filter fun d => !isTup d (pds.length : Int)) with
      | cons d0 r0 =>
        have hm : d0 ∈ cs.filter fun d => !isTup d (pds.length : Int) := by rw [hf]; exact List.mem_cons_self
        obtain ⟨m1, m2⟩ := List.mem_filter.mp hm
        have m3 : isTup d0 (pds.length : Int) = false := by simpa using m2
        have e : cs.all (contentOk pds) = false := by
          cases e : cs.all (contentOk pds) with
          | false => rfl
          | true =>
            have z := List.all_eq_true.mp e d0 m1
            rw [content_no m3] at z
            cases z
        rw [e] at h
        exact h
      | nil =>
        have ht : ∀ c ∈ cs, isTup c (pds.length : Int) = true := fun c hc => by
          have z := List.filter_eq_nil_iff.mp hf c hc
          simpa using z
        have bigZ := zip_sum (pds := pds) (cs := cs)
        have mem : ∀ c ∈ cs, ∀ d ∈ zipD (unT c) pds, ∃ x m ms, d = .tuple [x, .tuple [.int m, ms]] ∧ isiOk x = true := fun c hc d hd => by
          obtain ⟨vs, rfl, hv⟩ := tup_len (ht c hc)
          obtain ⟨i, hi⟩ := List.getElem?_of_mem hd
          obtain ⟨x, p, hx, hp', rfl⟩ := zipD_get hi
          have z := List.all_eq_true.mp hp p (List.mem_of_getElem? hp')
          have ix := okI_isi (okIs_mem (show okIs vs = true from okIs_mem hI' _ hc) x (List.mem_of_getElem? hx))
          unfold placeOk at z
          split at z
          · exact ⟨_, _, _, rfl, ix⟩
          · cases z
        refine go2_sum (fun c => [.v (.tuple pds), .v (.tuple cs), .un, .v c, .un, .un]) (fun c => zipD (unT c) pds) (fun c d => match d with
          | .tuple [x, p] => [.v (.tuple pds), .v (.tuple cs), .un, .v c, .v x, .v p]
          | _ => []) (fun _ => wV) (fun _ => wP) cs [] _ (by rw [List.length_nil]; omega) (fun c hc k' hk' => hk') (fun c hc k' hk' => hk') (fun c hc => rfl) (fun c hc k' hk' => ?_) (fun c hc d hd k' hk' => ?_) (fun c hc d hd k' hk' => ?_) (fun c hc d hd hp k' hk' => ?_) ?_
        · obtain ⟨vs, rfl, hv⟩ := tup_len (ht c hc)
          exact hk'
        · obtain ⟨x, m, ms, rfl, _⟩ := mem c hc d hd
          simp only [dRet, dRetN, dIf, dSeq, dDrop, dAsg, gNm, gTp, gsNil, gsCons, dAsgL, dApp, dExt, dIns, dPopAt, dSetIx, dPar, dAug, dNext, mVar, mVarN, mC, m1, m2, mTst, mChain, mNot, mAnd, mOr, mAndV, mOrV, mNotV, mIf, mNil, mCons, mBag, Du.dataOf, mTup, mLst, mB, mCall, mIsi, mIsi2, mNotD, mTru, truD, fAdd, fI, fI0, fMul, fB, fEq, fNe, fIn, fGeD, fIs, isBd, fIsN, isNd, fNeg, fIx, mSlL, mSlT, mNoP, mPart, fLen, fAbs, fInt, fMin2, fTuple, fList, fAll, fAny, fRepr, miL, miT, miR1, miR2, miEn, miZip, miZip3, mRow, mLc, wipeE, dFor, mYes, Du.envOf, Option.map_some, Option.map_none, List.map_cons, List.map_nil, List.length_cons, List.length_nil, Nat.sub_self, Nat.add_sub_cancel, Nat.reduceAdd, Nat.reduceSub, List.replicate, List.cons_append, List.nil_append, List.append_nil, List.getElem?_cons_zero, List.getElem?_cons_succ, List.getElem?_nil, List.set_cons_zero, List.set_cons_succ]
          first | exact hk' | exact ⟨rfl, hk'⟩ | exact ⟨trivial, hk'⟩
        · obtain ⟨x, m, ms, rfl, ix⟩ := mem c hc d hd
          have a0 : atI [PyData.int m, ms] 0 = some (.int m) := rfl
          have hk2 : k' (!isBelow m x) := hk'
          simp only [dRet, dRetN, dIf, dSeq, dDrop, dAsg, gNm, gTp, gsNil, gsCons, dAsgL, dApp, dExt, dIns, dPopAt, dSetIx, dPar, dAug, dNext, mVar, mVarN, mC, m1, m2, mTst, mChain, mNot, mAnd, mOr, mAndV, mOrV, mNotV, mIf, mNil, mCons, mBag, Du.dataOf, mTup, mLst, mB, mCall, mIsi, mIsi2, mNotD, mTru, truD, fAdd, fI, fI0, fMul, fB, fEq, fNe, fIn, fGeD, fIs, isBd, fIsN, isNd, fNeg, fIx, mSlL, mSlT, mNoP, mPart, fLen, fAbs, fInt, fMin2, fTuple, fList, fAll, fAny, fRepr, miL, miT, miR1, miR2, miEn, miZip, miZip3, mRow, mLc, wipeE, dFor, mYes, Du.envOf, Option.map_some, Option.map_none, List.map_cons, List.map_nil, List.length_cons, List.length_nil, Nat.sub_self, Nat.add_sub_cancel, Nat.reduceAdd, Nat.reduceSub, List.replicate, List.cons_append, List.nil_append, List.append_nil, List.getElem?_cons_zero, List.getElem?_cons_succ, List.getElem?_nil, List.set_cons_zero, List.set_cons_succ, a0]
          refine ⟨⟨rfl, ix⟩, ?_⟩
          cases x with
          | int i =>
            have e1 : isK (.int i) "int" = true := isK_k "int" rfl (by decide +kernel)
            rw [e1]
            have hk3 : k' (!(decide (0 ≤ i) && decide (i < m))) := hk2
            show (match PyData.bool (decide (0 ≤ i)) with | .bool true => k' (!decide (i < m)) | .bool false => k' (!false) | _ => False)
            cases e : decide (0 ≤ i) with
            | true => rw [e] at hk3; exact hk3
            | false => rw [e] at hk3; exact hk3
          | bool b =>
            have e1 : isK (.bool b) "int" = true := isK_k "bool" rfl (by decide +kernel)
            rw [e1]
            cases b <;> exact hk2
          | none =>
            have e1 : isK .none "int" = false := isK_k "NoneType" rfl (by decide +kernel)
            rw [e1]; exact hk2
          | str z =>
            have e1 : isK (.str z) "int" = false := isK_k "str" rfl (by decide +kernel)
            rw [e1]; exact hk2
          | list z =>
            have e1 : isK (.list z) "int" = false := isK_k "list" rfl (by decide +kernel)
            rw [e1]; exact hk2
          | tuple z =>
            have e1 : isK (.tuple z) "int" = false := isK_k "tuple" rfl (by decide +kernel)
            rw [e1]; exact hk2
          | dict z =>
            have e1 : isK (.dict z) "int" = false := isK_k "dict" rfl (by decide +kernel)
            rw [e1]; exact hk2
        · obtain ⟨x, m, ms, rfl, _⟩ := mem c hc d hd
          exact hk'
        · show (match PyData.bool (!(!(([] : List PyData) ++ cs.flatMap fun c => ((zipD (unT c) pds).filter wP).map wV).isEmpty)) with | .bool true => True ∧ fAsc [DV.v (PyData.tuple cs)] q | .bool false => q (.bool false) | _ => False)
          rw [List.nil_append, cons_wrong ht, Bool.not_not]
          cases e : cs.all (contentOk pds) with
          | true =>
            rw [e] at h
            refine ⟨trivial, ⟨okUp_nums fun d hd => ?_, by omega⟩, h⟩
            obtain ⟨n, rfl, _⟩ := content_nums (List.all_eq_true.mp e d hd)
            exact numT_con n
          | false =>
            rw [e] at h
            exact h
    | _ => exact h
  · exact h.elim
end
end L19

namespace L19
open PySem PySem.Spec PyProof.Rows L2 On K19 Du Fo M16 M17
def fOrds : List DV → (PyData → Prop) → Prop := fun as k => match as with
  | [.v (.tuple ds), .v d] => ∃ Rs : List (List Int), ds = Rs.map conD ∧ (wq d ≤ 60000 ∧ okI d = true ∧ ∀ o ∈ unT d, isTup o 3 = true → (o1 o).canLay0 = true ∧ (o2 o).canLay0 = true ∧ min (o1 o).depth (o2 o).depth ≤ 60) ∧ k (.bool (ordsOk Rs d))
  | _ => False
theorem tis_con : ∀ Rs : List (List Int), SeqAt.tis (Rs.map conD) = true
  | [] => rfl
  | r :: Rs => by
    rw [List.map_cons, SeqAt.tis, tis_con Rs, Bool.and_true]
    show SeqAt.tis (r.map .int) = true
    induction r with
    | nil => rfl
    | cons i r ih => rw [List.map_cons, SeqAt.tis, ih] <;> rfl
theorem depth_cons : ∀ Rs : List (List Int), PyData.depthAll (Rs.map conD) ≤ 1
  | [] => by rw [List.map_nil, PyData.depthAll]; exact Nat.zero_le _
  | r :: Rs => by
    rw [List.map_cons, PyData.depthAll]
    exact Nat.max_le.mpr ⟨depth_con1 r, depth_cons Rs⟩
theorem okIn_rests (Rs : List (List Int)) (d : PyData) : okIn d (Rs.map conD) = true := by
  unfold okIn
  rw [tis_con, Bool.true_or, Bool.or_true, Bool.true_and]
  exact decide_eq_true (.inr (Nat.le_trans (depth_cons Rs) (by decide)))
theorem all_not {ds : List PyData} {P : PyData → Bool} {d0 : PyData} {r0 : List PyData} (h : (ds.filter fun d => !P d) = d0 :: r0) : ds.all P = false := by
  have hm : d0 ∈ ds.filter fun d => !P d := by rw [h]; exact List.mem_cons_self
  obtain ⟨m1, m2⟩ := List.mem_filter.mp hm
  cases e : ds.all P with
  | false => rfl
  | true =>
    rw [List.all_eq_true.mp e d0 m1] at m2
    cases m2
theorem all_yes {ds : List PyData} {P : PyData → Bool} (h : (ds.filter fun d => !P d) = []) : ds.all P = true := List.all_eq_true.mpr fun c hc => by
  have z := List.filter_eq_nil_iff.mp h c hc
  simpa using z
theorem cut2 (a b c : PyData) : Du.cutD [a, b, c] Option.none (some 2) = [a, b] := rfl
theorem or_not (b c : Bool) (k : Bool → Prop) (h : k (!(!b && c))) : (match b with | true => k true | false => k (!c)) := by
  cases b
  · exact h
  · exact h
theorem vals_sum : ∀ {ds : List PyData}, (ds.flatMap unT).length ≤ wqs ds
  | [] => Nat.zero_le _
  | d :: ds => by
    have ih := vals_sum (ds := ds)
    rw [List.flatMap_cons, List.length_append, wqs]
    have : (unT d).length ≤ wq d := by
      cases d with
      | tuple xs =>
        have := wqs_len xs
        have e : wq (.tuple xs) = 4 + wqs xs := by rw [wq]
        show xs.length ≤ _
        omega
      | _ => exact Nat.zero_le _
    omega
theorem wqs_app : ∀ a b : List PyData, wqs (a ++ b) = wqs a + wqs b
  | [], b => by rw [wqs, Nat.zero_add]; rfl
  | x :: a, b => by
    rw [List.cons_append, wqs, wqs, wqs_app a b]
    omega
theorem wqs_told : ∀ {os : List PyData}, (∀ o ∈ os, isTup o 3 = true) → wqs (os.flatMap toldO) ≤ wqs os
  | [], _ => Nat.le_refl _
  | o :: os, h => by
    have ih := wqs_told (os := os) fun x hx => h x (List.mem_cons_of_mem _ hx)
    obtain ⟨a, b, c, rfl⟩ := tup3 (h o List.mem_cons_self)
    rw [List.flatMap_cons, wqs_app, wqs]
    have e1 : wq (.tuple [a, b, c]) = 4 + (wq a + 2 + (wq b + 2 + (wq c + 2 + 0))) := by rw [wq, wqs, wqs, wqs, wqs]
    have e2 : wqs (unT c) ≤ wq c := by
      cases c with
      | tuple xs =>
        rw [show wq (.tuple xs) = 4 + wqs xs by rw [wq]]
        show wqs xs ≤ _
        omega
      | _ => exact Nat.zero_le _
    have e3 : wqs (toldO (.tuple [a, b, c])) = wq a + 2 + (wq b + 2 + wqs (unT c)) := by
      show wqs (a :: b :: unT c) = _
      rw [wqs, wqs]
    omega
section
variable {P : Program} {w : World} {K : PySem.W.Frag} {mg : Str → Option Value} {base : Heap} {A : Ads}
theorem ok_ords (T : Txt K mg A) (G_is_tuple_of : FnG P w K mg base 1 A.a_is_tuple_of A.d_is_tuple_of ["thing", "many"] (spF K 2 fTupOf)) (Gascends : FnG P w K mg base 1 A.aascends A.dascends ["items"] (spF K 1 fAsc)) : FnG P w K mg base 2 A.aare_orders A.dare_orders ["rests", "thing"] (spF K 2 fOrds) := by
  refine okD T.are_orders.F sc_are_orders (fun c cdv A' outer s H E hg hr => (dss_cons (ds_if (PW.pt (dw_or (dt_not (dt_val rfl (de_n (de_isi (pe_callB (kIsi K) (by rfl) T.nb_isinstance (by decide +kernel) (pa_cons (de_n (de_var (pv 1))) (pa_cons (pe_bltn (v := .ty "tuple") (u := .type "tuple") rfl (T.nb_tuple) (by decide +kernel) rfl) pa_nil))))))) (dw_or1 (dt_val rfl (de_ln (de_lc (own := [("order", 3)]) rfl sc_are_orders.nd (di_tup rfl (de_var (pv 1))) (blkOk_by (N := ["rests", "thing", "told", "order", "start", "goal", "ends", "rest", "value", "_"]) (sc := defScope sare_orders) (by decide +kernel)) (fun _ _ _ _ _ => (dg_name (pg_name (i := 3) sc_are_orders.nd rfl (by first | exact Or.inl rfl | exact Or.inr rfl)))) (fun _ _ _ _ _ => (dts_one (dt_not (dt_val rfl (de_n (de_call (pe_callG G_is_tuple_of hg (hr.mono (by first | decide | omega)) rfl T._is_tuple_of.g T._is_tuple_of.F.kp T._is_tuple_of.b (da_cons (de_var (pv 3)) (da_cons (de_c pe_int (fun _ => .int _)) da_nil))))))))) (fun _ _ _ _ _ => (de_var (pv 3))) (by decide))))))) (dss_one (ds_ret (de_n (de_c pe_bl (fun _ => .bl _))))) dss_nil)
      (dss_cons (ds_if (dt_val rfl (de_ln (de_lc (own := [("start", 4), ("goal", 5), ("ends", 6)]) rfl sc_are_orders.nd (di_tup rfl (de_var (pv 1))) (blkOk_by (N := ["rests", "thing", "told", "order", "start", "goal", "ends", "rest", "value", "_"]) (sc := defScope sare_orders) (by decide +kernel)) (fun _ _ _ _ _ => (dg_tup (n := 3) rfl rfl (dgs_cons (dg_name (pg_name (i := 4) sc_are_orders.nd rfl (by first | exact Or.inl rfl | exact Or.inr rfl))) (dgs_cons (dg_name (pg_name (i := 5) sc_are_orders.nd rfl (by first | exact Or.inl rfl | exact Or.inr rfl))) (dgs_cons (dg_name (pg_name (i := 6) sc_are_orders.nd rfl (by first | exact Or.inl rfl | exact Or.inr rfl))) dgs_nil))))) (fun _ _ _ _ _ => (dts_one (PW.pt (dw_or (dt_cmp (op_eqQ (un66 hr)) od_eq (de_n (de_var (pv 4))) (de_n (de_var (pv 5))) (nomark _)) (dw_or1 (dt_not (dt_val rfl (de_n (de_isi (pe_callB (kIsi K) (by rfl) T.nb_isinstance (by decide +kernel) (pa_cons (de_n (de_var (pv 6))) (pa_cons (pe_bltn (v := .ty "tuple") (u := .type "tuple") rfl (T.nb_tuple) (by decide +kernel) rfl) pa_nil)))))))))))) (fun _ _ _ _ _ => (de_var (pv 4))) (by decide)))) (dss_one (ds_ret (de_n (de_c pe_bl (fun _ => .bl _))))) dss_nil)
      (dss_cons (ds_setLc2V (i := 2) (own := [("start", 4), ("goal", 5), ("ends", 6), ("rest", 7)]) (vs1 := [7]) rfl sc_are_orders.nd rfl rfl (sw_true rfl rfl rfl (by decide +kernel)) (di_tup rfl (de_var (pv 1))) (blkOk_by (N := ["rests", "thing", "told", "order", "start", "goal", "ends", "rest", "value", "_"]) (sc := defScope sare_orders) (by decide +kernel)) (by decide) (fun _ _ _ _ _ => (dg_tup (n := 3) rfl rfl (dgs_cons (dg_name (pg_name (i := 4) sc_are_orders.nd rfl (by first | exact Or.inl rfl | exact Or.inr rfl))) (dgs_cons (dg_name (pg_name (i := 5) sc_are_orders.nd rfl (by first | exact Or.inl rfl | exact Or.inr rfl))) (dgs_cons (dg_name (pg_name (i := 6) sc_are_orders.nd rfl (by first | exact Or.inl rfl | exact Or.inr rfl))) dgs_nil))))) (fun _ _ _ _ _ => dts_nil) (fun _ _ _ _ _ => (di_tup rfl (de_op op_addD od_add (de_n (de_tup (da_cons (de_var (pv 4)) (da_cons (de_var (pv 5)) da_nil)))) (de_n (de_var (pv 6)))))) (fun _ _ _ _ _ => (dg_name (pg_name (i := 7) sc_are_orders.nd rfl (by first | exact Or.inl rfl | exact Or.inr rfl)))) (fun _ _ _ _ _ => dts_nil) (fun _ _ _ _ _ => (de_var (pv 7))) (by decide) (by decide))
      (dss_cons (ds_if (dt_val rfl (de_ln (de_lc (own := [("rest", 7)]) rfl sc_are_orders.nd (di_list rfl (de_var (pv 2))) (blkOk_by (N := ["rests", "thing", "told", "order", "start", "goal", "ends", "rest", "value", "_"]) (sc := defScope sare_orders) (by decide +kernel)) (fun _ _ _ _ _ => (dg_name (pg_name (i := 7) sc_are_orders.nd rfl (by first | exact Or.inl rfl | exact Or.inr rfl)))) (fun _ _ _ _ _ => (dts_one (dt_cmp (op_notInG (un66 hr)) od_in (de_n (de_var (pv 7))) (de_n (de_var (pv 0))) rfl))) (fun _ _ _ _ _ => (de_var (pv 7))) (by decide)))) (dss_one (ds_ret (de_n (de_c pe_bl (fun _ => .bl _))))) dss_nil)
      (dss_cons (ds_if (dt_val rfl (de_ln (de_lc2 (own := [("rest", 7), ("value", 8)]) (vs1 := [8]) rfl sc_are_orders.nd (di_list rfl (de_var (pv 2))) (blkOk_by (N := ["rests", "thing", "told", "order", "start", "goal", "ends", "rest", "value", "_"]) (sc := defScope sare_orders) (by decide +kernel)) (by decide) (fun _ _ _ _ _ => (dg_name (pg_name (i := 7) sc_are_orders.nd rfl (by first | exact Or.inl rfl | exact Or.inr rfl)))) (fun _ _ _ _ _ => dts_nil) (fun _ _ _ _ _ => (di_tup rfl (de_var (pv 7)))) (fun _ _ _ _ _ => (dg_name (pg_name (i := 8) sc_are_orders.nd rfl (by first | exact Or.inl rfl | exact Or.inr rfl)))) (fun _ _ _ _ _ => (dts_one (PW.pt (dw_or (dt_cmp op_isG od_is (de_n (de_var (pv 8))) (de_n (de_c pe_bl (fun _ => .bl _))) (nomark _)) (dw_or1 (dt_cmp op_isG od_is (de_n (de_var (pv 8))) (de_n (de_c pe_bl (fun _ => .bl _))) (nomark _))))))) (fun _ _ _ _ _ => (de_var (pv 8))) (by decide) (by decide)))) (dss_one (ds_ret (de_n (de_c pe_bl (fun _ => .bl _))))) dss_nil)
      (dss_one (ds_ret (de_n (de_and (de_not rfl (de_ln (de_lc (own := [("_", 9), ("_", 9), ("ends", 6)]) rfl sc_are_orders.nd (di_tup rfl (de_var (pv 1))) (blkOk_by (N := ["rests", "thing", "told", "order", "start", "goal", "ends", "rest", "value", "_"]) (sc := defScope sare_orders) (by decide +kernel)) (fun _ _ _ _ _ => (dg_tup (n := 3) rfl rfl (dgs_cons (dg_name (pg_name (i := 9) sc_are_orders.nd rfl (by first | exact Or.inl rfl | exact Or.inr rfl))) (dgs_cons (dg_name (pg_name (i := 9) sc_are_orders.nd rfl (by first | exact Or.inl rfl | exact Or.inr rfl))) (dgs_cons (dg_name (pg_name (i := 6) sc_are_orders.nd rfl (by first | exact Or.inl rfl | exact Or.inr rfl))) dgs_nil))))) (fun _ _ _ _ _ => (dts_one (dt_not (dt_val rfl (de_n (de_call (pe_callG Gascends hg (hr.mono (by first | decide | omega)) rfl T.ascends.g T.ascends.F.kp T.ascends.b (da_cons (de_var (pv 6)) da_nil)))))))) (fun _ _ _ _ _ => (de_var (pv 6))) (by decide)))) (de_one (de_call (pe_callG Gascends hg (hr.mono (by first | decide | omega)) rfl T.ascends.g T.ascends.F.kp T.ascends.b (da_cons (de_l (de_lc (own := [("order", 3)]) rfl sc_are_orders.nd (di_tup rfl (de_var (pv 1))) (blkOk_by (N := ["rests", "thing", "told", "order", "start", "goal", "ends", "rest", "value", "_"]) (sc := defScope sare_orders) (by decide +kernel)) (fun _ _ _ _ _ => (dg_name (pg_name (i := 3) sc_are_orders.nd rfl (by first | exact Or.inl rfl | exact Or.inr rfl)))) (fun _ _ _ _ _ => dts_nil) (fun _ _ _ _ _ => (de_slT (kSlT K) (de_n (de_var (pv 3))) do_none (do_some (de_n (de_c pe_int (fun _ => .int _)))))) (by decide))) da_nil)))))))))))))) ?_
  intro as q hl h
  unfold fOrds at h
  split at h
  · rename_i ds d
    obtain ⟨Rs, rfl, ⟨hw, hI, hE⟩, h⟩ := h
    simp only [dRet, dRetN, dIf, dSeq, dDrop, dAsg, gNm, gTp, gsNil, gsCons, dAsgL, dApp, dExt, dIns, dPopAt, dSetIx, dPar, dAug, dNext, mVar, mVarN, mC, m1, m2, mTst, mChain, mNot, mAnd, mOr, mAndV, mOrV, mNotV, mIf, mNil, mCons, mBag, Du.dataOf, mTup, mLst, mB, mCall, mIsi, mIsi2, fAdd, fI, fI0, fMul, fB, fEq, fNe, fIn, fGeD, fIs, isBd, fIsN, isNd, fNeg, fIx, mSlL, mSlT, mNoP, mPart, fLen, fAbs, fInt, fMin2, fTuple, fList, fAll, fAny, fRepr, miL, miT, miR1, miR2, miEn, miZip, miZip3, mRow, wipeE, dFor, mYes, Du.envOf, Option.map_some, Option.map_none, List.map_cons, List.map_nil, List.length_cons, List.length_nil, Nat.sub_self, Nat.add_sub_cancel, Nat.reduceAdd, Nat.reduceSub, List.replicate, List.cons_append, List.nil_append, List.append_nil, List.getElem?_cons_zero, List.getElem?_cons_succ, List.getElem?_nil, List.set_cons_zero, List.set_cons_succ, fTupOf, isK_tuple, truD]
    refine ⟨⟨rfl, okI_isi hI⟩, ?_⟩
    cases d with
    | tuple os =>
      have hwc : wq (.tuple os) = 4 + wqs os := by rw [wq]
      have hlc := wqs_len os
      have hI' : okIs os = true := hI
      rw [isK_tuple]
      have hb : ordsOk Rs (.tuple os) = ((os.all fun o => isTup o 3) && (os.all ordA && ((os.flatMap toldO).all (inRs Rs) && (((os.flatMap toldO).all fun d => (unT d).all fun x => !isTru x) && ((os.all fun o => ups (unT (o3 o))) && ups (os.map duoO)))))) := rfl
      rw [hb] at h
      have no : ∀ b : Bool, b = false → q (.bool b) → q (.bool false) := fun b e z => by rw [e] at z; exact z
      refine tru_lc os (fun d => [.v (.tuple (Rs.map conD)), .v (.tuple os), .un, .v d, .un, .un, .un, .un, .un, .un]) (fun d => !isTup d 3) id (fun k' hk' => hk') (by omega) (fun d hd k' hk' => hk') (fun d hd k' hk' => ⟨rfl, okI_isi (okIs_mem hI' d hd), hk'⟩) (fun d hd _ k' hk' => hk') ?_
      cases f1 : (os.filter fun d => !isTup d 3) with
      | cons d0 r0 =>
        rw [all_not f1] at h
        exact h
      | nil =>
      have a1 := all_yes f1
      rw [a1, Bool.true_and] at h
      have ht : ∀ o ∈ os, isTup o 3 = true := fun o ho => List.all_eq_true.mp a1 o ho
      have ex : ∀ o ∈ os, ∃ a b c, o = .tuple [a, b, c] ∧ isiOk c = true := fun o ho => by
        obtain ⟨a, b, c, rfl⟩ := tup3 (ht o ho)
        exact ⟨a, b, c, rfl, okI_isi (okIs_mem (show okIs [a, b, c] = true from okIs_mem hI' _ ho) c (by simp))⟩
      refine tru_lc os (fun d => [.v (.tuple (Rs.map conD)), .v (.tuple os), .un, .un, .v (o1 d), .v (o2 d), .v (o3 d), .un, .un, .un]) (fun d => !ordA d) o1 (fun k' hk' => hk') (by omega) (fun d hd k' hk' => ?_) (fun d hd k' hk' => ?_) (fun d hd _ k' hk' => ?_) ?_
      · obtain ⟨a, b, c, rfl, _⟩ := ex d hd
        exact ⟨rfl, hk'⟩
      · obtain ⟨a, b, c, rfl, ic⟩ := ex d hd
        refine ⟨hE _ hd (ht _ hd), ?_⟩
        have hk2 : k' (!(!PyData.eqv a b && On.isTuple c)) := hk'
        show (match PyData.eqv a b with | true => k' true | false => (tyN "tuple" = true ∧ isiOk c = true) ∧ k' (!isK c "tuple"))
        rw [isK_tuple]
        cases e : PyData.eqv a b with
        | true => rw [e] at hk2; exact hk2
        | false => rw [e] at hk2; exact ⟨⟨rfl, ic⟩, hk2⟩
      · obtain ⟨a, b, c, rfl, _⟩ := ex d hd
        exact hk'
      cases f2 : (os.filter fun d => !ordA d) with
      | cons d0 r0 =>
        rw [all_not f2] at h
        exact h
      | nil =>
      have a2 := all_yes f2
      rw [a2, Bool.true_and] at h
      have ex2 : ∀ o ∈ os, ∃ a b es, o = .tuple [a, b, .tuple es] := fun o ho => by
        obtain ⟨a, b, c, rfl, _⟩ := ex o ho
        have z := List.all_eq_true.mp a2 _ ho
        unfold ordA at z
        rw [Bool.and_eq_true] at z
        have z2 : On.isTuple c = true := z.2
        cases c with
        | tuple es => exact ⟨a, b, es, rfl⟩
        | _ => cases z2
      have s1 := told_sum ht
      refine go2_sum (fun d => [.v (.tuple (Rs.map conD)), .v (.tuple os), .un, .un, .v (o1 d), .v (o2 d), .v (o3 d), .un, .un, .un]) toldO (fun d x => [.v (.tuple (Rs.map conD)), .v (.tuple os), .un, .un, .v (o1 d), .v (o2 d), .v (o3 d), .v x, .un, .un]) (fun _ x => x) (fun _ _ => true) os [] _ (by rw [List.length_nil]; omega) (fun d hd k' hk' => ?_) (fun d hd k' hk' => hk') (fun d hd => rfl) (fun d hd k' hk' => ?_) (fun d hd x hx k' hk' => hk') (fun d hd x hx k' hk' => hk') (fun d hd x hx _ k' hk' => hk') ?_
      · obtain ⟨a, b, es, rfl⟩ := ex2 d hd
        exact ⟨rfl, hk'⟩
      · obtain ⟨a, b, es, rfl⟩ := ex2 d hd
        refine ⟨(show 2 ≤ 100000 by decide), ?_, hk'⟩
        have w1 := wqs_mem hd
        have w2 : wq (.tuple [a, b, .tuple es]) = 4 + (wq a + 2 + (wq b + 2 + (4 + wqs es + 2 + 0))) := by rw [wq, wqs, wqs, wqs, wqs, wq]
        have w3 := wqs_len es
        show 2 + es.length ≤ 100000
        omega
      have et : (([] : List PyData) ++ os.flatMap fun d => ((toldO d).filter fun _ => true).map fun x => x) = os.flatMap toldO := by
        rw [List.nil_append]
        refine congrArg (fun f => os.flatMap f) (funext fun d => ?_)
        rw [List.filter_eq_self.mpr fun _ _ => rfl]
        exact List.map_id' _
      rw [et]
      generalize hT : os.flatMap toldO = Ts at h s1
      have s2 := wqs_told ht
      rw [hT] at s2
      have s3 := vals_sum (ds := Ts)
      refine tru_lc Ts (fun d => [.v (.tuple (Rs.map conD)), .v (.tuple os), .v (.list Ts), .un, .un, .un, .un, .v d, .un, .un]) (fun d => !inRs Rs d) id (fun k' hk' => hk') (by omega) (fun d hd k' hk' => hk') (fun d hd k' hk' => ?_) (fun d hd _ k' hk' => hk') ?_
      · refine ⟨okIn_rests Rs d, ?_⟩
        show k' (true != inRs Rs d)
        rw [Bool.true_bne]
        exact hk'
      cases f3 : (Ts.filter fun d => !inRs Rs d) with
      | cons d0 r0 =>
        rw [all_not f3] at h
        exact h
      | nil =>
      have a3 := all_yes f3
      rw [a3, Bool.true_and] at h
      refine go2_sum (fun d => [.v (.tuple (Rs.map conD)), .v (.tuple os), .v (.list Ts), .un, .un, .un, .un, .v d, .un, .un]) unT (fun d x => [.v (.tuple (Rs.map conD)), .v (.tuple os), .v (.list Ts), .un, .un, .un, .un, .v d, .v x, .un]) (fun _ x => x) (fun _ x => isTru x) Ts [] _ (by rw [List.length_nil]; omega) (fun d hd k' hk' => hk') (fun d hd k' hk' => hk') (fun d hd => rfl) (fun d hd k' hk' => ?_) (fun d hd x hx k' hk' => hk') (fun d hd x hx k' hk' => ?_) (fun d hd x hx _ k' hk' => hk') ?_
      · obtain ⟨xs, rfl⟩ := inRs_tup (List.all_eq_true.mp a3 d hd)
        exact hk'
      · show (match (false != isBd true x) with | true => k' true | false => k' (false != isBd false x))
        have hk2 : k' (isBd true x || isBd false x) := hk'
        rw [Bool.false_bne, Bool.false_bne]
        cases e : isBd true x with
        | true => rw [e] at hk2; exact hk2
        | false => rw [e] at hk2; exact hk2
      have e4 : (([] : List PyData) ++ Ts.flatMap fun d => ((unT d).filter fun x => isTru x).map fun x => x).isEmpty = Ts.all fun d => (unT d).all fun x => !isTru x := by
        rw [List.nil_append, flat_empty]
        refine congrArg (fun f => Ts.all f) (funext fun d => ?_)
        rw [show ((unT d).filter fun x => isTru x).map (fun x => x) = (unT d).filter fun x => isTru x from List.map_id' _, filter_none]
      show (match (!(([] : List PyData) ++ Ts.flatMap fun d => ((unT d).filter fun x => isTru x).map fun x => x).isEmpty) with | true => q (.bool false) | false => _)
      rw [e4]
      cases a4 : (Ts.all fun d => (unT d).all fun x => !isTru x) with
      | false =>
        rw [a4] at h
        exact h
      | true =>
      rw [a4, Bool.true_and] at h
      have con : ∀ d ∈ Ts, ∃ r ∈ Rs, d = conD r := fun d hd => inRs_con (List.all_eq_true.mp a3 d hd) (List.all_eq_true.mp a4 d hd)
      have con3 : ∀ o ∈ os, ∃ a b : List Int, ∃ es, o = .tuple [conD a, conD b, .tuple es] ∧ (∀ e ∈ es, numT e = true) := fun o ho => by
        obtain ⟨a, b, es, rfl⟩ := ex2 o ho
        have m : ∀ x ∈ toldO (.tuple [a, b, .tuple es]), x ∈ Ts := fun x hx => by
          rw [← hT]
          exact List.mem_flatMap.mpr ⟨_, ho, hx⟩
        obtain ⟨ra, _, rfl⟩ := con a (m a (by show a ∈ a :: b :: es; simp))
        obtain ⟨rb, _, rfl⟩ := con b (m b (by show b ∈ conD ra :: b :: es; simp))
        refine ⟨ra, rb, es, rfl, fun e he => ?_⟩
        obtain ⟨r, _, rfl⟩ := con e (m e (by show e ∈ conD ra :: conD rb :: es; simp [he]))
        exact numT_con r
      refine not_lc os (fun d => [.v (.tuple (Rs.map conD)), .v (.tuple os), .v (.list Ts), .un, .un, .un, .v (o3 d), .un, .un, .v (o2 d)]) (fun d => !ups (unT (o3 d))) o3 (fun k' hk' => hk') (by omega) (fun d hd k' hk' => ?_) (fun d hd k' hk' => ?_) (fun d hd _ k' hk' => ?_) ?_
      · obtain ⟨a, b, es, rfl, _⟩ := con3 d hd
        exact ⟨rfl, hk'⟩
      · obtain ⟨a, b, es, rfl, hn⟩ := con3 d hd
        have w1 := wqs_mem hd
        have w2 : wq (.tuple [conD a, conD b, .tuple es]) = 4 + (wq (conD a) + 2 + (wq (conD b) + 2 + (4 + wqs es + 2 + 0))) := by rw [wq, wqs, wqs, wqs, wqs, wq]
        have w3 := wqs_len es
        exact ⟨rfl, ⟨okUp_nums hn, by omega⟩, hk'⟩
      · obtain ⟨a, b, es, rfl, _⟩ := con3 d hd
        exact hk'
      rw [filter_none]
      have e5 : (os.all fun d => !(!ups (unT (o3 d)))) = os.all fun o => ups (unT (o3 o)) := by
        refine congrArg (fun f => os.all f) (funext fun d => ?_)
        rw [Bool.not_not]
      rw [e5]
      cases a5 : (os.all fun o => ups (unT (o3 o))) with
      | false =>
        rw [a5] at h
        exact h
      | true =>
      rw [a5, Bool.true_and] at h
      refine mLc_pure os (fun d => [.v (.tuple (Rs.map conD)), .v (.tuple os), .v (.list Ts), .v d, .un, .un, .un, .un, .un, .un]) (fun _ => true) duoO (fun k' hk' => hk') (by omega) (fun d hd k' hk' => hk') (fun d hd k' hk' => hk') (fun d hd _ k' hk' => ?_) ?_
      · obtain ⟨a, b, es, rfl, _⟩ := con3 d hd
        exact hk'
      rw [List.filter_eq_self.mpr fun _ _ => rfl]
      refine ⟨trivial, ⟨okUp_of fun d hd e he => ?_, by rw [List.length_map]; omega⟩, h⟩
      obtain ⟨x, hx, rfl⟩ := List.mem_map.mp hd
      obtain ⟨y, hy, rfl⟩ := List.mem_map.mp he
      obtain ⟨a, b, es, rfl, _⟩ := con3 x hx
      obtain ⟨a', b', es', rfl, _⟩ := con3 y hy
      exact ge_duo a b a' b'
    | _ => exact h
  · exact h.elim
end
end L19

namespace L19
open PySem PySem.Spec PyProof.Rows L2 On K19 Du Fo M16 M17
/-! ### drawn tasks are tasks -/
def taskD (b : List Pl) (Rs : List Vx) (L : List Od) : PyData := .tuple [.tuple (benD b), .tuple (Rs.map conD), .tuple (L.map ordD)]
structure OrdIn (Rs : List Vx) (o : Od) : Prop where
  s : o.1.1 ∈ Rs
  g : o.1.2 ∈ Rs
  ne : o.1.1 ≠ o.1.2
  e : ∀ x ∈ o.2, x ∈ Rs
  nd : o.2.Nodup
  asc : o.2.Pairwise fun a c => TS.code 6 a ≤ TS.code 6 c
  l : o.2.length ≤ 8
structure Ben (b : List Pl) : Prop where
  ok : Bok b
  pl : ∀ p ∈ b, PlOk p
  ne : b ≠ []
structure TaskOk (b : List Pl) (Rs : List Vx) (L : List Od) : Prop where
  ben : Ben b
  rs : RestsOk (contents b) Rs
  os : ∀ o ∈ L, OrdIn Rs o
  up : L.Pairwise fun o r => k3 o < k3 r
  l : L.length ≤ 70
theorem Ben.dim {b : List Pl} (h : Ben b) {n : Vx} (hn : n ∈ contents b) : n.length = b.length ∧ TS.Bd 6 n := ⟨(con_of h.ok hn).len, (con_of h.ok hn).bd⟩
theorem TaskOk.rd {b : List Pl} {Rs : List Vx} {L : List Od} (h : TaskOk b Rs L) : ∀ n ∈ Rs, n.length = b.length ∧ TS.Bd 6 n := fun n hn => h.ben.dim (h.rs.sub n hn)
theorem ordOk_in {b : List Pl} {Rs : List Vx} (hb : Ben b) (hr : RestsOk (contents b) Rs) {o : Od} (h : OrdIn Rs o) : OrdOk b.length o where
  p := ⟨hb.dim (hr.sub _ h.s), hb.dim (hr.sub _ h.g)⟩
  e := fun x hx => hb.dim (hr.sub _ (h.e x hx))
  l := h.l
theorem place_ok {p : Pl} (h : PlOk p) : placeOk (plD p) = true := by
  show ((decide ((2 : Int) ≤ (p.1 : Int)) && decide ((p.1 : Int) ≤ 6)) && ((p.2.map On.pairD).all (mvOk (p.1 : Int)) && asc2 (p.2.map On.pairD))) = true
  have lo := h.lo
  rw [decide_eq_true (by omega), decide_eq_true (by omega), Bool.true_and, Bool.true_and, Bool.and_eq_true]
  refine ⟨List.all_eq_true.mpr fun d hd => ?_, ?_⟩
  · obtain ⟨q, hq, rfl⟩ := List.mem_map.mp hd
    obtain ⟨a1, a2, a3⟩ := mem_ev.mp (h.mv q hq)
    show ((decide (0 ≤ q.1) && decide (q.1 < (p.1 : Int))) && ((decide (0 ≤ q.2) && decide (q.2 < (p.1 : Int))) && decide (q.1 ≠ q.2))) = true
    rw [decide_eq_true a1.1, decide_eq_true a1.2, decide_eq_true a2.1, decide_eq_true a2.2, decide_eq_true a3]
    rfl
  · unfold asc2
    rw [List.all_eq_true]
    intro k hk
    rw [List.mem_range, List.length_map] at hk
    have e1 : (p.2.map On.pairD).getD k .none = On.pairD (p.2[k]'(by omega)) := getD_of (by rw [List.getElem?_map, List.getElem?_eq_getElem (by omega)]; rfl)
    have e2 : (p.2.map On.pairD).getD (k + 1) .none = On.pairD (p.2[k + 1]'(by omega)) := getD_of (by rw [List.getElem?_map, List.getElem?_eq_getElem (by omega)]; rfl)
    rw [e1, e2]
    have z := List.pairwise_iff_getElem.mp h.up k (k + 1) (by omega) (by omega) (by omega)
    generalize p.2[k] = x at z ⊢
    generalize p.2[k + 1] = y at z ⊢
    show (decide (x.1 < y.1) || (decide (x.1 = y.1) && decide (x.2 < y.2))) = true
    rcases z with z | z
    · rw [decide_eq_true z]
      rfl
    · rw [decide_eq_true z.1, decide_eq_true z.2, Bool.true_and, Bool.or_true]
theorem bench_ok {b : List Pl} (h : Ben b) : benchOk (.tuple (benD b)) = true := by
  show (decide (0 < (benD b).length) && (benD b).all placeOk) = true
  rw [decide_eq_true (by unfold benD; rw [List.length_map]; exact List.length_pos_iff.mpr h.ne), Bool.true_and, List.all_eq_true]
  intro d hd
  obtain ⟨p, hp, rfl⟩ := List.mem_map.mp hd
  exact place_ok (h.pl p hp)
theorem content_ok {b : List Pl} {n : Vx} (h : n ∈ contents b) : contentOk (benD b) (conD n) = true := by
  obtain ⟨h1, h2⟩ := mem_conts.mp h
  have lb : (benD b).length = b.length := List.length_map ..
  show (decide ((n.map PyData.int).length = (benD b).length) && (List.range (benD b).length).all fun i => isBelow (plM ((benD b).getD i .none)) ((n.map PyData.int).getD i .none)) = true
  rw [decide_eq_true (by rw [List.length_map, lb]; exact h1), Bool.true_and, List.all_eq_true]
  intro i hi
  rw [List.mem_range, lb] at hi
  obtain ⟨c1, c2⟩ := h2 i hi
  have e1 : (benD b).getD i .none = plD (b.getD i (0, [])) := getD_of (by
    unfold benD
    rw [List.getElem?_map, List.getElem?_eq_getElem hi, List.getD_eq_getElem?_getD, List.getElem?_eq_getElem hi]
    rfl)
  have e2 : (n.map PyData.int).getD i .none = .int (n.getD i 0) := getD_of (by
    rw [List.getElem?_map, List.getElem?_eq_getElem (by omega), List.getD_eq_getElem?_getD, List.getElem?_eq_getElem (by omega)]
    rfl)
  rw [e1, e2]
  show (decide (0 ≤ n.getD i 0) && decide (n.getD i 0 < ((b.getD i (0, [])).1 : Int))) = true
  have c2' : n.getD i 0 < ((b.getD i (0, [])).1 : Int) := c2
  rw [decide_eq_true c1, decide_eq_true c2']
  rfl
theorem cons_ok {b : List Pl} (hb : Ben b) {Rs : List Vx} (hs : ∀ x ∈ Rs, x ∈ contents b) (nd : Rs.Nodup) (asc : Rs.Pairwise fun a c => TS.code 6 a ≤ TS.code 6 c) : consOk (benD b) (.tuple (Rs.map conD)) = true := by
  show ((Rs.map conD).all (contentOk (benD b)) && ups (Rs.map conD)) = true
  rw [Bool.and_eq_true]
  refine ⟨List.all_eq_true.mpr fun d hd => ?_, ups_cons (fun n hn => hb.dim (hs n hn)) (up_of (fun n hn => hb.dim (hs n hn)) nd asc)⟩
  obtain ⟨n, hn, rfl⟩ := List.mem_map.mp hd
  exact content_ok (hs n hn)
theorem ords_ok {b : List Pl} {Rs : List Vx} {L : List Od} (h : TaskOk b Rs L) : ordsOk Rs (.tuple (L.map ordD)) = true := by
  have told : ∀ d ∈ (L.map ordD).flatMap toldO, ∃ r ∈ Rs, d = conD r := fun d hd => by
    obtain ⟨x, hx, hd⟩ := List.mem_flatMap.mp hd
    obtain ⟨o, ho, rfl⟩ := List.mem_map.mp hx
    have i := h.os o ho
    have hd : d ∈ conD o.1.1 :: conD o.1.2 :: o.2.map conD := hd
    rcases List.mem_cons.mp hd with rfl | hd
    · exact ⟨_, i.s, rfl⟩
    · rcases List.mem_cons.mp hd with rfl | hd
      · exact ⟨_, i.g, rfl⟩
      · obtain ⟨r, hr, rfl⟩ := List.mem_map.mp hd
        exact ⟨_, i.e r hr, rfl⟩
  show (((L.map ordD).all fun o => isTup o 3) && ((L.map ordD).all ordA && (((L.map ordD).flatMap toldO).all (inRs Rs) && ((((L.map ordD).flatMap toldO).all fun d => (unT d).all fun x => !isTru x) && (((L.map ordD).all fun o => ups (unT (o3 o))) && ups ((L.map ordD).map duoO)))))) = true
  simp only [Bool.and_eq_true]
  refine ⟨List.all_eq_true.mpr fun d hd => ?_, List.all_eq_true.mpr fun d hd => ?_, List.all_eq_true.mpr fun d hd => ?_, List.all_eq_true.mpr fun d hd => ?_, List.all_eq_true.mpr fun d hd => ?_, ?_⟩
  · obtain ⟨o, ho, rfl⟩ := List.mem_map.mp hd
    rfl
  · obtain ⟨o, ho, rfl⟩ := List.mem_map.mp hd
    show (!PyData.eqv (conD o.1.1) (conD o.1.2) && true) = true
    rw [eqv_con, decide_eq_false (h.os o ho).ne]
    rfl
  · obtain ⟨r, hr, rfl⟩ := told d hd
    unfold inRs
    rw [any_con, decide_eq_true hr]
  · obtain ⟨r, hr, rfl⟩ := told d hd
    show ((r.map PyData.int).all fun x => !isTru x) = true
    rw [List.all_map, List.all_eq_true]
    intro i _
    rfl
  · obtain ⟨o, ho, rfl⟩ := List.mem_map.mp hd
    have i := h.os o ho
    exact ups_cons (fun n hn => h.rd n (i.e n hn)) (up_of (fun n hn => h.rd n (i.e n hn)) i.nd i.asc)
  · rw [List.map_map]
    refine ups_pw (f := duoO ∘ ordD) (h.up.imp_of_mem fun {a c} ha hc z => ?_)
    have pa := (ordOk_in h.ben h.rs (h.os a ha)).p
    have pc := (ordOk_in h.ben h.rs (h.os c hc)).p
    have z' : k2 a.1 < k2 c.1 := z
    show geX (duD a.1) (duD c.1) = some false
    rw [ge_du h.ben.ok.len pa pc, decide_eq_true z']
    rfl
theorem unc_con (Rs : List Vx) : (Rs.map conD).map unC = Rs := by
  rw [List.map_map]
  exact (List.map_congr_left (g := id) (f := unC ∘ conD) fun n _ => unC_con n).trans (List.map_id Rs)
theorem task_ok {b : List Pl} {Rs : List Vx} {L : List Od} (h : TaskOk b Rs L) : taskOk (taskD b Rs L) = true := by
  show (benchOk (.tuple (benD b)) && (consOk (benD b) (.tuple (Rs.map conD)) && (decide (0 < (Rs.map conD).length) && ordsOk ((Rs.map conD).map unC) (.tuple (L.map ordD))))) = true
  rw [bench_ok h.ben, cons_ok h.ben h.rs.sub h.rs.nd h.rs.asc, unc_con, ords_ok h, decide_eq_true (by rw [List.length_map]; exact List.length_pos_iff.mpr h.rs.ne)]
  rfl
theorem Sz.ben {b : List Pl} (h : Ben b) : Sz 4 5104 (.tuple (benD b)) := by
  refine (Sz.tup (k := 3) (N := 1014) (m := 5) (fun d hd => ?_) (by unfold benD; rw [List.length_map]; exact h.ok.len)).mono (Nat.le_refl _) (by decide)
  obtain ⟨p, hp, rfl⟩ := List.mem_map.mp hd
  have pl := h.pl p hp
  have lo := pl.lo
  have s1 : Sz 2 940 (.tuple (p.2.map On.pairD)) := (Sz.tup (k := 1) (N := 24) (m := 36) (fun d hd => by
    obtain ⟨q, hq, rfl⟩ := List.mem_map.mp hd
    obtain ⟨a1, a2, _⟩ := mem_ev.mp (pl.mv q hq)
    exact Sz.tup (k := 0) (N := 8) (m := 2) (Sz.two (Sz.int (by omega)) (Sz.int (by omega))) (Nat.le_refl _)) (by rw [List.length_map]; exact h.ok.ml p hp)).mono (Nat.le_refl _) (by decide)
  have s0 : Sz 2 940 (.int (p.1 : Int)) := (Sz.int (by omega)).mono (by decide) (by decide)
  refine ⟨(Sz.tup (m := 2) (Sz.two s0 s1) (Nat.le_refl _)).tm, (Sz.tup (m := 2) (Sz.two s0 s1) (Nat.le_refl _)).dp, ?_, ?_, (Sz.tup (m := 2) (Sz.two s0 s1) (Nat.le_refl _)).oI⟩
  · have := s1.wd
    show 4 + (8 + 2 + (wide (.tuple (p.2.map On.pairD)) + 2 + 0)) ≤ _
    omega
  · have := s1.wq
    have w0 : On.wq (.int (p.1 : Int)) ≤ 8 := (Sz.int (i := (p.1 : Int)) (by omega)).wq
    show On.wq (.tuple [.int (p.1 : Int), .tuple (p.2.map On.pairD)]) ≤ _
    rw [On.wq, wqs, wqs, wqs]
    omega
theorem Sz.rests {d : Nat} (hd : d ≤ 5) {Rs : List Vx} (h : ∀ n ∈ Rs, n.length = d ∧ TS.Bd 6 n) (hl : Rs.length ≤ 8) : Sz 2 452 (.tuple (Rs.map conD)) := Sz.tup (m := 8) (fun x hx => by
    obtain ⟨n, hn, rfl⟩ := List.mem_map.mp hx
    exact Sz.con hd (h n hn)) (by rw [List.length_map]; exact hl)
/-- a task with so many orders -/
theorem Sz.task {b : List Pl} {Rs : List Vx} {L : List Od} (hb : Ben b) (hr : RestsOk (contents b) Rs) (ho : ∀ o ∈ L, OrdIn Rs o) (hl : L.length ≤ 12) : (tame (taskD b Rs L) = true ∧ (taskD b Rs L).depth ≤ 5) ∧ wide (taskD b Rs L) ≤ 30000 ∧ On.wq (taskD b Rs L) ≤ 30000 ∧ okI (taskD b Rs L) = true := by
  have s1 := Sz.ben hb
  have s2 := Sz.rests hb.ok.len (fun n hn => hb.dim (hr.sub n hn)) hr.len
  have s3 : Sz 4 16828 (.tuple (L.map ordD)) := Sz.tup (m := 12) (fun x hx => by
    obtain ⟨o, ho', rfl⟩ := List.mem_map.mp hx
    exact Sz.ord hb.ok.len (ordOk_in hb hr (ho o ho'))) (by rw [List.length_map]; exact hl)
  have s := Sz.tup (m := 3) (Sz.three (s1.mono (Nat.le_refl _) (by decide)) (s2.mono (by decide) (by decide)) s3) (Nat.le_refl _)
  refine ⟨⟨s.tm, s.dp⟩, ?_, ?_, s.oI⟩
  · have a1 := s1.wd
    have a2 := s2.wd
    have a3 := s3.wd
    show 4 + (wide (.tuple (benD b)) + 2 + (wide (.tuple (Rs.map conD)) + 2 + (wide (.tuple (L.map ordD)) + 2 + 0))) ≤ _
    omega
  · have a1 := s1.wq
    have a2 := s2.wq
    have a3 := s3.wq
    unfold taskD
    rw [On.wq, wqs, wqs, wqs, wqs]
    omega
/-! ### is_task -/
def t3 : PyData → PyData
  | .tuple [_, _, o] => o
  | _ => .none
def fTaskF : List DV → (PyData → Prop) → Prop := fun as k => match as with
  | [.v d] => (wq d ≤ 60000 ∧ okI d = true ∧ ∀ o ∈ unT (t3 d), isTup o 3 = true → (o1 o).canLay0 = true ∧ (o2 o).canLay0 = true ∧ min (o1 o).depth (o2 o).depth ≤ 60) ∧ k (.bool (taskOk d))
  | _ => False
section
variable {P : Program} {w : World} {K : PySem.W.Frag} {mg : Str → Option Value} {base : Heap} {A : Ads}
theorem ok_task (T : Txt K mg A) (G_is_tuple_of : FnG P w K mg base 1 A.a_is_tuple_of A.d_is_tuple_of ["thing", "many"] (spF K 2 fTupOf)) (Gis_bench : FnG P w K mg base 3 A.ais_bench A.dis_bench ["thing"] (spF K 1 (fPl benchOk))) (Gare_contents : FnG P w K mg base 2 A.aare_contents A.dare_contents ["bench", "thing"] (spF K 2 fAre)) (Gare_orders : FnG P w K mg base 2 A.aare_orders A.dare_orders ["rests", "thing"] (spF K 2 fOrds)) : FnG P w K mg base 4 A.ais_task A.dis_task ["thing"] (spF K 1 fTaskF) := by
  refine okD T.is_task.F sc_is_task (fun c cdv A' outer s H E hg hr => (dss_cons (ds_if (dt_not (dt_val rfl (de_n (de_call (pe_callG G_is_tuple_of hg (hr.mono (by first | decide | omega)) rfl T._is_tuple_of.g T._is_tuple_of.F.kp T._is_tuple_of.b (da_cons (de_var (pv 0)) (da_cons (de_c pe_int (fun _ => .int _)) da_nil))))))) (dss_one (ds_ret (de_n (de_c pe_bl (fun _ => .bl _))))) dss_nil)
      (dss_cons (ds_asg (de_var (pv 0)) (dg_tup (n := 3) rfl rfl (dgs_cons (dg_name (pg_name (i := 1) sc_is_task.nd rfl (by first | exact Or.inl rfl | exact Or.inr rfl))) (dgs_cons (dg_name (pg_name (i := 2) sc_is_task.nd rfl (by first | exact Or.inl rfl | exact Or.inr rfl))) (dgs_cons (dg_name (pg_name (i := 3) sc_is_task.nd rfl (by first | exact Or.inl rfl | exact Or.inr rfl))) dgs_nil)))))
      (dss_one (ds_ret (de_n (de_and (de_call (pe_callG Gis_bench hg (hr.mono (by first | decide | omega)) rfl T.is_bench.g T.is_bench.F.kp T.is_bench.b (da_cons (de_var (pv 1)) da_nil))) (de_and (de_call (pe_callG Gare_contents hg (hr.mono (by first | decide | omega)) rfl T.are_contents.g T.are_contents.F.kp T.are_contents.b (da_cons (de_var (pv 1)) (da_cons (de_var (pv 2)) da_nil)))) (de_and (de_cmp op_gt od_B (de_n (de_b cd_len (pe_callB (kLen K) (by rfl) T.nb_len PySem.boot_len (dan_cons (de_n (de_var (pv 2))) dan_nil)))) (de_n (de_c pe_int (fun _ => .int _))) (nomark _)) (de_one (de_call (pe_callG Gare_orders hg (hr.mono (by first | decide | omega)) rfl T.are_orders.g T.are_orders.F.kp T.are_orders.b (da_cons (de_var (pv 2)) (da_cons (de_var (pv 3)) da_nil)))))))))))))) ?_
  intro as q hl h
  unfold fTaskF at h
  split at h
  · rename_i d
    obtain ⟨⟨hw, hI, hE⟩, h⟩ := h
    simp only [dParL, mCallL, mCallB, dRev, bFor, bApp, dBack, mTab, mBack2, fSortE, dRet, dRetN, dIf, dSeq, dDrop, dAsg, gNm, gTp, gsNil, gsCons, dAsgL, dApp, dExt, dIns, dPopAt, dSetIx, dPar, dAug, dNext, mVar, mVarN, mC, m1, m2, mTst, mChain, mNot, mAnd, mOr, mAndV, mOrV, mNotV, mIf, mNil, mCons, mBag, Du.dataOf, mTup, mLst, mB, mCall, mIsi, mIsi2, mNotD, mTru, truD, fAdd, fI, fI0, fMul, fB, fEq, fNe, fIn, fGeD, fIs, isBd, fIsN, isNd, fNeg, fIx, mSlL, mSlT, mNoP, mPart, fLen, fAbs, fInt, fMin2, fTuple, fList, fAll, fAny, fRepr, miL, miT, miR1, miR2, miEn, miZip, miZip3, mRow, mLc, wipeE, dFor, mYes, Du.envOf, Option.map_some, Option.map_none, List.map_cons, List.map_nil, List.length_cons, List.length_nil, Nat.sub_self, Nat.add_sub_cancel, Nat.reduceAdd, Nat.reduceSub, List.replicate, List.cons_append, List.nil_append, List.append_nil, List.getElem?_cons_zero, List.getElem?_cons_succ, List.getElem?_nil, List.set_cons_zero, List.set_cons_succ, fTupOf]
    refine ⟨trivial, okI_isi hI, ?_⟩
    cases h1 : isTup d 3 with
    | false =>
      have e : taskOk d = false := by
        unfold taskOk
        split
        · cases h1
        · rfl
      rw [e] at h
      exact h
    | true =>
      obtain ⟨bd, rd, od, rfl⟩ := tup3 h1
      have w1 : wq (.tuple [bd, rd, od]) = 4 + (wq bd + 2 + (wq rd + 2 + (wq od + 2 + 0))) := by rw [wq, wqs, wqs, wqs, wqs]
      have im := okIs_mem (show okIs [bd, rd, od] = true from hI)
      refine ⟨rfl, trivial, ⟨by omega, im bd (by simp)⟩, ?_⟩
      have eT : taskOk (.tuple [bd, rd, od]) = (benchOk bd && (consOk (unT bd) rd && (decide (0 < (unT rd).length) && ordsOk ((unT rd).map unC) od))) := rfl
      rw [eT] at h
      cases h2 : benchOk bd with
      | false =>
        rw [h2] at h
        exact h
      | true =>
        rw [h2, Bool.true_and] at h
        obtain ⟨pds, rfl⟩ : ∃ pds, bd = .tuple pds := by
          cases bd with
          | tuple pds => exact ⟨pds, rfl⟩
          | _ => cases h2
        have hp : pds.all placeOk = true := by
          have z : (decide (0 < pds.length) && pds.all placeOk) = true := h2
          rw [Bool.and_eq_true] at z
          exact z.2
        refine ⟨trivial, ⟨hp, by omega, im rd (by simp)⟩, ?_⟩
        have h : q (PyData.bool (consOk pds rd && (decide (0 < (unT rd).length) && ordsOk ((unT rd).map unC) od))) := h
        cases h3 : consOk pds rd with
        | false =>
          rw [h3] at h
          exact h
        | true =>
          rw [h3, Bool.true_and] at h
          obtain ⟨rs, rfl⟩ : ∃ rs, rd = .tuple rs := by
            cases rd with
            | tuple rs => exact ⟨rs, rfl⟩
            | _ => cases h3
          have hc : rs.all (contentOk pds) = true := by
            have z : (rs.all (contentOk pds) && ups rs) = true := h3
            rw [Bool.and_eq_true] at z
            exact z.1
          have er : rs = (rs.map unC).map conD := by
            rw [List.map_map]
            refine ((List.map_congr_left (g := conD ∘ unC) (f := id) fun x hx => ?_).symm.trans (List.map_id rs)).symm
            obtain ⟨n, rfl, _⟩ := content_nums (List.all_eq_true.mp hc x hx)
            show conD n = conD (unC (conD n))
            rw [unC_con]
          have h : q (PyData.bool (decide (0 < rs.length) && ordsOk (rs.map unC) od)) := h
          have ei : decide ((0 : Int) < (rs.length : Int)) = decide (0 < rs.length) := decide_eq_decide.mpr (by omega)
          show (match PyData.bool (decide ((0 : Int) < (rs.length : Int))) with | .bool true => True ∧ fOrds [DV.v (.tuple rs), DV.v od] q | .bool false => q (.bool false) | _ => False)
          rw [ei]
          cases h4 : decide (0 < rs.length) with
          | false =>
            rw [h4] at h
            exact h
          | true =>
            rw [h4, Bool.true_and] at h
            exact ⟨trivial, rs.map unC, er, ⟨by omega, im od (by simp), hE⟩, h⟩
  · exact h.elim
end
end L19

namespace L19
open PySem PySem.Spec PyProof.Rows L2 On K19 Du Fo M16 M17
def fAnyTask : List DV → (PyData → Prop) → Prop := fun as k => match as with
  | [.bag, .v (.tuple pds), .v (.int m), .v (.int n)] => ∃ b : List Pl, pds = benD b ∧ (Ben b ∧ m = 8 ∧ n = 9) ∧ ∀ Rs L, TaskOk b Rs L → L.length ≤ 9 → k (taskD b Rs L)
  | _ => False
theorem keys_enc (M : Tab) : (encT M).map Prod.fst = (M.map Prod.fst).map conD := by
  unfold encT
  rw [List.map_map, List.map_map]
  rfl
theorem graph_keys (b : List Pl) : (graphM b).map Prod.fst = contents b := by
  show ((contents b).map fun n => (n, stepsD b n)).map Prod.fst = _
  rw [List.map_map]
  exact List.map_id _
theorem con_ne {b : List Pl} (hbn : b ≠ []) : ∀ n ∈ contents b, n ≠ [] := fun n hn e => by
  have z := (mem_conts.mp hn).1
  rw [e] at z
  exact hbn (List.length_eq_zero_iff.mp z.symm)
theorem dOf_encO (M : List Od) : dOf (.od (encO M)) = some (encO M) := rfl
theorem alike_dus (L : List (Vx × Vx)) : PySem.W.AllAlike (L.map duD) := fun d hd e he => by
  obtain ⟨a, _, rfl⟩ := List.mem_map.mp hd
  obtain ⟨c, _, rfl⟩ := List.mem_map.mp he
  unfold duD
  rw [PySem.W.alike, PySem.W.alikeAll, alike_con, PySem.W.alikeAll, alike_con, PySem.W.alikeAll]
  rfl
theorem sort_dus' (L : List (Vx × Vx)) : PySem.W.Sortable (L.map duD) := .inl fun d hd => by
  obtain ⟨a, _, rfl⟩ := List.mem_map.mp hd
  exact ⟨conD a.1, [conD a.2], rfl⟩
/-- an order of its couple and the ends that stand by it -/
def ofDu (M : List Od) (d : PyData) : PyData := match d with
  | .tuple [a, c] => .tuple [a, c, endsD ((atO M (unC a, unC c)).getD [])]
  | _ => .none
def atP (M : List Od) (p : Vx × Vx) : Od := (p, (atO M p).getD [])
theorem ofDu_du (M : List Od) (p : Vx × Vx) : ofDu M (duD p) = ordD (atP M p) := by
  show PyData.tuple [conD p.1, conD p.2, endsD ((atO M (unC (conD p.1), unC (conD p.2))).getD [])] = _
  rw [unC_con, unC_con]
  rfl
theorem du_un (p : Vx × Vx) : duD p = .tuple [conD p.1, conD p.2] := rfl
section
variable {P : Program} {w : World} {K : PySem.W.Frag} {mg : Str → Option Value} {base : Heap} {A : Ads}
theorem ok_anytask (T : Txt K mg A) (G_law_graph : FnG P w K mg base 3 A.a_law_graph A.d_law_graph ["_law_bench_here"] (spF K 1 fGraph)) (G_law_rests : FnG P w K mg base 3 A.a_law_rests A.d_law_rests ["_law_bag_here", "_law_contents_here", "_law_most"] (spF K 3 fRests)) (G_law_couple : FnG P w K mg base 3 A.a_law_couple A.d_law_couple ["_law_bag_here", "_law_graph_here", "_law_rests_here"] (spF K 3 fCouple)) (G_law_way_by : FnG P w K mg base 3 A.a_law_way_by A.d_law_way_by ["_law_bag_here", "_law_graph_here", "_law_start", "_law_goal", "_law_barred"] (spF K 5 fWayBy)) (G_law_ends : FnG P w K mg base 2 A.a_law_ends A.d_law_ends ["_law_bag_here", "_law_rests_here", "_law_start", "_law_goal"] (spF K 4 fEnds)) : FnG P w K mg base 4 A.a_law_any_task A.d_law_any_task ["_law_bag_here", "_law_bench_here", "_law_most", "_law_orders"] (spF K 4 fAnyTask) := by
  refine okD T._law_any_task.F sc__law_any_task (fun c cdv A' outer s H E hg hr => (dss_cons (ds_set (i := 4) sc__law_any_task.nd rfl (by first | exact Or.inl rfl | exact Or.inr rfl) (de_call (pe_callG G_law_graph hg (hr.mono (by first | decide | omega)) rfl T._law_graph.g T._law_graph.F.kp T._law_graph.b (da_cons (de_var (pv 1)) da_nil))))
      (dss_cons (ds_parVDT (i := 5) (j := 6) rfl rfl (pa_cons (de_call (pe_callG G_law_rests hg (hr.mono (by first | decide | omega)) rfl T._law_rests.g T._law_rests.F.kp T._law_rests.b (da_bag (pv 0) (da_cons (de_l (de_sortK rfl (pe_callB (cr_sortK rfl (un32 hr)) (by rfl) T.nb_sorted (by decide +kernel) (pa_cons (pv 4) pa_nil)))) (da_cons (de_var (pv 2)) da_nil))))) (pa_cons (de_d0 pe_nnew) pa_nil)) (pg_name (i := 5) sc__law_any_task.nd rfl (by first | exact Or.inl rfl | exact Or.inr rfl)) (pg_name (i := 6) sc__law_any_task.nd rfl (by first | exact Or.inl rfl | exact Or.inr rfl)) rfl rfl rfl rfl rfl)
      (dss_cons (ds_for PassesOwn.never rfl (di_range1 rfl T.nb_range (da_cons (de_op op_mulD od_mul (de_n (de_var (pv 3))) (de_n (de_b cd_int (pe_callTy call_int1 (by rfl) T.nb_int (by decide +kernel) (dan_cons (de_n (de_cmp op_gt od_B (de_n (de_b cd_len (pe_callB (kLen K) (by rfl) T.nb_len PySem.boot_len (dan_cons (de_n (de_var (pv 5))) dan_nil)))) (de_n (de_c pe_int (fun _ => .int _))) (nomark _))) dan_nil))))) da_nil)) (dg_name (pg_name (i := 7) sc__law_any_task.nd rfl (by first | exact Or.inl rfl | exact Or.inr rfl))) (dss_cons (ds_asg (de_call (pe_callG G_law_couple hg (hr.mono (by first | decide | omega)) rfl T._law_couple.g T._law_couple.F.kp T._law_couple.b (da_bag (pv 0) (da_varDD (pv 4) (da_cons (de_var (pv 5)) da_nil))))) (dg_tup (n := 2) rfl rfl (dgs_cons (dg_name (pg_name (i := 8) sc__law_any_task.nd rfl (by first | exact Or.inl rfl | exact Or.inr rfl))) (dgs_cons (dg_name (pg_name (i := 9) sc__law_any_task.nd rfl (by first | exact Or.inl rfl | exact Or.inr rfl))) dgs_nil))))
      (dss_one (ds_if (dt_cmp op_notN od_isNotN (de_n (de_call (pe_callG G_law_way_by hg (hr.mono (by first | decide | omega)) rfl T._law_way_by.g T._law_way_by.F.kp T._law_way_by.b (da_bag (pv 0) (da_varDD (pv 4) (da_cons (de_var (pv 8)) (da_cons (de_var (pv 9)) (da_cons (de_l (de_lst da_nil)) da_nil)))))))) (de_n (de_c pe_non (fun _ => .non))) (nomark _)) (dss_one (ds_nput rfl (ps_nput (un12 hr) (pv 6) (de_tup (da_cons (de_var (pv 8)) (da_cons (de_var (pv 9)) da_nil))) (de_call (pe_callG G_law_ends hg (hr.mono (by first | decide | omega)) rfl T._law_ends.g T._law_ends.F.kp T._law_ends.b (da_bag (pv 0) (da_cons (de_var (pv 5)) (da_cons (de_var (pv 8)) (da_cons (de_var (pv 9)) da_nil)))))) rfl))) dss_nil))))
      (dss_one (ds_ret (de_n (de_tup (da_cons (de_var (pv 1)) (da_cons (de_var (pv 5)) (da_cons (de_b cd_tuple (pe_callTy (kTuple K) (by rfl) T.nb_tuple (by decide +kernel) (dan_cons (de_ln (de_lc (own := [("_law_two", 10)]) rfl sc__law_any_task.nd (di_list rfl (de_l (de_sortK rfl (pe_callB (cr_sortK rfl (un32 hr)) (by rfl) T.nb_sorted (by decide +kernel) (pa_cons (pv 6) pa_nil))))) (blkOk_by (N := ["_law_bag_here", "_law_bench_here", "_law_most", "_law_orders", "_law_graph_here", "_law_rests_here", "_law_found", "_law_turn", "_law_start", "_law_goal", "_law_two"]) (sc := defScope s_law_any_task) (by decide +kernel)) (fun _ _ _ _ _ => (dg_name (pg_name (i := 10) sc__law_any_task.nd rfl (by first | exact Or.inl rfl | exact Or.inr rfl)))) (fun _ _ _ _ _ => dts_nil) (fun _ _ _ _ _ => (de_op op_addD od_add (de_n (de_var (pv 10))) (de_n (de_tup (da_cons (de_nget rfl (pe_nget (un12 hr) (pv 6) (de_var (pv 10)) (fun _ _ => rfl))) da_nil))))) (by decide))) dan_nil))) da_nil))))))))))) ?_
  intro as q hl h
  unfold fAnyTask at h
  split at h
  · rename_i pds m n
    obtain ⟨b, rfl, ⟨hb, rfl, rfl⟩, h⟩ := h
    simp only [fGraph, fRests, dParVDT, dParVLLT, mGetN, mInN, mDGetV, mDGet2, dPutN, dRetD, mD0, mD1, mDict, mOf, dSetD, mConsD, mVarDD, mDc, dParVD, dParDL, dParLD, dParDV, dGive, miSV, mOrX, mSortK, fSortG, onD, dOf_od, dOf_dd, Option.bind_some, Option.bind_none, Option.getD_some, Option.getD_none, dParL, mCallL, mCallB, dRev, fSortE, dRet, dRetN, dIf, dSeq, dDrop, dAsg, gNm, gTp, gsNil, gsCons, dAsgL, dApp, dExt, dIns, dPopAt, dSetIx, dPar, dAug, dNext, mVar, mVarN, mC, m1, m2, mTst, mChain, mNot, mAnd, mOr, mAndV, mOrV, mNotV, mIf, mNil, mCons, mBag, Du.dataOf, mTup, mLst, mB, mCall, mIsi, mIsi2, mNotD, mTru, truD, fAdd, fI, fI0, fMul, fB, fEq, fNe, fIn, fGeD, fIs, isBd, fIsN, isNd, fNeg, fIx, mSlL, mSlT, mNoP, mPart, fLen, fAbs, fInt, fMin2, fTuple, fList, fAll, fAny, fRepr, miL, miT, miR1, miR2, miEn, miZip, miZip3, mRow, mLc, wipeE, dFor, mYes, Du.envOf, Option.map_some, Option.map_none, List.map_cons, List.map_nil, List.length_cons, List.length_nil, Nat.sub_self, Nat.add_sub_cancel, Nat.reduceAdd, Nat.reduceSub, List.replicate, List.cons_append, List.nil_append, List.append_nil, List.getElem?_cons_zero, List.getElem?_cons_succ, List.getElem?_nil, List.set_cons_zero, List.set_cons_succ]
    have lC := conts_len' hb.ok
    refine ⟨trivial, b, rfl, hb.ok, hb.ne, ?_⟩
    rw [dOf_enc (graph_ne hb.ok)]
    dsimp only
    rw [keys_enc, graph_keys]
    have gl : (encT (graphM b)).length = (contents b).length := by
      rw [encT_len, ← graph_keys b, List.length_map]
    refine ⟨alike_cons _, sort_cons (con_ne hb.ne), by omega, trivial, b, ksort (TS.code 6) (contents b), trivial, sort_cons' (d := b.length) fun n hn => hb.dim hn, ⟨hb.ok, hb.ne, ksort_perm _ _⟩, fun Rs hR => ?_⟩
    have lR := hR.len
    rw [List.length_map]
    have it : (if decide (1 < (Rs.length : Int)) = true then (1 : Int) else 0) = if 2 ≤ Rs.length then 1 else 0 := by
      by_cases c : 2 ≤ Rs.length
      · rw [if_pos c, if_pos (decide_eq_true (by omega))]
      · rw [if_neg c, if_neg (by rw [decide_eq_false (by omega)]; exact Bool.false_ne_true)]
    rw [it]
    refine ⟨mulW (by decide) (by split <;> decide), ⟨by split <;> decide, by split <;> decide⟩, fun i e => ∃ (M : List Od) (x7 x8 x9 x10 : DV), e = [.bag, .v (.tuple (benD b)), .v (.int 8), .v (.int 9), .v (.dict (encT (graphM b))), .v (.tuple (Rs.map conD)), .od (encO M), x7, x8, x9, x10] ∧ (∀ o ∈ M, OrdIn Rs o) ∧ (M.map Prod.fst).Nodup ∧ M.length ≤ i, ⟨[], _, _, _, _, rfl, (fun _ hh => nomatch hh), List.nodup_nil, Nat.le_refl _⟩, ?_, ?_⟩
    · rintro i d _ hd ⟨M, x7, x8, x9, x10, rfl, hM, nd, lm⟩
      have lt := (List.getElem?_eq_some_iff.mp hd).1
      rw [ints_len] at lt
      have h2 : 2 ≤ Rs.length := by
        by_cases c : 2 ≤ Rs.length
        · exact c
        · rw [if_neg c] at lt
          exact absurd lt (Nat.not_lt_zero _)
      rw [if_pos h2] at lt
      simp only [fCouple, fWayBy, fEnds, dParVDT, dParVLLT, mGetN, mInN, mDGetV, mDGet2, dPutN, dRetD, mD0, mD1, mDict, mOf, dSetD, mConsD, mVarDD, mDc, dParVD, dParDL, dParLD, dParDV, dGive, miSV, mOrX, mSortK, fSortG, onD, dOf_od, dOf_dd, Option.bind_some, Option.bind_none, Option.getD_some, Option.getD_none, dParL, mCallL, mCallB, dRev, fSortE, dRet, dRetN, dIf, dSeq, dDrop, dAsg, gNm, gTp, gsNil, gsCons, dAsgL, dApp, dExt, dIns, dPopAt, dSetIx, dPar, dAug, dNext, mVar, mVarN, mC, m1, m2, mTst, mChain, mNot, mAnd, mOr, mAndV, mOrV, mNotV, mIf, mNil, mCons, mBag, Du.dataOf, mTup, mLst, mB, mCall, mIsi, mIsi2, mNotD, mTru, truD, fAdd, fI, fI0, fMul, fB, fEq, fNe, fIn, fGeD, fIs, isBd, fIsN, isNd, fNeg, fIx, mSlL, mSlT, mNoP, mPart, fLen, fAbs, fInt, fMin2, fTuple, fList, fAll, fAny, fRepr, miL, miT, miR1, miR2, miEn, miZip, miZip3, mRow, mLc, wipeE, dFor, mYes, Du.envOf, Option.map_some, Option.map_none, List.map_cons, List.map_nil, List.length_cons, List.length_nil, Nat.sub_self, Nat.add_sub_cancel, Nat.reduceAdd, Nat.reduceSub, List.replicate, List.cons_append, List.nil_append, List.append_nil, List.getElem?_cons_zero, List.getElem?_cons_succ, List.getElem?_nil, List.set_cons_zero, List.set_cons_succ]
      refine ⟨trivial, b, Rs, rfl, rfl, ⟨hb.ok, hb.ne, hR, h2⟩, fun s hs g hg hsg => ?_⟩
      simp only [conD, dParVDT, dParVLLT, mGetN, mInN, mDGetV, mDGet2, dPutN, dRetD, mD0, mD1, mDict, mOf, dSetD, mConsD, mVarDD, mDc, dParVD, dParDL, dParLD, dParDV, dGive, miSV, mOrX, mSortK, fSortG, onD, dOf_od, dOf_dd, Option.bind_some, Option.bind_none, Option.getD_some, Option.getD_none, dParL, mCallL, mCallB, dRev, fSortE, dRet, dRetN, dIf, dSeq, dDrop, dAsg, gNm, gTp, gsNil, gsCons, dAsgL, dApp, dExt, dIns, dPopAt, dSetIx, dPar, dAug, dNext, mVar, mVarN, mC, m1, m2, mTst, mChain, mNot, mAnd, mOr, mAndV, mOrV, mNotV, mIf, mNil, mCons, mBag, Du.dataOf, mTup, mLst, mB, mCall, mIsi, mIsi2, mNotD, mTru, truD, fAdd, fI, fI0, fMul, fB, fEq, fNe, fIn, fGeD, fIs, isBd, fIsN, isNd, fNeg, fIx, mSlL, mSlT, mNoP, mPart, fLen, fAbs, fInt, fMin2, fTuple, fList, fAll, fAny, fRepr, miL, miT, miR1, miR2, miEn, miZip, miZip3, mRow, mLc, wipeE, dFor, mYes, Du.envOf, Option.map_some, Option.map_none, List.map_cons, List.map_nil, List.length_cons, List.length_nil, Nat.sub_self, Nat.add_sub_cancel, Nat.reduceAdd, Nat.reduceSub, List.replicate, List.cons_append, List.nil_append, List.append_nil, List.getElem?_cons_zero, List.getElem?_cons_succ, List.getElem?_nil, List.set_cons_zero, List.set_cons_succ]
      refine ⟨trivial, by decide, trivial, b, s, g, rfl, rfl, rfl, ⟨hb.ok, hb.ne, hR.sub s hs, hR.sub g hg⟩, ⟨M, _, _, _, _, rfl, hM, nd, by omega⟩, fun P => ⟨trivial, b, Rs, s, g, rfl, rfl, rfl, ⟨hb.ok, hb.ne, hR, hs, hg, hsg⟩, fun Es h1 h2 h3 h4 => ⟨by decide, ?_⟩⟩⟩
      show isKey (duD (s, g)) _
      rw [isKey_du]
      refine ⟨by rw [encO_len]; omega, putO M ((s, g), Es), .v d, .v (.tuple (s.map .int)), .v (.tuple (g.map .int)), x10, ?_, fun o ho => ?_, putO_nd nd, ?_⟩
      · rw [← put_du]
        rfl
      · rcases putO_mem ho with z | rfl
        · exact hM o z
        · exact ⟨hs, hg, hsg, h1, h2, h3, h4⟩
      · have := putO_len M ((s, g), Es)
        omega
    · rintro _ ⟨M, x7, x8, x9, x10, rfl, hM, nd, lm⟩
      have P2M : ∀ p ∈ M.map Prod.fst, P2 b.length p := fun p hp => by
        obtain ⟨o, ho, rfl⟩ := List.mem_map.mp hp
        exact (ordOk_in hb hR (hM o ho)).p
      have lm9 : M.length ≤ 9 := by
        rw [ints_len] at lm
        have : (9 * if 2 ≤ Rs.length then (1 : Int) else 0).toNat ≤ 9 := by split <;> decide
        omega
      simp only [dParVDT, dParVLLT, mGetN, mInN, mDGetV, mDGet2, dPutN, dRetD, mD0, mD1, mDict, mOf, dSetD, mConsD, mVarDD, mDc, dParVD, dParDL, dParLD, dParDV, dGive, miSV, mOrX, mSortK, fSortG, onD, dOf_od, dOf_dd, Option.bind_some, Option.bind_none, Option.getD_some, Option.getD_none, dParL, mCallL, mCallB, dRev, fSortE, dRet, dRetN, dIf, dSeq, dDrop, dAsg, gNm, gTp, gsNil, gsCons, dAsgL, dApp, dExt, dIns, dPopAt, dSetIx, dPar, dAug, dNext, mVar, mVarN, mC, m1, m2, mTst, mChain, mNot, mAnd, mOr, mAndV, mOrV, mNotV, mIf, mNil, mCons, mBag, Du.dataOf, mTup, mLst, mB, mCall, mIsi, mIsi2, mNotD, mTru, truD, fAdd, fI, fI0, fMul, fB, fEq, fNe, fIn, fGeD, fIs, isBd, fIsN, isNd, fNeg, fIx, mSlL, mSlT, mNoP, mPart, fLen, fAbs, fInt, fMin2, fTuple, fList, fAll, fAny, fRepr, miL, miT, miR1, miR2, miEn, miZip, miZip3, mRow, mLc, wipeE, dFor, mYes, Du.envOf, Option.map_some, Option.map_none, List.map_cons, List.map_nil, List.length_cons, List.length_nil, Nat.sub_self, Nat.add_sub_cancel, Nat.reduceAdd, Nat.reduceSub, List.replicate, List.cons_append, List.nil_append, List.append_nil, List.getElem?_cons_zero, List.getElem?_cons_succ, List.getElem?_nil, List.set_cons_zero, List.set_cons_succ]
      rw [encO_keys]
      refine ⟨alike_dus _, sort_dus' _, by rw [encO_len]; omega, ?_⟩
      rw [sort_dus hb.ok.len P2M]
      have kp := ksort_perm k2 (M.map Prod.fst)
      have inM : ∀ p ∈ ksort k2 (M.map Prod.fst), ∃ E, atO M p = some E ∧ (p, E) ∈ M := fun p hp => atO_some (kp.mem_iff.mp hp)
      have kl : (ksort k2 (M.map Prod.fst)).length = M.length := kp.length_eq.trans (List.length_map ..)
      refine lc_pure (fun d => [.bag, .v (.tuple (benD b)), .v (.int 8), .v (.int 9), .v (.dict (encT (graphM b))), .v (.tuple (Rs.map conD)), .od (encO M), x7, x8, x9, .v d]) (fun _ => true) (ofDu M) _ [] _ (by rw [List.length_nil, List.length_map, kl]; omega) (fun d hd k' hk' => hk') (fun d hd k' hk' => hk') (fun d hd _ k' hk' => ?_) ?_
      · obtain ⟨p, hp, rfl⟩ := List.mem_map.mp hd
        obtain ⟨E, hE, _⟩ := inM p hp
        rw [ofDu_du] at hk'
        unfold atP at hk'
        rw [hE] at hk'
        simp only [du_un, dParVDT, dParVLLT, mGetN, mInN, mDGetV, mDGet2, dPutN, dRetD, mD0, mD1, mDict, mOf, dSetD, mConsD, mVarDD, mDc, dParVD, dParDL, dParLD, dParDV, dGive, miSV, mOrX, mSortK, fSortG, onD, dOf_od, dOf_dd, Option.bind_some, Option.bind_none, Option.getD_some, Option.getD_none, dParL, mCallL, mCallB, dRev, fSortE, dRet, dRetN, dIf, dSeq, dDrop, dAsg, gNm, gTp, gsNil, gsCons, dAsgL, dApp, dExt, dIns, dPopAt, dSetIx, dPar, dAug, dNext, mVar, mVarN, mC, m1, m2, mTst, mChain, mNot, mAnd, mOr, mAndV, mOrV, mNotV, mIf, mNil, mCons, mBag, Du.dataOf, mTup, mLst, mB, mCall, mIsi, mIsi2, mNotD, mTru, truD, fAdd, fI, fI0, fMul, fB, fEq, fNe, fIn, fGeD, fIs, isBd, fIsN, isNd, fNeg, fIx, mSlL, mSlT, mNoP, mPart, fLen, fAbs, fInt, fMin2, fTuple, fList, fAll, fAny, fRepr, miL, miT, miR1, miR2, miEn, miZip, miZip3, mRow, mLc, wipeE, dFor, mYes, Du.envOf, Option.map_some, Option.map_none, List.map_cons, List.map_nil, List.length_cons, List.length_nil, Nat.sub_self, Nat.add_sub_cancel, Nat.reduceAdd, Nat.reduceSub, List.replicate, List.cons_append, List.nil_append, List.append_nil, List.getElem?_cons_zero, List.getElem?_cons_succ, List.getElem?_nil, List.set_cons_zero, List.set_cons_succ]
        show isKey (duD p) _
        rw [isKey_du, look_du, hE]
        exact ⟨by decide, by decide, hk'⟩
      · rw [List.filter_eq_self.mpr fun _ _ => rfl, List.map_map]
        refine ⟨by decide, ?_⟩
        rw [List.nil_append, show (ksort k2 (M.map Prod.fst)).map (ofDu M ∘ duD) = ((ksort k2 (M.map Prod.fst)).map (atP M)).map ordD by
          rw [List.map_map]
          exact List.map_congr_left fun p _ => ofDu_du M p]
        have os : ∀ o ∈ (ksort k2 (M.map Prod.fst)).map (atP M), OrdIn Rs o := fun o ho => by
          obtain ⟨p, hp, rfl⟩ := List.mem_map.mp ho
          obtain ⟨E, hE, hm⟩ := inM p hp
          unfold atP
          rw [hE]
          exact hM _ hm
        refine h Rs _ ⟨hb, hR, os, ?_, by rw [List.length_map, kl]; omega⟩ (by rw [List.length_map, kl]; omega)
        rw [List.pairwise_map]
        refine ((ksort_pw k2 (M.map Prod.fst)).and (kp.nodup_iff.mpr nd)).imp_of_mem fun {a c} ha hc z => ?_
        show k2 a < k2 c
        rcases Int.lt_or_eq_of_le z.1 with y | y
        · exact y
        · exact absurd (k2_inj hb.ok.len (P2M a (kp.mem_iff.mp ha)) (P2M c (kp.mem_iff.mp hc)) y) z.2
  · exact h.elim
end
end L19

namespace L19
open PySem PySem.Spec PyProof.Rows L2 On K19 Du Fo M16 M17
/-- law(script) -/
def spLaw (K : PySem.W.Frag) : Sp := fun vs H Q _ => ∃ (a : Addr) (cs : List Int), vs = [.ref a] ∧ SqL K H a (cs.map V.int) ∧ cs.length ≤ 63 ∧ Sys H ∧ ∀ H', Q (.bl true) H'
theorem pss_upE {K : PySem.W.Frag} {X : Cx} {rest : List Stmt} {B : MS} (h : ∀ c : Bs, PSs X rest (upS K c B)) : PSs X rest (fun D σ H => ∃ c, upS K c B D σ H) := ⟨fun pins s σ H D I ⟨c, q⟩ => (h c).run pins s σ H D I q⟩
theorem bag_relN {K : PySem.W.Frag} {H : Hp} {a b c : Addr} (m : Nat) (B : Bag H b c) : Rel K ⟨H, [b], [b], c⟩ (fun _ => Option.none) (.un :: .bag :: List.replicate m .un) [b] (some (.ref a) :: some (.ref b) :: List.replicate m none) H where
  dom := fun x hx => by
    rw [List.mem_singleton] at hx
    obtain ⟨⟨_, _, _, _, h1, _⟩, _⟩ := B
    exact ⟨_, by rw [hx]; exact h1⟩
  sub := fun _ h => h
  ent := fun x hx => by
    have hx : x ∈ [b] := hx
    rw [List.mem_singleton] at hx
    obtain ⟨⟨_, _, _, _, h1, _⟩, _⟩ := B
    exact ⟨_, by rw [hx]; exact h1⟩
  but := fun _ _ _ e => e
  bg := fun x hx => by
    have hx : x ∈ [b] := hx
    rw [List.mem_singleton] at hx
    subst hx
    refine ⟨List.mem_singleton.mpr rfl, B, fun z => ?_⟩
    rw [List.mem_singleton] at z
    obtain ⟨⟨_, _, _, _, h1, h2, _⟩, _⟩ := B
    exact bag_ne h1 h2 z
  sys := B.2
  nsys := fun z => by
    rw [List.mem_singleton] at z
    obtain ⟨⟨_, _, _, _, h1, _⟩, φ, h4⟩ := B
    rw [z, h1] at h4
    cases h4
  fz := fun _ _ e => nomatch e
  sl := fun i e he => by
    match i, he with
    | 0, he => cases he; trivial
    | 1, he => cases he; exact ⟨b, rfl, rfl⟩
    | i + 2, he =>
      have he : (List.replicate m DV.un)[i]? = some e := he
      rw [List.getElem?_replicate] at he
      split at he
      · cases he
        trivial
      · cases he
  ap := fun i j e f x _ hi _ m1 _ _ => by
    exfalso
    match i, hi with
    | 0, he => cases he; cases m1
    | 1, he => cases he; cases m1
    | i + 2, he =>
      have he : (List.replicate m DV.un)[i]? = some e := he
      rw [List.getElem?_replicate] at he
      split at he
      · cases he
        cases m1
      · cases he
  len := by simp
def fNeS : F2 := fun d e k => match d, e with
  | .str x, .str y => k (.bool (!decide (x = y)))
  | _, _ => False
theorem od_neS {K : PySem.W.Frag} : OpD K rNe fNeS := fun O H x y d e k Q hd hs nx ny hf q => by
  unfold fNeS at hf
  split at hf
  · rename_i a b
    cases nq_str nx
    cases nq_str ny
    refine ⟨rfl, ?_⟩
    have e : decide (V.str a = V.str b) = decide (a = b) := decide_eq_decide.mpr ⟨fun z => by injection z, fun z => by rw [z]⟩
    rw [e]
    exact q _ _ H hf (Same.refl H) (.bl _)
  · exact hf.elim
theorem seq_go' {a b : MS} {env : List DV} {D : DE} (C : List DV → Prop) (ha : ∀ C' : List DV → Prop, (∀ e, C e → C' e) → a env { D with nx := C' }) (hb : ∀ e, C e → b e D) : dSeq a b env D := ha _ hb
theorem Sz.okA {k N : Nat} {d : PyData} (h : Sz k N d) (hk : k ≤ 60) (hN : N ≤ 10000000) : OkA d := ⟨h.tm, Nat.le_trans h.dp hk, Nat.le_trans h.wd hN⟩
theorem Sz.task' {b : List Pl} {Rs : List Vx} {L : List Od} (hb : Ben b) (hr : RestsOk (contents b) Rs) (ho : ∀ o ∈ L, OrdIn Rs o) (hl : L.length ≤ 12) : Sz 5 30000 (taskD b Rs L) := by
  obtain ⟨⟨h1, h2⟩, h3, h4, h5⟩ := Sz.task hb hr ho hl
  exact ⟨h1, h2, h3, h4, h5⟩
/-- all couples of one of L and another one of Rs -/
def prsOf (Rs L : List Vx) : List (Vx × Vx) := L.flatMap fun one => (Rs.filter fun t => !decide (t = one)).map fun t => (one, t)
theorem prsOf_mem {Rs L : List Vx} {p : Vx × Vx} (h : p ∈ prsOf Rs L) : p.1 ∈ L ∧ p.2 ∈ Rs ∧ p.1 ≠ p.2 := by
  obtain ⟨one, h1, h2⟩ := List.mem_flatMap.mp h
  obtain ⟨t, h3, rfl⟩ := List.mem_map.mp h2
  obtain ⟨h4, h5⟩ := List.mem_filter.mp h3
  exact ⟨h1, h4, fun e => by
    have e : one = t := e
    rw [e] at h5
    simp at h5⟩
theorem prsOf_nd {Rs L : List Vx} (h1 : Rs.Nodup) (h2 : L.Nodup) : (prsOf Rs L).Nodup := by
  unfold prsOf List.Nodup
  rw [List.pairwise_flatMap]
  refine ⟨fun v _ => ?_, h2.imp fun {a b} ne x hx y hy e => ?_⟩
  · rw [List.pairwise_map]
    refine (h1.filter _).imp fun {a b} ne e => ne ?_
    injection e
  · obtain ⟨u, _, rfl⟩ := List.mem_map.mp hx
    obtain ⟨w, _, rfl⟩ := List.mem_map.mp hy
    injection e with e _
    exact ne e
theorem prsOf_len {Rs L : List Vx} (hr : Rs.length ≤ 8) (hl : L.length ≤ 8) : (prsOf Rs L).length ≤ 64 := by
  have z := flatMap_len (N := 8) (l := L) (f := fun one => (Rs.filter fun t => !decide (t = one)).map fun t => (one, t)) fun x _ => by
    rw [List.length_map]
    exact Nat.le_trans (List.length_filter_le _ _) hr
  unfold prsOf
  omega
theorem prsOf_snoc (Rs L : List Vx) (x : Vx) : prsOf Rs (L ++ [x]) = prsOf Rs L ++ (Rs.filter fun t => !decide (t = x)).map fun t => (x, t) := by
  unfold prsOf
  rw [List.flatMap_append]
  simp
def unDu (d : PyData) : Vx × Vx := match d with
  | .tuple [a, c] => (unC a, unC c)
  | _ => ([], [])
theorem unDu_du (p : Vx × Vx) : unDu (duD p) = p := by
  show (unC (conD p.1), unC (conD p.2)) = p
  rw [unC_con, unC_con]
theorem perm_du {es : List PyData} {L : List (Vx × Vx)} (p : es.Perm (L.map duD)) : ∃ L' : List (Vx × Vx), L'.Perm L ∧ es = L'.map duD := by
  refine ⟨es.map unDu, ?_, ?_⟩
  · have q := p.map unDu
    rw [List.map_map] at q
    have e : L.map (unDu ∘ duD) = L := (List.map_congr_left (g := id) (f := unDu ∘ duD) fun n _ => unDu_du n).trans (List.map_id L)
    rwa [e] at q
  · rw [List.map_map]
    have e : es.map (duD ∘ unDu) = es.map id := List.map_congr_left fun d hd => by
      obtain ⟨n, _, rfl⟩ := List.mem_map.mp (p.mem_iff.mp hd)
      show duD (unDu (duD n)) = _
      rw [unDu_du]
      rfl
    rw [e, List.map_id]
theorem alikeAll_cons : ∀ L M : List Vx, PySem.W.alikeAll (L.map conD) (M.map conD) = true
  | [], _ => by rw [List.map_nil, PySem.W.alikeAll]
  | _ :: _, [] => by rw [List.map_nil, List.map_cons, PySem.W.alikeAll]
  | a :: L, c :: M => by
    rw [List.map_cons, List.map_cons, PySem.W.alikeAll, alike_con, alikeAll_cons L M]
    rfl
theorem alike_ord (o r : Od) : PySem.W.alike (ordD o) (ordD r) = true := by
  unfold ordD
  rw [PySem.W.alike, PySem.W.alikeAll, alike_con, PySem.W.alikeAll, alike_con, PySem.W.alikeAll, PySem.W.alike, alikeAll_cons, PySem.W.alikeAll]
  rfl
theorem alike_ords (L : List Od) : PySem.W.AllAlike (L.map ordD) := fun d hd e he => by
  obtain ⟨a, _, rfl⟩ := List.mem_map.mp hd
  obtain ⟨c, _, rfl⟩ := List.mem_map.mp he
  exact alike_ord a c
theorem sort_ords' (L : List Od) : PySem.W.Sortable (L.map ordD) := .inl fun d hd => by
  obtain ⟨a, _, rfl⟩ := List.mem_map.mp hd
  exact ⟨conD a.1.1, [conD a.1.2, .tuple (a.2.map conD)], rfl⟩
theorem depth_ord {d : Nat} (hd : d ≤ 5) {L : List Od} (h : ∀ o ∈ L, OrdOk d o) : ∀ x ∈ L.map ordD, x.depth ≤ 20 := fun x hx => by
  obtain ⟨o, ho, rfl⟩ := List.mem_map.mp hx
  exact Nat.le_trans (Sz.ord hd (h o ho)).dp (by decide)
/-- orders of unlike couples, put in their order, make a task -/
theorem task_of {b : List Pl} {Rs : List Vx} {L : List Od} (hb : Ben b) (hr : RestsOk (contents b) Rs) (ho : ∀ o ∈ L, OrdIn Rs o) (nd : (L.map Prod.fst).Nodup) (hl : L.length ≤ 70) : TaskOk b Rs (ksort k3 L) where
  ben := hb
  rs := hr
  os := fun o h => ho o ((ksort_perm k3 L).mem_iff.mp h)
  up := by
    have kp := ksort_perm k3 L
    have nd2 : (ksort k3 L).Pairwise fun o r => o.1 ≠ r.1 := by
      have z := ((kp.map Prod.fst).nodup_iff).mpr nd
      unfold List.Nodup at z
      rwa [List.pairwise_map] at z
    refine ((ksort_pw k3 L).and nd2).imp_of_mem fun {a c} ha hc z => ?_
    rcases Int.lt_or_eq_of_le z.1 with y | y
    · exact y
    · exact absurd (k2_inj hb.ok.len (ordOk_in hb hr (ho a (kp.mem_iff.mp ha))).p (ordOk_in hb hr (ho c (kp.mem_iff.mp hc))).p y) z.2
  l := by rw [(ksort_perm k3 L).length_eq]; exact hl
theorem task_nd {b : List Pl} {Rs : List Vx} {L : List Od} (h : TaskOk b Rs L) : (L.map Prod.fst).Nodup := by
  unfold List.Nodup
  rw [List.pairwise_map]
  exact h.up.imp fun {a c} z e => by
    unfold k3 at z
    rw [e] at z
    exact Int.lt_irrefl _ z
/-- a task's orders, turned about and put in their order, are what they were -/
theorem ksort_rev {b : List Pl} {Rs : List Vx} {L : List Od} (h : TaskOk b Rs L) : ksort k3 L.reverse = L := by
  refine ksort_uniq (fun x hx y hy e => ?_) L.reverse_perm (h.up.imp fun z => Int.le_of_lt z)
  exact nodup_key (task_nd h) hx hy (k2_inj h.ben.ok.len (ordOk_in h.ben h.rs (h.os x hx)).p (ordOk_in h.ben h.rs (h.os y hy)).p e)
theorem two_ends {b : List Pl} {Rs : List Vx} {s g : Vx} (hb : Ben b) (hr : RestsOk (contents b) Rs) (hs : s ∈ Rs) (hg : g ∈ Rs) (hsg : s ≠ g) : sortD [conD s, conD g] = (ksort (TS.code 6) [s, g]).map conD ∧ OrdIn Rs ((s, g), ksort (TS.code 6) [s, g]) := by
  have kp := ksort_perm (TS.code 6) [s, g]
  refine ⟨sort_cons' (d := b.length) (L := [s, g]) fun n hn => ?_, hs, hg, hsg, fun x hx => ?_, kp.nodup_iff.mpr (by simp [hsg]), ksort_pw _ _, by rw [kp.length_eq]; show 2 ≤ 8; decide⟩
  · simp only [List.mem_cons, List.not_mem_nil, or_false] at hn
    rcases hn with rfl | rfl
    · exact hb.dim (hr.sub _ hs)
    · exact hb.dim (hr.sub _ hg)
  · have hx := kp.mem_iff.mp hx
    simp only [List.mem_cons, List.not_mem_nil, or_false] at hx
    rcases hx with rfl | rfl
    · exact hs
    · exact hg
theorem eqs_ok (L : List Od) : ∀ o ∈ unT (.tuple (L.map ordD)), isTup o 3 = true → (o1 o).canLay0 = true ∧ (o2 o).canLay0 = true ∧ min (o1 o).depth (o2 o).depth ≤ 60 := fun o ho _ => by
  obtain ⟨r, _, rfl⟩ := List.mem_map.mp ho
  exact okEq_con _ _
section
variable {P : Program} {w : World} {K : PySem.W.Frag} {mg : Str → Option Value} {base : Heap} {A : Ads}
theorem ok_law (T : Txt K mg A) (G_law_bag : FnG P w K mg base 1 A.a_law_bag A.d_law_bag ["_law_script"] (K19.spBag K)) (G_law_take : FnG P w K mg base 1 A.a_law_take A.d_law_take ["_law_bag_here", "_law_upto"] (spF K 2 fTake)) (G_law_bench : FnG P w K mg base 4 A.a_law_bench A.d_law_bench ["_law_bag_here", "_law_most"] (spF K 2 fBench)) (G_law_alike : FnG P w K mg base 1 A.a_law_alike A.d_law_alike ["_law_found", "_law_due"] (spF K 2 fAlike)) (G_law_any_task : FnG P w K mg base 4 A.a_law_any_task A.d_law_any_task ["_law_bag_here", "_law_bench_here", "_law_most", "_law_orders"] (spF K 4 fAnyTask)) (G_law_mixed : FnG P w K mg base 2 A.a_law_mixed A.d_law_mixed ["_law_bag_here", "_law_things"] (spF K 2 fMixed)) (G_law_ends : FnG P w K mg base 2 A.a_law_ends A.d_law_ends ["_law_bag_here", "_law_rests_here", "_law_start", "_law_goal"] (spF K 4 fEnds))
    (Geither_order : FnG P w K mg base 1 A.aeither_order A.deither_order ["start", "goal"] (spF K 2 fEither)) (Gwith_orders : FnG P w K mg base 1 A.awith_orders A.dwith_orders ["task", "orders"] (spF K 2 fWithO)) (Gis_task : FnG P w K mg base 4 A.ais_task A.dis_task ["thing"] (spF K 1 fTaskF)) : FnG P w K mg base 5 A.alaw A.dlaw ["_law_script"] (spLaw K) := by
  refine okG T.law.F sc_law (fun vs H Q E h => ?_) (fun cdv A' outer s H vs Q E hg hr h => ?_)
  · obtain ⟨a, cs, rfl, _⟩ := h
    rfl
  · obtain ⟨a, cs, rfl, ha, hz, hS, k⟩ := h
    refine ⟨_, (pss_cons (ps_set (i := 1) sc_law.nd rfl (by first | exact Or.inl rfl | exact Or.inr rfl) (pe_callG G_law_bag hg (hr.mono (by first | decide | omega)) rfl T._law_bag.g T._law_bag.F.kp T._law_bag.b (pa_cons (pv 0) pa_nil))) (pss_upE (K := K) fun c => (dss_cons (ds_for PassesOwn.never rfl (di_range1 rfl T.nb_range (da_cons (de_c pe_int (fun _ => .int _)) da_nil)) (dg_name (pg_name (i := 2) sc_law.nd rfl (by first | exact Or.inl rfl | exact Or.inr rfl))) (dss_cons (ds_set (i := 3) sc_law.nd rfl (by first | exact Or.inl rfl | exact Or.inr rfl) (de_call (pe_callG G_law_bench hg (hr.mono (by first | decide | omega)) rfl T._law_bench.g T._law_bench.F.kp T._law_bench.b (da_bag (pv 1) (da_cons (de_c pe_int (fun _ => .int _)) da_nil)))))
      (dss_cons (ds_set (i := 4) sc_law.nd rfl (by first | exact Or.inl rfl | exact Or.inr rfl) (de_call (pe_callG G_law_any_task hg (hr.mono (by first | decide | omega)) rfl T._law_any_task.g T._law_any_task.F.kp T._law_any_task.b (da_bag (pv 1) (da_cons (de_var (pv 3)) (da_cons (de_c pe_int (fun _ => .int _)) (da_cons (de_c pe_int (fun _ => .int _)) da_nil)))))))
      (dss_cons (ds_parVLL (i := 7) (j := 8) (l := 9) (ps_par3 (i := 7) (j := 8) (l := 9) rfl sc_law.nd rfl rfl rfl (by decide) (by decide) (by decide) rfl rfl rfl (pa_cons (de_ix (kIxS K) (de_n (de_var (pv 4))) (de_n (de_c pe_int (fun _ => .int _))) (fun _ _ => rfl)) (pa_cons (de_lst da_nil) (pa_cons (de_lst da_nil) pa_nil))) rfl))
      (dss_cons (ds_for PassesOwn.never rfl (di_tup rfl (de_var (pv 7))) (dg_name (pg_name (i := 5) sc_law.nd rfl (by first | exact Or.inl rfl | exact Or.inr rfl))) (dss_one (ds_ext (ps_expr (pe_bm PySem.F.plainAttrs_list PySem.F.slot_list_extend PySem.F.type_list_extend mt_extend (pv 9) (pa_cons (de_l (de_lc (own := [("_law_to", 18)]) rfl sc_law.nd (di_tup rfl (de_var (pv 7))) (blkOk_by (N := ["_law_script", "_law_bag_here", "_law_turn", "_law_bench_here", "_law_task", "_law_one", "_law_again", "_law_rests_here", "_law_orders", "_law_twos", "_law_start", "_law_goal", "_law_ends_here", "_law_made", "_law_due", "_law_shown", "_law_told", "_law_back", "_law_to"]) (sc := defScope slaw) (by decide +kernel)) (fun _ _ _ _ _ => (dg_name (pg_name (i := 18) sc_law.nd rfl (by first | exact Or.inl rfl | exact Or.inr rfl)))) (fun _ _ _ _ _ => (dts_one (dt_cmp (op_neQ (un66 hr)) od_ne (de_n (de_var (pv 18))) (de_n (de_var (pv 5))) (nomark _)))) (fun _ _ _ _ _ => (de_tup (da_cons (de_var (pv 5)) (da_cons (de_var (pv 18)) da_nil)))) (by decide))) pa_nil))))))
      (dss_cons (ds_weak (i := 9) (ds_for PassesOwn.never rfl (di_list rfl (de_l (de_slL (kSlL K) (de_n (de_call (pe_callG G_law_mixed hg (hr.mono (by first | decide | omega)) rfl T._law_mixed.g T._law_mixed.F.kp T._law_mixed.b (da_bag (pv 1) (da_cons (de_var (pv 9)) da_nil))))) do_none (do_some (de_n (de_call (pe_callG G_law_take hg (hr.mono (by first | decide | omega)) rfl T._law_take.g T._law_take.F.kp T._law_take.b (da_bag (pv 1) (da_cons (de_c pe_int (fun _ => .int _)) da_nil))))))))) (dg_tup (n := 2) rfl rfl (dgs_cons (dg_name (pg_name (i := 10) sc_law.nd rfl (by first | exact Or.inl rfl | exact Or.inr rfl))) (dgs_cons (dg_name (pg_name (i := 11) sc_law.nd rfl (by first | exact Or.inl rfl | exact Or.inr rfl))) dgs_nil))) (dss_cons (ds_set (i := 12) sc_law.nd rfl (by first | exact Or.inl rfl | exact Or.inr rfl) (de_b cd_tuple (pe_callTy (kTuple K) (by rfl) T.nb_tuple (by decide +kernel) (dan_cons (de_ln (de_bl (cl_sortG rfl) (pe_callB (cr_sortG (un32 hr)) (by rfl) T.nb_sorted (by decide +kernel) (dan_cons (de_ln (de_lst (da_cons (de_var (pv 10)) (da_cons (de_var (pv 11)) da_nil)))) dan_nil)))) dan_nil))))
      (dss_cons (ds_set (i := 13) sc_law.nd rfl (by first | exact Or.inl rfl | exact Or.inr rfl) (de_call (pe_callG Geither_order hg (hr.mono (by first | decide | omega)) rfl T.either_order.g T.either_order.F.kp T.either_order.b (da_cons (de_var (pv 10)) (da_cons (de_var (pv 11)) da_nil)))))
      (dss_cons (ds_if (dt_not (dt_val rfl (de_n (de_call (pe_callG G_law_alike hg (hr.mono (by first | decide | omega)) rfl T._law_alike.g T._law_alike.F.kp T._law_alike.b (da_cons (de_var (pv 13)) (da_cons (de_tup (da_cons (de_var (pv 10)) (da_cons (de_var (pv 11)) (da_cons (de_var (pv 12)) da_nil)))) da_nil))))))) (dss_one (ds_ret (de_n (de_c pe_bl (fun _ => .bl _))))) dss_nil)
      (dss_one (ds_app (ps_expr (pe_bm PySem.F.plainAttrs_list PySem.F.slot_list_append PySem.F.type_list_append mt_append (pv 8) (pa_cons (de_if (dt_cmp (op_eqQ (un66 hr)) od_eq (de_n (de_call (pe_callG G_law_take hg (hr.mono (by first | decide | omega)) rfl T._law_take.g T._law_take.F.kp T._law_take.b (da_bag (pv 1) (da_cons (de_c pe_int (fun _ => .int _)) da_nil))))) (de_n (de_c pe_int (fun _ => .int _))) (nomark _)) (de_var (pv 13)) (de_tup (da_cons (de_var (pv 10)) (da_cons (de_var (pv 11)) (da_cons (de_call (pe_callG G_law_ends hg (hr.mono (by first | decide | omega)) rfl T._law_ends.g T._law_ends.F.kp T._law_ends.b (da_bag (pv 1) (da_cons (de_var (pv 7)) (da_cons (de_var (pv 10)) (da_cons (de_var (pv 11)) da_nil)))))) da_nil))))) pa_nil))))))))))
      (dss_cons (ds_weak (i := 8) (ds_par (i := 14) (j := 15) rfl sc_law.nd rfl rfl (by decide) rfl rfl (da_cons (de_tup (da_cons (de_var (pv 3)) (da_cons (de_var (pv 7)) (da_cons (de_b cd_tuple (pe_callTy (kTuple K) (by rfl) T.nb_tuple (by decide +kernel) (dan_cons (de_ln (de_bl (cl_sortG rfl) (pe_callB (cr_sortG (un32 hr)) (by rfl) T.nb_sorted (by decide +kernel) (dan_cons (dn_var (pv 8)) dan_nil)))) dan_nil))) da_nil)))) (da_cons (de_b cd_repr (pe_callB (call_reprA hg (un66 hr)) (by rfl) T.nb_repr (by decide +kernel) (dan_cons (de_ln (de_lst (da_cons (de_var (pv 4)) (da_cons (de_var (pv 8)) da_nil)))) dan_nil))) da_nil)) rfl))
      (dss_one (ds_for PassesOwn.never rfl (di_range1 rfl T.nb_range (da_cons (de_c pe_int (fun _ => .int _)) da_nil)) (dg_name (pg_name (i := 6) sc_law.nd rfl (by first | exact Or.inl rfl | exact Or.inr rfl))) (dss_cons (ds_set (i := 16) sc_law.nd rfl (by first | exact Or.inl rfl | exact Or.inr rfl) (de_call (pe_callG Gwith_orders hg (hr.mono (by first | decide | omega)) rfl T.with_orders.g T.with_orders.F.kp T.with_orders.b (da_cons (de_var (pv 4)) (da_cons (de_var (pv 8)) da_nil)))))
      (dss_cons (ds_if (PW.pt (dw_or (dt_not (dt_val rfl (de_n (de_call (pe_callG G_law_alike hg (hr.mono (by first | decide | omega)) rfl T._law_alike.g T._law_alike.F.kp T._law_alike.b (da_cons (de_var (pv 16)) (da_cons (de_var (pv 14)) da_nil))))))) (dw_or (dt_cmp op_isNotG od_is (de_n (de_call (pe_callG Gis_task hg (hr.mono (by first | decide | omega)) rfl T.is_task.g T.is_task.F.kp T.is_task.b (da_cons (de_var (pv 16)) da_nil)))) (de_n (de_c pe_bl (fun _ => .bl _))) (nomark _)) (dw_or1 (dt_cmp op_ne od_neS (de_n (de_b cd_repr (pe_callB (call_reprA hg (un66 hr)) (by rfl) T.nb_repr (by decide +kernel) (dan_cons (de_ln (de_lst (da_cons (de_var (pv 4)) (da_cons (de_var (pv 8)) da_nil)))) dan_nil)))) (de_n (de_var (pv 15))) (nomark _)))))) (dss_one (ds_ret (de_n (de_c pe_bl (fun _ => .bl _))))) dss_nil)
      (dss_cons (ds_set (i := 17) sc_law.nd rfl (by first | exact Or.inl rfl | exact Or.inr rfl) (de_l (de_lst (da_cons (de_call (pe_callG Gwith_orders hg (hr.mono (by first | decide | omega)) rfl T.with_orders.g T.with_orders.F.kp T.with_orders.b (da_cons (de_var (pv 16)) (da_cons (de_l (de_revL rfl (de_ln (de_bl cl_list (pe_callTy (kList K) (by rfl) T.nb_list (by decide +kernel) (dan_cons (de_n (de_ix (kIxS K) (de_n (de_var (pv 4))) (de_n (de_c pe_int (fun _ => .int _))) (fun _ _ => rfl))) dan_nil)))))) da_nil)))) (da_cons (de_call (pe_callG Gwith_orders hg (hr.mono (by first | decide | omega)) rfl T.with_orders.g T.with_orders.F.kp T.with_orders.b (da_cons (de_var (pv 16)) (da_cons (de_l (de_lst da_nil)) da_nil)))) da_nil)))))
      (dss_one (ds_if (dt_not (dt_val rfl (de_n (de_call (pe_callG G_law_alike hg (hr.mono (by first | decide | omega)) rfl T._law_alike.g T._law_alike.F.kp T._law_alike.b (da_cons (de_var (pv 17)) (da_cons (de_l (de_lst (da_cons (de_var (pv 4)) (da_cons (de_tup (da_cons (de_var (pv 3)) (da_cons (de_var (pv 7)) (da_cons (de_tup da_nil) da_nil)))) da_nil)))) da_nil))))))) (dss_one (ds_ret (de_n (de_c pe_bl (fun _ => .bl _))))) dss_nil))))))))))))))
      (dss_one (ds_ret (de_n (de_c pe_bl (fun _ => .bl _)))))))), ?_⟩
    refine to_qasg ⟨_, rfl, a, cs, rfl, ha, hz, hS, fun b c H1 nb B1 s1 => ?_⟩
    refine ⟨_, _, .un :: .bag :: List.replicate 17 .un, [b], { nx := fun _ => False, rt := fun d => d = .bool true }, bag_relN (a := a) 17 B1, ?_, fun _ _ _ _ z => z.elim, fun _ _ _ _ z => z.elim, fun _ _ _ _ z => z.elim, fun d x H' e r => ?_⟩
    · simp only [List.replicate, fBench, fAnyTask, dWeak, mRevL, dParVLL, dParVDT, dParVLLT, mGetN, mInN, mDGetV, mDGet2, dPutN, dRetD, mD0, mD1, mDict, mOf, dSetD, mConsD, mVarDD, mDc, dParVD, dParDL, dParLD, dParDV, dGive, miSV, mOrX, mSortK, fSortG, onD, dOf_od, dOf_dd, Option.bind_some, Option.bind_none, Option.getD_some, Option.getD_none, dParL, mCallL, mCallB, dRev, fSortE, dRet, dRetN, dIf, dSeq, dDrop, dAsg, gNm, gTp, gsNil, gsCons, dAsgL, dApp, dExt, dIns, dPopAt, dSetIx, dPar, dAug, dNext, mVar, mVarN, mC, m1, m2, mTst, mChain, mNot, mAnd, mOr, mAndV, mOrV, mNotV, mIf, mNil, mCons, mBag, Du.dataOf, mTup, mLst, mB, mCall, mIsi, mIsi2, mNotD, mTru, truD, fAdd, fI, fI0, fMul, fB, fEq, fNe, fIn, fGeD, fIs, isBd, fIsN, isNd, fNeg, fIx, mSlL, mSlT, mNoP, mPart, fLen, fAbs, fInt, fMin2, fTuple, fList, fAll, fAny, fRepr, miL, miT, miR1, miR2, miEn, miZip, miZip3, mRow, mLc, wipeE, dFor, mYes, Du.envOf, Option.map_some, Option.map_none, List.map_cons, List.map_nil, List.length_cons, List.length_nil, Nat.sub_self, Nat.add_sub_cancel, Nat.reduceAdd, Nat.reduceSub, List.replicate, List.cons_append, List.nil_append, List.append_nil, List.getElem?_cons_zero, List.getElem?_cons_succ, List.getElem?_nil, List.set_cons_zero, List.set_cons_succ]
      refine ⟨by decide, fun i e => ∃ x2 x3 x4 x5 x6 x7 x8 x9 x10 x11 x12 x13 x14 x15 x16 x17 x18, e = [.un, .bag, x2, x3, x4, x5, x6, x7, x8, x9, x10, x11, x12, x13, x14, x15, x16, x17, x18], ⟨_, _, _, _, _, _, _, _, _, _, _, _, _, _, _, _, _, rfl⟩, ?_, fun _ _ => trivial⟩
      rintro i d _ hd ⟨x2, x3, x4, x5, x6, x7, x8, x9, x10, x11, x12, x13, x14, x15, x16, x17, x18, rfl⟩
      refine seq_go' (fun e => ∃ b : List Pl, Ben b ∧ e = [.un, .bag, .v d, .v (.tuple (benD b)), x4, x5, x6, x7, x8, x9, x10, x11, x12, x13, x14, x15, x16, x17, x18]) (fun C' hC => ?_) ?_
      · simp only [fBench, dWeak, mRevL, dParVLL, dParVDT, dParVLLT, mGetN, mInN, mDGetV, mDGet2, dPutN, dRetD, mD0, mD1, mDict, mOf, dSetD, mConsD, mVarDD, mDc, dParVD, dParDL, dParLD, dParDV, dGive, miSV, mOrX, mSortK, fSortG, onD, dOf_od, dOf_dd, Option.bind_some, Option.bind_none, Option.getD_some, Option.getD_none, dParL, mCallL, mCallB, dRev, fSortE, dRet, dRetN, dIf, dSeq, dDrop, dAsg, gNm, gTp, gsNil, gsCons, dAsgL, dApp, dExt, dIns, dPopAt, dSetIx, dPar, dAug, dNext, mVar, mVarN, mC, m1, m2, mTst, mChain, mNot, mAnd, mOr, mAndV, mOrV, mNotV, mIf, mNil, mCons, mBag, Du.dataOf, mTup, mLst, mB, mCall, mIsi, mIsi2, mNotD, mTru, truD, fAdd, fI, fI0, fMul, fB, fEq, fNe, fIn, fGeD, fIs, isBd, fIsN, isNd, fNeg, fIx, mSlL, mSlT, mNoP, mPart, fLen, fAbs, fInt, fMin2, fTuple, fList, fAll, fAny, fRepr, miL, miT, miR1, miR2, miEn, miZip, miZip3, mRow, mLc, wipeE, dFor, mYes, Du.envOf, Option.map_some, Option.map_none, List.map_cons, List.map_nil, List.length_cons, List.length_nil, Nat.sub_self, Nat.add_sub_cancel, Nat.reduceAdd, Nat.reduceSub, List.replicate, List.cons_append, List.nil_append, List.append_nil, List.getElem?_cons_zero, List.getElem?_cons_succ, List.getElem?_nil, List.set_cons_zero, List.set_cons_succ]
        exact ⟨trivial, trivial, fun b h1 h2 h3 => hC _ ⟨b, ⟨h1, h2, h3⟩, rfl⟩⟩
      rintro _ ⟨b, hb, rfl⟩
      refine seq_go' (fun e => ∃ (Rs : List Vx) (L : List Od), TaskOk b Rs L ∧ L.length ≤ 9 ∧ e = [.un, .bag, .v d, .v (.tuple (benD b)), .v (taskD b Rs L), x5, x6, x7, x8, x9, x10, x11, x12, x13, x14, x15, x16, x17, x18]) (fun C' hC => ?_) ?_
      · simp only [fAnyTask, dWeak, mRevL, dParVLL, dParVDT, dParVLLT, mGetN, mInN, mDGetV, mDGet2, dPutN, dRetD, mD0, mD1, mDict, mOf, dSetD, mConsD, mVarDD, mDc, dParVD, dParDL, dParLD, dParDV, dGive, miSV, mOrX, mSortK, fSortG, onD, dOf_od, dOf_dd, Option.bind_some, Option.bind_none, Option.getD_some, Option.getD_none, dParL, mCallL, mCallB, dRev, fSortE, dRet, dRetN, dIf, dSeq, dDrop, dAsg, gNm, gTp, gsNil, gsCons, dAsgL, dApp, dExt, dIns, dPopAt, dSetIx, dPar, dAug, dNext, mVar, mVarN, mC, m1, m2, mTst, mChain, mNot, mAnd, mOr, mAndV, mOrV, mNotV, mIf, mNil, mCons, mBag, Du.dataOf, mTup, mLst, mB, mCall, mIsi, mIsi2, mNotD, mTru, truD, fAdd, fI, fI0, fMul, fB, fEq, fNe, fIn, fGeD, fIs, isBd, fIsN, isNd, fNeg, fIx, mSlL, mSlT, mNoP, mPart, fLen, fAbs, fInt, fMin2, fTuple, fList, fAll, fAny, fRepr, miL, miT, miR1, miR2, miEn, miZip, miZip3, mRow, mLc, wipeE, dFor, mYes, Du.envOf, Option.map_some, Option.map_none, List.map_cons, List.map_nil, List.length_cons, List.length_nil, Nat.sub_self, Nat.add_sub_cancel, Nat.reduceAdd, Nat.reduceSub, List.replicate, List.cons_append, List.nil_append, List.append_nil, List.getElem?_cons_zero, List.getElem?_cons_succ, List.getElem?_nil, List.set_cons_zero, List.set_cons_succ]
        exact ⟨trivial, b, rfl, ⟨hb, trivial, trivial⟩, fun Rs L hT lL => hC _ ⟨Rs, L, hT, lL, rfl⟩⟩
      rintro _ ⟨Rs, L, hT, lL, rfl⟩
      have hR := hT.rs
      have lR := hR.len
      refine seq_go' (fun e => e = [.un, .bag, .v d, .v (.tuple (benD b)), .v (taskD b Rs L), x5, x6, .v (.tuple (Rs.map conD)), .own [], .own [], x10, x11, x12, x13, x14, x15, x16, x17, x18]) (fun C' hC => ?_) ?_
      · simp only [taskD, dWeak, mRevL, dParVLL, dParVDT, dParVLLT, mGetN, mInN, mDGetV, mDGet2, dPutN, dRetD, mD0, mD1, mDict, mOf, dSetD, mConsD, mVarDD, mDc, dParVD, dParDL, dParLD, dParDV, dGive, miSV, mOrX, mSortK, fSortG, onD, dOf_od, dOf_dd, Option.bind_some, Option.bind_none, Option.getD_some, Option.getD_none, dParL, mCallL, mCallB, dRev, fSortE, dRet, dRetN, dIf, dSeq, dDrop, dAsg, gNm, gTp, gsNil, gsCons, dAsgL, dApp, dExt, dIns, dPopAt, dSetIx, dPar, dAug, dNext, mVar, mVarN, mC, m1, m2, mTst, mChain, mNot, mAnd, mOr, mAndV, mOrV, mNotV, mIf, mNil, mCons, mBag, Du.dataOf, mTup, mLst, mB, mCall, mIsi, mIsi2, mNotD, mTru, truD, fAdd, fI, fI0, fMul, fB, fEq, fNe, fIn, fGeD, fIs, isBd, fIsN, isNd, fNeg, fIx, mSlL, mSlT, mNoP, mPart, fLen, fAbs, fInt, fMin2, fTuple, fList, fAll, fAny, fRepr, miL, miT, miR1, miR2, miEn, miZip, miZip3, mRow, mLc, wipeE, dFor, mYes, Du.envOf, Option.map_some, Option.map_none, List.map_cons, List.map_nil, List.length_cons, List.length_nil, Nat.sub_self, Nat.add_sub_cancel, Nat.reduceAdd, Nat.reduceSub, List.replicate, List.cons_append, List.nil_append, List.append_nil, List.getElem?_cons_zero, List.getElem?_cons_succ, List.getElem?_nil, List.set_cons_zero, List.set_cons_succ]
        rw [show atI [PyData.tuple (benD b), .tuple (Rs.map conD), .tuple (L.map ordD)] (1 : Int) = some (.tuple (Rs.map conD)) from atI_nat (j := 1) rfl]
        exact ⟨by decide, by decide, rfl, hC _ rfl⟩
      rintro _ rfl
      refine seq_go' (fun e => ∃ x5 x18, e = [.un, .bag, .v d, .v (.tuple (benD b)), .v (taskD b Rs L), x5, x6, .v (.tuple (Rs.map conD)), .own [], .own ((prsOf Rs Rs).map duD), x10, x11, x12, x13, x14, x15, x16, x17, x18]) (fun C' hC => ?_) ?_
      · simp only [dFor, miT, dWeak, mRevL, dParVLL, dParVDT, dParVLLT, mGetN, mInN, mDGetV, mDGet2, dPutN, dRetD, mD0, mD1, mDict, mOf, dSetD, mConsD, mVarDD, mDc, dParVD, dParDL, dParLD, dParDV, dGive, miSV, mOrX, mSortK, fSortG, onD, dOf_od, dOf_dd, Option.bind_some, Option.bind_none, Option.getD_some, Option.getD_none, dParL, mCallL, mCallB, dRev, fSortE, dRet, dRetN, dIf, dSeq, dDrop, dAsg, gNm, gTp, gsNil, gsCons, dAsgL, dApp, dExt, dIns, dPopAt, dSetIx, dPar, dAug, dNext, mVar, mVarN, mC, m1, m2, mTst, mChain, mNot, mAnd, mOr, mAndV, mOrV, mNotV, mIf, mNil, mCons, mBag, Du.dataOf, mTup, mLst, mB, mCall, mIsi, mIsi2, mNotD, mTru, truD, fAdd, fI, fI0, fMul, fB, fEq, fNe, fIn, fGeD, fIs, isBd, fIsN, isNd, fNeg, fIx, mSlL, mSlT, mNoP, mPart, fLen, fAbs, fInt, fMin2, fTuple, fList, fAll, fAny, fRepr, miL, miT, miR1, miR2, miEn, miZip, miZip3, mRow, mLc, wipeE, dFor, mYes, Du.envOf, Option.map_some, Option.map_none, List.map_cons, List.map_nil, List.length_cons, List.length_nil, Nat.sub_self, Nat.add_sub_cancel, Nat.reduceAdd, Nat.reduceSub, List.replicate, List.cons_append, List.nil_append, List.append_nil, List.getElem?_cons_zero, List.getElem?_cons_succ, List.getElem?_nil, List.set_cons_zero, List.set_cons_succ]
        refine ⟨fun j e => ∃ x5 x18, e = [.un, .bag, .v d, .v (.tuple (benD b)), .v (taskD b Rs L), x5, x6, .v (.tuple (Rs.map conD)), .own [], .own ((prsOf Rs (Rs.take j)).map duD), x10, x11, x12, x13, x14, x15, x16, x17, x18], ⟨_, _, rfl⟩, ?_, ?_⟩
        · rintro j d5 _ hd5 ⟨x5, x18, rfl⟩
          rw [List.getElem?_map] at hd5
          obtain ⟨one, h1, rfl⟩ := Option.map_eq_some_iff.mp hd5
          have lp := prsOf_len (L := Rs.take j) lR (by rw [List.length_take]; omega)
          have e1 : Rs.take (j + 1) = Rs.take j ++ [one] := by
            rw [List.take_add_one, h1]
            rfl
          simp only [dWeak, mRevL, dParVLL, dParVDT, dParVLLT, mGetN, mInN, mDGetV, mDGet2, dPutN, dRetD, mD0, mD1, mDict, mOf, dSetD, mConsD, mVarDD, mDc, dParVD, dParDL, dParLD, dParDV, dGive, miSV, mOrX, mSortK, fSortG, onD, dOf_od, dOf_dd, Option.bind_some, Option.bind_none, Option.getD_some, Option.getD_none, dParL, mCallL, mCallB, dRev, fSortE, dRet, dRetN, dIf, dSeq, dDrop, dAsg, gNm, gTp, gsNil, gsCons, dAsgL, dApp, dExt, dIns, dPopAt, dSetIx, dPar, dAug, dNext, mVar, mVarN, mC, m1, m2, mTst, mChain, mNot, mAnd, mOr, mAndV, mOrV, mNotV, mIf, mNil, mCons, mBag, Du.dataOf, mTup, mLst, mB, mCall, mIsi, mIsi2, mNotD, mTru, truD, fAdd, fI, fI0, fMul, fB, fEq, fNe, fIn, fGeD, fIs, isBd, fIsN, isNd, fNeg, fIx, mSlL, mSlT, mNoP, mPart, fLen, fAbs, fInt, fMin2, fTuple, fList, fAll, fAny, fRepr, miL, miT, miR1, miR2, miEn, miZip, miZip3, mRow, mLc, wipeE, dFor, mYes, Du.envOf, Option.map_some, Option.map_none, List.map_cons, List.map_nil, List.length_cons, List.length_nil, Nat.sub_self, Nat.add_sub_cancel, Nat.reduceAdd, Nat.reduceSub, List.replicate, List.cons_append, List.nil_append, List.append_nil, List.getElem?_cons_zero, List.getElem?_cons_succ, List.getElem?_nil, List.set_cons_zero, List.set_cons_succ]
          refine lc_pure (fun t => [.un, .bag, .v d, .v (.tuple (benD b)), .v (taskD b Rs L), .v (conD one), x6, .v (.tuple (Rs.map conD)), .own [], .own ((prsOf Rs (Rs.take j)).map duD), x10, x11, x12, x13, x14, x15, x16, x17, .v t]) (fun t => !PyData.eqv t (conD one)) (fun t => .tuple [conD one, t]) (Rs.map conD) [] _ (by rw [List.length_nil, List.length_map]; omega) (fun t ht k' hk => hk) (fun t ht k' hk => ?_) (fun t ht _ k' hk => ?_) ?_
          · obtain ⟨r, _, rfl⟩ := List.mem_map.mp ht
            exact ⟨okNe_con _ _, hk⟩
          · exact ⟨(show 2 ≤ 100000 by decide), hk⟩
          · have e2 : ((Rs.map conD).filter fun t => !PyData.eqv t (conD one)).map (fun t => PyData.tuple [conD one, t]) = ((Rs.filter fun t => !decide (t = one)).map fun t => (one, t)).map duD := by
              rw [List.filter_map, List.map_map, List.map_map]
              have e3 : ((fun t => !PyData.eqv t (conD one)) ∘ conD) = fun t => !decide (t = one) := funext fun t => by
                show (!PyData.eqv (conD t) (conD one)) = _
                rw [eqv_con]
              rw [e3]
              rfl
            rw [List.nil_append, e2]
            have lf := List.length_filter_le (fun t => !decide (t = one)) Rs
            refine ⟨by rw [List.length_map, List.length_map, List.length_map]; omega, .v (conD one), x18, ?_⟩
            rw [e1, prsOf_snoc, List.map_append]
        · rintro _ ⟨x5, x18, rfl⟩
          rw [List.length_map, List.take_length]
          exact hC _ ⟨x5, x18, rfl⟩
      rintro _ ⟨x5, x18, rfl⟩
      have ndP := prsOf_nd hR.nd hR.nd
      have lP := prsOf_len lR lR
      refine seq_go' (fun e => ∃ (oL : List Od) (x10 x11 x12 x13 : DV), (∀ o ∈ oL, OrdIn Rs o) ∧ (oL.map Prod.fst).Nodup ∧ oL.length ≤ 12 ∧ e = [.un, .bag, .v d, .v (.tuple (benD b)), .v (taskD b Rs L), x5, x6, .v (.tuple (Rs.map conD)), .own (oL.map ordD), .v (.list ((prsOf Rs Rs).map duD)), x10, x11, x12, x13, x14, x15, x16, x17, x18]) (fun C' hC => ?_) ?_
      · simp only [fMixed, fTake, dWeak, mRevL, dParVLL, dParVDT, dParVLLT, mGetN, mInN, mDGetV, mDGet2, dPutN, dRetD, mD0, mD1, mDict, mOf, dSetD, mConsD, mVarDD, mDc, dParVD, dParDL, dParLD, dParDV, dGive, miSV, mOrX, mSortK, fSortG, onD, dOf_od, dOf_dd, Option.bind_some, Option.bind_none, Option.getD_some, Option.getD_none, dParL, mCallL, mCallB, dRev, fSortE, dRet, dRetN, dIf, dSeq, dDrop, dAsg, gNm, gTp, gsNil, gsCons, dAsgL, dApp, dExt, dIns, dPopAt, dSetIx, dPar, dAug, dNext, mVar, mVarN, mC, m1, m2, mTst, mChain, mNot, mAnd, mOr, mAndV, mOrV, mNotV, mIf, mNil, mCons, mBag, Du.dataOf, mTup, mLst, mB, mCall, mIsi, mIsi2, mNotD, mTru, truD, fAdd, fI, fI0, fMul, fB, fEq, fNe, fIn, fGeD, fIs, isBd, fIsN, isNd, fNeg, fIx, mSlL, mSlT, mNoP, mPart, fLen, fAbs, fInt, fMin2, fTuple, fList, fAll, fAny, fRepr, miL, miT, miR1, miR2, miEn, miZip, miZip3, mRow, mLc, wipeE, dFor, mYes, Du.envOf, Option.map_some, Option.map_none, List.map_cons, List.map_nil, List.length_cons, List.length_nil, Nat.sub_self, Nat.add_sub_cancel, Nat.reduceAdd, Nat.reduceSub, List.replicate, List.cons_append, List.nil_append, List.append_nil, List.getElem?_cons_zero, List.getElem?_cons_succ, List.getElem?_nil, List.set_cons_zero, List.set_cons_succ]
        refine ⟨trivial, by rw [List.length_map]; omega, fun es hp => ⟨trivial, ⟨by decide, by decide⟩, fun v v0 v1 => ?_⟩⟩
        obtain ⟨Qs, hQ, rfl⟩ := perm_du hp
        obtain ⟨n, rfl⟩ : ∃ n : Nat, v = (n : Int) := ⟨v.toNat, by omega⟩
        rw [cut_to', ← List.map_take]
        have ndW : (Qs.take n).Nodup := (hQ.nodup_iff.mpr ndP).sublist (List.take_sublist n Qs)
        have inW : ∀ p ∈ Qs.take n, p ∈ prsOf Rs Rs := fun p hp => hQ.mem_iff.mp (List.mem_of_mem_take hp)
        have lW : (Qs.take n).length ≤ 12 := by
          rw [List.length_take]
          omega
        generalize Qs.take n = Ws at ndW inW lW ⊢
        refine ⟨fun j e => ∃ (oL : List Od) (x10 x11 x12 x13 : DV), (∀ o ∈ oL, OrdIn Rs o) ∧ oL.map Prod.fst = Ws.take j ∧ e = [.un, .bag, .v d, .v (.tuple (benD b)), .v (taskD b Rs L), x5, x6, .v (.tuple (Rs.map conD)), .own (oL.map ordD), .v (.list ((prsOf Rs Rs).map duD)), x10, x11, x12, x13, x14, x15, x16, x17, x18], ⟨[], _, _, _, _, (fun _ hh => nomatch hh), rfl, rfl⟩, ?_, ?_⟩
        · rintro j dp _ hdp ⟨oL, x10, x11, x12, x13, hO, eO, rfl⟩
          rw [List.getElem?_map] at hdp
          obtain ⟨⟨s, g⟩, hp1, rfl⟩ := Option.map_eq_some_iff.mp hdp
          obtain ⟨hs, hg, hsg⟩ := prsOf_mem (inW _ (List.mem_of_getElem? hp1))
          obtain ⟨eS, oI⟩ := two_ends hb hR hs hg hsg
          have lo : oL.length ≤ 12 := by
            have z := congrArg List.length eO
            rw [List.length_map, List.length_take] at z
            omega
          have e1 : Ws.take (j + 1) = Ws.take j ++ [(s, g)] := by
            rw [List.take_add_one, hp1]
            rfl
          have nes : s ≠ [] ∧ g ≠ [] := ⟨con_ne hb.ne s (hR.sub s hs), con_ne hb.ne g (hR.sub g hg)⟩
          have fin : ∀ (Es : List Vx), OrdIn Rs ((s, g), Es) → (∀ o ∈ oL ++ [((s, g), Es)], OrdIn Rs o) ∧ (oL ++ [((s, g), Es)]).map Prod.fst = Ws.take (j + 1) := fun Es hE => by
            refine ⟨fun o ho => ?_, ?_⟩
            · rcases List.mem_append.mp ho with z | z
              · exact hO o z
              · rw [List.mem_singleton] at z
                rw [z]
                exact hE
            · rw [List.map_append, eO, e1]
              rfl
          simp only [duD, fEither, fAlike, fTake, fEnds, dWeak, mRevL, dParVLL, dParVDT, dParVLLT, mGetN, mInN, mDGetV, mDGet2, dPutN, dRetD, mD0, mD1, mDict, mOf, dSetD, mConsD, mVarDD, mDc, dParVD, dParDL, dParLD, dParDV, dGive, miSV, mOrX, mSortK, fSortG, onD, dOf_od, dOf_dd, Option.bind_some, Option.bind_none, Option.getD_some, Option.getD_none, dParL, mCallL, mCallB, dRev, fSortE, dRet, dRetN, dIf, dSeq, dDrop, dAsg, gNm, gTp, gsNil, gsCons, dAsgL, dApp, dExt, dIns, dPopAt, dSetIx, dPar, dAug, dNext, mVar, mVarN, mC, m1, m2, mTst, mChain, mNot, mAnd, mOr, mAndV, mOrV, mNotV, mIf, mNil, mCons, mBag, Du.dataOf, mTup, mLst, mB, mCall, mIsi, mIsi2, mNotD, mTru, truD, fAdd, fI, fI0, fMul, fB, fEq, fNe, fIn, fGeD, fIs, isBd, fIsN, isNd, fNeg, fIx, mSlL, mSlT, mNoP, mPart, fLen, fAbs, fInt, fMin2, fTuple, fList, fAll, fAny, fRepr, miL, miT, miR1, miR2, miEn, miZip, miZip3, mRow, mLc, wipeE, dFor, mYes, Du.envOf, Option.map_some, Option.map_none, List.map_cons, List.map_nil, List.length_cons, List.length_nil, Nat.sub_self, Nat.add_sub_cancel, Nat.reduceAdd, Nat.reduceSub, List.replicate, List.cons_append, List.nil_append, List.append_nil, List.getElem?_cons_zero, List.getElem?_cons_succ, List.getElem?_nil, List.set_cons_zero, List.set_cons_succ]
          refine ⟨trivial, by decide, alike_cons [s, g], sort_cons (L := [s, g]) (by simp [nes.1, nes.2]), by decide, by simp [depth_con'], trivial, s, g, rfl, rfl, nes, by decide, trivial, ⟨rfl, ?_⟩, ?_⟩
          · rw [eS]
            exact Sz.okA (Sz.ord hb.ok.len (ordOk_in hb hR oI)) (by decide) (by decide)
          rw [eS]
          refine ⟨by rw [List.length_map]; omega, trivial, ⟨by decide, by decide⟩, fun v v0 v1 => ⟨okEq_int _ _, ?_⟩⟩
          rw [eqv_int]
          cases decide (v = 0) with
          | true =>
            obtain ⟨f1, f2⟩ := fin _ oI
            refine ⟨oL ++ [((s, g), ksort (TS.code 6) [s, g])], .v (conD s), .v (conD g), .v (.tuple ((ksort (TS.code 6) [s, g]).map conD)), .v (ordD ((s, g), ksort (TS.code 6) [s, g])), f1, f2, ?_⟩
            rw [List.map_append]
            rfl
          | false =>
            refine ⟨trivial, b, Rs, s, g, rfl, rfl, rfl, ⟨hb.ok, hb.ne, hR, hs, hg, hsg⟩, fun Es h1 h2 h3 h4 => ?_⟩
            obtain ⟨f1, f2⟩ := fin Es ⟨hs, hg, hsg, h1, h2, h3, h4⟩
            refine ⟨by decide, oL ++ [((s, g), Es)], .v (conD s), .v (conD g), .v (.tuple ((ksort (TS.code 6) [s, g]).map conD)), .v (ordD ((s, g), ksort (TS.code 6) [s, g])), f1, f2, ?_⟩
            rw [List.map_append]
            rfl
        · rintro _ ⟨oL, x10, x11, x12, x13, hO, eO, rfl⟩
          rw [List.length_map, List.take_length] at eO
          exact hC _ ⟨oL, x10, x11, x12, x13, hO, by rw [eO]; exact ndW, by rw [← List.length_map (f := Prod.fst), eO]; exact lW, rfl⟩
      rintro _ ⟨oL, x10, x11, x12, x13, hO, ndO, lO, rfl⟩
      have oK : ∀ o ∈ oL, OrdOk b.length o := fun o ho => ordOk_in hb hR (hO o ho)
      have szO : Sz 4 16828 (.list (oL.map ordD)) := Sz.lst (m := 12) (fun x hx => by
        obtain ⟨o, ho, rfl⟩ := List.mem_map.mp hx
        exact Sz.ord hb.ok.len (oK o ho)) (by rw [List.length_map]; exact lO)
      have szT := Sz.task' hb hR hT.os (Nat.le_trans lL (by decide))
      have szB := Sz.lst (m := 2) (Sz.two szT (szO.mono (by decide) (by decide))) (Nat.le_refl _)
      have eSO := sort_ords hb.ok.len (fun o ho => (oK o ho).p) ndO
      have okR := Sz.okA szB (by decide) (by decide)
      have dO := depth_ord hb.ok.len oK
      generalize hsh : (PyData.list [taskD b Rs L, .list (oL.map ordD)]).shown = sh
      refine seq_go' (fun e => e = [.un, .bag, .v d, .v (.tuple (benD b)), .v (taskD b Rs L), x5, x6, .v (.tuple (Rs.map conD)), .v (.list (oL.map ordD)), .v (.list ((prsOf Rs Rs).map duD)), x10, x11, x12, x13, .v (taskD b Rs (ksort k3 oL)), .v (.str sh), x16, x17, x18]) (fun C' hC => ?_) ?_
      · simp only [dWeak, mRevL, dParVLL, dParVDT, dParVLLT, mGetN, mInN, mDGetV, mDGet2, dPutN, dRetD, mD0, mD1, mDict, mOf, dSetD, mConsD, mVarDD, mDc, dParVD, dParDL, dParLD, dParDV, dGive, miSV, mOrX, mSortK, fSortG, onD, dOf_od, dOf_dd, Option.bind_some, Option.bind_none, Option.getD_some, Option.getD_none, dParL, mCallL, mCallB, dRev, fSortE, dRet, dRetN, dIf, dSeq, dDrop, dAsg, gNm, gTp, gsNil, gsCons, dAsgL, dApp, dExt, dIns, dPopAt, dSetIx, dPar, dAug, dNext, mVar, mVarN, mC, m1, m2, mTst, mChain, mNot, mAnd, mOr, mAndV, mOrV, mNotV, mIf, mNil, mCons, mBag, Du.dataOf, mTup, mLst, mB, mCall, mIsi, mIsi2, mNotD, mTru, truD, fAdd, fI, fI0, fMul, fB, fEq, fNe, fIn, fGeD, fIs, isBd, fIsN, isNd, fNeg, fIx, mSlL, mSlT, mNoP, mPart, fLen, fAbs, fInt, fMin2, fTuple, fList, fAll, fAny, fRepr, miL, miT, miR1, miR2, miEn, miZip, miZip3, mRow, mLc, wipeE, dFor, mYes, Du.envOf, Option.map_some, Option.map_none, List.map_cons, List.map_nil, List.length_cons, List.length_nil, Nat.sub_self, Nat.add_sub_cancel, Nat.reduceAdd, Nat.reduceSub, List.replicate, List.cons_append, List.nil_append, List.append_nil, List.getElem?_cons_zero, List.getElem?_cons_succ, List.getElem?_nil, List.set_cons_zero, List.set_cons_succ]
        refine ⟨alike_ords oL, sort_ords' oL, by rw [List.length_map]; omega, dO, by decide, ?_⟩
        rw [eSO]
        refine ⟨by decide, ⟨tame_show _ okR.tm, Nat.le_trans okR.dp (by decide), okR.len⟩, hC _ ?_⟩
        rw [hsh]
        rfl
      rintro _ rfl
      have hT2 := task_of hb hR hO ndO (by omega)
      have lO2 : (ksort k3 oL).length ≤ 12 := by
        rw [(ksort_perm k3 oL).length_eq]
        exact lO
      have sz2 := Sz.task' hb hR hT2.os lO2
      have sz0 : Sz 5 30000 (taskD b Rs []) := Sz.task' hb hR (fun _ h => nomatch h) (by decide)
      have szK := Sz.lst (m := 2) (Sz.two szT sz0) (Nat.le_refl _)
      simp only [dFor, miR1, dWeak, mRevL, dParVLL, dParVDT, dParVLLT, mGetN, mInN, mDGetV, mDGet2, dPutN, dRetD, mD0, mD1, mDict, mOf, dSetD, mConsD, mVarDD, mDc, dParVD, dParDL, dParLD, dParDV, dGive, miSV, mOrX, mSortK, fSortG, onD, dOf_od, dOf_dd, Option.bind_some, Option.bind_none, Option.getD_some, Option.getD_none, dParL, mCallL, mCallB, dRev, fSortE, dRet, dRetN, dIf, dSeq, dDrop, dAsg, gNm, gTp, gsNil, gsCons, dAsgL, dApp, dExt, dIns, dPopAt, dSetIx, dPar, dAug, dNext, mVar, mVarN, mC, m1, m2, mTst, mChain, mNot, mAnd, mOr, mAndV, mOrV, mNotV, mIf, mNil, mCons, mBag, Du.dataOf, mTup, mLst, mB, mCall, mIsi, mIsi2, mNotD, mTru, truD, fAdd, fI, fI0, fMul, fB, fEq, fNe, fIn, fGeD, fIs, isBd, fIsN, isNd, fNeg, fIx, mSlL, mSlT, mNoP, mPart, fLen, fAbs, fInt, fMin2, fTuple, fList, fAll, fAny, fRepr, miL, miT, miR1, miR2, miEn, miZip, miZip3, mRow, mLc, wipeE, dFor, mYes, Du.envOf, Option.map_some, Option.map_none, List.map_cons, List.map_nil, List.length_cons, List.length_nil, Nat.sub_self, Nat.add_sub_cancel, Nat.reduceAdd, Nat.reduceSub, List.replicate, List.cons_append, List.nil_append, List.append_nil, List.getElem?_cons_zero, List.getElem?_cons_succ, List.getElem?_nil, List.set_cons_zero, List.set_cons_succ]
      refine ⟨by decide, fun j e => ∃ x6 x16 x17, e = [.un, .bag, .v d, .v (.tuple (benD b)), .v (taskD b Rs L), x5, x6, .v (.tuple (Rs.map conD)), .v (.list (oL.map ordD)), .v (.list ((prsOf Rs Rs).map duD)), x10, x11, x12, x13, .v (taskD b Rs (ksort k3 oL)), .v (.str sh), x16, x17, x18], ⟨_, _, _, rfl⟩, ?_, ?_⟩
      · rintro j d6 _ hd6 ⟨x6, x16, x17, rfl⟩
        refine seq_go' (fun e => e = [.un, .bag, .v d, .v (.tuple (benD b)), .v (taskD b Rs L), x5, .v d6, .v (.tuple (Rs.map conD)), .v (.list (oL.map ordD)), .v (.list ((prsOf Rs Rs).map duD)), x10, x11, x12, x13, .v (taskD b Rs (ksort k3 oL)), .v (.str sh), .v (taskD b Rs (ksort k3 oL)), x17, x18]) (fun C' hC => ?_) ?_
        · simp only [taskD, fWithO, dWeak, mRevL, dParVLL, dParVDT, dParVLLT, mGetN, mInN, mDGetV, mDGet2, dPutN, dRetD, mD0, mD1, mDict, mOf, dSetD, mConsD, mVarDD, mDc, dParVD, dParDL, dParLD, dParDV, dGive, miSV, mOrX, mSortK, fSortG, onD, dOf_od, dOf_dd, Option.bind_some, Option.bind_none, Option.getD_some, Option.getD_none, dParL, mCallL, mCallB, dRev, fSortE, dRet, dRetN, dIf, dSeq, dDrop, dAsg, gNm, gTp, gsNil, gsCons, dAsgL, dApp, dExt, dIns, dPopAt, dSetIx, dPar, dAug, dNext, mVar, mVarN, mC, m1, m2, mTst, mChain, mNot, mAnd, mOr, mAndV, mOrV, mNotV, mIf, mNil, mCons, mBag, Du.dataOf, mTup, mLst, mB, mCall, mIsi, mIsi2, mNotD, mTru, truD, fAdd, fI, fI0, fMul, fB, fEq, fNe, fIn, fGeD, fIs, isBd, fIsN, isNd, fNeg, fIx, mSlL, mSlT, mNoP, mPart, fLen, fAbs, fInt, fMin2, fTuple, fList, fAll, fAny, fRepr, miL, miT, miR1, miR2, miEn, miZip, miZip3, mRow, mLc, wipeE, dFor, mYes, Du.envOf, Option.map_some, Option.map_none, List.map_cons, List.map_nil, List.length_cons, List.length_nil, Nat.sub_self, Nat.add_sub_cancel, Nat.reduceAdd, Nat.reduceSub, List.replicate, List.cons_append, List.nil_append, List.append_nil, List.getElem?_cons_zero, List.getElem?_cons_succ, List.getElem?_nil, List.set_cons_zero, List.set_cons_succ]
          refine ⟨trivial, ⟨alike_ords oL, sort_ords' oL, by rw [List.length_map]; omega, dO⟩, ?_⟩
          rw [eSO]
          exact hC _ rfl
        rintro _ rfl
        refine seq_go' (fun e => e = [.un, .bag, .v d, .v (.tuple (benD b)), .v (taskD b Rs L), x5, .v d6, .v (.tuple (Rs.map conD)), .v (.list (oL.map ordD)), .v (.list ((prsOf Rs Rs).map duD)), x10, x11, x12, x13, .v (taskD b Rs (ksort k3 oL)), .v (.str sh), .v (taskD b Rs (ksort k3 oL)), x17, x18]) (fun C' hC => ?_) ?_
        · simp only [fAlike, fTaskF, fNeS, dWeak, mRevL, dParVLL, dParVDT, dParVLLT, mGetN, mInN, mDGetV, mDGet2, dPutN, dRetD, mD0, mD1, mDict, mOf, dSetD, mConsD, mVarDD, mDc, dParVD, dParDL, dParLD, dParDV, dGive, miSV, mOrX, mSortK, fSortG, onD, dOf_od, dOf_dd, Option.bind_some, Option.bind_none, Option.getD_some, Option.getD_none, dParL, mCallL, mCallB, dRev, fSortE, dRet, dRetN, dIf, dSeq, dDrop, dAsg, gNm, gTp, gsNil, gsCons, dAsgL, dApp, dExt, dIns, dPopAt, dSetIx, dPar, dAug, dNext, mVar, mVarN, mC, m1, m2, mTst, mChain, mNot, mAnd, mOr, mAndV, mOrV, mNotV, mIf, mNil, mCons, mBag, Du.dataOf, mTup, mLst, mB, mCall, mIsi, mIsi2, mNotD, mTru, truD, fAdd, fI, fI0, fMul, fB, fEq, fNe, fIn, fGeD, fIs, isBd, fIsN, isNd, fNeg, fIx, mSlL, mSlT, mNoP, mPart, fLen, fAbs, fInt, fMin2, fTuple, fList, fAll, fAny, fRepr, miL, miT, miR1, miR2, miEn, miZip, miZip3, mRow, mLc, wipeE, dFor, mYes, Du.envOf, Option.map_some, Option.map_none, List.map_cons, List.map_nil, List.length_cons, List.length_nil, Nat.sub_self, Nat.add_sub_cancel, Nat.reduceAdd, Nat.reduceSub, List.replicate, List.cons_append, List.nil_append, List.append_nil, List.getElem?_cons_zero, List.getElem?_cons_succ, List.getElem?_nil, List.set_cons_zero, List.set_cons_succ]
          rw [task_ok hT2]
          refine ⟨trivial, ⟨trivial, Sz.okA sz2 (by decide) (by decide)⟩, trivial, ⟨Nat.le_trans sz2.wq (by decide), sz2.oI, eqs_ok _⟩, by decide, ⟨tame_show _ okR.tm, Nat.le_trans okR.dp (by decide), okR.len⟩, ?_⟩
          rw [hsh, decide_eq_true (rfl : sh = sh)]
          exact hC _ rfl
        rintro _ rfl
        refine seq_go' (fun e => e = [.un, .bag, .v d, .v (.tuple (benD b)), .v (taskD b Rs L), x5, .v d6, .v (.tuple (Rs.map conD)), .v (.list (oL.map ordD)), .v (.list ((prsOf Rs Rs).map duD)), x10, x11, x12, x13, .v (taskD b Rs (ksort k3 oL)), .v (.str sh), .v (taskD b Rs (ksort k3 oL)), .v (.list [taskD b Rs L, taskD b Rs []]), x18]) (fun C' hC => ?_) ?_
        · have eRv : sortD ((L.map ordD).reverse) = L.map ordD := by
            rw [← List.map_reverse, sort_ords hb.ok.len (fun o ho => (ordOk_in hb hR (hT.os o (List.mem_reverse.mp ho))).p) (by rw [List.map_reverse]; exact (List.reverse_perm _).nodup_iff.mpr (task_nd hT)), ksort_rev hT]
          have e0 : sortD [] = [] := by simp [sortD]
          have aR : PySem.W.AllAlike (L.map ordD).reverse := by
            rw [← List.map_reverse]
            exact alike_ords L.reverse
          have sR : PySem.W.Sortable (L.map ordD).reverse := by
            rw [← List.map_reverse]
            exact sort_ords' L.reverse
          have dR : ∀ x ∈ (L.map ordD).reverse, x.depth ≤ 20 := fun x hx => depth_ord hb.ok.len (fun o ho => ordOk_in hb hR (hT.os o ho)) x (List.mem_reverse.mp hx)
          simp only [taskD, fWithO, dWeak, mRevL, dParVLL, dParVDT, dParVLLT, mGetN, mInN, mDGetV, mDGet2, dPutN, dRetD, mD0, mD1, mDict, mOf, dSetD, mConsD, mVarDD, mDc, dParVD, dParDL, dParLD, dParDV, dGive, miSV, mOrX, mSortK, fSortG, onD, dOf_od, dOf_dd, Option.bind_some, Option.bind_none, Option.getD_some, Option.getD_none, dParL, mCallL, mCallB, dRev, fSortE, dRet, dRetN, dIf, dSeq, dDrop, dAsg, gNm, gTp, gsNil, gsCons, dAsgL, dApp, dExt, dIns, dPopAt, dSetIx, dPar, dAug, dNext, mVar, mVarN, mC, m1, m2, mTst, mChain, mNot, mAnd, mOr, mAndV, mOrV, mNotV, mIf, mNil, mCons, mBag, Du.dataOf, mTup, mLst, mB, mCall, mIsi, mIsi2, mNotD, mTru, truD, fAdd, fI, fI0, fMul, fB, fEq, fNe, fIn, fGeD, fIs, isBd, fIsN, isNd, fNeg, fIx, mSlL, mSlT, mNoP, mPart, fLen, fAbs, fInt, fMin2, fTuple, fList, fAll, fAny, fRepr, miL, miT, miR1, miR2, miEn, miZip, miZip3, mRow, mLc, wipeE, dFor, mYes, Du.envOf, Option.map_some, Option.map_none, List.map_cons, List.map_nil, List.length_cons, List.length_nil, Nat.sub_self, Nat.add_sub_cancel, Nat.reduceAdd, Nat.reduceSub, List.replicate, List.cons_append, List.nil_append, List.append_nil, List.getElem?_cons_zero, List.getElem?_cons_succ, List.getElem?_nil, List.set_cons_zero, List.set_cons_succ]
          rw [show atI [PyData.tuple (benD b), .tuple (Rs.map conD), .tuple (L.map ordD)] (2 : Int) = some (.tuple (L.map ordD)) from atI_nat (j := 2) rfl]
          refine ⟨trivial, ⟨aR, sR, by rw [List.length_reverse, List.length_map]; omega, dR⟩, by decide, trivial, ⟨alike_ords [], sort_ords' [], by decide, fun _ h => nomatch h⟩, by decide, ?_⟩
          rw [eRv, e0]
          exact hC _ rfl
        rintro _ rfl
        simp only [fAlike, dWeak, mRevL, dParVLL, dParVDT, dParVLLT, mGetN, mInN, mDGetV, mDGet2, dPutN, dRetD, mD0, mD1, mDict, mOf, dSetD, mConsD, mVarDD, mDc, dParVD, dParDL, dParLD, dParDV, dGive, miSV, mOrX, mSortK, fSortG, onD, dOf_od, dOf_dd, Option.bind_some, Option.bind_none, Option.getD_some, Option.getD_none, dParL, mCallL, mCallB, dRev, fSortE, dRet, dRetN, dIf, dSeq, dDrop, dAsg, gNm, gTp, gsNil, gsCons, dAsgL, dApp, dExt, dIns, dPopAt, dSetIx, dPar, dAug, dNext, mVar, mVarN, mC, m1, m2, mTst, mChain, mNot, mAnd, mOr, mAndV, mOrV, mNotV, mIf, mNil, mCons, mBag, Du.dataOf, mTup, mLst, mB, mCall, mIsi, mIsi2, mNotD, mTru, truD, fAdd, fI, fI0, fMul, fB, fEq, fNe, fIn, fGeD, fIs, isBd, fIsN, isNd, fNeg, fIx, mSlL, mSlT, mNoP, mPart, fLen, fAbs, fInt, fMin2, fTuple, fList, fAll, fAny, fRepr, miL, miT, miR1, miR2, miEn, miZip, miZip3, mRow, mLc, wipeE, dFor, mYes, Du.envOf, Option.map_some, Option.map_none, List.map_cons, List.map_nil, List.length_cons, List.length_nil, Nat.sub_self, Nat.add_sub_cancel, Nat.reduceAdd, Nat.reduceSub, List.replicate, List.cons_append, List.nil_append, List.append_nil, List.getElem?_cons_zero, List.getElem?_cons_succ, List.getElem?_nil, List.set_cons_zero, List.set_cons_succ]
        exact ⟨by decide, by decide, by decide, trivial, ⟨rfl, Sz.okA szK (by decide) (by decide)⟩, .v d6, _, _, rfl⟩
      · rintro _ ⟨x6, x16, x17, rfl⟩
        exact ⟨_, _, _, _, _, _, _, _, _, _, _, _, _, _, _, _, _, rfl⟩
    · subst e
      have da := r.da
      cases da
      exact k H'
end
end L19

namespace On
open PySem PySem.Spec PyProof.Rows L2
/-- the call of the law, nothing but given things tracked -/
theorem call_core {P : Program} {w : World} {K : PySem.W.Frag} {mg mb : Str → Option Value} {k : Nat} {fa a : Addr} {fd : FuncData} {x : Str} {sp : Sp} {s₁ : Shared} {H : Hp}
    (KX : K.In s₁.heap) (hns : s₁.heap.Ns mainGlobals mg) (hb : s₁.heap.Ns builtinsNs mb) (hbb : ∀ x : Str, x ≠ "__name__" → mb x = bootBuiltins x) (hlim : s₁.heap.NoLimit) (hg : s₁.gens = #[]) (hr : Room k callerA)
    (F : ∀ base : Heap, K.In base → base.Ns mainGlobals mg → FnG P w K mg base k fa fd [x] sp) (hbind : ∀ (s : Shared) (u : Value), BindsTo s fd ⟨[u], []⟩ [(x, u)])
    (hok : HOk P w H s₁.heap) (h2 : ∀ b u, H b = some u → ∃ ob v, u = .frz ob v) (h3 : ∀ b u, H b = some u → K.lookup b = Option.none) (n1 : H mainGlobals = Option.none) (n2 : H builtinsNs = Option.none) (n3 : H cStatics = Option.none)
    (hsp : sp [.ref a] H (fun v _ => v = .bl true) fun _ _ _ => False) :
    codeAny (model P w) callerA (.call (.ref fa) ⟨[.ref a], []⟩) (fun r s' => r = .ok (.ret (.bool true)) ∧ OldK s₁.heap s'.heap ∧ s'.os = s₁.os ∧ AllBare s'.gens) s₁ := by
  have ns : ∀ {b : Addr} {m : Str → Option Value}, H b = Option.none → s₁.heap.Ns b m → (hidT s₁.heap H).Ns b m := fun n ⟨o, es, ep, e, r⟩ => ⟨o, es, ep, hidT_get e n, r⟩
  have kin : K.In (hidT s₁.heap H) := fun b o e => hidT_get (KX b o e) (by
    cases q : H b with
    | none => rfl
    | some u =>
      rw [h3 b u q] at e
      cases e)
  obtain ⟨mc, c1, c2⟩ := hlim
  have M : Mod K mg (hidT s₁.heap H) := ⟨kin, ns n1 hns, ⟨mb, ns n2 hb, hbb⟩, ⟨mc, ns n3 c1, c2⟩⟩
  have e0 : Env0 P w K mg (hidT s₁.heap H) callerA [] s₁ H := ⟨rfl, M, fun b o e => of_hidT e, Nat.le_of_eq (hidT_size _ _), trivial, fun b hb => absurd (show b ∈ ([] : List Addr) from hb) (by simp), hok, .of_eq hg⟩
  refine codeAny_mono ((F _ kin (ns n1 hns)).go callerA [] s₁ H ⟨[.ref a], []⟩ [.ref a] [.ref a] _ _ rfl hr e0 (hbind s₁ (.ref a)) (.cons rfl .nil) hsp) fun r s' h => ?_
  cases r with
  | error e => exact False.elim h
  | ok fl =>
    cases fl with
    | next => exact False.elim h
    | brk => exact False.elim h
    | cont => exact False.elim h
    | ret u =>
      obtain ⟨v, H', os, bare, un, hok', r', q⟩ := h
      obtain rfl : v = .bl true := q
      obtain rfl : u = Value.bool true := r'
      refine ⟨rfl, OldK.of_keep fun b o e => ?_, os, bare⟩
      cases q : H b with
      | none => exact un.keep b o e q (by intro z; exact absurd (show b ∈ ([] : List Addr) from z) (by simp)) (by simp)
      | some u =>
        obtain ⟨ob, y, rfl⟩ := h2 b u q
        obtain ⟨e1, _⟩ := hok b _ q
        obtain ⟨e2, _⟩ := hok' b _ (un.frzs b ob _ q)
        rw [e] at e1
        cases e1
        exact e2
def sysH (o : Obj) : Hp := fun b => if b = sysModules then some (HO.frz o (.ext fun _ => True)) else Option.none
theorem sysH_at {o : Obj} : sysH o sysModules = some (HO.frz o (.ext fun _ => True)) := if_pos rfl
theorem sysH_ne {o : Obj} {b : Addr} (h : b ≠ sysModules) : sysH o b = Option.none := if_neg h
theorem sysH_some {o : Obj} {b : Addr} {u : HO} (h : sysH o b = some u) : b = sysModules ∧ u = HO.frz o (.ext fun _ => True) := by
  by_cases e : b = sysModules
  · subst e
    rw [sysH_at] at h
    cases h
    exact ⟨rfl, rfl⟩
  · rw [sysH_ne e] at h
    cases h
theorem walk_G {l : PySem.W.OpenLaw} {n k : Nat} {q : Program} {loose : List Str} {XP : (Str → Option Value) → Heap → Prop} {YP : World → Heap → Prop} {d : DefRec} {K : Params → PySem.W.Frag} {sp : PySem.W.Frag → Sp} {x : Str}
    (hn : l.most = some n) (hn2 : n ≤ sizeLine) (hdf : d.params.defaults = []) (hr : Room k callerA) (hi : importsNone q = true)
    (hY : ∀ (w : World) (h : Heap), YP w h → (K w.params).In h)
    (F : ∀ (w : World) (mg : Str → Option Value) (fa : Addr) (h : Heap), (K w.params).In h → h.Ns mainGlobals mg → mg d.name = some (.ref fa) →
      (K w.params).lookup sysModules = Option.none ∧ ∃ fd : FuncData, (∀ (s : Shared) (u : Value), BindsTo s fd ⟨[u], []⟩ [(x, u)]) ∧
        ∀ base : Heap, (K w.params).In base → base.Ns mainGlobals mg → FnG l.prog w (K w.params) mg base k fa fd [x] (sp (K w.params)))
    (hsp : ∀ (K : PySem.W.Frag) (H : Hp) (a : Addr) (ns : List Int), ns.length ≤ n → Sys H → SqL K H a (ns.map V.int) → sp K [.ref a] H (fun v _ => v = .bl true) fun _ _ _ => False) :
    PySem.W.WalkO q loose XP YP l.row.toRowW d [] (fun f vs => PySem.call f vs) := by
  refine Att.attach_call hn hdf fun w s₀ s₁ mg mb fa o pm cd doc a vs ns G Y ho hd hcd hmg hobj hints hlen hg => ?_
  have KX := hY w _ Y
  obtain ⟨hs, fd, hb, hF⟩ := F w mg fa _ KX G.T.g hmg
  obtain ⟨_, ⟨o2, _, _, ho2, _⟩, _⟩ := (G.T.seer hi).mods
  have hl := hints.length
  have na : ∀ {b : Addr} {m : Str → Option Value}, s₁.heap.Ns b m → b ≠ a := fun ⟨o, es, ep, e, d, _⟩ z => by
    rw [z, hobj] at e
    cases e
    cases d
  obtain ⟨mc, c1, c2⟩ := id G.T.nolimit
  have hx : ∀ H, ObjOk l.prog w H s₁.heap sysModules (HO.frz o2 (.ext fun _ => True)) := fun H => ⟨ho2, trivial, ⟨o2, ho2⟩, fun _ _ _ _ => trivial⟩
  have s1 : mainGlobals ≠ sysModules := by decide
  have s2 : builtinsNs ≠ sysModules := by decide
  have s3 : cStatics ≠ sysModules := by decide
  cases hk : (K w.params).lookup a with
  | some oa =>
    have e := KX a oa hk
    rw [hobj] at e
    cases e
    refine call_core (H := sysH o2) KX G.T.g G.T.b G.T.builtins G.T.nolimit hg hr hF hb (fun b u z => ?_) (fun b u z => ?_) (fun b u z => ?_) (sysH_ne s1) (sysH_ne s2) (sysH_ne s3)
      (hsp _ _ a ns hlen ⟨(o2, _), sysH_at⟩ (.inr ⟨_, vs.toArray, _, hk, rfl, rfl, rfl, by rw [List.size_toArray, hl]; exact Nat.le_trans hlen hn2, by simpa using vals_ints hints⟩))
    · obtain ⟨rfl, rfl⟩ := sysH_some z
      exact hx _
    · obtain ⟨rfl, rfl⟩ := sysH_some z
      exact ⟨_, _, rfl⟩
    · obtain ⟨rfl, rfl⟩ := sysH_some z
      exact hs
  | none =>
    have ne : ∀ {b : Addr}, b ≠ a → b ≠ sysModules → upd (sysH o2) a (.frz { cls := .type "list", data := .seq vs.toArray } (.lst (ns.map V.int))) b = Option.none := fun h1 h2 => by
      rw [upd_ne h1]
      exact sysH_ne h2
    have sm : ∀ {b : Addr} {u : HO}, upd (sysH o2) a (.frz { cls := .type "list", data := .seq vs.toArray } (.lst (ns.map V.int))) b = some u → (b = a ∧ u = .frz { cls := .type "list", data := .seq vs.toArray } (.lst (ns.map V.int))) ∨ (b = sysModules ∧ u = HO.frz o2 (.ext fun _ => True)) := fun {b u} z => by
      by_cases e : b = a
      · subst e
        rw [upd_same] at z
        cases z
        exact .inl ⟨rfl, rfl⟩
      · rw [upd_ne e] at z
        exact .inr (sysH_some z)
    have hSys : Sys (upd (sysH o2) a (.frz { cls := .type "list", data := .seq vs.toArray } (.lst (ns.map V.int)))) := by
      by_cases e : sysModules = a
      · exact ⟨(_, _), by rw [← e]; exact upd_same⟩
      · exact ⟨(o2, _), by rw [upd_ne e]; exact sysH_at⟩
    refine call_core (H := upd (sysH o2) a (.frz { cls := .type "list", data := .seq vs.toArray } (.lst (ns.map V.int)))) KX G.T.g G.T.b G.T.builtins G.T.nolimit hg hr hF hb (fun b u z => ?_) (fun b u z => ?_) (fun b u z => ?_) (ne (na G.T.g) s1) (ne (na G.T.b) s2) (ne (na c1) s3)
      (hsp _ _ a ns hlen hSys (.inl (.inr ⟨_, upd_same⟩)))
    · rcases sm z with ⟨rfl, rfl⟩ | ⟨rfl, rfl⟩
      · exact ⟨hobj, by rw [List.length_map]; exact Nat.le_trans hlen hn2, vs, _, vals_ints hints, hobj⟩
      · exact hx _
    · rcases sm z with ⟨rfl, rfl⟩ | ⟨rfl, rfl⟩ <;> exact ⟨_, _, rfl⟩
    · rcases sm z with ⟨rfl, rfl⟩ | ⟨rfl, rfl⟩
      · exact hk
      · exact hs
end On

namespace K19
open PySem PySem.Spec PyProof.Rows L2 On Du Fo L19
theorem df_mk {K : PySem.W.Frag} {h : Heap} {mg : Str → Option Value} {x : Str} {st : Stmt} {ps : List Str} {f : Addr} {oc : Value} {od an : Option Addr} {osl : Array (Option Value)} {kV doc pm cdv ct : Value} (X : K.In h) (G : h.Ns mainGlobals mg)
    (a : PySem.W.nsIn K mainGlobals x = some (some (.ref f))) (l : K.lookup f = some ⟨oc, od, .func (PySem.W.fnOf x x (defArgs st) (defBody st) (defScope st) .none kV doc pm an cdv ct), osl⟩) (c : PySem.W.codeIn K cdv x = true) (k : PySem.W.keepIn K (.ref f) = true)
    (b : ∀ F : Fun K x x st f (PySem.W.fnOf x x (defArgs st) (defBody st) (defScope st) .none kV doc pm an cdv ct), Binds K (PySem.W.fnOf x x (defArgs st) (defBody st) (defScope st) .none kV doc pm an cdv ct) ps []) : Df K mg x st ps f (PySem.W.fnOf x x (defArgs st) (defBody st) (defScope st) .none kV doc pm an cdv ct) :=
  ⟨fun_mk l c k, PySem.W.mg_of X G a, b (fun_mk l c k)⟩
theorem all_mk {l : PySem.W.OpenLaw} {w : World} {K : PySem.W.Frag} {h : Heap} {mg : Str → Option Value} {fa ff f0 f1 f2 f3 f4 f5 f6 f7 f8 f9 f10 f11 f12 f13 f14 f15 f16 f17 f18 f19 f20 f21 f22 f23 f24 f25 f26 : Addr} (X : K.In h) (G : h.Ns mainGlobals mg) (hfa : mg "law" = some (.ref fa))
    {od0 an0 od1 an1 od2 an2 od3 an3 od4 an4 od5 an5 od6 an6 od7 an7 od8 an8 od9 an9 od10 an10 od11 an11 od12 an12 od13 an13 od14 an14 od15 an15 od16 an16 od17 an17 od18 an18 od19 an19 od20 an20 od21 an21 od22 an22 od23 an23 od24 an24 od25 an25 od26 an26 : Option Addr} {sl0 sl1 sl2 sl3 sl4 sl5 sl6 sl7 sl8 sl9 sl10 sl11 sl12 sl13 sl14 sl15 sl16 sl17 sl18 sl19 sl20 sl21 sl22 sl23 sl24 sl25 sl26 : Array (Option Value)} {oc0 kV0 dc0 pm0 cd0 ct0 oc1 kV1 dc1 pm1 cd1 ct1 oc2 kV2 dc2 pm2 cd2 ct2 oc3 kV3 dc3 pm3 cd3 ct3 oc4 kV4 dc4 pm4 cd4 ct4 oc5 kV5 dc5 pm5 cd5 ct5 oc6 kV6 dc6 pm6 cd6 ct6 oc7 kV7 dc7 pm7 cd7 ct7 oc8 kV8 dc8 pm8 cd8 ct8 oc9 kV9 dc9 pm9 cd9 ct9 oc10 kV10 dc10 pm10 cd10 ct10 oc11 kV11 dc11 pm11 cd11 ct11 oc12 kV12 dc12 pm12 cd12 ct12 oc13 kV13 dc13 pm13 cd13 ct13 oc14 kV14 dc14 pm14 cd14 ct14 oc15 kV15 dc15 pm15 cd15 ct15 oc16 kV16 dc16 pm16 cd16 ct16 oc17 kV17 dc17 pm17 cd17 ct17 oc18 kV18 dc18 pm18 cd18 ct18 oc19 kV19 dc19 pm19 cd19 ct19 oc20 kV20 dc20 pm20 cd20 ct20 oc21 kV21 dc21 pm21 cd21 ct21 oc22 kV22 dc22 pm22 cd22 ct22 oc23 kV23 dc23 pm23 cd23 ct23 oc24 kV24 dc24 pm24 cd24 ct24 oc25 kV25 dc25 pm25 cd25 ct25 oc26 kV26 dc26 pm26 cd26 ct26 : Value} (sm : PySem.W.typeIn K (.ref 1) = none)
    (fm : PySem.W.nsIn K mainGlobals "FREE_MOVES" = some (some (.ref ff))) (fr : freeAt K ff = true)
    (a0 : PySem.W.nsIn K mainGlobals "with_orders" = some (some (.ref f0))) (l0 : K.lookup f0 = some ⟨oc0, od0, .func (PySem.W.fnOf "with_orders" "with_orders" (defArgs swith_orders) (defBody swith_orders) (defScope swith_orders) .none kV0 dc0 pm0 an0 cd0 ct0), sl0⟩) (c0 : PySem.W.codeIn K cd0 "with_orders" = true) (k0 : PySem.W.keepIn K (.ref f0) = true)
    (a1 : PySem.W.nsIn K mainGlobals "either_order" = some (some (.ref f1))) (l1 : K.lookup f1 = some ⟨oc1, od1, .func (PySem.W.fnOf "either_order" "either_order" (defArgs seither_order) (defBody seither_order) (defScope seither_order) .none kV1 dc1 pm1 an1 cd1 ct1), sl1⟩) (c1 : PySem.W.codeIn K cd1 "either_order" = true) (k1 : PySem.W.keepIn K (.ref f1) = true)
    (a2 : PySem.W.nsIn K mainGlobals "is_integer" = some (some (.ref f2))) (l2 : K.lookup f2 = some ⟨oc2, od2, .func (PySem.W.fnOf "is_integer" "is_integer" (defArgs sis_integer) (defBody sis_integer) (defScope sis_integer) .none kV2 dc2 pm2 an2 cd2 ct2), sl2⟩) (c2 : PySem.W.codeIn K cd2 "is_integer" = true) (k2 : PySem.W.keepIn K (.ref f2) = true)
    (a3 : PySem.W.nsIn K mainGlobals "_is_tuple_of" = some (some (.ref f3))) (l3 : K.lookup f3 = some ⟨oc3, od3, .func (PySem.W.fnOf "_is_tuple_of" "_is_tuple_of" (defArgs s_is_tuple_of) (defBody s_is_tuple_of) (defScope s_is_tuple_of) .none kV3 dc3 pm3 an3 cd3 ct3), sl3⟩) (c3 : PySem.W.codeIn K cd3 "_is_tuple_of" = true) (k3 : PySem.W.keepIn K (.ref f3) = true)
    (a4 : PySem.W.nsIn K mainGlobals "ascends" = some (some (.ref f4))) (l4 : K.lookup f4 = some ⟨oc4, od4, .func (PySem.W.fnOf "ascends" "ascends" (defArgs sascends) (defBody sascends) (defScope sascends) .none kV4 dc4 pm4 an4 cd4 ct4), sl4⟩) (c4 : PySem.W.codeIn K cd4 "ascends" = true) (k4 : PySem.W.keepIn K (.ref f4) = true)
    (a5 : PySem.W.nsIn K mainGlobals "is_place" = some (some (.ref f5))) (l5 : K.lookup f5 = some ⟨oc5, od5, .func (PySem.W.fnOf "is_place" "is_place" (defArgs sis_place) (defBody sis_place) (defScope sis_place) .none kV5 dc5 pm5 an5 cd5 ct5), sl5⟩) (c5 : PySem.W.codeIn K cd5 "is_place" = true) (k5 : PySem.W.keepIn K (.ref f5) = true)
    (a6 : PySem.W.nsIn K mainGlobals "is_bench" = some (some (.ref f6))) (l6 : K.lookup f6 = some ⟨oc6, od6, .func (PySem.W.fnOf "is_bench" "is_bench" (defArgs sis_bench) (defBody sis_bench) (defScope sis_bench) .none kV6 dc6 pm6 an6 cd6 ct6), sl6⟩) (c6 : PySem.W.codeIn K cd6 "is_bench" = true) (k6 : PySem.W.keepIn K (.ref f6) = true)
    (a7 : PySem.W.nsIn K mainGlobals "are_contents" = some (some (.ref f7))) (l7 : K.lookup f7 = some ⟨oc7, od7, .func (PySem.W.fnOf "are_contents" "are_contents" (defArgs sare_contents) (defBody sare_contents) (defScope sare_contents) .none kV7 dc7 pm7 an7 cd7 ct7), sl7⟩) (c7 : PySem.W.codeIn K cd7 "are_contents" = true) (k7 : PySem.W.keepIn K (.ref f7) = true)
    (a8 : PySem.W.nsIn K mainGlobals "is_task" = some (some (.ref f8))) (l8 : K.lookup f8 = some ⟨oc8, od8, .func (PySem.W.fnOf "is_task" "is_task" (defArgs sis_task) (defBody sis_task) (defScope sis_task) .none kV8 dc8 pm8 an8 cd8 ct8), sl8⟩) (c8 : PySem.W.codeIn K cd8 "is_task" = true) (k8 : PySem.W.keepIn K (.ref f8) = true)
    (a9 : PySem.W.nsIn K mainGlobals "are_orders" = some (some (.ref f9))) (l9 : K.lookup f9 = some ⟨oc9, od9, .func (PySem.W.fnOf "are_orders" "are_orders" (defArgs sare_orders) (defBody sare_orders) (defScope sare_orders) .none kV9 dc9 pm9 an9 cd9 ct9), sl9⟩) (c9 : PySem.W.codeIn K cd9 "are_orders" = true) (k9 : PySem.W.keepIn K (.ref f9) = true)
    (a10 : PySem.W.nsIn K mainGlobals "_law_bag" = some (some (.ref f10))) (l10 : K.lookup f10 = some ⟨oc10, od10, .func (PySem.W.fnOf "_law_bag" "_law_bag" (defArgs s_law_bag) (defBody s_law_bag) (defScope s_law_bag) .none kV10 dc10 pm10 an10 cd10 ct10), sl10⟩) (c10 : PySem.W.codeIn K cd10 "_law_bag" = true) (k10 : PySem.W.keepIn K (.ref f10) = true)
    (a11 : PySem.W.nsIn K mainGlobals "_law_take" = some (some (.ref f11))) (l11 : K.lookup f11 = some ⟨oc11, od11, .func (PySem.W.fnOf "_law_take" "_law_take" (defArgs s_law_take) (defBody s_law_take) (defScope s_law_take) .none kV11 dc11 pm11 an11 cd11 ct11), sl11⟩) (c11 : PySem.W.codeIn K cd11 "_law_take" = true) (k11 : PySem.W.keepIn K (.ref f11) = true)
    (a12 : PySem.W.nsIn K mainGlobals "_law_some" = some (some (.ref f12))) (l12 : K.lookup f12 = some ⟨oc12, od12, .func (PySem.W.fnOf "_law_some" "_law_some" (defArgs s_law_some) (defBody s_law_some) (defScope s_law_some) .none kV12 dc12 pm12 an12 cd12 ct12), sl12⟩) (c12 : PySem.W.codeIn K cd12 "_law_some" = true) (k12 : PySem.W.keepIn K (.ref f12) = true)
    (a13 : PySem.W.nsIn K mainGlobals "_law_alike" = some (some (.ref f13))) (l13 : K.lookup f13 = some ⟨oc13, od13, .func (PySem.W.fnOf "_law_alike" "_law_alike" (defArgs s_law_alike) (defBody s_law_alike) (defScope s_law_alike) .none kV13 dc13 pm13 an13 cd13 ct13), sl13⟩) (c13 : PySem.W.codeIn K cd13 "_law_alike" = true) (k13 : PySem.W.keepIn K (.ref f13) = true)
    (a14 : PySem.W.nsIn K mainGlobals "_law_mixed" = some (some (.ref f14))) (l14 : K.lookup f14 = some ⟨oc14, od14, .func (PySem.W.fnOf "_law_mixed" "_law_mixed" (defArgs s_law_mixed) (defBody s_law_mixed) (defScope s_law_mixed) .none kV14 dc14 pm14 an14 cd14 ct14), sl14⟩) (c14 : PySem.W.codeIn K cd14 "_law_mixed" = true) (k14 : PySem.W.keepIn K (.ref f14) = true)
    (a15 : PySem.W.nsIn K mainGlobals "_law_place" = some (some (.ref f15))) (l15 : K.lookup f15 = some ⟨oc15, od15, .func (PySem.W.fnOf "_law_place" "_law_place" (defArgs s_law_place) (defBody s_law_place) (defScope s_law_place) .none kV15 dc15 pm15 an15 cd15 ct15), sl15⟩) (c15 : PySem.W.codeIn K cd15 "_law_place" = true) (k15 : PySem.W.keepIn K (.ref f15) = true)
    (a16 : PySem.W.nsIn K mainGlobals "_law_bench" = some (some (.ref f16))) (l16 : K.lookup f16 = some ⟨oc16, od16, .func (PySem.W.fnOf "_law_bench" "_law_bench" (defArgs s_law_bench) (defBody s_law_bench) (defScope s_law_bench) .none kV16 dc16 pm16 an16 cd16 ct16), sl16⟩) (c16 : PySem.W.codeIn K cd16 "_law_bench" = true) (k16 : PySem.W.keepIn K (.ref f16) = true)
    (a17 : PySem.W.nsIn K mainGlobals "_law_contents" = some (some (.ref f17))) (l17 : K.lookup f17 = some ⟨oc17, od17, .func (PySem.W.fnOf "_law_contents" "_law_contents" (defArgs s_law_contents) (defBody s_law_contents) (defScope s_law_contents) .none kV17 dc17 pm17 an17 cd17 ct17), sl17⟩) (c17 : PySem.W.codeIn K cd17 "_law_contents" = true) (k17 : PySem.W.keepIn K (.ref f17) = true)
    (a18 : PySem.W.nsIn K mainGlobals "_law_steps" = some (some (.ref f18))) (l18 : K.lookup f18 = some ⟨oc18, od18, .func (PySem.W.fnOf "_law_steps" "_law_steps" (defArgs s_law_steps) (defBody s_law_steps) (defScope s_law_steps) .none kV18 dc18 pm18 an18 cd18 ct18), sl18⟩) (c18 : PySem.W.codeIn K cd18 "_law_steps" = true) (k18 : PySem.W.keepIn K (.ref f18) = true)
    (a19 : PySem.W.nsIn K mainGlobals "_law_graph" = some (some (.ref f19))) (l19 : K.lookup f19 = some ⟨oc19, od19, .func (PySem.W.fnOf "_law_graph" "_law_graph" (defArgs s_law_graph) (defBody s_law_graph) (defScope s_law_graph) .none kV19 dc19 pm19 an19 cd19 ct19), sl19⟩) (c19 : PySem.W.codeIn K cd19 "_law_graph" = true) (k19 : PySem.W.keepIn K (.ref f19) = true)
    (a20 : PySem.W.nsIn K mainGlobals "_law_way_by" = some (some (.ref f20))) (l20 : K.lookup f20 = some ⟨oc20, od20, .func (PySem.W.fnOf "_law_way_by" "_law_way_by" (defArgs s_law_way_by) (defBody s_law_way_by) (defScope s_law_way_by) .none kV20 dc20 pm20 an20 cd20 ct20), sl20⟩) (c20 : PySem.W.codeIn K cd20 "_law_way_by" = true) (k20 : PySem.W.keepIn K (.ref f20) = true)
    (a21 : PySem.W.nsIn K mainGlobals "_law_rests" = some (some (.ref f21))) (l21 : K.lookup f21 = some ⟨oc21, od21, .func (PySem.W.fnOf "_law_rests" "_law_rests" (defArgs s_law_rests) (defBody s_law_rests) (defScope s_law_rests) .none kV21 dc21 pm21 an21 cd21 ct21), sl21⟩) (c21 : PySem.W.codeIn K cd21 "_law_rests" = true) (k21 : PySem.W.keepIn K (.ref f21) = true)
    (a22 : PySem.W.nsIn K mainGlobals "_law_couple" = some (some (.ref f22))) (l22 : K.lookup f22 = some ⟨oc22, od22, .func (PySem.W.fnOf "_law_couple" "_law_couple" (defArgs s_law_couple) (defBody s_law_couple) (defScope s_law_couple) .none kV22 dc22 pm22 an22 cd22 ct22), sl22⟩) (c22 : PySem.W.codeIn K cd22 "_law_couple" = true) (k22 : PySem.W.keepIn K (.ref f22) = true)
    (a23 : PySem.W.nsIn K mainGlobals "_law_ends" = some (some (.ref f23))) (l23 : K.lookup f23 = some ⟨oc23, od23, .func (PySem.W.fnOf "_law_ends" "_law_ends" (defArgs s_law_ends) (defBody s_law_ends) (defScope s_law_ends) .none kV23 dc23 pm23 an23 cd23 ct23), sl23⟩) (c23 : PySem.W.codeIn K cd23 "_law_ends" = true) (k23 : PySem.W.keepIn K (.ref f23) = true)
    (a24 : PySem.W.nsIn K mainGlobals "_law_any_task" = some (some (.ref f24))) (l24 : K.lookup f24 = some ⟨oc24, od24, .func (PySem.W.fnOf "_law_any_task" "_law_any_task" (defArgs s_law_any_task) (defBody s_law_any_task) (defScope s_law_any_task) .none kV24 dc24 pm24 an24 cd24 ct24), sl24⟩) (c24 : PySem.W.codeIn K cd24 "_law_any_task" = true) (k24 : PySem.W.keepIn K (.ref f24) = true)
    (a25 : PySem.W.nsIn K mainGlobals "_law_flat" = some (some (.ref f25))) (l25 : K.lookup f25 = some ⟨oc25, od25, .func (PySem.W.fnOf "_law_flat" "_law_flat" (defArgs s_law_flat) (defBody s_law_flat) (defScope s_law_flat) .none kV25 dc25 pm25 an25 cd25 ct25), sl25⟩) (c25 : PySem.W.codeIn K cd25 "_law_flat" = true) (k25 : PySem.W.keepIn K (.ref f25) = true)
    (a26 : PySem.W.nsIn K mainGlobals "law" = some (some (.ref f26))) (l26 : K.lookup f26 = some ⟨oc26, od26, .func (PySem.W.fnOf "law" "law" (defArgs slaw) (defBody slaw) (defScope slaw) .none kV26 dc26 pm26 an26 cd26 ct26), sl26⟩) (c26 : PySem.W.codeIn K cd26 "law" = true) (k26 : PySem.W.keepIn K (.ref f26) = true)
    (n_abs : PySem.W.nsIn K mainGlobals "abs" = some none)
    (n_all : PySem.W.nsIn K mainGlobals "all" = some none)
    (n_any : PySem.W.nsIn K mainGlobals "any" = some none)
    (n_bool : PySem.W.nsIn K mainGlobals "bool" = some none)
    (n_dict : PySem.W.nsIn K mainGlobals "dict" = some none)
    (n_enumerate : PySem.W.nsIn K mainGlobals "enumerate" = some none)
    (n_int : PySem.W.nsIn K mainGlobals "int" = some none)
    (n_isinstance : PySem.W.nsIn K mainGlobals "isinstance" = some none)
    (n_len : PySem.W.nsIn K mainGlobals "len" = some none)
    (n_list : PySem.W.nsIn K mainGlobals "list" = some none)
    (n_min : PySem.W.nsIn K mainGlobals "min" = some none)
    (n_range : PySem.W.nsIn K mainGlobals "range" = some none)
    (n_repr : PySem.W.nsIn K mainGlobals "repr" = some none)
    (n_set : PySem.W.nsIn K mainGlobals "set" = some none)
    (n_sorted : PySem.W.nsIn K mainGlobals "sorted" = some none)
    (n_sum : PySem.W.nsIn K mainGlobals "sum" = some none)
    (n_tuple : PySem.W.nsIn K mainGlobals "tuple" = some none)
    (n_zip : PySem.W.nsIn K mainGlobals "zip" = some none) :
    K.lookup sysModules = none ∧ ∃ fd : FuncData, (∀ (s : Shared) (v : Value), BindsTo s fd ⟨[v], []⟩ [("_law_script", v)]) ∧ ∀ base : Heap, K.In base → base.Ns mainGlobals mg → FnG l.prog w K mg base 5 fa fd ["_law_script"] (spLaw K) := by
  have e := hfa.symm.trans (PySem.W.mg_of X G a26)
  cases e
  let A : Ads := ⟨f0, PySem.W.fnOf "with_orders" "with_orders" (defArgs swith_orders) (defBody swith_orders) (defScope swith_orders) .none kV0 dc0 pm0 an0 cd0 ct0, f1, PySem.W.fnOf "either_order" "either_order" (defArgs seither_order) (defBody seither_order) (defScope seither_order) .none kV1 dc1 pm1 an1 cd1 ct1, f2, PySem.W.fnOf "is_integer" "is_integer" (defArgs sis_integer) (defBody sis_integer) (defScope sis_integer) .none kV2 dc2 pm2 an2 cd2 ct2, f3, PySem.W.fnOf "_is_tuple_of" "_is_tuple_of" (defArgs s_is_tuple_of) (defBody s_is_tuple_of) (defScope s_is_tuple_of) .none kV3 dc3 pm3 an3 cd3 ct3, f4, PySem.W.fnOf "ascends" "ascends" (defArgs sascends) (defBody sascends) (defScope sascends) .none kV4 dc4 pm4 an4 cd4 ct4, f5, PySem.W.fnOf "is_place" "is_place" (defArgs sis_place) (defBody sis_place) (defScope sis_place) .none kV5 dc5 pm5 an5 cd5 ct5, f6, PySem.W.fnOf "is_bench" "is_bench" (defArgs sis_bench) (defBody sis_bench) (defScope sis_bench) .none kV6 dc6 pm6 an6 cd6 ct6, f7, PySem.W.fnOf "are_contents" "are_contents" (defArgs sare_contents) (defBody sare_contents) (defScope sare_contents) .none kV7 dc7 pm7 an7 cd7 ct7, f8, PySem.W.fnOf "is_task" "is_task" (defArgs sis_task) (defBody sis_task) (defScope sis_task) .none kV8 dc8 pm8 an8 cd8 ct8, f9, PySem.W.fnOf "are_orders" "are_orders" (defArgs sare_orders) (defBody sare_orders) (defScope sare_orders) .none kV9 dc9 pm9 an9 cd9 ct9, f10, PySem.W.fnOf "_law_bag" "_law_bag" (defArgs s_law_bag) (defBody s_law_bag) (defScope s_law_bag) .none kV10 dc10 pm10 an10 cd10 ct10, f11, PySem.W.fnOf "_law_take" "_law_take" (defArgs s_law_take) (defBody s_law_take) (defScope s_law_take) .none kV11 dc11 pm11 an11 cd11 ct11, f12, PySem.W.fnOf "_law_some" "_law_some" (defArgs s_law_some) (defBody s_law_some) (defScope s_law_some) .none kV12 dc12 pm12 an12 cd12 ct12, f13, PySem.W.fnOf "_law_alike" "_law_alike" (defArgs s_law_alike) (defBody s_law_alike) (defScope s_law_alike) .none kV13 dc13 pm13 an13 cd13 ct13, f14, PySem.W.fnOf "_law_mixed" "_law_mixed" (defArgs s_law_mixed) (defBody s_law_mixed) (defScope s_law_mixed) .none kV14 dc14 pm14 an14 cd14 ct14, f15, PySem.W.fnOf "_law_place" "_law_place" (defArgs s_law_place) (defBody s_law_place) (defScope s_law_place) .none kV15 dc15 pm15 an15 cd15 ct15, f16, PySem.W.fnOf "_law_bench" "_law_bench" (defArgs s_law_bench) (defBody s_law_bench) (defScope s_law_bench) .none kV16 dc16 pm16 an16 cd16 ct16, f17, PySem.W.fnOf "_law_contents" "_law_contents" (defArgs s_law_contents) (defBody s_law_contents) (defScope s_law_contents) .none kV17 dc17 pm17 an17 cd17 ct17, f18, PySem.W.fnOf "_law_steps" "_law_steps" (defArgs s_law_steps) (defBody s_law_steps) (defScope s_law_steps) .none kV18 dc18 pm18 an18 cd18 ct18, f19, PySem.W.fnOf "_law_graph" "_law_graph" (defArgs s_law_graph) (defBody s_law_graph) (defScope s_law_graph) .none kV19 dc19 pm19 an19 cd19 ct19, f20, PySem.W.fnOf "_law_way_by" "_law_way_by" (defArgs s_law_way_by) (defBody s_law_way_by) (defScope s_law_way_by) .none kV20 dc20 pm20 an20 cd20 ct20, f21, PySem.W.fnOf "_law_rests" "_law_rests" (defArgs s_law_rests) (defBody s_law_rests) (defScope s_law_rests) .none kV21 dc21 pm21 an21 cd21 ct21, f22, PySem.W.fnOf "_law_couple" "_law_couple" (defArgs s_law_couple) (defBody s_law_couple) (defScope s_law_couple) .none kV22 dc22 pm22 an22 cd22 ct22, f23, PySem.W.fnOf "_law_ends" "_law_ends" (defArgs s_law_ends) (defBody s_law_ends) (defScope s_law_ends) .none kV23 dc23 pm23 an23 cd23 ct23, f24, PySem.W.fnOf "_law_any_task" "_law_any_task" (defArgs s_law_any_task) (defBody s_law_any_task) (defScope s_law_any_task) .none kV24 dc24 pm24 an24 cd24 ct24, f25, PySem.W.fnOf "_law_flat" "_law_flat" (defArgs s_law_flat) (defBody s_law_flat) (defScope s_law_flat) .none kV25 dc25 pm25 an25 cd25 ct25, fa, PySem.W.fnOf "law" "law" (defArgs slaw) (defBody slaw) (defScope slaw) .none kV26 dc26 pm26 an26 cd26 ct26⟩
  have D0 := df_mk (st := swith_orders) (ps := ["task", "orders"]) X G a0 l0 c0 k0 (fun F => F.binds (ps := ["task", "orders"]) fun _ _ _ _ _ _ us hl => match us, hl with | [_, _], _ => rfl)
  have D1 := df_mk (st := seither_order) (ps := ["start", "goal"]) X G a1 l1 c1 k1 (fun F => F.binds (ps := ["start", "goal"]) fun _ _ _ _ _ _ us hl => match us, hl with | [_, _], _ => rfl)
  have D2 := df_mk (st := sis_integer) (ps := ["thing"]) X G a2 l2 c2 k2 (fun F => F.binds (ps := ["thing"]) fun _ _ _ _ _ _ us hl => match us, hl with | [_], _ => rfl)
  have D3 := df_mk (st := s_is_tuple_of) (ps := ["thing", "many"]) X G a3 l3 c3 k3 (fun F => F.binds (ps := ["thing", "many"]) fun _ _ _ _ _ _ us hl => match us, hl with | [_, _], _ => rfl)
  have D4 := df_mk (st := sascends) (ps := ["items"]) X G a4 l4 c4 k4 (fun F => F.binds (ps := ["items"]) fun _ _ _ _ _ _ us hl => match us, hl with | [_], _ => rfl)
  have D5 := df_mk (st := sis_place) (ps := ["thing"]) X G a5 l5 c5 k5 (fun F => F.binds (ps := ["thing"]) fun _ _ _ _ _ _ us hl => match us, hl with | [_], _ => rfl)
  have D6 := df_mk (st := sis_bench) (ps := ["thing"]) X G a6 l6 c6 k6 (fun F => F.binds (ps := ["thing"]) fun _ _ _ _ _ _ us hl => match us, hl with | [_], _ => rfl)
  have D7 := df_mk (st := sare_contents) (ps := ["bench", "thing"]) X G a7 l7 c7 k7 (fun F => F.binds (ps := ["bench", "thing"]) fun _ _ _ _ _ _ us hl => match us, hl with | [_, _], _ => rfl)
  have D8 := df_mk (st := sis_task) (ps := ["thing"]) X G a8 l8 c8 k8 (fun F => F.binds (ps := ["thing"]) fun _ _ _ _ _ _ us hl => match us, hl with | [_], _ => rfl)
  have D9 := df_mk (st := sare_orders) (ps := ["rests", "thing"]) X G a9 l9 c9 k9 (fun F => F.binds (ps := ["rests", "thing"]) fun _ _ _ _ _ _ us hl => match us, hl with | [_, _], _ => rfl)
  have D10 := df_mk (st := s_law_bag) (ps := ["_law_script"]) X G a10 l10 c10 k10 (fun F => F.binds (ps := ["_law_script"]) fun _ _ _ _ _ _ us hl => match us, hl with | [_], _ => rfl)
  have D11 := df_mk (st := s_law_take) (ps := ["_law_bag_here", "_law_upto"]) X G a11 l11 c11 k11 (fun F => F.binds (ps := ["_law_bag_here", "_law_upto"]) fun _ _ _ _ _ _ us hl => match us, hl with | [_, _], _ => rfl)
  have D12 := df_mk (st := s_law_some) (ps := ["_law_bag_here", "_law_things"]) X G a12 l12 c12 k12 (fun F => F.binds (ps := ["_law_bag_here", "_law_things"]) fun _ _ _ _ _ _ us hl => match us, hl with | [_, _], _ => rfl)
  have D13 := df_mk (st := s_law_alike) (ps := ["_law_found", "_law_due"]) X G a13 l13 c13 k13 (fun F => F.binds (ps := ["_law_found", "_law_due"]) fun _ _ _ _ _ _ us hl => match us, hl with | [_, _], _ => rfl)
  have D14 := df_mk (st := s_law_mixed) (ps := ["_law_bag_here", "_law_things"]) X G a14 l14 c14 k14 (fun F => F.binds (ps := ["_law_bag_here", "_law_things"]) fun _ _ _ _ _ _ us hl => match us, hl with | [_, _], _ => rfl)
  have D15 := df_mk (st := s_law_place) (ps := ["_law_bag_here", "_law_most"]) X G a15 l15 c15 k15 (fun F => F.binds (ps := ["_law_bag_here", "_law_most"]) fun _ _ _ _ _ _ us hl => match us, hl with | [_, _], _ => rfl)
  have D16 := df_mk (st := s_law_bench) (ps := ["_law_bag_here", "_law_most"]) X G a16 l16 c16 k16 (fun F => F.binds (ps := ["_law_bag_here", "_law_most"]) fun _ _ _ _ _ _ us hl => match us, hl with | [_, _], _ => rfl)
  have D17 := df_mk (st := s_law_contents) (ps := ["_law_bench_here"]) X G a17 l17 c17 k17 (fun F => F.binds (ps := ["_law_bench_here"]) fun _ _ _ _ _ _ us hl => match us, hl with | [_], _ => rfl)
  have D18 := df_mk (st := s_law_steps) (ps := ["_law_bench_here", "_law_content"]) X G a18 l18 c18 k18 (fun F => F.binds (ps := ["_law_bench_here", "_law_content"]) fun _ _ _ _ _ _ us hl => match us, hl with | [_, _], _ => rfl)
  have D19 := df_mk (st := s_law_graph) (ps := ["_law_bench_here"]) X G a19 l19 c19 k19 (fun F => F.binds (ps := ["_law_bench_here"]) fun _ _ _ _ _ _ us hl => match us, hl with | [_], _ => rfl)
  have D20 := df_mk (st := s_law_way_by) (ps := ["_law_bag_here", "_law_graph_here", "_law_start", "_law_goal", "_law_barred"]) X G a20 l20 c20 k20 (fun F => F.binds (ps := ["_law_bag_here", "_law_graph_here", "_law_start", "_law_goal", "_law_barred"]) fun _ _ _ _ _ _ us hl => match us, hl with | [_, _, _, _, _], _ => rfl)
  have D21 := df_mk (st := s_law_rests) (ps := ["_law_bag_here", "_law_contents_here", "_law_most"]) X G a21 l21 c21 k21 (fun F => F.binds (ps := ["_law_bag_here", "_law_contents_here", "_law_most"]) fun _ _ _ _ _ _ us hl => match us, hl with | [_, _, _], _ => rfl)
  have D22 := df_mk (st := s_law_couple) (ps := ["_law_bag_here", "_law_graph_here", "_law_rests_here"]) X G a22 l22 c22 k22 (fun F => F.binds (ps := ["_law_bag_here", "_law_graph_here", "_law_rests_here"]) fun _ _ _ _ _ _ us hl => match us, hl with | [_, _, _], _ => rfl)
  have D23 := df_mk (st := s_law_ends) (ps := ["_law_bag_here", "_law_rests_here", "_law_start", "_law_goal"]) X G a23 l23 c23 k23 (fun F => F.binds (ps := ["_law_bag_here", "_law_rests_here", "_law_start", "_law_goal"]) fun _ _ _ _ _ _ us hl => match us, hl with | [_, _, _, _], _ => rfl)
  have D24 := df_mk (st := s_law_any_task) (ps := ["_law_bag_here", "_law_bench_here", "_law_most", "_law_orders"]) X G a24 l24 c24 k24 (fun F => F.binds (ps := ["_law_bag_here", "_law_bench_here", "_law_most", "_law_orders"]) fun _ _ _ _ _ _ us hl => match us, hl with | [_, _, _, _], _ => rfl)
  have D25 := df_mk (st := s_law_flat) (ps := ["_law_rows"]) X G a25 l25 c25 k25 (fun F => F.binds (ps := ["_law_rows"]) fun _ _ _ _ _ _ us hl => match us, hl with | [_], _ => rfl)
  have D26 := df_mk (st := slaw) (ps := ["_law_script"]) X G a26 l26 c26 k26 (fun F => F.binds (ps := ["_law_script"]) fun _ _ _ _ _ _ us hl => match us, hl with | [_], _ => rfl)
  have T : Txt K mg A := ⟨⟨PySem.W.mg_none_of X G n_abs, PySem.W.mg_none_of X G n_all, PySem.W.mg_none_of X G n_any, PySem.W.mg_none_of X G n_bool, PySem.W.mg_none_of X G n_dict, PySem.W.mg_none_of X G n_enumerate, PySem.W.mg_none_of X G n_int, PySem.W.mg_none_of X G n_isinstance, PySem.W.mg_none_of X G n_len, PySem.W.mg_none_of X G n_list, PySem.W.mg_none_of X G n_min, PySem.W.mg_none_of X G n_range, PySem.W.mg_none_of X G n_repr, PySem.W.mg_none_of X G n_set, PySem.W.mg_none_of X G n_sorted, PySem.W.mg_none_of X G n_sum, PySem.W.mg_none_of X G n_tuple, PySem.W.mg_none_of X G n_zip⟩, D0, D1, D2, D3, D4, D5, D6, D7, D8, D9, D10, D11, D12, D13, D14, D15, D16, D17, D18, D19, D20, D21, D22, D23, D24, D25, D26⟩
  refine ⟨Option.map_eq_none_iff.mp sm, PySem.W.fnOf "law" "law" (defArgs slaw) (defBody slaw) (defScope slaw) .none kV26 dc26 pm26 an26 cd26 ct26, fun s v => .of_eq rfl, fun base _ _ => ?_⟩
  have g_bag := FnG.of (K19.ok_bag (P := l.prog) (w := w) (base := base) T)
  have g_take := L19.ok_takeD (P := l.prog) (w := w) (base := base) T
  have g_some := L19.ok_someD (P := l.prog) (w := w) (base := base) T g_take
  have g_alike := L19.ok_alikeD (P := l.prog) (w := w) (base := base) T
  have g_mixed := L19.ok_mixedD (P := l.prog) (w := w) (base := base) T g_take
  have g_flat := L19.ok_flat (P := l.prog) (w := w) (base := base) T
  have g_place := L19.ok_placeD (P := l.prog) (w := w) (base := base) T g_take g_some g_flat g_mixed
  have g_bench := L19.ok_benchD (P := l.prog) (w := w) (base := base) T g_some g_place
  have g_lconts := L19.ok_lconts (P := l.prog) (w := w) (base := base) T g_flat
  have g_lsteps := L19.ok_lsteps (P := l.prog) (w := w) (base := base) T
  have g_graph := L19.ok_graph (P := l.prog) (w := w) (base := base) T g_lconts g_lsteps
  have g_either := L19.ok_either (P := l.prog) (w := w) (base := base) T
  have g_witho := L19.ok_witho (P := l.prog) (w := w) (base := base) T
  have g_rests := L19.ok_rests (P := l.prog) (w := w) (base := base) T g_take g_some g_mixed
  have g_ends := L19.ok_ends (P := l.prog) (w := w) (base := base) T g_take
  have g_couple := L19.ok_couple (P := l.prog) (w := w) (base := base) T g_mixed
  have g_wayby := L19.ok_wayby (P := l.prog) (w := w) (base := base) T g_mixed
  have g_int := L19.ok_is_integer (P := l.prog) (w := w) (base := base) T
  have g_tup := L19.ok_tup (P := l.prog) (w := w) (base := base) T
  have g_asc := L19.ok_asc (P := l.prog) (w := w) (base := base) T
  have g_pl := L19.ok_place (P := l.prog) (w := w) (base := base) T ⟨ff, PySem.W.mg_of X G fm, Fo.kint_of fr⟩ g_int g_tup g_asc
  have g_ben := L19.ok_bench (P := l.prog) (w := w) (base := base) T g_pl
  have g_are := L19.ok_are (P := l.prog) (w := w) (base := base) T g_tup g_asc
  have g_ords := L19.ok_ords (P := l.prog) (w := w) (base := base) T g_tup g_asc
  have g_task := L19.ok_task (P := l.prog) (w := w) (base := base) T g_tup g_ben g_are g_ords
  have g_any := L19.ok_anytask (P := l.prog) (w := w) (base := base) T g_graph g_rests g_couple g_wayby g_ends
  exact L19.ok_law (P := l.prog) (w := w) (base := base) T g_bag g_take g_bench g_alike g_any g_mixed g_ends g_either g_witho g_task
end K19

open PySem PySem.W PyProof.Rows
set_option maxRecDepth 100000 in
set_option maxHeartbeats 0 in
theorem PySem.Challenge.cw_onorback_k19_orders_put_in_the_place_of_holds : PySem.Challenge.rw_onorback_k19_orders_put_in_the_place_of.Holds := by
  w_on; o_law; k_head; (case hw => w_witness2)
  k_fill
  refine On.walk_G (l := PySem.Challenge.rw_onorback_k19_orders_put_in_the_place_of) (n := 63) (k := 5) (x := "_law_script") (sp := fun K => L19.spLaw K) rfl (by decide) rfl ⟨rfl, by decide, by decide⟩ ?hi (fun w h Y => PySem.W.kIn_of Y) ?F (fun K H a ns hl hS hq => ⟨a, ns, rfl, hq, hl, hS, fun _ => rfl⟩)
  case hi => decide +kernel
  case F =>
    intro w mg fa h KX G hmg
    refine' K19.all_mk KX G hmg ?sm ?fm ?fr ?a0 ?l0 ?c0 ?k0 ?a1 ?l1 ?c1 ?k1 ?a2 ?l2 ?c2 ?k2 ?a3 ?l3 ?c3 ?k3 ?a4 ?l4 ?c4 ?k4 ?a5 ?l5 ?c5 ?k5 ?a6 ?l6 ?c6 ?k6 ?a7 ?l7 ?c7 ?k7 ?a8 ?l8 ?c8 ?k8 ?a9 ?l9 ?c9 ?k9 ?a10 ?l10 ?c10 ?k10 ?a11 ?l11 ?c11 ?k11 ?a12 ?l12 ?c12 ?k12 ?a13 ?l13 ?c13 ?k13 ?a14 ?l14 ?c14 ?k14 ?a15 ?l15 ?c15 ?k15 ?a16 ?l16 ?c16 ?k16 ?a17 ?l17 ?c17 ?k17 ?a18 ?l18 ?c18 ?k18 ?a19 ?l19 ?c19 ?k19 ?a20 ?l20 ?c20 ?k20 ?a21 ?l21 ?c21 ?k21 ?a22 ?l22 ?c22 ?k22 ?a23 ?l23 ?c23 ?k23 ?a24 ?l24 ?c24 ?k24 ?a25 ?l25 ?c25 ?k25 ?a26 ?l26 ?c26 ?k26 ?n_abs ?n_all ?n_any ?n_bool ?n_dict ?n_enumerate ?n_int ?n_isinstance ?n_len ?n_list ?n_min ?n_range ?n_repr ?n_set ?n_sorted ?n_sum ?n_tuple ?n_zip
    (case sm => k_is)
    (case fm => k_is)
    (case fr => kernel_rfl)
    (case a0 => k_is)
    (case l0 => k_is)
    (case c0 => k_is)
    (case k0 => k_is)
    (case a1 => k_is)
    (case l1 => k_is)
    (case c1 => k_is)
    (case k1 => k_is)
    (case a2 => k_is)
    (case l2 => k_is)
    (case c2 => k_is)
    (case k2 => k_is)
    (case a3 => k_is)
    (case l3 => k_is)
    (case c3 => k_is)
    (case k3 => k_is)
    (case a4 => k_is)
    (case l4 => k_is)
    (case c4 => k_is)
    (case k4 => k_is)
    (case a5 => k_is)
    (case l5 => k_is)
    (case c5 => k_is)
    (case k5 => k_is)
    (case a6 => k_is)
    (case l6 => k_is)
    (case c6 => k_is)
    (case k6 => k_is)
    (case a7 => k_is)
    (case l7 => k_is)
    (case c7 => k_is)
    (case k7 => k_is)
    (case a8 => k_is)
    (case l8 => k_is)
    (case c8 => k_is)
    (case k8 => k_is)
    (case a9 => k_is)
    (case l9 => k_is)
    (case c9 => k_is)
    (case k9 => k_is)
    (case a10 => k_is)
    (case l10 => k_is)
    (case c10 => k_is)
    (case k10 => k_is)
    (case a11 => k_is)
    (case l11 => k_is)
    (case c11 => k_is)
    (case k11 => k_is)
    (case a12 => k_is)
    (case l12 => k_is)
    (case c12 => k_is)
    (case k12 => k_is)
    (case a13 => k_is)
    (case l13 => k_is)
    (case c13 => k_is)
    (case k13 => k_is)
    (case a14 => k_is)
    (case l14 => k_is)
    (case c14 => k_is)
    (case k14 => k_is)
    (case a15 => k_is)
    (case l15 => k_is)
    (case c15 => k_is)
    (case k15 => k_is)
    (case a16 => k_is)
    (case l16 => k_is)
    (case c16 => k_is)
    (case k16 => k_is)
    (case a17 => k_is)
    (case l17 => k_is)
    (case c17 => k_is)
    (case k17 => k_is)
    (case a18 => k_is)
    (case l18 => k_is)
    (case c18 => k_is)
    (case k18 => k_is)
    (case a19 => k_is)
    (case l19 => k_is)
    (case c19 => k_is)
    (case k19 => k_is)
    (case a20 => k_is)
    (case l20 => k_is)
    (case c20 => k_is)
    (case k20 => k_is)
    (case a21 => k_is)
    (case l21 => k_is)
    (case c21 => k_is)
    (case k21 => k_is)
    (case a22 => k_is)
    (case l22 => k_is)
    (case c22 => k_is)
    (case k22 => k_is)
    (case a23 => k_is)
    (case l23 => k_is)
    (case c23 => k_is)
    (case k23 => k_is)
    (case a24 => k_is)
    (case l24 => k_is)
    (case c24 => k_is)
    (case k24 => k_is)
    (case a25 => k_is)
    (case l25 => k_is)
    (case c25 => k_is)
    (case k25 => k_is)
    (case a26 => k_is)
    (case l26 => k_is)
    (case c26 => k_is)
    (case k26 => k_is)
    (case n_abs => k_is)
    (case n_all => k_is)
    (case n_any => k_is)
    (case n_bool => k_is)
    (case n_dict => k_is)
    (case n_enumerate => k_is)
    (case n_int => k_is)
    (case n_isinstance => k_is)
    (case n_len => k_is)
    (case n_list => k_is)
    (case n_min => k_is)
    (case n_range => k_is)
    (case n_repr => k_is)
    (case n_set => k_is)
    (case n_sorted => k_is)
    (case n_sum => k_is)
    (case n_tuple => k_is)
    (case n_zip => k_is)


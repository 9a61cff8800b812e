import PyProof.Rows.All
import Wide.All
import OpenK.AllK
import Wide.FinOn
import PyProof.EqAt
import PyProof.EqKinds
import PyProof.TupleCall
import PyProof.ReprReads
import PyProof.ReprRoads
import HandS.ForMost
import PyProof.ReprLoop
import PyProof.P3Eq
import PyProof.FitsInt
import PyProof.ReprDict
import PyProof.StrLawsRepr
import HandS.IsInst
import HandS.Wide
import HandS.Evl
import HandS.TupAny
import HandS.TupSets
import HandS.Zip
import KE.GoesMore
import KE.GoesEnum
import PyProof.NeData
import PyProof.P3In
import PyProof.FactsAll.dict
import HandS.Flow
import HandS.TupLe
import HandS.Style
import PyProof.DictRoads
import PyProof.DictKinds
import HandS.Ends
import HandS.EndBits
import PySem.Challenge.RW_onorback_k11_places_and_benches_judged
set_option Elab.async false
set_option linter.all false
set_option maxRecDepth 100000
set_option maxHeartbeats 2000000
set_option autoImplicit false
/-! A def whose promise holds wherever no repr is under way: what repr tells can be said then. -/
namespace On
open PySem PySem.Spec PyProof.Rows L2
section
variable {P : Program} {w : World} {K : PySem.W.Frag} {mg : Str → Option Value} {base : Heap} {k : Nat} {f : Addr} {fd : FuncData} {ps : List Str} {sp : Sp}
structure FnG (P : Program) (w : World) (K : PySem.W.Frag) (mg : Str → Option Value) (base : Heap) (k : Nat) (f : Addr) (fd : FuncData) (ps : List Str) (sp : Sp) : Prop where
  ln : ∀ vs H Q E, sp vs H Q E → vs.length = ps.length
  go : ∀ (A : Around) (outer : List Env) (s : Shared) (H : Hp) (args : Args) (us : List Value) (vs : List V) (Q : VK) (E : XK), A.guards = some [] → Room k A →
    Env0 P w K mg base A outer s H → BindsTo s fd args (ps.zip us) → Vals vs us → sp vs H Q E → codeAny (model P w) A (.call (.ref f) args) (CR CX0 outer P w H s Q E) s
theorem FnG.of (F : FnOk P w K mg base CX0 k f fd ps sp) : FnG P w K mg base k f fd ps sp := ⟨F.len, fun A outer s H args us vs Q E _ hr => F.run A outer s H args us vs Q E hr⟩
theorem FnG.up {j : Nat} (F : FnG P w K mg base j f fd ps sp) (h : j ≤ k) : FnG P w K mg base k f fd ps sp := ⟨F.ln, fun A outer s H args us vs Q E hg hr => F.go A outer s H args us vs Q E hg (hr.mono h)⟩

/-- the rule for a def of the text that is entered where no repr is under way -/
theorem okG {x qual : Str} {st : Stmt} {N : List Str} (F : Fun K x qual st f fd) (S : FnScope N ps (defScope st)) (ln : ∀ vs H Q E, sp vs H Q E → vs.length = ps.length)
    (hb : ∀ (cdv : Value) (A : Around) (outer : List Env) (s : Shared) (H : Hp) (vs : List V) (Q : VK) (E : XK), A.guards = some [] → Room k (A.deeper (envOfC qual (defScope st) s.heap.objs.size f cdv)) → sp vs H Q E →
      ∃ t, PSs (cxOf CX0 P w K mg base N qual (defScope st) f cdv A outer s H E).nox (defBody st) t ∧ t { nx := fun _ H' => Q .non H', rt := Q } (start N vs) H) : FnG P w K mg base (k + 1) f fd ps sp := by
  obtain ⟨oc, od, kV, doc, pm, an, cdv, ct, osl, efd, lk, hcd⟩ := F.ex
  subst efd
  refine ⟨ln, ?_⟩
  intro A outer s H args us vs Q E hg hr e0 hbi rv hq
  have inK : K.In s.heap := e0.mod.kin.keeps (fun b o e => (e0.bs b o e).1)
  have kinds : ∀ y ∈ ps.zip us, (defScope st).names.lookup y.1 = some .local ∨ ((defScope st).names.lookup y.1 = some .cell ∧ ((cellsFrom (s.heap.objs.size + 1) (defScope st).names []).lookup y.1).isSome = true) := by
    rintro ⟨n, v⟩ hy
    cases S.par n (List.of_mem_zip hy).1 with
    | inl z => exact .inl z
    | inr z => exact .inr ⟨z, PySem.W.cellsFrom_some _ _ _ (.inl z)⟩
  apply codeAny_call_function hr.depth (inK _ _ lk) rfl S.co S.gen rfl (PySem.W.codeRec_of inK hcd)
  apply hbi
  apply wpAny_newFunctionEnv_cells S.kind kinds
  intro env he s1 x
  subst he
  refine ⟨(e0.mod.nolimit.keeps fun b o e => (e0.bs b o e).1).keeps x.toInCall.keep, codeAny_func ?_⟩
  obtain ⟨t, ht, ht2⟩ := hb cdv A outer s H vs Q E hg (hr.deeper _) hq
  have I := inv_start (CX := CX0) (K := K) (mg := mg) (base := base) (E := E) S hr.hd e0 (ln _ _ _ _ hq) rv x
  apply wpAny_mono (ht.nox.run [] s1 (start N vs) H _ I ht2)
  · intro fl s' hs
    cases fl with
    | ret u =>
      obtain ⟨v, σ', H', J, r', q⟩ := hs
      exact ⟨v, H', J.os, J.bare, J.base, J.hok, r', q⟩
    | next =>
      obtain ⟨σ', H', J, q⟩ := hs
      exact ⟨V.non, H', J.os, J.bare, J.base, J.hok, rfl, q⟩
    | brk => exact hs.choose_spec.choose_spec.2.elim
    | cont => exact hs.choose_spec.choose_spec.2.elim
  · intro e s' z
    exact z
end
section
variable {X : Cx} {k : Nat} {f : Addr} {fd : FuncData} {ps : List Str} {sp : Sp} {x : Str} {p pos : Pos} {e : Expr} {es : List Expr} {t : TA}
theorem run_G {pins : List (Addr × Obj)} {σ : L2.St} {H : Hp} {s : Shared} {Q : VK} {us : List Value} {vs : List V} (F : FnG X.prog X.w X.K X.mg X.base k f fd ps sp) (hg : X.A.guards = some []) (hr : Room k X.A) (hb : Binds X.K fd ps [])
    (I : Inv X pins σ H s) (r : Vals vs us) (h : sp vs H Q E0) : wpAny (model X.prog X.w) X.A (call (.ref f) us) (EP X pins σ Q) X.xe s := by
  have hl : (us ++ []).length = ps.length := by
    rw [List.append_nil, ← r.length]
    exact F.ln _ _ _ _ h
  have bt := hb s us I.kIn hl
  rw [List.append_nil] at bt
  apply wpAny_call
  apply codeAny_mono (F.go X.A X.stack s H ⟨us, []⟩ us vs Q E0 hg hr I.env0 bt r h)
  intro res s' hq
  match res, hq with
  | .ok (.ret u), hq => exact I.after hq
/-- f(e, ..), f such a def -/
theorem pe_callG (F : FnG X.prog X.w X.K X.mg X.base k f fd ps sp) (hg : X.A.guards = some []) (hr : Room k X.A) (hx : Gl X x) (hm : X.mg x = some (.ref f)) (hk : PySem.W.keepIn X.K (.ref f) = true) (hb : Binds X.K fd ps [])
    (ha : PA X (e :: es) t) (hdb : (x == ("__debug__" : Str)) = false := by decide) (he : starEach (e :: es) X.env = (false, eval e X.env) :: starEach es X.env := by rfl) (hpl : (backTo pos (starEach es X.env)).any (·.1) = false := by rfl) :
    PE X (.Call (.Name x p) (e :: es) [] pos) (tCall sp [] E0 t) := by
  constructor
  intro pins s σ H Q I h
  apply wpAny_Call_Name_kw (ld_glob I hx hm ?_ hdb)
  apply PySem.W.callWith_K (h₀ := X.base) I.ok.mod.kin hk (thn (ha.run pos pins s σ H _ I h) ?_) he hpl
  rintro us s1 ⟨vs, H1, I1, r, q⟩
  refine ⟨I1.kIn, run_G F hg hr hb I1 r ?_⟩
  have q' : sp (vs ++ []) H1 Q E0 := q
  rwa [List.append_nil] at q'
end
end On

/-! Data of small ints, tuples and lists: how it lies in the heap, what == and repr tell of it, what becomes of it when the heap grows. -/
namespace On
open PySem PySem.Spec PyProof.Rows L2

/-! ### data that is small -/
mutual
/-- ints of at most six figures, truths, None; tuples and lists of such -/
def tame : PyData → Bool
  | .none => true
  | .bool _ => true
  | .int i => decide (i.natAbs < 1000000)
  | .str _ => false
  | .list xs => tames xs
  | .tuple xs => tames xs
  | .dict _ => false
def tames : List PyData → Bool
  | [] => true
  | x :: xs => tame x && tames xs
end
mutual
/-- no list in it -/
def tup : PyData → Bool
  | .list _ => false
  | .dict _ => false
  | .tuple xs => tups xs
  | .none => true
  | .bool _ => true
  | .int _ => true
  | .str _ => true
def tups : List PyData → Bool
  | [] => true
  | x :: xs => tup x && tups xs
end
mutual
/-- a bound of the length of its text -/
def wide : PyData → Nat
  | .list xs => 4 + wides xs
  | .tuple xs => 4 + wides xs
  | _ => 8
def wides : List PyData → Nat
  | [] => 0
  | x :: xs => wide x + 2 + wides xs
end
theorem tames_iff : ∀ {xs : List PyData}, tames xs = true ↔ ∀ d ∈ xs, tame d = true
  | [] => by simp [tames]
  | x :: xs => by
    rw [tames, Bool.and_eq_true, tames_iff (xs := xs)]
    simp
theorem tups_iff : ∀ {xs : List PyData}, tups xs = true ↔ ∀ d ∈ xs, tup d = true
  | [] => by simp [tups]
  | x :: xs => by
    rw [tups, Bool.and_eq_true, tups_iff (xs := xs)]
    simp
theorem wides_le {B : Nat} : ∀ {xs : List PyData}, (∀ d ∈ xs, wide d ≤ B) → wides xs ≤ xs.length * (B + 2)
  | [], _ => by simp [wides]
  | x :: xs, h => by
    have h1 := h x List.mem_cons_self
    have h2 := wides_le (B := B) (xs := xs) fun d hd => h d (List.mem_cons_of_mem _ hd)
    rw [wides, List.length_cons, Nat.succ_mul]
    omega
theorem depthAll_le {B : Nat} : ∀ {xs : List PyData}, (∀ d ∈ xs, d.depth ≤ B) → PyData.depthAll xs ≤ B
  | [], _ => by simp [PyData.depthAll]
  | x :: xs, h => by
    have h1 := h x List.mem_cons_self
    have h2 := depthAll_le (B := B) (xs := xs) fun d hd => h d (List.mem_cons_of_mem _ hd)
    rw [PyData.depthAll]
    omega
mutual
theorem tame_lay : ∀ d : PyData, tame d = true → d.canLay0 = true
  | .none, _ => by rw [PyData.canLay0]
  | .bool _, _ => by rw [PyData.canLay0]
  | .int _, _ => by rw [PyData.canLay0]
  | .str _, h => by rw [tame] at h; cases h
  | .list xs, h => by
    rw [tame] at h
    rw [PyData.canLay0]
    exact tames_lay xs h
  | .tuple xs, h => by
    rw [tame] at h
    rw [PyData.canLay0]
    exact tames_lay xs h
  | .dict _, h => by rw [tame] at h; cases h
theorem tames_lay : ∀ xs : List PyData, tames xs = true → PyData.canLayAll0 xs = true
  | [], _ => by rw [PyData.canLayAll0]
  | x :: xs, h => by
    rw [tames, Bool.and_eq_true] at h
    rw [PyData.canLayAll0, tame_lay x h.1, tames_lay xs h.2] <;> rfl
end
mutual
theorem tame_show : ∀ d : PyData, tame d = true → d.showable = true
  | .none, _ => by rw [PyData.showable]
  | .bool _, _ => by rw [PyData.showable]
  | .int i, h => by
    rw [tame] at h
    have h1 := of_decide_eq_true h
    rw [PyData.showable]
    refine decide_eq_true (Nat.lt_of_le_of_lt ?_ (by decide : 20 < 1920))
    by_cases z : i.natAbs = 0
    · rw [z]; decide
    · have h2 : i.natAbs < 2 ^ 20 := by omega
      exact Nat.le_of_lt ((Nat.log2_lt z).mpr h2)
  | .str _, h => by rw [tame] at h; cases h
  | .list xs, h => by
    rw [tame] at h
    rw [PyData.showable]
    exact tames_show xs h
  | .tuple xs, h => by
    rw [tame] at h
    rw [PyData.showable]
    exact tames_show xs h
  | .dict _, h => by rw [tame] at h; cases h
theorem tames_show : ∀ xs : List PyData, tames xs = true → PyData.showableAll xs = true
  | [], _ => by rw [PyData.showableAll]
  | x :: xs, h => by
    rw [tames, Bool.and_eq_true] at h
    rw [PyData.showableAll, tame_show x h.1, tames_show xs h.2] <;> rfl
end
/-! ### its text's length -/
theorem str_len_append (a b : Str) : (a ++ b).length = a.length + b.length := Str.length_append a b
def lens (ts : List Str) : Nat := (ts.map fun t => t.length + 2).sum
theorem lens_cons (t : Str) (ts : List Str) : lens (t :: ts) = t.length + 2 + lens ts := by simp [lens]
theorem from_len : ∀ (ts : List Str) (k : Nat) (acc : Str), (PySem.textFrom k acc ts).length ≤ acc.length + lens ts
  | [], k, acc => by rw [PySem.textFrom]; simp [lens]
  | t :: ts, k, acc => by
    rw [PySem.textFrom]
    refine Nat.le_trans (from_len ts (k + 1) _) ?_
    rw [lens_cons, str_len_append, str_len_append]
    have : (Str.ofString (if k > 0 then ", " else "" : String)).length ≤ 2 := by
      split
      · decide
      · decide
    omega
theorem list_len (ts : List Str) : (PySem.listText ts).length ≤ 2 + lens ts := by
  unfold PySem.listText
  rw [str_len_append]
  have h := from_len ts 0 "["
  have h1 : (Str.ofString "[").length = 1 := by decide
  have h2 : (Str.ofString "]").length = 1 := by decide
  omega
theorem join_len : ∀ ts : List Str, (Str.join ", " ts).length ≤ lens ts
  | [] => by simp [Str.join, Str.empty, Str.length]
  | [t] => by
    rw [Str.join, lens_cons]
    omega
  | t :: u :: ts => by
    have ih := join_len (u :: ts)
    rw [Str.join, lens_cons, str_len_append, str_len_append]
    · have h2 : (Str.ofString ", ").length = 2 := by decide
      omega
    · intro z
      cases z
theorem tuple_len (ts : List Str) : (PySem.tupleText ts).length ≤ 3 + lens ts := by
  unfold PySem.tupleText
  rw [str_len_append, str_len_append]
  have h := join_len ts
  have h1 : (Str.ofString "(").length = 1 := by decide
  have h2 : (Str.ofString (if ts.length == 1 then ",)" else ")" : String)).length ≤ 2 := by
    split
    · decide
    · decide
  omega
mutual
theorem tame_len : ∀ d : PyData, tame d = true → d.shown.length ≤ wide d
  | .none, _ => by
    rw [PyData.shown, wide]
    · decide
    all_goals (intro xs z; cases z)
  | .bool b, _ => by
    rw [PyData.shown, wide]
    · cases b <;> decide
    all_goals (intro xs z; cases z)
  | .int i, h => by
    rw [tame] at h
    have h1 := of_decide_eq_true h
    rw [PyData.shown, wide]
    · have q := PySem.int_text_length_le10 (a := i) (k := 6) (by decide) (by omega)
      show (Str.ofString (toString i)).length ≤ 8
      rw [PySem.ofString_length]
      omega
    all_goals (intro xs z; cases z)
  | .str _, h => by rw [tame] at h; cases h
  | .list xs, h => by
    rw [tame] at h
    rw [PyData.shown, wide]
    have q := list_len (PyData.shownAll xs)
    have q2 := tames_len xs h
    omega
  | .tuple xs, h => by
    rw [tame] at h
    rw [PyData.shown, wide]
    have q := tuple_len (PyData.shownAll xs)
    have q2 := tames_len xs h
    omega
  | .dict _, h => by rw [tame] at h; cases h
theorem tames_len : ∀ xs : List PyData, tames xs = true → lens (PyData.shownAll xs) ≤ wides xs
  | [], _ => by rw [PyData.shownAll]; simp [lens]
  | x :: xs, h => by
    rw [tames, Bool.and_eq_true] at h
    rw [PyData.shownAll, wides, lens_cons]
    have q := tame_len x h.1
    have q2 := tames_len xs h.2
    omega
end

/-! ### how it lies -/
section
variable {K : PySem.W.Frag} {H H' : Hp}
theorem dpAll_len : ∀ {vs : List V} {ds : List PyData}, DpAll K H vs ds → vs.length = ds.length
  | _, _, .nil => rfl
  | _, _, .cons _ t => congrArg (· + 1) (dpAll_len t)
theorem dpAll_at : ∀ {vs : List V} {ds : List PyData} {i : Nat} {d : PyData}, DpAll K H vs ds → ds[i]? = some d → ∃ v, vs[i]? = some v ∧ Dp K H v d
  | _, _, _, _, .nil, e => by simp at e
  | _, _, 0, _, .cons h _, e => by
    simp at e
    subst e
    exact ⟨_, rfl, h⟩
  | _, _, i + 1, d, .cons _ t, e => by
    obtain ⟨v, h1, h2⟩ := dpAll_at (i := i) (d := d) t (by simpa using e)
    exact ⟨v, by simpa using h1, h2⟩
theorem dpAll_vat : ∀ {vs : List V} {ds : List PyData} {i : Nat} {v : V}, DpAll K H vs ds → vs[i]? = some v → ∃ d, ds[i]? = some d ∧ Dp K H v d
  | _, _, _, _, .nil, e => by simp at e
  | _, _, 0, _, .cons h _, e => by
    simp at e
    subst e
    exact ⟨_, rfl, h⟩
  | _, _, i + 1, v, .cons _ t, e => by
    obtain ⟨d, h1, h2⟩ := dpAll_vat (i := i) (v := v) t (by simpa using e)
    exact ⟨d, by simpa using h1, h2⟩
theorem dpAll_app : ∀ {vs ws : List V} {ds es : List PyData}, DpAll K H vs ds → DpAll K H ws es → DpAll K H (vs ++ ws) (ds ++ es)
  | _, _, _, _, .nil, h => h
  | _, _, _, _, .cons a b, h => .cons a (dpAll_app b h)
theorem dpAll_take : ∀ (n : Nat) {vs : List V} {ds : List PyData}, DpAll K H vs ds → DpAll K H (vs.take n) (ds.take n)
  | 0, _, _, _ => .nil
  | _ + 1, _, _, .nil => .nil
  | n + 1, _, _, .cons a b => .cons a (dpAll_take n b)
theorem dpAll_drop : ∀ (n : Nat) {vs : List V} {ds : List PyData}, DpAll K H vs ds → DpAll K H (vs.drop n) (ds.drop n)
  | 0, _, _, h => h
  | _ + 1, _, _, .nil => .nil
  | n + 1, _, _, .cons _ b => dpAll_drop n b
theorem dpAll_ints : ∀ (ns : List Int), DpAll K H (ns.map V.int) (ns.map PyData.int)
  | [] => .nil
  | n :: ns => .cons (.int n) (dpAll_ints ns)
theorem dpAll_ints_inv : ∀ {ns : List Int} {vs : List V}, DpAll K H vs (ns.map PyData.int) → vs = ns.map V.int
  | [], _, .nil => rfl
  | n :: ns, _, .cons h t => by
    cases h
    rw [dpAll_ints_inv t] <;> rfl
theorem dp_tup {v : V} {ds : List PyData} (h : Dp K H v (.tuple ds)) : ∃ a xs, v = .ref a ∧ SqT K H a xs ∧ DpAll K H xs ds := by
  cases h with
  | tup h1 h2 => exact ⟨_, _, rfl, h1, h2⟩
theorem dp_int {v : V} {i : Int} (h : Dp K H v (.int i)) : v = .int i := by
  cases h
  rfl
/-- what keeps the tuples keeps data without lists -/
def TupKept (K : PySem.W.Frag) (H H' : Hp) : Prop := ∀ a xs, SqT K H a xs → SqT K H' a xs
mutual
theorem dp_keep (k : TupKept K H H') : ∀ (d : PyData) (v : V), tup d = true → Dp K H v d → Dp K H' v d
  | .none, _, _, h => by cases h; exact .non
  | .bool b, _, _, h => by cases h; exact .bl b
  | .int i, _, _, h => by cases h; exact .int i
  | .str x, _, _, h => by cases h; exact .str x
  | .list _, _, q, _ => by rw [tup] at q; cases q
  | .dict _, _, q, _ => by rw [tup] at q; cases q
  | .tuple ds, _, q, h => by
    rw [tup] at q
    cases h with
    | tup h1 h2 => exact .tup (k _ _ h1) (dpAll_keep k ds _ q h2)
theorem dpAll_keep (k : TupKept K H H') : ∀ (ds : List PyData) (vs : List V), tups ds = true → DpAll K H vs ds → DpAll K H' vs ds
  | [], _, _, h => by cases h; exact .nil
  | d :: ds, _, q, h => by
    rw [tups, Bool.and_eq_true] at q
    cases h with
    | cons h1 h2 => exact .cons (dp_keep k d _ q.1 h1) (dpAll_keep k ds _ q.2 h2)
end
mutual
theorem dp_same (k : Same H H') : ∀ (d : PyData) (v : V), Dp K H v d → Dp K H' v d
  | .none, _, h => by cases h; exact .non
  | .bool b, _, h => by cases h; exact .bl b
  | .int i, _, h => by cases h; exact .int i
  | .str x, _, h => by cases h; exact .str x
  | .list ds, _, h => by
    cases h with
    | lst h1 h2 => exact .lst (k.seq h1) (dpAll_same k ds _ h2)
  | .dict _, _, h => by cases h
  | .tuple ds, _, h => by
    cases h with
    | tup h1 h2 =>
      refine .tup ?_ (dpAll_same k ds _ h2)
      rcases h1 with (h1 | ⟨o, h1⟩) | h1
      · exact .inl (.inl (k _ _ h1))
      · exact .inl (.inr ⟨o, k _ _ h1⟩)
      · exact .inr h1
theorem dpAll_same (k : Same H H') : ∀ (ds : List PyData) (vs : List V), DpAll K H vs ds → DpAll K H' vs ds
  | [], _, h => by cases h; exact .nil
  | d :: ds, _, h => by
    cases h with
    | cons h1 h2 => exact .cons (dp_same k d _ h1) (dpAll_same k ds _ h2)
end
mutual
theorem dp_noDict : ∀ (d : PyData) (v : V), Dp K H v d → d.hasDict = false
  | .none, _, _ => by rw [PyData.hasDict]
  | .bool _, _, _ => by rw [PyData.hasDict]
  | .int _, _, _ => by rw [PyData.hasDict]
  | .str _, _, _ => by rw [PyData.hasDict]
  | .list ds, _, h => by
    cases h with
    | lst _ h2 =>
      rw [PyData.hasDict]
      exact dpAll_noDict ds _ h2
  | .tuple ds, _, h => by
    cases h with
    | tup _ h2 =>
      rw [PyData.hasDict]
      exact dpAll_noDict ds _ h2
  | .dict _, _, h => by cases h
theorem dpAll_noDict : ∀ (ds : List PyData) (vs : List V), DpAll K H vs ds → PyData.hasDictAll ds = false
  | [], _, _ => by rw [PyData.hasDictAll]
  | d :: ds, _, h => by
    cases h with
    | cons h1 h2 => rw [PyData.hasDictAll, dp_noDict d _ h1, dpAll_noDict ds _ h2] <;> rfl
end
/-- a list or a tuple whose items are data: changed tuples' heap -/
theorem tupKept_same (k : Same H H') : TupKept K H H' := fun a xs h => by
  rcases h with (h | ⟨o, h⟩) | h
  · exact .inl (.inl (k _ _ h))
  · exact .inl (.inr ⟨o, k _ _ h⟩)
  · exact .inr h
/-- all but what stands at b is as it was -/
def But (b : Addr) (H H' : Hp) : Prop := ∀ a o, a ≠ b → H a = some o → H' a = some o
theorem But.refl (b : Addr) (H : Hp) : But b H H := fun _ _ _ h => h
theorem But.trans {b : Addr} {H1 H2 : Hp} (h : But b H H1) (h' : But b H1 H2) : But b H H2 := fun a o n e => h' a o n (h a o n e)
theorem But.of_same {b : Addr} (h : Same H H') : But b H H' := fun a o _ e => h a o e
theorem But.tups {b : Addr} {xs : List V} (h : But b H H') (hb : H b = some (.lst xs)) : TupKept K H H' := fun a ys q => by
  rcases q with (q | ⟨o, q⟩) | q
  · exact .inl (.inl (h _ _ (fun z => by rw [z, hb] at q; cases q) q))
  · exact .inl (.inr ⟨o, h _ _ (fun z => by rw [z, hb] at q; cases q) q⟩)
  · exact .inr q
theorem same_upd {a : Addr} {o : HO} (h : H a = Option.none) : Same H (upd H a o) := fun b u e => by
  rw [upd_ne (ne_of_none e h)]
  exact e
end

/-! ### repr -/
section
variable {X : Cx}
def rReprD (K : PySem.W.Frag) : List V → Hp → VK → Prop := fun xs H Q => ∃ a d, xs = [V.ref a] ∧ Dp K H (.ref a) d ∧ d.showable = true ∧ d.depth ≤ 64 ∧ d.shown.length ≤ sizeLine ∧ Q (.str d.shown) H
theorem call_reprD (hg : X.A.guards = some []) (hu : X.A.units + 66 < cLine) : CallR X (.builtin "repr") (rReprD X.K) := by
  intro pins s σ H xs us Q I r h
  obtain ⟨a, d, rfl, hd, hs, h64, hz, q⟩ := h
  obtain rfl := Vals.ref1 r
  obtain ⟨as, rd⟩ := Dp.reads I d _ _ hd rfl
  refine repr_of_reads' rd hs (PyData.noDict_hsm (dp_noDict d _ hd)) hg (by omega) (fun _ _ e => e) (fun h' u tk hk => ?_) hz
  exact ⟨.str d.shown, H, I.kept (t' := tk) hk, ⟨u, rfl⟩, q⟩
end
/-- what == and repr want of data: small, not deep, not long -/
structure Fine (d : PyData) : Prop where
  tm : tame d = true
  dp : d.depth ≤ 60
  wd : wide d ≤ 100000
theorem Fine.shaped {d : PyData} (f : Fine d) : SeqAt.shaped d = true := by
  unfold SeqAt.shaped
  rw [tame_lay d f.tm, decide_eq_true (Nat.le_trans f.dp (by decide))] <;> rfl
theorem Fine.len {d : PyData} (f : Fine d) : d.shown.length ≤ sizeLine := by
  have h1 := tame_len d f.tm
  have h2 := f.wd
  rw [sizeLine_eq]
  omega
theorem Fine.eqv {d : PyData} (f : Fine d) : PyData.eqv d d = true := SeqAt.eqv_refl d (tame_lay d f.tm)
end On

/-! Any data: dicts with int and text keys too. How it lies; repr; its kind. -/
namespace On
open PySem PySem.Spec PyProof.Rows L2

def keyD : Key → PyData
  | .inl i => .int i
  | .inr x => .str x
def dictD : List Key → List PyData → PyData := fun ks ds => .dict ((ks.map keyD).zip ds)
mutual
/-- v is data d in the heap H -/
inductive Dq (K : PySem.W.Frag) (H : Hp) : V → PyData → Prop
  | non : Dq K H .non .none
  | bl (b : Bool) : Dq K H (.bl b) (.bool b)
  | int (i : Int) : Dq K H (.int i) (.int i)
  | str (x : Str) : Dq K H (.str x) (.str x)
  | lst {a : Addr} {xs : List V} {ds : List PyData} : H a = some (.lst xs) → a ≠ sysModules → DqAll K H xs ds → Dq K H (.ref a) (.list ds)
  | tup {a : Addr} {xs : List V} {ds : List PyData} : H a = some (.tup xs) → DqAll K H xs ds → Dq K H (.ref a) (.tuple ds)
  | dct {a : Addr} {kvs : List (Key × V)} {ds : List PyData} : H a = some (.dK kvs) → DqAll K H (kvs.map Prod.snd) ds → Dq K H (.ref a) (dictD (kvs.map Prod.fst) ds)
inductive DqAll (K : PySem.W.Frag) (H : Hp) : List V → List PyData → Prop
  | nil : DqAll K H [] []
  | cons {v : V} {vs : List V} {d : PyData} {ds : List PyData} : Dq K H v d → DqAll K H vs ds → DqAll K H (v :: vs) (d :: ds)
end
section
variable {K : PySem.W.Frag} {H H' : Hp}
theorem dqAll_len : ∀ {vs : List V} {ds : List PyData}, DqAll K H vs ds → vs.length = ds.length
  | _, _, .nil => rfl
  | _, _, .cons _ t => congrArg (· + 1) (dqAll_len t)
theorem dqAll_vat : ∀ {vs : List V} {ds : List PyData} {i : Nat} {v : V}, DqAll K H vs ds → vs[i]? = some v → ∃ d, ds[i]? = some d ∧ Dq K H v d
  | _, _, _, _, .nil, e => by simp at e
  | _, _, 0, _, .cons h _, e => by
    simp at e
    subst e
    exact ⟨_, rfl, h⟩
  | _, _, i + 1, v, .cons _ t, e => by
    obtain ⟨d, h1, h2⟩ := dqAll_vat (i := i) (v := v) t (by simpa using e)
    exact ⟨d, by simpa using h1, h2⟩
theorem dqAll_at : ∀ {vs : List V} {ds : List PyData} {i : Nat} {d : PyData}, DqAll K H vs ds → ds[i]? = some d → ∃ v, vs[i]? = some v ∧ Dq K H v d
  | _, _, _, _, .nil, e => by simp at e
  | _, _, 0, _, .cons h _, e => by
    simp at e
    subst e
    exact ⟨_, rfl, h⟩
  | _, _, i + 1, d, .cons _ t, e => by
    obtain ⟨v, h1, h2⟩ := dqAll_at (i := i) (d := d) t (by simpa using e)
    exact ⟨v, by simpa using h1, h2⟩
theorem dqAll_app : ∀ {vs ws : List V} {ds es : List PyData}, DqAll K H vs ds → DqAll K H ws es → DqAll K H (vs ++ ws) (ds ++ es)
  | _, _, _, _, .nil, h => h
  | _, _, _, _, .cons a b, h => .cons a (dqAll_app b h)
theorem dqAll_take : ∀ (n : Nat) {vs : List V} {ds : List PyData}, DqAll K H vs ds → DqAll K H (vs.take n) (ds.take n)
  | 0, _, _, _ => .nil
  | _ + 1, _, _, .nil => .nil
  | n + 1, _, _, .cons a b => .cons a (dqAll_take n b)
theorem dqAll_drop : ∀ (n : Nat) {vs : List V} {ds : List PyData}, DqAll K H vs ds → DqAll K H (vs.drop n) (ds.drop n)
  | 0, _, _, h => h
  | _ + 1, _, _, .nil => .nil
  | n + 1, _, _, .cons _ b => dqAll_drop n b
theorem dqAll_set : ∀ {vs : List V} {ds : List PyData} (i : Nat) {v : V} {d : PyData}, DqAll K H vs ds → Dq K H v d → DqAll K H (vs.set i v) (ds.set i d)
  | _, _, _, _, _, .nil, _ => .nil
  | _, _, 0, _, _, .cons _ b, h => .cons h b
  | _, _, i + 1, _, _, .cons a b, h => .cons a (dqAll_set i b h)
theorem dqAll_erase : ∀ {vs : List V} {ds : List PyData} (i : Nat), DqAll K H vs ds → DqAll K H (vs.eraseIdx i) (ds.eraseIdx i)
  | _, _, _, .nil => .nil
  | _, _, 0, .cons _ b => b
  | _, _, i + 1, .cons a b => .cons a (dqAll_erase i b)
theorem dqAll_ints : ∀ (ns : List Int), DqAll K H (ns.map V.int) (ns.map PyData.int)
  | [] => .nil
  | n :: ns => .cons (.int n) (dqAll_ints ns)
theorem dq_tup {v : V} {ds : List PyData} (h : Dq K H v (.tuple ds)) : ∃ a xs, v = .ref a ∧ H a = some (.tup xs) ∧ DqAll K H xs ds := by
  cases h with
  | tup h1 h2 => exact ⟨_, _, rfl, h1, h2⟩
theorem dq_lst {v : V} {ds : List PyData} (h : Dq K H v (.list ds)) : ∃ a xs, v = .ref a ∧ H a = some (.lst xs) ∧ a ≠ sysModules ∧ DqAll K H xs ds := by
  cases h with
  | lst h1 h2 h3 => exact ⟨_, _, rfl, h1, h2, h3⟩
theorem dq_int {v : V} {i : Int} (h : Dq K H v (.int i)) : v = .int i := by
  cases h
  rfl
theorem dq_bl {v : V} {i : Bool} (h : Dq K H v (.bool i)) : v = .bl i := by
  cases h
  rfl
mutual
theorem dq_same (k : Same H H') : ∀ {v : V} {d : PyData}, Dq K H v d → Dq K H' v d
  | _, _, .non => .non
  | _, _, .bl b => .bl b
  | _, _, .int i => .int i
  | _, _, .str x => .str x
  | _, _, .lst h1 h2 h3 => .lst (k _ _ h1) h2 (dqAll_same k h3)
  | _, _, .tup h1 h3 => .tup (k _ _ h1) (dqAll_same k h3)
  | _, _, .dct h1 h3 => .dct (k _ _ h1) (dqAll_same k h3)
theorem dqAll_same (k : Same H H') : ∀ {vs : List V} {ds : List PyData}, DqAll K H vs ds → DqAll K H' vs ds
  | _, _, .nil => .nil
  | _, _, .cons a b => .cons (dq_same k a) (dqAll_same k b)
end
end

/-! ### what the library's Reads says of it -/
section
variable {X : Cx} {pins : List (Addr × Obj)} {σ : L2.St} {H : Hp} {s : Shared}
theorem reads_keys {P : Program} {w : World} {h : Heap} : ∀ {es : List DictEntry} {vs : List (Key × Value)} {kvs : List (Key × V)}, Pairs (mixKind P w) es vs → KV kvs vs → ReadsAll h (es.map (·.key)) ((kvs.map Prod.fst).map keyD) []
  | _, _, _, .nil, .nil => .nil
  | _, _, _, .cons h1 h2 t, .cons r q => by
    have ih := reads_keys (h := h) t q
    have e1 := r.1
    rename_i e kv es kvs' p ps
    have key : Reads h e.key (keyD p.1) [] := by
      rw [e1]
      rcases keyIs_shape h1 with ⟨i, t, e2, e3⟩ | ⟨x, t, e2, e3⟩
      · rw [e2, e3]
        exact .int i t
      · rw [e2, e3]
        exact .str x t
    exact ReadsAll.cons (as := []) (bs := []) key ih
theorem pairs_vals {P : Program} {w : World} : ∀ {es : List DictEntry} {vs : List (Key × Value)} {kvs : List (Key × V)}, Pairs (mixKind P w) es vs → KV kvs vs → Vals (kvs.map Prod.snd) (es.map (·.val))
  | _, _, _, .nil, .nil => .nil
  | _, _, _, .cons h1 h2 t, .cons r q => by
    refine .cons ?_ (pairs_vals t q)
    show RelV _ (DictEntry.val _)
    rw [h2]
    exact r.2
theorem zip_fst : ∀ {ks : List PyData} {ds : List PyData}, ks.length = ds.length → (ks.zip ds).map (·.1) = ks
  | [], [], _ => rfl
  | k :: ks, d :: ds, h => by
    rw [List.zip_cons_cons, List.map_cons, zip_fst (by simpa using h)]
theorem zip_snd : ∀ {ks : List PyData} {ds : List PyData}, ks.length = ds.length → (ks.zip ds).map (·.2) = ds
  | [], [], _ => rfl
  | k :: ks, d :: ds, h => by
    rw [List.zip_cons_cons, List.map_cons, zip_snd (by simpa using h)]
mutual
theorem dq_reads (I : Inv X pins σ H s) : ∀ {v : V} {d : PyData} {u : Value}, Dq X.K H v d → RelV v u → ∃ as, Reads s.heap u d as ∧ sysModules ∉ as
  | _, _, _, .non, r => by
    cases r
    exact ⟨_, Reads.none, by simp⟩
  | _, _, _, .bl b, r => by
    cases r
    exact ⟨_, Reads.bool b, by simp⟩
  | _, _, _, .int i, r => by
    obtain ⟨t, rfl⟩ := r
    exact ⟨_, Reads.int i t, by simp⟩
  | _, _, _, .str x, r => by
    obtain ⟨t, rfl⟩ := r
    exact ⟨_, Reads.str x t, by simp⟩
  | _, _, _, .lst h1 h2 h3, r => by
    cases r
    obtain ⟨its, rv, ⟨o, n, ho, hc, _, hd⟩, _⟩ := I.list (SqL.of h1)
    obtain ⟨as, hr, hn⟩ := dqAll_reads I h3 rv
    refine ⟨_, Reads.list ho hc hd hr, fun z => ?_⟩
    rcases List.mem_cons.mp z with z | z
    · exact h2 z.symm
    · exact hn z
  | _, _, _, .tup h1 h3, r => by
    cases r
    obtain ⟨its, rv, ⟨o, ho, hc, n, hd⟩, _⟩ := I.tuple (SqT.of h1)
    obtain ⟨as, hr, hn⟩ := dqAll_reads I h3 rv
    exact ⟨_, Reads.tuple ho hc hd hr, hn⟩
  | _, _, _, @Dq.dct _ _ a kvs ds h1 h3, r => by
    cases r
    obtain ⟨_, hm, vs, kv, o, es, ep, ho, hx, hd, hk, hp, _⟩ := dk_of I.hok h1
    obtain ⟨as, hr, hn⟩ := dqAll_reads I h3 (pairs_vals hp kv)
    have hl : ((kvs.map Prod.fst).map keyD).length = ds.length := by
      rw [← dqAll_len h3, List.length_map, List.length_map, List.length_map]
    refine ⟨a :: [] ++ as, Reads.dict ho hx.1 hd ?_ ?_, ?_⟩
    · rw [zip_fst hl]
      exact reads_keys hp kv
    · rw [zip_snd hl]
      exact hr
    · intro z
      have z : sysModules ∈ a :: as := z
      rcases List.mem_cons.mp z with z | z
      · rw [← z] at hm
        exact absurd hm (by decide)
      · exact hn z
theorem dqAll_reads (I : Inv X pins σ H s) : ∀ {vs : List V} {ds : List PyData} {us : List Value}, DqAll X.K H vs ds → Vals vs us → ∃ as, ReadsAll s.heap us ds as ∧ sysModules ∉ as
  | _, _, _, .nil, .nil => ⟨_, ReadsAll.nil, by simp⟩
  | _, _, _, .cons a b, .cons r1 r2 => by
    obtain ⟨as, q1, n1⟩ := dq_reads I a r1
    obtain ⟨bs, q2, n2⟩ := dqAll_reads I b r2
    refine ⟨_, ReadsAll.cons q1 q2, fun z => ?_⟩
    rcases List.mem_append.mp z with z | z
    · exact n1 z
    · exact n2 z
end
end

mutual
theorem dp_of_dq' {K : PySem.W.Frag} {H : Hp} : ∀ {v : V} {d : PyData}, Dq K H v d → tame d = true → Dp K H v d
  | _, _, .non, _ => .non
  | _, _, .bl b, _ => .bl b
  | _, _, .int i, _ => .int i
  | _, _, .str x, h => by simp [tame] at h
  | _, _, .lst h1 h2 h3, h => .lst (SqL.of h1) (dpAll_of_dq' h3 (by simpa [tame] using h))
  | _, _, .tup h1 h3, h => .tup (SqT.of h1) (dpAll_of_dq' h3 (by simpa [tame] using h))
  | _, _, .dct h1 h3, h => by simp [dictD, tame] at h
theorem dpAll_of_dq' {K : PySem.W.Frag} {H : Hp} : ∀ {vs : List V} {ds : List PyData}, DqAll K H vs ds → tames ds = true → DpAll K H vs ds
  | _, _, .nil, _ => .nil
  | _, _, .cons a b, h => by
    rw [tames, Bool.and_eq_true] at h
    exact .cons (dp_of_dq' a h.1) (dpAll_of_dq' b h.2)
end
theorem dp_of_dq {K : PySem.W.Frag} {H : Hp} {v : V} {d : PyData} (h : tame d = true) (q : Dq K H v d) : Dp K H v d := dp_of_dq' q h
/-! ### repr of anything -/
section
variable {X : Cx}
def rReprQ (K : PySem.W.Frag) : List V → Hp → VK → Prop := fun xs H Q => ∃ x d, xs = [x] ∧ Dq K H x d ∧ d.showable = true ∧ d.depth ≤ 64 ∧ d.shown.length ≤ sizeLine ∧ Q (.str d.shown) H
theorem call_reprQ (hg : X.A.guards = some []) (hu : X.A.units + 66 < cLine) : CallR X (.builtin "repr") (rReprQ X.K) := by
  intro pins s σ H xs us Q I r h
  obtain ⟨x, d, rfl, hd, hs, h64, hz, q⟩ := h
  obtain ⟨u, rfl, ru⟩ := vals1 r
  obtain ⟨as, rd, hn⟩ := dq_reads I hd ru
  cases hd with
  | non =>
    cases ru
    exact PySem.P.repr_of_none ⟨.str _, H, I.tok _, ⟨_, rfl⟩, by simpa only [PyData.shown] using q⟩
  | bl b =>
    cases ru
    exact PySem.P.repr_of_bool ⟨.str _, H, I.tok _, ⟨_, rfl⟩, by simpa only [PyData.shown] using q⟩
  | int i =>
    obtain ⟨t, rfl⟩ := ru
    exact PySem.P.repr_of_int (by simpa [PyData.showable] using hs) ⟨.str _, H, I.tok _, ⟨_, rfl⟩, by simpa only [PyData.shown] using q⟩
  | str z =>
    obtain ⟨t, rfl⟩ := ru
    exact PySem.P.repr_of_str ⟨.str _, H, I.tok _, ⟨_, rfl⟩, by simpa only [PyData.shown] using q⟩ (by simpa only [PyData.shown] using hz)
  | lst h1 h2 h3 =>
    cases ru
    exact repr_of_reads' rd hs (fun _ => hn) hg (by omega) (fun _ _ e => e) (fun h' u tk hk => ⟨.str _, H, I.kept (t' := tk) hk, ⟨u, rfl⟩, q⟩) hz
  | tup h1 h3 =>
    cases ru
    exact repr_of_reads' rd hs (fun _ => hn) hg (by omega) (fun _ _ e => e) (fun h' u tk hk => ⟨.str _, H, I.kept (t' := tk) hk, ⟨u, rfl⟩, q⟩) hz
  | dct h1 h3 =>
    cases ru
    exact repr_of_reads' rd hs (fun _ => hn) hg (by omega) (fun _ _ e => e) (fun h' u tk hk => ⟨.str _, H, I.kept (t' := tk) hk, ⟨u, rfl⟩, q⟩) hz
end
end On

/-! How long the text of any data is. -/
namespace On
open PySem PySem.Spec PyProof.Rows L2
mutual
/-- what repr can show: ints of less than fifty figures, plain signs -/
def plainQ : PyData → Bool
  | .none => true
  | .bool _ => true
  | .int i => decide (i.natAbs < 10 ^ 50)
  | .str x => x.cps.toList.all fun c => decide (c < 128)
  | .list xs => plainQs xs
  | .tuple xs => plainQs xs
  | .dict kvs => plainQd kvs
def plainQs : List PyData → Bool
  | [] => true
  | x :: xs => plainQ x && plainQs xs
def plainQd : List (PyData × PyData) → Bool
  | [] => true
  | (k, v) :: r => plainQ k && (plainQ v && plainQd r)
end
mutual
/-- a bound of its text's length -/
def wq : PyData → Nat
  | .none => 8
  | .bool _ => 8
  | .int i => if i.natAbs < 1000000 then 8 else 60
  | .str x => 10 * x.length + 2
  | .list xs => 4 + wqs xs
  | .tuple xs => 4 + wqs xs
  | .dict kvs => 4 + wqd kvs
def wqs : List PyData → Nat
  | [] => 0
  | x :: xs => wq x + 2 + wqs xs
def wqd : List (PyData × PyData) → Nat
  | [] => 0
  | (k, v) :: r => wq k + wq v + 4 + wqd r
end
theorem plainQs_iff : ∀ {xs : List PyData}, plainQs xs = true ↔ ∀ d ∈ xs, plainQ d = true
  | [] => by simp [plainQs]
  | x :: xs => by
    rw [plainQs, Bool.and_eq_true, plainQs_iff (xs := xs)]
    simp
theorem wqs_mem : ∀ {xs : List PyData} {d : PyData}, d ∈ xs → wq d + 2 ≤ wqs xs
  | x :: xs, d, h => by
    rw [wqs]
    rcases List.mem_cons.mp h with rfl | h
    · omega
    · have := wqs_mem h
      omega
theorem wqs_len : ∀ (xs : List PyData), 2 * xs.length ≤ wqs xs
  | [] => by simp [wqs]
  | x :: xs => by
    have := wqs_len xs
    rw [wqs, List.length_cons]
    omega
theorem wqs_app : ∀ (xs ys : List PyData), wqs (xs ++ ys) = wqs xs + wqs ys
  | [], ys => by simp [wqs]
  | x :: xs, ys => by
    rw [List.cons_append, wqs, wqs, wqs_app xs ys]
    omega
theorem wqs_le {B : Nat} : ∀ {xs : List PyData}, (∀ d ∈ xs, wq d ≤ B) → wqs xs ≤ xs.length * (B + 2)
  | [], _ => by simp [wqs]
  | x :: xs, h => by
    have h1 := h x List.mem_cons_self
    have h2 := wqs_le (B := B) (xs := xs) fun d hd => h d (List.mem_cons_of_mem _ hd)
    rw [wqs, List.length_cons, Nat.succ_mul]
    omega
theorem int_show (i : Int) (h : i.natAbs < 10 ^ 50) : i.natAbs.log2 < 1920 := by
  by_cases z : i.natAbs = 0
  · rw [z]; decide
  · have h2 : i.natAbs < 2 ^ 200 := Nat.lt_trans h (by decide)
    have h3 := (Nat.log2_lt z).mpr h2
    omega
mutual
theorem plain_show : ∀ d : PyData, plainQ d = true → d.showable = true
  | .none, _ => by rw [PyData.showable]
  | .bool _, _ => by rw [PyData.showable]
  | .int i, h => by
    rw [plainQ] at h
    rw [PyData.showable]
    exact decide_eq_true (int_show i (of_decide_eq_true h))
  | .str _, _ => by rw [PyData.showable]
  | .list xs, h => by
    rw [plainQ] at h
    rw [PyData.showable]
    exact plains_show xs h
  | .tuple xs, h => by
    rw [plainQ] at h
    rw [PyData.showable]
    exact plains_show xs h
  | .dict kvs, h => by
    rw [plainQ] at h
    rw [PyData.showable]
    exact plaind_show kvs h
theorem plains_show : ∀ xs : List PyData, plainQs xs = true → PyData.showableAll xs = true
  | [], _ => by rw [PyData.showableAll]
  | x :: xs, h => by
    rw [plainQs, Bool.and_eq_true] at h
    rw [PyData.showableAll, plain_show x h.1, plains_show xs h.2] <;> rfl
theorem plaind_show : ∀ kvs : List (PyData × PyData), plainQd kvs = true → PyData.showableKv kvs = true
  | [], _ => by rw [PyData.showableKv]
  | (k, v) :: r, h => by
    rw [plainQd, Bool.and_eq_true, Bool.and_eq_true] at h
    rw [PyData.showableKv, plain_show k h.1, plain_show v h.2.1, plaind_show r h.2.2] <;> rfl
end
theorem dict_len (ps : List Str) : (PySem.dictText ps).length ≤ 2 + lens ps := by
  unfold PySem.dictText
  rw [str_len_append, str_len_append]
  have h := join_len ps
  have h1 : (Str.ofString "{").length = 1 := by decide
  have h2 : (Str.ofString "}").length = 1 := by decide
  omega
theorem int_len (i : Int) (h : i.natAbs < 10 ^ 50) : (Str.ofString (toString i)).length ≤ if i.natAbs < 1000000 then 8 else 60 := by
  rw [PySem.ofString_length]
  split
  · have q := PySem.int_text_length_le10 (a := i) (k := 6) (by decide) (by omega)
    omega
  · have q := PySem.int_text_length_le10 (a := i) (k := 50) (by decide) h
    omega
mutual
theorem plain_len : ∀ d : PyData, plainQ d = true → d.shown.length ≤ wq d
  | .none, _ => by
    rw [PyData.shown, wq]
    decide
  | .bool b, _ => by
    rw [PyData.shown, wq]
    cases b <;> decide
  | .int i, h => by
    rw [plainQ] at h
    rw [PyData.shown, wq]
    exact int_len i (of_decide_eq_true h)
  | .str x, h => by
    rw [plainQ] at h
    rw [PyData.shown, wq]
    refine StrLaws.reprText_len x fun c hc => ?_
    have z := of_decide_eq_true (List.all_eq_true.mp h c hc)
    exact Nat.lt_trans z (by decide)
  | .list xs, h => by
    rw [plainQ] at h
    rw [PyData.shown, wq]
    have q := list_len (PyData.shownAll xs)
    have q2 := plains_len xs h
    omega
  | .tuple xs, h => by
    rw [plainQ] at h
    rw [PyData.shown, wq]
    have q := tuple_len (PyData.shownAll xs)
    have q2 := plains_len xs h
    omega
  | .dict kvs, h => by
    rw [plainQ] at h
    rw [PyData.shown, wq]
    have q := dict_len (PyData.shownKv kvs)
    have q2 := plaind_len kvs h
    omega
theorem plains_len : ∀ xs : List PyData, plainQs xs = true → lens (PyData.shownAll xs) ≤ wqs xs
  | [], _ => by rw [PyData.shownAll]; simp [lens]
  | x :: xs, h => by
    rw [plainQs, Bool.and_eq_true] at h
    rw [PyData.shownAll, wqs, lens_cons]
    have q := plain_len x h.1
    have q2 := plains_len xs h.2
    omega
theorem plaind_len : ∀ kvs : List (PyData × PyData), plainQd kvs = true → lens (PyData.shownKv kvs) ≤ wqd kvs
  | [], _ => by rw [PyData.shownKv]; simp [lens]
  | (k, v) :: r, h => by
    rw [plainQd, Bool.and_eq_true, Bool.and_eq_true] at h
    rw [PyData.shownKv, wqd, lens_cons, str_len_append, str_len_append]
    have q1 := plain_len k h.1
    have q3 := plain_len v h.2.1
    have q2 := plaind_len r h.2.2
    have h2 : (Str.ofString ": ").length = 2 := by decide
    omega
end
/-- what repr wants -/
structure Show (d : PyData) : Prop where
  pl : plainQ d = true
  dp : d.depth ≤ 64
  wd : wq d ≤ 60000
theorem Show.len {d : PyData} (s : Show d) : d.shown.length ≤ sizeLine := by
  have h1 := plain_len d s.pl
  have h2 := s.wd
  rw [sizeLine_eq]
  omega
theorem Show.sh {d : PyData} (s : Show d) : d.showable = true := plain_show d s.pl
end On

/-! The bag that the laws draw from; a def of the text as its callers want it. -/
namespace On
open PySem PySem.Spec PyProof.Rows L2
/-- a def of the text, by its name -/
structure Df (K : PySem.W.Frag) (mg : Str → Option Value) (x : Str) (st : Stmt) (ps : List Str) (f : Addr) (fd : FuncData) : Prop where
  F : Fun K x x st f fd
  g : mg x = some (.ref f)
  b : Binds K fd ps []
/-- xs[i], i not below nought -/
def rIxN (K : PySem.W.Frag) : V → V → Hp → VK → Prop := fun x y H Q => ∃ (p : Addr) (xs : List V) (i : Nat) (v : V), x = .ref p ∧ y = .int (i : Int) ∧ SqL K H p xs ∧ xs[i]? = some v ∧ Q v H
theorem get_list {X : Cx} : PGet X (rIxN X.K) := by
  intro pins s σ H o i ov iv Q I ro ri h
  obtain ⟨p, xs, k, v, rfl, rfl, hq, he, q⟩ := h
  cases ro
  obtain ⟨t, rfl⟩ := ri
  obtain ⟨its, r, pl, hz⟩ := I.list hq
  obtain ⟨u, eu, ru⟩ := r.get he
  have hk := (List.getElem?_eq_some_iff.mp he).1
  have hn := line63
  exact wpAny_getItem_list pl.isList (by omega) (by omega) (by simpa using eu) ⟨v, H, I, ru, q⟩

/-- the bag at b: what is held, the stir, the place, the cells -/
def BagAt (H : Hp) (b l : Addr) : Prop := ∃ (p q r : Int) (cs : List Int), H b = some (.lst [.int p, .int q, .int r, .ref l]) ∧ H l = some (.lst (cs.map V.int)) ∧ cs.length ≤ 63
/-- sys.modules is held apart: no new thing stands there -/
def Sys (H : Hp) : Prop := ∃ φ : Obj × HO, H sysModules = some (.frz φ.1 φ.2)
structure Bag (H : Hp) (b l : Addr) : Prop where
  at_ : BagAt H b l
  sys : Sys H
/-- the heap but for what stands at b -/
def off (b : Addr) (H : Hp) : Hp := fun a => if a = b then Option.none else H a
theorem off_ne {b a : Addr} {H : Hp} (h : a ≠ b) : off b H a = H a := if_neg h
theorem off_at {b : Addr} {H : Hp} : off b H b = Option.none := if_pos rfl
theorem off_sub {b : Addr} {H : Hp} : Same (off b H) H := fun a o e => by
  by_cases h : a = b
  · rw [h, off_at] at e
    cases e
  · rwa [off_ne h] at e
theorem off_some {b a : Addr} {H : Hp} {o : HO} (e : off b H a = some o) : a ≠ b := fun z => by
  rw [z, off_at] at e
  cases e
theorem but_off {b : Addr} {H H' : Hp} (h : But b H H') : Same (off b H) (off b H') := fun a o e => by
  have n := off_some e
  rw [off_ne n] at e ⊢
  exact h a o n e
theorem bag_ne {H : Hp} {b l : Addr} {p q r : Int} {l' : Addr} {cs : List Int} (hb : H b = some (.lst [.int p, .int q, .int r, .ref l'])) (hl : H l = some (.lst (cs.map V.int))) : l ≠ b := fun z => by
  rw [z, hb] at hl
  have e := Option.some.inj hl
  injection e with e
  match cs, e with
  | [_, _, _, d], e => simp at e
theorem Bag.same {H H' : Hp} {b l : Addr} (h : Bag H b l) (k : Same H H') : Bag H' b l := by
  obtain ⟨⟨p, q, r, cs, h1, h2, h3⟩, φ, h4⟩ := h
  exact ⟨⟨p, q, r, cs, k _ _ h1, k _ _ h2, h3⟩, φ, k _ _ h4⟩
theorem Bag.put {H : Hp} {b l : Addr} (h : Bag H b l) (p' q' r' : Int) : Bag (upd H b (.lst [.int p', .int q', .int r', .ref l])) b l := by
  obtain ⟨⟨p, q, r, cs, h1, h2, h3⟩, φ, h4⟩ := h
  have n1 : l ≠ b := bag_ne h1 h2
  have n2 : sysModules ≠ b := fun z => by
    rw [z, h1] at h4
    cases h4
  exact ⟨⟨p', q', r', cs, upd_same, by rw [upd_ne n1]; exact h2, h3⟩, φ, by rw [upd_ne n2]; exact h4⟩
theorem Bag.ne_sys {H : Hp} {b l : Addr} (h : Bag H b l) {a : Addr} (n : H a = Option.none) : a ≠ sysModules := fun z => by
  obtain ⟨_, φ, h4⟩ := h
  rw [z, h4] at n
  cases n
theorem Bag.ne_new {H : Hp} {b l : Addr} (h : Bag H b l) {a : Addr} (n : H a = Option.none) : a ≠ b := fun z => by
  obtain ⟨⟨p, q, r, cs, h1, _⟩, _⟩ := h
  rw [z, h1] at n
  cases n
theorem Bag.ne_cells {H : Hp} {b l : Addr} (h : Bag H b l) {a : Addr} (n : H a = Option.none) : a ≠ l := fun z => by
  obtain ⟨⟨p, q, r, cs, h1, h2, _⟩, _⟩ := h
  rw [z, h2] at n
  cases n
/-- another list changes -/
theorem Bag.upd {H : Hp} {b l a : Addr} {o : HO} {xs : List V} (h : Bag H b l) (n1 : a ≠ b) (n2 : a ≠ l) (ha : H a = some (.lst xs)) : Bag (L2.upd H a o) b l := by
  obtain ⟨⟨p, q, r, cs, h1, h2, h3⟩, φ, h4⟩ := h
  have n3 : a ≠ sysModules := fun z => by
    rw [z, h4] at ha
    cases ha
  exact ⟨⟨p, q, r, cs, by rw [upd_ne (Ne.symm n1)]; exact h1, by rw [upd_ne (Ne.symm n2)]; exact h2, h3⟩, φ, by rw [upd_ne (Ne.symm n3)]; exact h4⟩
theorem but_put {H : Hp} {b : Addr} {o : HO} : But b H (upd H b o) := fun a u n e => by
  rw [upd_ne n]
  exact e
/-- _law_take(bag, n) -/
def spTake : Sp := fun vs H Q _ => ∃ (b c : Addr) (n : Int), vs = [.ref b, .int n] ∧ Bag H b c ∧ 0 < n ∧ n.natAbs.log2 < 9000 ∧
  ∀ (v : Int) (H' : Hp), 0 ≤ v → v < n → Bag H' b c → But b H H' → Q (.int v) H'
/-- _law_some(bag, things) -/
def spSome (K : PySem.W.Frag) : Sp := fun vs H Q _ => ∃ (b c l : Addr) (xs : List V), vs = [.ref b, .ref l] ∧ Bag H b c ∧ H l = some (.lst xs) ∧ l ≠ b ∧ 0 < xs.length ∧ xs.length < 1000000 ∧
  ∀ (v : V) (H' : Hp), v ∈ xs → Bag H' b c → But b H H' → Q v H'
/-- _law_alike(found, due): data that are the same -/
def spAlike (K : PySem.W.Frag) : Sp := fun vs H Q _ => ∃ (x y : V) (d : PyData), vs = [x, y] ∧ Dq K H x d ∧ Dq K H y d ∧ Fine d ∧ Q (.bl true) H
/-! ### readings one step open -/
section
variable {te : TE} {t : TA} {v : V} {D : Ends} {σ : L2.St} {H : Hp} {Q : List V → Hp → Prop} {R : VK} {g : TG} {tz : TS}
theorem to_ret (h : te σ H D.rt) : tRet te D σ H := h
theorem to_asg (h : te σ H fun x H1 => g x σ H1 D.nx) : tAsg te g D σ H := h
theorem to_qasg (h : te σ H fun x H1 => g x σ H1 (tz D)) : tSeq (tAsg te g) tz D σ H := h
theorem to_lst (h : t σ H fun xs H1 => xs.length ≤ sizeLine ∧ ∀ p, H1 p = Option.none → R (.ref p) (upd H1 p (.lst xs))) : tLst t σ H R := h
theorem to_tup (h : t σ H fun xs H1 => xs.length ≤ sizeLine ∧ ∀ p, H1 p = Option.none → R (.ref p) (upd H1 p (.tup xs))) : tTup t σ H R := h
theorem to_c (h : t σ H fun xs H2 => Q (v :: xs) H2) : tCons (tC v) t σ H Q := h
theorem to_cons (h : te σ H fun x H1 => t σ H1 fun xs H2 => Q (x :: xs) H2) : tCons te t σ H Q := h
theorem to_cb {r : List V → Hp → VK → Prop} (h : t σ H fun vs H1 => r vs H1 R) : tCB r t σ H R := h
theorem to_nil (h : Q [] H) : tNil σ H Q := h
end
end On

/-! The layer's rules with the written part named: so they stand within a comprehension too. -/
namespace On
open PySem PySem.Spec PyProof.Rows L2
section
variable (K : PySem.W.Frag) {X : Cx}
theorem kIxL (h : X.K = K := by rfl) : IxR X (rIxL K) := h ▸ ix_list
theorem kIxT (h : X.K = K := by rfl) : IxR X (rIxT K) := h ▸ ix_tup
theorem kIxS (h : X.K = K := by rfl) : IxR X (rIx K) := h ▸ ix_seq
theorem kSlL (h : X.K = K := by rfl) : SlR X (rSlL K) := h ▸ sl_list
theorem kSlT (h : X.K = K := by rfl) : SlR X (rSlA K) := h ▸ sl_tupA
theorem kGet (h : X.K = K := by rfl) : PGet X (rIxN K) := h ▸ get_list
def rLen (K : PySem.W.Frag) : List V → Hp → VK → Prop := fun xs H Q => ∃ p ys, xs = [V.ref p] ∧ (SqL K H p ys ∨ SqT K H p ys) ∧ Q (.int ys.length) H
theorem kLen (h : X.K = K := by rfl) : CallR X (.builtin "len") (On.rLen K) := h ▸ call_len_seq
def rListOf (K : PySem.W.Frag) : List V → Hp → VK → Prop := fun xs H Q => ∃ p ys, xs = [V.ref p] ∧ (SqL K H p ys ∨ SqT K H p ys) ∧ ∀ l, H l = Option.none → Q (.ref l) (upd H l (.lst ys))
theorem kList (h : X.K = K := by rfl) : CallR X (.type "list") (rListOf K) := h ▸ call_list_of
def rTupOf (K : PySem.W.Frag) : List V → Hp → VK → Prop := fun xs H Q => ∃ p ys, xs = [V.ref p] ∧ ((SqL K H p ys ∧ ∀ l, H l = Option.none → Q (.ref l) (upd H l (.tup ys))) ∨ (SqT K H p ys ∧ Q (.ref p) H))
theorem kTuple (h : X.K = K := by rfl) : CallR X (.type "tuple") (rTupOf K) := h ▸ call_tuple_of
theorem kIsi (h : X.K = K := by rfl) : CallR X (.builtin "isinstance") (rIsi K) := h ▸ call_isi
theorem kIsiT (h : X.K = K := by rfl) : CallR X (.builtin "isinstance") (rIsiT K) := h ▸ call_isiT
theorem kAll (hc : X.calm = true) (h : X.K = K := by rfl) : CallR X (.builtin "all") (rAll K) := h ▸ cr_all hc
theorem kAny (hc : X.calm = true) (h : X.K = K := by rfl) : CallR X (.builtin "any") (rAny K) := h ▸ cr_any hc
theorem kRepr (hg : X.A.guards = some []) (hu : X.A.units + 66 < cLine) (h : X.K = K := by rfl) : CallR X (.builtin "repr") (rReprQ K) := h ▸ call_reprQ hg hu
theorem kSortT {d : Nat} {B : Int} (hd : 1 ≤ d) (h : X.K = K := by rfl) : CallR X (.builtin "sorted") (rSortU K d B) := h ▸ cr_sortT hd
theorem kLtT (hu : X.A.units < cLine) (h : X.K = K := by rfl) : OpR X (compareOp .Lt) (rLtT K) := h ▸ op_ltT hu
theorem kIn (h : X.K = K := by rfl) : OpR X (compareOp .In) (rIn K false) := h ▸ op_in_seq
theorem kNotIn (h : X.K = K := by rfl) : OpR X (compareOp .NotIn) (rIn K true) := h ▸ op_notIn_seq
theorem kEqD (hu : X.A.units + 64 < cLine) (h : X.K = K := by rfl) : OpR X (compareOp .Eq) (rEqD K) := h ▸ op_eqD hu
theorem kCatA (h : X.K = K := by rfl) : OpR X (binaryOp .Add) (rCatA K) := h ▸ op_catA
theorem kPgT {es : List Expr} {k : Nat} {t : TGs} {n : Nat} {pos : Pos} (hp : PGs X es t) (hc : X.calm = true := by rfl) (h : X.K = K := by rfl)
    (hn : (assignEach es X.env).length = n := by rfl) (hst : (assignEach es X.env).findIdx? (·.1) = none := by rfl) : PG X (.Tuple es k pos) (gTup K n t) := h ▸ pg_tup hc hp hn hst
theorem kPiL {tg l : Expr} {tl : TE} (hl : PE X l tl) (h : X.K = K := by rfl) : PI X tg l (iList K tl) := h ▸ pi_list hl
theorem kPiT {tg l : Expr} {tl : TE} (hl : PE X l tl) (h : X.K = K := by rfl) : PI X tg l (iTup K tl) := h ▸ pi_tup hl
end
theorem un0 {k : Nat} {A : Around} (hr : Room k A) : A.units < cLine := hr.units0
theorem un64 {k : Nat} {A : Around} (hr : Room k A) : A.units + 64 < cLine := hr.units
theorem un66 {k : Nat} {A : Around} (hr : Room k A) : A.units + 66 < cLine := by
  have := hr.un
  omega
end On

/-! Defs that tell a truth of data: what kind a thing is, all(..) over a tuple and over a range. -/
namespace On
open PySem PySem.Spec PyProof.Rows L2

def kindOf : PyData → String
  | .none => "NoneType"
  | .bool _ => "bool"
  | .int _ => "int"
  | .str _ => "str"
  | .list _ => "list"
  | .tuple _ => "tuple"
  | .dict _ => "dict"
def isK (d : PyData) (T : String) : Bool := match kitB (kindOf d) T with
  | some b => b
  | Option.none => false
theorem tyx_of {K : PySem.W.Frag} {H : Hp} : ∀ {v : V} {d : PyData}, Dq K H v d → TyX K H v (.type (kindOf d))
  | _, _, .non => .base .non
  | _, _, .bl b => .base (.bl b)
  | _, _, .int i => .base (.int i)
  | _, _, .str x => .base (.str x)
  | _, _, .lst h1 _ _ => .base (.lst h1)
  | _, _, .tup h1 _ => .base (.tup h1)
  | _, _, .dct h1 _ => .base (.dK h1)
theorem kit_any (d : PyData) {T : String} (hT : T = "int" ∨ T = "bool" ∨ T = "tuple" ∨ T = "list") : kitB (kindOf d) T = some (isK d T) := by
  rcases hT with rfl | rfl | rfl | rfl <;> cases d <;> simp only [isK, kindOf] <;> decide +kernel
/-- int and no truth -/
def isInt : PyData → Bool
  | .int _ => true
  | _ => false
def isTuple : PyData → Bool
  | .tuple _ => true
  | _ => false
theorem isK_int (d : PyData) : (isK d "int" && !isK d "bool") = isInt d := by
  cases d <;> simp only [isK, kindOf, isInt] <;> decide +kernel
theorem isK_tuple (d : PyData) : isK d "tuple" = isTuple d := by
  cases d <;> simp only [isK, kindOf, isTuple] <;> decide +kernel
section
variable {K : PySem.W.Frag} {σ : L2.St} {H H' : Hp} {ta tb tc te tl : TE} {x : V} {d : PyData}
theorem rc_isi {T : String} {r : Bool} (h : Dq K H x d) (hT : kitB (kindOf d) T = some r) : Evl.RC (rIsi K) [x, .ty T] H (.bl r) := fun H1 e Q q =>
  ⟨x, .ty T, _, _, r, rfl, .ty T, tyx_of (dq_same e h), kit_ty hT, q H1 (Evl.Ex.refl H1)⟩
/-- isinstance(x, T) -/
theorem ev_isi {T : String} (hT : T = "int" ∨ T = "bool" ∨ T = "tuple" ∨ T = "list") (hx : Evl.Ev ta σ H x) (h : Dq K H x d) : Evl.Ev (tCB (rIsi K) (tCons ta (tCons (tC (.ty T)) tNil))) σ H (.bl (isK d T)) :=
  Evl.ev_cb (Evl.ea_cons hx (Evl.ea_cons Evl.ev_c Evl.ea_nil)) (rc_isi h (kit_any d hT))
/-- isinstance(x, int) and not isinstance(x, bool), as a value -/
theorem ev_isInt (hx : ∀ H1, Evl.Ex H H1 → Evl.Ev ta σ H1 x) (h : Dq K H x d) :
    Evl.Ev (tAndV (tCB (rIsi K) (tCons ta (tCons (tC (.ty "int")) tNil))) (tNotV (tCB (rIsi K) (tCons ta (tCons (tC (.ty "bool")) tNil))))) σ H (.bl (isInt d)) :=
  Evl.ev_is (Evl.ev_andV (ev_isi (by simp) (hx H (Evl.Ex.refl H)) h) fun _ => Evl.ev_notV (ev_isi (by simp) (hx H (Evl.Ex.refl H)) h)) (by rw [isK_int])
theorem ev_chain {le lt : Int → Int → Bool} {a b c : Int} (h1 : Evl.Ev ta σ H (.int a)) (h2 : Evl.Ev tb σ H (.int b)) (h3 : Evl.Ev tc σ H (.int c)) :
    Evl.Ev (tChain (rI0 fun i j => .bl (le i j)) (rI0 fun i j => .bl (lt i j)) ta tb tc) σ H (.bl (le a b && lt b c)) := fun H1 e Q q =>
  h1 H1 e _ fun H2 e2 => h2 H2 (e.trans e2) _ fun H3 e3 => ⟨a, b, rfl, rfl, le a b, rfl, by
    cases hle : le a b with
    | true =>
      rw [if_pos rfl]
      refine h3 H3 ((e.trans e2).trans e3) _ fun H4 e4 => ⟨b, c, rfl, rfl, ?_⟩
      have y := q H4 ((e2.trans e3).trans e4)
      rw [hle] at y
      exact y
    | false =>
      rw [if_neg Bool.false_ne_true]
      have y := q H3 (e2.trans e3)
      rw [hle] at y
      exact y⟩
theorem et_chain {le lt : Int → Int → Bool} {a b c : Int} (h1 : Evl.Ev ta σ H (.int a)) (h2 : Evl.Ev tb σ H (.int b)) (h3 : Evl.Ev tc σ H (.int c)) :
    Evl.EvT (tTest (tChain (rI0 fun i j => .bl (le i j)) (rI0 fun i j => .bl (lt i j)) ta tb tc)) σ H (le a b && lt b c) := Evl.et_test (ev_chain h1 h2 h3)
/-- len of a tuple -/
theorem rc_lenT {a : Addr} {xs : List V} (h : H a = some (.tup xs)) : Evl.RC (fun vs H Q => ∃ p ys, vs = [V.ref p] ∧ (SqL K H p ys ∨ SqT K H p ys) ∧ Q (.int ys.length) H) [.ref a] H (.int xs.length) := fun H1 e Q q =>
  ⟨a, xs, rfl, .inr (SqT.of (e _ _ h)), q H1 (Evl.Ex.refl H1)⟩
theorem rc_lenL {a : Addr} {xs : List V} (h : H a = some (.lst xs)) : Evl.RC (fun vs H Q => ∃ p ys, vs = [V.ref p] ∧ (SqL K H p ys ∨ SqT K H p ys) ∧ Q (.int ys.length) H) [.ref a] H (.int xs.length) := fun H1 e Q q =>
  ⟨a, xs, rfl, .inl (SqL.of (e _ _ h)), q H1 (Evl.Ex.refl H1)⟩
/-! ### all([t for x in tuple]), all([t for k in range(n)]) -/
theorem given_bl (n : Nat) (f : Nat → Bool) : Evl.given n (fun _ => true) (fun i => V.bl (f i)) = ((List.range n).map f).map V.bl := by
  unfold Evl.given
  rw [List.filter_eq_self.mpr (fun _ _ => rfl), List.map_map]
  rfl
theorem et_yes : Evl.EvT tYes σ H true := fun H1 _ _ q => q H1 (Evl.Ex.refl H1)
theorem el_lcT {a : Addr} {xs : List V} {j : Nat} {vs : List Nat} {t : TT} (f : Nat → Bool) (v : Nat → V) (h : Evl.Ev tl σ H (.ref a)) (hx : SqT K H a xs) (hz : xs.length ≤ 40000) (hw : ∀ x, wipe ((wipe σ vs).set j (some x)) vs = wipe σ vs)
    (ht : ∀ (i : Nat) (x : V) H1, Evl.Ex H H1 → xs[i]? = some x → Evl.EvT t ((wipe σ vs).set j (some x)) H1 (f i)) (he : ∀ (i : Nat) (x : V) H1, Evl.Ex H H1 → xs[i]? = some x → f i = true → Evl.Ev te ((wipe σ vs).set j (some x)) H1 (v i)) :
    Evl.EvL (tLc (iTup K tl) (gName j) t te vs) σ H (Evl.given xs.length f v) := by
  intro H0 e Q q
  refine h H0 e _ fun H1 e1 => ⟨a, rfl, ⟨xs, Evl.ex_t (e.trans e1) hx⟩, fun Dl hD => ?_⟩
  refine lc_tup (xs := xs) (Evl.Cw H1 f v Dl) ⟨hD, Evl.Ex.new hD, upd_same⟩ (fun i H' _ p => Evl.ex_t ((e.trans e1).trans p.2.1) hx) (fun i x H' hi p => ⟨hw x, ?_⟩) (fun H' p => q Dl H' (Evl.fresh_back e1 p.1) (e1.trans p.2.1) p.2.2)
  have hl := (List.getElem?_eq_some_iff.mp hi).1
  exact Evl.cw_turn p (by omega) (ht i x H1 (e.trans e1) hi) fun hf => he i x H1 (e.trans e1) hi hf
theorem all_id (n : Nat) (f : Nat → Bool) : ((List.range n).map f).all id = (List.range n).all f := by
  rw [List.all_map]
  rfl
theorem ev_allT {a : Addr} {xs : List V} {j : Nat} {vs : List Nat} (f : Nat → Bool) (h : Evl.Ev tl σ H (.ref a)) (hx : SqT K H a xs) (hz : xs.length ≤ 40000) (hw : ∀ x, wipe ((wipe σ vs).set j (some x)) vs = wipe σ vs)
    (he : ∀ (i : Nat) (x : V) H1, Evl.Ex H H1 → xs[i]? = some x → Evl.Ev te ((wipe σ vs).set j (some x)) H1 (.bl (f i))) :
    Evl.Ev (tCB (rAll K) (tCons (tLc (iTup K tl) (gName j) tYes te vs) tNil)) σ H (.bl ((List.range xs.length).all f)) := by
  intro H1 e Q q
  refine to_cb (to_cons ?_)
  refine el_lcT (fun _ => true) (fun i => .bl (f i)) h hx hz hw (fun i x H1 _ _ => et_yes) (fun i x H1 e1 hi _ => he i x H1 e1 hi) H1 e _ fun p H2 np e2 hp => ⟨p, (List.range xs.length).map f, rfl, ?_, ?_⟩
  · rw [given_bl] at hp
    exact SqL.of hp
  · rw [all_id]
    exact q H2 e2
theorem all_at (ds : List PyData) (g : PyData → Bool) : ((List.range ds.length).all fun i => g (ds.getD i .none)) = ds.all g := by
  apply Bool.eq_iff_iff.mpr
  simp only [List.all_eq_true, List.mem_range]
  constructor
  · intro h d hd
    obtain ⟨i, hi, e⟩ := List.mem_iff_getElem.mp hd
    have z := h i hi
    rw [List.getD_eq_getElem?_getD, List.getElem?_eq_getElem hi] at z
    rw [← e]
    exact z
  · intro h i hi
    rw [List.getD_eq_getElem?_getD, List.getElem?_eq_getElem hi]
    exact h _ (List.getElem_mem hi)
end
section
variable {K : PySem.W.Frag} {H : Hp} {vs : List V} {ds : List PyData}
theorem dq1 (h : DqAll K H vs ds) (hl : vs.length = 1) : ∃ x d, vs = [x] ∧ ds = [d] ∧ Dq K H x d := by
  match h, hl with
  | .cons a .nil, _ => exact ⟨_, _, rfl, rfl, a⟩
theorem dq2 (h : DqAll K H vs ds) (hl : vs.length = 2) : ∃ x d y e, vs = [x, y] ∧ ds = [d, e] ∧ Dq K H x d ∧ Dq K H y e := by
  match h, hl with
  | .cons a (.cons b .nil), _ => exact ⟨_, _, _, _, rfl, rfl, a, b⟩
theorem dq3 (h : DqAll K H vs ds) (hl : vs.length = 3) : ∃ x d y e z g, vs = [x, y, z] ∧ ds = [d, e, g] ∧ Dq K H x d ∧ Dq K H y e ∧ Dq K H z g := by
  match h, hl with
  | .cons a (.cons b (.cons c .nil)), _ => exact ⟨_, _, _, _, _, _, rfl, rfl, a, b, c⟩
end
theorem el_lcR {K : PySem.W.Frag} {σ : L2.St} {H : Hp} {te : TE} {t : TT} {ta' : TA} {j : Nat} {vs : List Nat} {n : Int} (f : Nat → Bool) (v : Nat → V) (h : Evl.EvA ta' σ H [.int n]) (hn : -10 ≤ n ∧ n ≤ 40000) (hw : ∀ x, wipe ((wipe σ vs).set j (some x)) vs = wipe σ vs)
    (ht : ∀ (i : Nat) H1, Evl.Ex H H1 → (i : Int) < n → Evl.EvT t ((wipe σ vs).set j (some (.int (i : Int)))) H1 (f i)) (he : ∀ (i : Nat) H1, Evl.Ex H H1 → (i : Int) < n → f i = true → Evl.Ev te ((wipe σ vs).set j (some (.int (i : Int)))) H1 (v i)) :
    Evl.EvL (tLc (iRng1 ta') (gName j) t te vs) σ H (Evl.given n.toNat f v) := by
  intro H0 e Q q
  refine h H0 e _ fun H1 e1 => ⟨n, rfl, by omega, by omega, fun Dl hD => ?_⟩
  refine lc_range (lo := 0) (n := n.toNat) (Evl.Cw H1 f v Dl) ⟨hD, Evl.Ex.new hD, upd_same⟩ (fun i H' hi p => ?_) (fun H' p => q Dl H' (Evl.fresh_back e1 p.1) (e1.trans p.2.1) p.2.2)
  have e0 : (0 : Int) + (i : Int) = (i : Int) := Int.zero_add _
  rw [e0]
  exact ⟨hw _, Evl.cw_turn p (by omega) (ht i H1 (e.trans e1) (by omega)) fun hf => he i H1 (e.trans e1) (by omega) hf⟩
section
variable {K : PySem.W.Frag} {σ : L2.St} {H H' : Hp} {ta tb tc te tl : TE} {x : V} {d : PyData}
theorem ev_allR {ta' : TA} {n : Int} {j : Nat} {vs : List Nat} (f : Nat → Bool) (h : Evl.EvA ta' σ H [.int n]) (hn : -10 ≤ n ∧ n ≤ 40000) (hw : ∀ x, wipe ((wipe σ vs).set j (some x)) vs = wipe σ vs)
    (he : ∀ (i : Nat) H1, Evl.Ex H H1 → (i : Int) < n → Evl.Ev te ((wipe σ vs).set j (some (.int (i : Int)))) H1 (.bl (f i))) :
    Evl.Ev (tCB (rAll K) (tCons (tLc (iRng1 ta') (gName j) tYes te vs) tNil)) σ H (.bl ((List.range n.toNat).all f)) := by
  intro H1 e Q q
  refine to_cb (to_cons ?_)
  refine el_lcR (K := K) (fun _ => true) (fun i => .bl (f i)) h hn hw (fun i H1 _ _ => et_yes) (fun i H1 e1 hi _ => he i H1 e1 hi) H1 e _ fun p H2 np e2 hp => ⟨p, (List.range n.toNat).map f, rfl, ?_, ?_⟩
  · rw [given_bl] at hp
    exact SqL.of hp
  · rw [all_id]
    exact q H2 e2
end
/-- a def that tells the truth f of its arguments' data -/
def spB (K : PySem.W.Frag) (n : Nat) (f : List PyData → Option Bool) : Sp := fun vs H Q _ => ∃ (ds : List PyData) (r : Bool), DqAll K H vs ds ∧ vs.length = n ∧ f ds = some r ∧ ∀ H', Same H H' → Q (.bl r) H'
theorem spv_B {K : PySem.W.Frag} {n : Nat} {f : List PyData → Option Bool} {vs : List V} {H : Hp} {ds : List PyData} {r : Bool} (h : DqAll K H vs ds) (hl : vs.length = n) (e : f ds = some r) : Evl.SpV (spB K n f) vs H (.bl r) := fun H1 e1 Q q E =>
  ⟨ds, r, dqAll_same e1 h, hl, e, fun H' s => q H' s⟩
end On

/-! Lists of pairs of ints: made, filtered by a comprehension. -/
namespace On
open PySem PySem.Spec PyProof.Rows L2
section
variable {K : PySem.W.Frag} {H H' : Hp}
mutual
theorem dq_keep (k : ∀ a xs, H a = some (.tup xs) → H' a = some (.tup xs)) : ∀ {v : V} {d : PyData}, Dq K H v d → tup d = true → Dq K H' v d
  | _, _, .non, _ => .non
  | _, _, .bl b, _ => .bl b
  | _, _, .int i, _ => .int i
  | _, _, .str x, _ => .str x
  | _, _, .lst h1 h2 h3, h => by simp [tup] at h
  | _, _, .tup h1 h3, h => .tup (k _ _ h1) (dqAll_keep k h3 (by simpa [tup] using h))
  | _, _, .dct h1 h3, h => by simp [dictD, tup] at h
theorem dqAll_keep (k : ∀ a xs, H a = some (.tup xs) → H' a = some (.tup xs)) : ∀ {vs : List V} {ds : List PyData}, DqAll K H vs ds → tups ds = true → DqAll K H' vs ds
  | _, _, .nil, _ => .nil
  | _, _, .cons a b, h => by
    rw [tups, Bool.and_eq_true] at h
    exact .cons (dq_keep k a h.1) (dqAll_keep k b h.2)
end
/-- a list changes: the tuples stay -/
theorem keep_lst {a : Addr} {xs ys : List V} (h : H a = some (.lst xs)) : ∀ b zs, H b = some (.tup zs) → upd H a (.lst ys) b = some (.tup zs) := fun b zs e => by
  rw [upd_ne (fun z => by rw [z, h] at e; cases e)]
  exact e
end
def pairD (p : Int × Int) : PyData := .tuple [.int p.1, .int p.2]
theorem pairD_tup (ps : List (Int × Int)) : tups (ps.map pairD) = true := by
  rw [tups_iff]
  intro d hd
  obtain ⟨p, _, rfl⟩ := List.mem_map.mp hd
  simp [pairD, tup, tups]
theorem dq_pair {K : PySem.W.Frag} {H : Hp} {v : V} {p : Int × Int} (h : Dq K H v (pairD p)) : ∃ a, v = .ref a ∧ H a = some (.tup [.int p.1, .int p.2]) := by
  obtain ⟨a, xs, rfl, h1, h2⟩ := dq_tup h
  match h2 with
  | .cons (.int _) (.cons (.int _) .nil) => exact ⟨a, rfl, h1⟩
theorem dq_mk {K : PySem.W.Frag} {H : Hp} {a : Addr} {v w : Int} (h : H a = some (.tup [.int v, .int w])) : Dq K H (.ref a) (pairD (v, w)) := .tup h (.cons (.int v) (.cons (.int w) .nil))
/-- a new list of data -/
def EvD (K : PySem.W.Frag) (te : TE) (σ : L2.St) (H : Hp) (ds : List PyData) : Prop := ∀ H1, Evl.Ex H H1 → ∀ Q : VK, (∀ p ys H2, H1 p = Option.none → Evl.Ex H1 H2 → H2 p = some (.lst ys) → DqAll K H2 ys ds → Q (.ref p) H2) → te σ H1 Q
section
variable {K : PySem.W.Frag} {σ : L2.St} {H : Hp}
/-- [(v, w) for v, w in pairs if test] -/
theorem ed_pairs {tl : TE} {tt : TT} {i j : Nat} {vs : List Nat} {a : Addr} {xs : List V} (ps : List (Int × Int)) (f : Int × Int → Bool) (h : ∀ H1, Evl.Ex H H1 → Evl.Ev tl σ H1 (.ref a)) (hx : H a = some (.lst xs)) (hd : DqAll K H xs (ps.map pairD)) (hz : ps.length ≤ 1000)
    (hw : ∀ x y, wipe (((wipe σ vs).set i (some x)).set j (some y)) vs = wipe σ vs)
    (hi : ∀ x y, (((wipe σ vs).set i (some x)).set j (some y))[i]? = some (some x)) (hj : ∀ x y, (((wipe σ vs).set i (some x)).set j (some y))[j]? = some (some y))
    (ht : ∀ (p : Int × Int) H1, p ∈ ps → Evl.Ex H H1 → Evl.EvT tt (((wipe σ vs).set i (some (.int p.1))).set j (some (.int p.2))) H1 (f p)) :
    EvD K (tLc (iList K tl) (gTup K 2 (gCons (gName i) (gCons (gName j) gNil))) tt (tTup (tCons (tVar i) (tCons (tVar j) tNil))) vs) σ H ((ps.filter f).map pairD) := by
  intro H0 e Q q
  have hlen : xs.length = ps.length := by rw [dqAll_len hd, List.length_map]
  refine h H0 e H0 (Evl.Ex.refl H0) _ fun H1 e1 => ⟨a, rfl, ⟨xs, SqL.of ((e.trans e1) _ _ hx)⟩, fun Dl hD => ?_⟩
  have e01 := e.trans e1
  refine lc_list (xs := xs) (fun n H' => Evl.Ex H1 H' ∧ ∃ ys, H' Dl = some (.lst ys) ∧ ys.length ≤ n ∧ DqAll K H' ys (((ps.take n).filter f).map pairD)) ⟨Evl.Ex.new hD, [], upd_same, Nat.le_refl _, .nil⟩
    (fun n H' _ p => SqL.of (p.1 _ _ (e01 _ _ hx))) (fun n x H' hx' p => ?_) (fun H' p => ?_)
  · obtain ⟨e2, ys, hys, hl, hds⟩ := p
    obtain ⟨d, hd', qd⟩ := dqAll_vat hd hx'
    rw [List.getElem?_map] at hd'
    obtain ⟨pp, hp, rfl⟩ : ∃ pp, ps[n]? = some pp ∧ pairD pp = d := by
      cases z : ps[n]? with
      | none =>
        rw [z] at hd'
        cases hd'
      | some pp =>
        rw [z] at hd'
        exact ⟨pp, rfl, Option.some.inj hd'⟩
    obtain ⟨c, rfl, hc⟩ := dq_pair qd
    have hn : n < ps.length := (List.getElem?_eq_some_iff.mp hp).1
    have htake : ps.take (n + 1) = ps.take n ++ [pp] := by
      rw [List.take_add_one, hp]
      rfl
    refine ⟨c, _, rfl, SqT.of (e2 _ _ (e01 _ _ hc)), rfl, _, _, rfl, _, _, rfl, rfl, ?_⟩
    refine ⟨hw _ _, ?_⟩
    refine ht pp H' (List.mem_of_getElem? hp) (e01.trans e2) H' (Evl.Ex.refl H') _ fun H3 e3 => ?_
    cases hf : f pp with
    | true =>
      rw [if_pos rfl]
      refine ⟨_, hi _ _, _, hj _ _, (by show 2 ≤ sizeLine; decide), fun p np => ?_⟩
      have npD : Dl ≠ p := ne_of_none (e3 _ _ hys) np
      have hys3 := e3 _ _ hys
      refine ⟨ys, (by rw [upd_ne npD]; exact hys3), (by rw [sizeLine_eq]; omega), ?_, ys ++ [.ref p], upd_same, by rw [List.length_append]; show _ + 1 ≤ _; omega, ?_⟩
      · intro b o eb
        have eb3 := e3 _ _ (e2 _ _ eb)
        rw [upd_ne (ne_of_none eb hD), upd_ne (ne_of_none eb3 np)]
        exact eb3
      · rw [htake, List.filter_append, List.map_append]
        have e5 : [pp].filter f = [pp] := by simp [hf]
        rw [e5]
        have hkp := keep_lst (H := upd H3 p (.tup [.int pp.1, .int pp.2])) (a := Dl) (xs := ys) (ys := ys ++ [.ref p]) (by rw [upd_ne npD]; exact hys3)
        refine dqAll_app (dqAll_keep hkp (dqAll_same (same_upd np) (dqAll_same e3 hds)) (pairD_tup _)) (.cons (dq_mk ?_) .nil)
        exact hkp _ _ upd_same
    | false =>
      rw [if_neg Bool.false_ne_true]
      refine ⟨e2.trans e3, ys, e3 _ _ hys, by omega, ?_⟩
      rw [htake, List.filter_append]
      have e5 : [pp].filter f = [] := by simp [hf]
      rw [e5, List.append_nil]
      exact dqAll_same e3 hds
  · obtain ⟨e2, ys, hys, hl, hds⟩ := p
    rw [hlen, List.take_length] at hds
    exact q Dl ys H' (Evl.fresh_back e1 hD) (e1.trans e2) hys hds
/-- [(v, w) for w in range(many) if test] -/
theorem ed_row {ta' : TA} {tt : TT} {iv j : Nat} {vs : List Nat} {many : Nat} {v : Int} (f : Nat → Bool) (h : ∀ H1, Evl.Ex H H1 → Evl.EvA ta' σ H1 [.int (many : Int)]) (hm : many ≤ 1000)
    (hw : ∀ x, wipe ((wipe σ vs).set j (some x)) vs = wipe σ vs) (hv : ∀ x, ((wipe σ vs).set j (some x))[iv]? = some (some (.int v))) (hj : ∀ x, ((wipe σ vs).set j (some x))[j]? = some (some x))
    (ht : ∀ (w : Nat) H1, w < many → Evl.Ex H H1 → Evl.EvT tt ((wipe σ vs).set j (some (.int (w : Int)))) H1 (f w)) :
    EvD K (tLc (iRng1 ta') (gName j) tt (tTup (tCons (tVar iv) (tCons (tVar j) tNil))) vs) σ H (((List.range many).filter f).map fun (w : Nat) => pairD (v, (w : Int))) := by
  intro H0 e Q q
  refine h H0 e H0 (Evl.Ex.refl H0) _ fun H1 e1 => ⟨_, rfl, by omega, by omega, fun Dl hD => ?_⟩
  have e01 := e.trans e1
  refine lc_range (lo := 0) (n := (many : Int).toNat) (fun n H' => Evl.Ex H1 H' ∧ ∃ ys, H' Dl = some (.lst ys) ∧ ys.length ≤ n ∧ DqAll K H' ys (((List.range n).filter f).map fun (w : Nat) => pairD (v, (w : Int)))) ⟨Evl.Ex.new hD, [], upd_same, Nat.le_refl _, .nil⟩
    (fun n H' hn p => ?_) (fun H' p => ?_)
  · obtain ⟨e2, ys, hys, hl, hds⟩ := p
    have hn' : n < many := by omega
    have e0 : (0 : Int) + (n : Int) = (n : Int) := Int.zero_add _
    rw [e0]
    refine ⟨hw _, ?_⟩
    refine ht n H' hn' (e01.trans e2) H' (Evl.Ex.refl H') _ fun H3 e3 => ?_
    have htup : ∀ l : List Nat, tups (l.map fun (w : Nat) => pairD (v, (w : Int))) = true := fun l => by
      rw [tups_iff]
      intro d hd
      obtain ⟨p, _, rfl⟩ := List.mem_map.mp hd
      simp [pairD, tup, tups]
    cases hf : f n with
    | true =>
      rw [if_pos rfl]
      refine ⟨_, hv _, _, hj _, (by show 2 ≤ sizeLine; decide), fun p np => ?_⟩
      have npD : Dl ≠ p := ne_of_none (e3 _ _ hys) np
      have hys3 := e3 _ _ hys
      refine ⟨ys, (by rw [upd_ne npD]; exact hys3), (by rw [sizeLine_eq]; omega), ?_, ys ++ [.ref p], upd_same, by rw [List.length_append]; show _ + 1 ≤ _; omega, ?_⟩
      · intro b o eb
        have eb3 := e3 _ _ (e2 _ _ eb)
        rw [upd_ne (ne_of_none eb hD), upd_ne (ne_of_none eb3 np)]
        exact eb3
      · rw [List.range_succ, List.filter_append, List.map_append]
        have e5 : [n].filter f = [n] := by simp [hf]
        rw [e5]
        have hkp := keep_lst (H := upd H3 p (.tup [.int v, .int (n : Int)])) (a := Dl) (xs := ys) (ys := ys ++ [.ref p]) (by rw [upd_ne npD]; exact hys3)
        refine dqAll_app (dqAll_keep hkp (dqAll_same (same_upd np) (dqAll_same e3 hds)) (htup _)) (.cons (dq_mk ?_) .nil)
        exact hkp _ _ upd_same
    | false =>
      rw [if_neg Bool.false_ne_true]
      refine ⟨e2.trans e3, ys, e3 _ _ hys, by omega, ?_⟩
      rw [List.range_succ, List.filter_append]
      have e5 : [n].filter f = [] := by simp [hf]
      rw [e5, List.append_nil]
      exact dqAll_same e3 hds
  · obtain ⟨e2, ys, hys, hl, hds⟩ := p
    have e3 : (many : Int).toNat = many := by omega
    rw [e3] at hds
    exact q Dl ys H' (Evl.fresh_back e1 hD) (e1.trans e2) hys hds
end
end On

/-! enumerate over a tuple. -/
namespace On
open PySem PySem.Spec PyProof.Rows L2
/-- enumerate(v): v's iterator, then the counter -/
theorem enum_new {v : Value} {o : Obj} {G : Heap → Prop} (B : Begins v o G) : Meets (Builtin.«enumerate.__new__» ⟨[.type "enumerate", v], []⟩) fun _ R s =>
    G s.heap ∧ R (.ok (.ret (.ref (s.heap.push o).objs.size)))
      { s with heap := (s.heap.push o).push { cls := .type "enumerate", data := .fields #[.none, .bool false, .ref s.heap.objs.size, rawInt 0, .none, .none] } } :=
  .of_wp fun P w A R s ⟨g, r⟩ => by
    cases s with
    | mk hp gs dr tk os =>
      have sb := sub_enumerate
      have start : ∀ {A' : Around} {E Q : Value → Shared → Prop}, Q (.ref hp.objs.size) ⟨hp.push o, gs, dr, tk, os⟩ → wpAny (model P w) A' (pyIter v) Q E ⟨hp, gs, dr, tk, os⟩ := fun q => B.iter P w _ _ ⟨hp, gs, dr, tk, os⟩ _ g q
      wp_walk using start
      refine wpAny_stack_any fun _ => wpAny_pure ?_
      split
      · rename_i c _ _ _ _ _
        cases (c == Value.type "enumerate") <;> (wp_walk using start; exact ⟨_, rfl, r⟩)
      · wp_walk using start
        exact ⟨_, rfl, r⟩
theorem enum_call {P : Program} {w : World} {A : Around} {E Q : Value → Shared → Prop} {s : Shared} {v : Value} {o : Obj} {G : Heap → Prop} (B : Begins v o G) (g : G s.heap)
    (q : ∀ h', IsEnum h' (s.heap.objs.size + 1) s.heap.objs.size 0 .none → h'.get? s.heap.objs.size = some o → (∀ b u, s.heap.get? b = some u → h'.get? b = some u) → Q (.ref (s.heap.objs.size + 1)) { s with heap := h' }) :
    wpAny (model P w) A (call (.type "enumerate") [v]) Q E s := by
  refine callType_new F.called_enumerate (by decide) (F.typeCall_enumerate_1 _) (F.newCall_enumerate_1 _) (fun x => F.args_object_init_2 x _) F.entry_enumerate_new (enum_new B) ⟨g, ?_⟩
  have z : (s.heap.push o).objs.size = s.heap.objs.size + 1 := Heap.size_push ..
  show _ ∧ _
  rw [z]
  have e : IsEnum ((s.heap.push o).push { cls := .type "enumerate", data := .fields #[.none, .bool false, .ref s.heap.objs.size, rawInt 0, .none, .none] }) (s.heap.objs.size + 1) s.heap.objs.size 0 .none := by
    have y := Heap.get?_push_size (s.heap.push o) (o := { cls := .type "enumerate", data := .fields #[.none, .bool false, .ref s.heap.objs.size, rawInt 0, .none, .none] }) rfl
    rwa [z] at y
  exact ⟨⟨_, e, rfl⟩, q _ e (Heap.get?_push_of_some _ (Heap.get?_push_size _ B.free)) fun b u x => Heap.get?_push_of_some _ (Heap.get?_push_of_some _ x)⟩
/-- the tuple at a, each item in a new pair with its place -/
def IteT (K : PySem.W.Frag) (a : Addr) : It where
  go i H := ∃ (xs : List V) (x : V), SqT K H a xs ∧ xs[i]? = some x
  yld i H v H' := ∃ T x, v = .ref T ∧ H T = Option.none ∧ H' = upd H T (.tup [.int (i : Nat), x]) ∧ ∀ xs, SqT K H a xs → xs[i]? = some x
  stop i H := ∃ xs : List V, SqT K H a xs ∧ xs.length = i
theorem tupIter_ne {h : Heap} {it a : Addr} {i : Nat} {items : Array Value} (p : h.IsTupleIter it a i) (q : h.IsTuple a items) : a ≠ it := by
  rintro rfl
  obtain ⟨o, e, c, _⟩ := p
  obtain ⟨u, e2, c2, _⟩ := q
  rw [e] at e2
  cases e2
  rw [c] at c2
  injection c2 with c3
  exact absurd c3 (by decide)
theorem turnT {P : Program} {w : World} {K : PySem.W.Frag} {elts : List Expr} {kk : Nat} {tpos : Pos} (a e it : Addr) :
    Turn P w K (.Tuple elts kk tpos) (IteT K a) [e, it] e (fun i h => (∃ old, IsEnum h e it ((i : Nat) : Int) old) ∧ h.IsTupleIter it a i ∧ e ≠ it) where
  mem := List.mem_cons_self
  obj := fun i h ⟨⟨old, he⟩, ⟨o, ho, _, hd⟩, _⟩ b hb => by
    rcases List.mem_cons.mp hb with z | z
    · subst z
      exact ⟨_, he, fun v q => nomatch q⟩
    · rw [List.mem_singleton] at z
      subst z
      refine ⟨o, ho, fun v q => ?_⟩
      rw [hd] at q
      cases q
  keep := fun i h h' ⟨⟨old, he⟩, hi, n⟩ k => ⟨⟨old, k e (by simp) _ he⟩, hi.at fun o q => k it (by simp) o q, n⟩
  item := by
    intro X hP hw hK hc i pins s σ H E I hf st hg
    subst hP hw hK
    obtain ⟨⟨old, he⟩, hit, n⟩ := st
    obtain ⟨xs, x, hq, hx⟩ := hg
    obtain ⟨its, rv, p, _⟩ := I.tuple hq
    obtain ⟨u, hu, ru⟩ := rv.get hx
    have pt : s.heap.IsTuple a its.toArray := p
    have D := Draws.tuple (prog := X.prog) (w := X.w) (A := X.A.in1) (I.ok.hd hc) it a (tupIter_ne hit pt) its.toArray
    have le : e < s.heap.objs.size := Heap.lt_size he
    have li : it < s.heap.objs.size := by
      obtain ⟨_, q, _⟩ := hit
      exact Heap.lt_size q
    have na : e ≠ a := by
      rintro rfl
      obtain ⟨o2, e2, c2, _⟩ := pt
      have e1 : s.heap.get? e = some _ := he
      rw [e1] at e2
      cases e2
      injection c2 with c3
      exact absurd c3 (by decide)
    have hlt : i < its.toArray.size := by
      have y := (List.getElem?_eq_some_iff.mp hu).1
      simpa using y
    refine wpAny_pyNext_enum_itemD D he ⟨hit, pt⟩ hlt n (by simp [n, na]) fun x' h' tk hP ho st' hT hz hk => ?_
    have ex : x' = u := by
      have y : its[i]? = some x' := by simpa using hP
      rw [hu] at y
      exact (Option.some.inj y).symm
    subst ex
    refine ⟨_, rfl, wpAny_letOwnedTupleGo_enum (s := { s with heap := h', toks := tk + 1 }) ho fun h2 he' sb => ?_⟩
    have hT2 : h2.get? s.heap.objs.size = some { cls := .type "tuple", data := .seq #[.int i tk, x'] } := (sb.2 _ (Nat.ne_of_gt le)).trans hT
    have new : ObjOk X.prog X.w (upd H s.heap.objs.size (.tup [.int (i : Nat), x])) h2 s.heap.objs.size (.tup [.int (i : Nat), x]) := ⟨by show 2 ≤ sizeLine; decide, [.int i tk, x'], .cons ⟨_, rfl⟩ (.cons ru .nil), ⟨_, hT2, rfl, _, rfl⟩⟩
    have I1 : Inv X pins σ (upd H s.heap.objs.size (.tup [.int (i : Nat), x])) { s with heap := h2, toks := tk + 1 } :=
      I.turnedNew (ch := [e, it]) (fun b o hb q => (sb.2 b fun z => hb (by simp [z])).trans (hk b o (fun z => hb (by simp [z])) (fun z => hb (by simp [z])) q)) hf (Nat.le_refl _) new
    refine ⟨.ref s.heap.objs.size, _, I1, rfl, ⟨_, x, rfl, I.hok.fresh (Nat.le_refl _), rfl, fun ys hy => ?_⟩, ⟨⟨x', ?_⟩, st'.1.at fun o q => (sb.2 it (Ne.symm n)).trans q, n⟩, fun b hb => ?_⟩
    · rw [I.tuple_inj hy hq]
      exact hx
    · have y : ((i + 1 : Nat) : Int) = (i : Int) + 1 := by omega
      rw [y]
      exact he'
    · have lb : b < s.heap.objs.size := by
        rcases List.mem_cons.mp hb with z | z
        · rw [z]
          exact le
        · rw [List.mem_singleton] at z
          rw [z]
          exact li
      rw [upd_ne (Nat.ne_of_lt lb)]
      exact (hf b hb).1
  done := by
    intro X hP hw hK hc i pins s σ H E I hf st hg
    subst hP hw hK
    obtain ⟨⟨old, he⟩, hit, n⟩ := st
    obtain ⟨xs, hq, hx⟩ := hg
    obtain ⟨its, rv, p, _⟩ := I.tuple hq
    have pt : s.heap.IsTuple a its.toArray := p
    have D := Draws.tuple (prog := X.prog) (w := X.w) (A := X.A.in1) (I.ok.hd hc) it a (tupIter_ne hit pt) its.toArray
    obtain ⟨f0, f1, f2, f3, f4, f5⟩ := hf it (by simp)
    have z : i = its.toArray.size := by
      rw [List.size_toArray, ← rv.length]
      exact hx.symm
    rw [z] at he hit
    exact wpAny_pyNext_enum_endD D he ⟨hit, pt⟩ fun h' eb => ⟨rfl, I.turned (t' := s.toks) (fun b o hb q => eb b o hb q) f0 f1 f3 f4 f5⟩
  self := fun A i s Q E ⟨⟨_, he⟩, _⟩ h => wpAny_pyIter_enum he h
/-- enumerate(tuple) -/
def iEnumT (K : PySem.W.Frag) (t : TA) : TI := fun σ H R => t σ H fun vs H1 => ∃ a xs, vs = [.ref a] ∧ SqT K H1 a xs ∧ R (IteT K a) H1
theorem pi_enumT {X : Cx} {e : Expr} {t : TA} {p pos tpos : Pos} {elts : List Expr} {kk : Nat} (hg : Gl X "enumerate") (hm : X.mg "enumerate" = Option.none) (ha : PA X [e] t) (hs : starEach [e] X.env = [(false, eval e X.env)] := by rfl) :
    PI X (.Tuple elts kk tpos) (.Call (.Name "enumerate" p) [e] [] pos) (iEnumT X.K t) := by
  constructor
  intro pins s σ H R I h
  apply Call_ (ld_blt I hg hm boot_enumerate (PyProof.Rows.callWith_type1 (thn (ha.run pos pins s σ H _ I h) ?_) hs rfl))
  rintro us s1 ⟨vs, H1, I1, r1, a, xs, rfl, hq, q⟩
  match us, r1 with
  | [_], .cons r .nil =>
    cases r
    obtain ⟨its, rv, pt, _⟩ := I1.tuple hq
    refine enum_call (begins_tuple a its.toArray) pt fun h' he hi hk => wpAny_pyIter_enum he ?_
    have I2 : Inv X pins σ H1 { s1 with heap := h' } := I1.kept (t' := s1.toks) hk
    refine ⟨s1.heap.objs.size + 1, [s1.heap.objs.size + 1, s1.heap.objs.size], _, _, H1, rfl, I2, turnT a (s1.heap.objs.size + 1) s1.heap.objs.size, ⟨⟨.none, he⟩, ⟨_, hi, rfl, rfl⟩, Nat.succ_ne_self _⟩, fun b hb => ?_, q⟩
    have le : s1.heap.objs.size ≤ b := by
      rcases List.mem_cons.mp hb with z | z
      · rw [z]
        exact Nat.le_add_right _ _
      · rw [List.mem_singleton] at z
        rw [z]
        exact Nat.le_refl _
    exact I1.fpOk le (I1.hok.fresh le)
/-- a loop over enumerate of a tuple that stays -/
theorem for_enumT {K : PySem.W.Frag} {a : Addr} {xs : List V} {g : TG} {tb : TS} {D : Ends} {σ : L2.St} {H : Hp} (Pv : Nat → L2.St → Hp → Prop) (h0 : Pv 0 σ H) (hl : ∀ i σ H, i ≤ xs.length → Pv i σ H → SqT K H a xs)
    (hs : ∀ i x σ H T, xs[i]? = some x → Pv i σ H → H T = Option.none → g (.ref T) σ (upd H T (.tup [.int (i : Nat), x])) fun σ2 H2 => tb { D with nx := Pv (i + 1), ct := Pv (i + 1), bk := D.nx } σ2 H2) (hd : ∀ σ H, Pv xs.length σ H → D.nx σ H) :
    ∃ W : Nat → Nat → L2.St → Hp → Prop, (∃ m, W 0 m σ H) ∧ ∀ i m σ H, W i m σ H →
      ((IteT K a).stop i H ∧ D.nx σ H) ∨ ((IteT K a).go i H ∧ ∃ N : L2.St → Hp → Prop, (∀ σ' H', N σ' H' → ∃ m', m' < m ∧ W (i + 1) m' σ' H') ∧ ∀ x H', (IteT K a).yld i H x H' → g x σ H' fun σ2 H2 => tb { D with nx := N, ct := N, bk := D.nx } σ2 H2) := by
  refine ⟨fun i m σ H => m = xs.length - i ∧ i ≤ xs.length ∧ Pv i σ H, ⟨xs.length, by simp, Nat.zero_le _, h0⟩, ?_⟩
  rintro i m σ H ⟨rfl, hi, p⟩
  have q := hl i σ H hi p
  by_cases lt : i < xs.length
  · refine .inr ⟨⟨xs, xs[i], q, by simp [lt]⟩, Pv (i + 1), fun σ' H' p' => ⟨xs.length - (i + 1), by omega, rfl, lt, p'⟩, ?_⟩
    rintro v H' ⟨T, x, rfl, nT, rfl, e⟩
    exact hs i x σ H T (e xs q) p nT
  · have z : xs.length = i := by omega
    exact .inl ⟨⟨xs, q, z⟩, hd σ H (z ▸ p)⟩
/-- x in a tuple or a list of data -/
def rInQ (K : PySem.W.Frag) : R2 := fun x y H Q => ∃ d ds, Dq K H x d ∧ (Dq K H y (.tuple ds) ∨ Dq K H y (.list ds)) ∧ PyData.canLayAll0 ds = true ∧ d.canLay0 = true ∧ d.depth ≤ 60 ∧ Q (.bl (ds.any fun z => PyData.eqv z d)) H
theorem op_inQ {X : Cx} (hu : X.A.units + 65 < cLine) : OpR X (compareOp .In) (rInQ X.K) := by
  intro pins s σ H x y v u Q I rx ry h
  obtain ⟨d, ds, hd, he, c1, c2, dp, q⟩ := h
  obtain ⟨as, r1, _⟩ := dq_reads I hd rx
  have room : X.A.units + 1 + min (PyData.depthAll ds) d.depth < cLine := by omega
  rcases he with he | he
  · obtain ⟨bs, r2, _⟩ := dq_reads I he ry
    exact SeqAt.in_tuple_reads r2 r1 c1 c2 room ⟨.bl _, H, I, rfl, q⟩
  · obtain ⟨bs, r2, _⟩ := dq_reads I he ry
    exact SeqAt.in_list_reads r2 r1 c1 c2 room ⟨.bl _, H, I, rfl, q⟩
section
variable {X : Cx} {K : PySem.W.Frag}
theorem kInQ (hu : X.A.units + 66 < cLine) (h : X.K = K := by rfl) : OpR X (compareOp .In) (rInQ K) := h ▸ op_inQ (by omega)
theorem kEnT {e : Expr} {t : TA} {p pos tpos : Pos} {elts : List Expr} {kk : Nat} (hg : Gl X "enumerate") (hm : X.mg "enumerate" = Option.none) (ha : PA X [e] t) (hs : starEach [e] X.env = [(false, eval e X.env)] := by rfl) (h : X.K = K := by rfl) :
    PI X (.Tuple elts kk tpos) (.Call (.Name "enumerate" p) [e] [] pos) (iEnumT K t) := h ▸ pi_enumT hg hm ha hs
theorem kZipA {e e2 : Expr} {t : TA} {p pos tpos : Pos} {elts : List Expr} {kk : Nat} (hg : Gl X "zip") (hm : X.mg "zip" = Option.none) (ha : PA X [e, e2] t)
    (hs : starEach [e, e2] X.env = (false, eval e X.env) :: starEach [e2] X.env := by rfl) (hp : (backTo pos (starEach [e2] X.env)).any (·.1) = false := by rfl) (h : X.K = K := by rfl) :
    PI X (.Tuple elts kk tpos) (.Call (.Name "zip" p) [e, e2] [] pos) (RZ.iZipA K t) := h ▸ RZ.pi_zipA hg hm ha hs hp
end
/-- a comprehension over zip of two tuples of one length -/
theorem lc_zipT {K : PySem.W.Frag} {a b : Addr} {xs ys : List V} {g : TG} {tt : TT} {te : TE} {vs : List Nat} {σ : L2.St} {H1 : Hp} {D : Addr} {Qd : Hp → Prop} (hxy : xs.length = ys.length) (Pv : Nat → Hp → Prop) (h0 : Pv 0 (upd H1 D (.lst []))) (hl : ∀ i H, i ≤ xs.length → Pv i H → SqT K H a xs ∧ SqT K H b ys)
    (hs : ∀ i x y H T, xs[i]? = some x → ys[i]? = some y → Pv i H → H T = Option.none → g (.ref T) (wipe σ vs) (upd H T (.tup [x, y])) fun σ2 H2 => wipe σ2 vs = wipe σ vs ∧ tt σ2 H2 fun b H3 =>
      if b = true then te σ2 H3 fun y H4 => ∃ acc, H4 D = some (.lst acc) ∧ acc.length < sizeLine ∧ Pv (i + 1) (upd H4 D (.lst (acc ++ [y]))) else Pv (i + 1) H3) (hd : ∀ H, Pv xs.length H → Qd H) :
    ∃ W : Nat → Nat → Hp → Prop, (∃ m, W 0 m (upd H1 D (.lst []))) ∧ ∀ i m H, W i m H →
      ((RZ.ItzT K a b).stop i H ∧ Qd H) ∨ ((RZ.ItzT K a b).go i H ∧ ∃ Nx : Hp → Prop, (∀ H', Nx H' → ∃ m', m' < m ∧ W (i + 1) m' H') ∧ ∀ x H', (RZ.ItzT K a b).yld i H x H' → g x (wipe σ vs) H' fun σ2 H2 => wipe σ2 vs = wipe σ vs ∧ tt σ2 H2 fun b H3 =>
        if b = true then te σ2 H3 fun y H4 => ∃ acc, H4 D = some (.lst acc) ∧ acc.length < sizeLine ∧ Nx (upd H4 D (.lst (acc ++ [y]))) else Nx H3) := by
  refine ⟨fun i m H => m = xs.length - i ∧ i ≤ xs.length ∧ Pv i H, ⟨xs.length, rfl, Nat.zero_le _, h0⟩, ?_⟩
  rintro i m H ⟨rfl, hi, p⟩
  obtain ⟨qx, qy⟩ := hl i H hi p
  by_cases lt : i < xs.length
  · have lt2 : i < ys.length := by omega
    have ex : xs[i]? = some xs[i] := List.getElem?_eq_getElem lt
    have ey : ys[i]? = some ys[i] := List.getElem?_eq_getElem lt2
    refine .inr ⟨⟨xs, ys, _, _, qx, qy, ex, ey⟩, Pv (i + 1), fun H' p' => ⟨xs.length - (i + 1), by omega, rfl, lt, p'⟩, ?_⟩
    rintro v H' ⟨T, x, y, rfl, nT, rfl, f1, f2⟩
    exact hs i x y H T (f1 xs qx) (f2 ys qy) p nT
  · have z : i = xs.length := by omega
    rw [z]
    exact .inl ⟨⟨xs, ys, qx, qy, .inl (Nat.le_refl _)⟩, hd H (z ▸ p)⟩
theorem yes_go {p q : Hp → Prop} {σ : L2.St} {H : Hp} (h : p H) : tYes σ H fun b H3 => if b = true then p H3 else q H3 := by
  unfold tYes
  simpa using h
/-- all([t for x, y in zip(tuple, tuple)]) -/
theorem ev_allZ {K : PySem.W.Frag} {σ : L2.St} {H : Hp} {te : TE} {ta : TA} {a b : Addr} {xs ys : List V} {i j : Nat} {vs : List Nat} (f : Nat → Bool) (h : ∀ H1, Evl.Ex H H1 → Evl.EvA ta σ H1 [.ref a, .ref b]) (hx : SqT K H a xs) (hy : SqT K H b ys) (hxy : xs.length = ys.length) (hz : xs.length ≤ 40000)
    (hw : ∀ x y, wipe (((wipe σ vs).set i (some x)).set j (some y)) vs = wipe σ vs)
    (he : ∀ (k : Nat) (x y : V) H1, Evl.Ex H H1 → xs[k]? = some x → ys[k]? = some y → Evl.Ev te (((wipe σ vs).set i (some x)).set j (some y)) H1 (.bl (f k))) :
    Evl.Ev (tCB (rAll K) (tCons (tLc (RZ.iZipA K ta) (gTup K 2 (gCons (gName i) (gCons (gName j) gNil))) tYes te vs) tNil)) σ H (.bl ((List.range xs.length).all f)) := by
  intro H0 e0 Q q
  refine to_cb (to_cons (h H0 e0 H0 (Evl.Ex.refl _) _ fun H1 e1 => ?_))
  have e01 := e0.trans e1
  refine ⟨a, b, xs, ys, rfl, .inr ⟨Evl.ex_t e01 hx, Evl.ex_t e01 hy, fun D hD => ?_⟩⟩
  refine lc_zipT (xs := xs) (ys := ys) hxy (fun n H' => Evl.Ex H1 H' ∧ H' D = some (.lst (((List.range n).map f).map V.bl))) ⟨Evl.Ex.new hD, upd_same⟩ (fun n H' _ p => ⟨Evl.ex_t (e01.trans p.1) hx, Evl.ex_t (e01.trans p.1) hy⟩) (fun n x y H' T hx' hy' p nT => ?_) (fun H' p => ?_)
  · obtain ⟨e2, hp⟩ := p
    have lt := (List.getElem?_eq_some_iff.mp hx').1
    have eT : Evl.Ex H' (upd H' T (.tup [x, y])) := Evl.Ex.new nT
    refine ⟨T, _, rfl, SqT.of upd_same, rfl, _, _, rfl, _, _, rfl, rfl, hw x y, ?_⟩
    refine yes_go ?_
    refine he n x y _ ((e01.trans e2).trans eT) hx' hy' _ (Evl.Ex.refl _) _ fun H3 e3 => ⟨_, e3 _ _ (eT _ _ hp), by rw [List.length_map, List.length_map, List.length_range, sizeLine_eq]; omega, ?_, ?_⟩
    · intro c o ec
      rw [upd_ne (ne_of_none ec hD)]
      exact e3 _ _ (eT _ _ (e2 _ _ ec))
    · rw [upd_same, List.range_succ, List.map_append, List.map_append]
      rfl
  · obtain ⟨e2, hp⟩ := p
    refine ⟨D, (List.range xs.length).map f, rfl, SqL.of hp, ?_⟩
    rw [all_id]
    exact q H' (e1.trans e2)
/-- a tuple, new or not -/
def EvP (te : TE) (σ : L2.St) (H : Hp) (xs : List V) : Prop := ∀ H1, Evl.Ex H H1 → ∀ Q : VK, (∀ p H2, Evl.Ex H1 H2 → H2 p = some (.tup xs) → Q (.ref p) H2) → te σ H1 Q
section
variable {K : PySem.W.Frag} {σ : L2.St} {H : Hp} {ta tb te : TE} {tl th : TO} {xs ys : List V}
theorem ep_of {a : Addr} (h : Evl.Ev te σ H (.ref a)) (ha : H a = some (.tup xs)) : EvP te σ H xs := fun H1 e Q q => h H1 e _ fun H2 e2 => q a H2 e2 ((e.trans e2) _ _ ha)
theorem ep_new (h : Evl.EvU te σ H xs) : EvP te σ H xs := fun H1 e Q q => h H1 e _ fun p H2 _ e2 hp => q p H2 e2 hp
theorem ep_cat (h1 : EvP ta σ H xs) (h2 : EvP tb σ H ys) (hz : xs.length + ys.length ≤ 100000) : EvP (tOp (rCatA K) ta tb) σ H (xs ++ ys) := fun H1 e Q q =>
  h1 H1 e _ fun p H2 e2 hp => h2 H2 (e.trans e2) _ fun p2 H3 e3 hp2 => ⟨p, p2, xs, ys, rfl, rfl, SqT.of (e3 _ _ hp), SqT.of hp2, by rw [sizeLine_eq]; omega,
    fun z => q p2 H3 (e2.trans e3) (by rw [z, List.nil_append]; exact hp2), fun _ z => q p H3 (e2.trans e3) (by rw [z, List.append_nil]; exact e3 _ _ hp), fun _ _ n nn => q n _ ((e2.trans e3).trans (Evl.Ex.new nn)) upd_same⟩
theorem ep_sl {lo hi : Option Int} (h : EvP te σ H xs) (h1 : ∀ H1, Evl.Ex H H1 → Evl.EvO tl σ H1 lo) (h2 : ∀ H1, Evl.Ex H H1 → Evl.EvO th σ H1 hi) : EvP (tSl (rSlA K) te tl th) σ H (cutV xs lo hi) := fun H1 e Q q =>
  h H1 e _ fun p H2 e2 hp => h1 H2 (e.trans e2) H2 (Evl.Ex.refl _) _ fun H3 e3 => h2 H3 ((e.trans e2).trans e3) H3 (Evl.Ex.refl _) _ fun H4 e4 => by
    have e24 := e3.trans e4
    refine ⟨p, xs, rfl, SqT.of (e24 _ _ hp), fun w => ?_, fun _ n nn => q n _ ((e2.trans e24).trans (Evl.Ex.new nn)) upd_same⟩
    refine q p H4 (e2.trans e24) ?_
    rw [show cutV xs lo hi = xs from ?_]
    · exact e24 _ _ hp
    · unfold cutV
      rw [w.1, w.2, List.drop_zero, Nat.sub_zero, List.take_length]
theorem cut_to (xs : List V) (i : Nat) (h : i ≤ xs.length) : cutV xs Option.none (some (i : Int)) = xs.take i := by
  unfold cutV
  rw [HT.sIx_nat]
  show (xs.drop 0).take (min i xs.length - 0) = _
  rw [List.drop_zero, Nat.sub_zero, Nat.min_eq_left h]
theorem cut_from (xs : List V) (i : Nat) (h : i ≤ xs.length) : cutV xs (some (i : Int)) Option.none = xs.drop i := by
  unfold cutV
  rw [HT.sIx_nat, Nat.min_eq_left h]
  show (xs.drop i).take (xs.length - i) = _
  rw [List.take_of_length_le (by rw [List.length_drop]; omega)]
theorem cut_set (xs : List V) (i : Nat) (w : V) (h : i < xs.length) : xs.take i ++ [w] ++ xs.drop (i + 1) = xs.set i w := by
  rw [List.set_eq_take_append_cons_drop, if_pos h, List.append_assoc]
  rfl
end
end On

/-! Du: defs read on data alone. What lies in the heap is said once, here; a def's body then is a relation between data. -/
namespace Du
open PySem PySem.Spec PyProof.Rows L2 On
mutual
/-- v is data d in the heap H -/
inductive Da (K : PySem.W.Frag) (H : Hp) : V → PyData → Prop
  | non : Da K H .non .none
  | bl (b : Bool) : Da K H (.bl b) (.bool b)
  | int (i : Int) : Da K H (.int i) (.int i)
  | str (x : Str) : Da K H (.str x) (.str x)
  | lst {a : Addr} {xs : List V} {ds : List PyData} : H a = some (.lst xs) → a ≠ sysModules → DaAll K H xs ds → Da K H (.ref a) (.list ds)
  | tup {a : Addr} {xs : List V} {ds : List PyData} : SqT K H a xs → DaAll K H xs ds → Da K H (.ref a) (.tuple ds)
  | dct {a : Addr} {kvs : List (Key × V)} {ds : List PyData} : H a = some (.dK kvs) → DaAll K H (kvs.map Prod.snd) ds → Da K H (.ref a) (dictD (kvs.map Prod.fst) ds)
inductive DaAll (K : PySem.W.Frag) (H : Hp) : List V → List PyData → Prop
  | nil : DaAll K H [] []
  | cons {v : V} {vs : List V} {d : PyData} {ds : List PyData} : Da K H v d → DaAll K H vs ds → DaAll K H (v :: vs) (d :: ds)
end
section
variable {K : PySem.W.Frag} {H H' : Hp}
theorem daAll_len : ∀ {vs : List V} {ds : List PyData}, DaAll K H vs ds → vs.length = ds.length
  | _, _, .nil => rfl
  | _, _, .cons _ t => congrArg (· + 1) (daAll_len t)
theorem daAll_vat : ∀ {vs : List V} {ds : List PyData} {i : Nat} {v : V}, DaAll K H vs ds → vs[i]? = some v → ∃ d, ds[i]? = some d ∧ Da K H v d
  | _, _, _, _, .nil, e => by simp at e
  | _, _, 0, _, .cons h _, e => by
    simp at e
    subst e
    exact ⟨_, rfl, h⟩
  | _, _, i + 1, v, .cons _ t, e => by
    obtain ⟨d, h1, h2⟩ := daAll_vat (i := i) (v := v) t (by simpa using e)
    exact ⟨d, by simpa using h1, h2⟩
theorem daAll_at : ∀ {vs : List V} {ds : List PyData} {i : Nat} {d : PyData}, DaAll K H vs ds → ds[i]? = some d → ∃ v, vs[i]? = some v ∧ Da K H v d
  | _, _, _, _, .nil, e => by simp at e
  | _, _, 0, _, .cons h _, e => by
    simp at e
    subst e
    exact ⟨_, rfl, h⟩
  | _, _, i + 1, d, .cons _ t, e => by
    obtain ⟨v, h1, h2⟩ := daAll_at (i := i) (d := d) t (by simpa using e)
    exact ⟨v, by simpa using h1, h2⟩
theorem daAll_app : ∀ {vs ws : List V} {ds es : List PyData}, DaAll K H vs ds → DaAll K H ws es → DaAll K H (vs ++ ws) (ds ++ es)
  | _, _, _, _, .nil, h => h
  | _, _, _, _, .cons a b, h => .cons a (daAll_app b h)
theorem daAll_take : ∀ (n : Nat) {vs : List V} {ds : List PyData}, DaAll K H vs ds → DaAll K H (vs.take n) (ds.take n)
  | 0, _, _, _ => .nil
  | _ + 1, _, _, .nil => .nil
  | n + 1, _, _, .cons a b => .cons a (daAll_take n b)
theorem daAll_drop : ∀ (n : Nat) {vs : List V} {ds : List PyData}, DaAll K H vs ds → DaAll K H (vs.drop n) (ds.drop n)
  | 0, _, _, h => h
  | _ + 1, _, _, .nil => .nil
  | n + 1, _, _, .cons _ b => daAll_drop n b
theorem daAll_set : ∀ {vs : List V} {ds : List PyData} (i : Nat) {v : V} {d : PyData}, DaAll K H vs ds → Da K H v d → DaAll K H (vs.set i v) (ds.set i d)
  | _, _, _, _, _, .nil, _ => .nil
  | _, _, 0, _, _, .cons _ b, h => .cons h b
  | _, _, i + 1, _, _, .cons a b, h => .cons a (daAll_set i b h)
theorem daAll_erase : ∀ {vs : List V} {ds : List PyData} (i : Nat), DaAll K H vs ds → DaAll K H (vs.eraseIdx i) (ds.eraseIdx i)
  | _, _, _, .nil => .nil
  | _, _, 0, .cons _ b => b
  | _, _, i + 1, .cons a b => .cons a (daAll_erase i b)
theorem daAll_ints : ∀ (ns : List Int), DaAll K H (ns.map V.int) (ns.map PyData.int)
  | [] => .nil
  | n :: ns => .cons (.int n) (daAll_ints ns)
theorem da_tup {v : V} {ds : List PyData} (h : Da K H v (.tuple ds)) : ∃ a xs, v = .ref a ∧ SqT K H a xs ∧ DaAll K H xs ds := by
  cases h with
  | tup h1 h2 => exact ⟨_, _, rfl, h1, h2⟩
theorem da_lst {v : V} {ds : List PyData} (h : Da K H v (.list ds)) : ∃ a xs, v = .ref a ∧ H a = some (.lst xs) ∧ a ≠ sysModules ∧ DaAll K H xs ds := by
  cases h with
  | lst h1 h2 h3 => exact ⟨_, _, rfl, h1, h2, h3⟩
theorem da_int {v : V} {i : Int} (h : Da K H v (.int i)) : v = .int i := by
  cases h
  rfl
theorem da_bl {v : V} {i : Bool} (h : Da K H v (.bool i)) : v = .bl i := by
  cases h
  rfl
mutual
theorem da_same (k : Same H H') : ∀ {v : V} {d : PyData}, Da K H v d → Da K H' v d
  | _, _, .non => .non
  | _, _, .bl b => .bl b
  | _, _, .int i => .int i
  | _, _, .str x => .str x
  | _, _, .lst h1 h2 h3 => .lst (k _ _ h1) h2 (daAll_same k h3)
  | _, _, .tup h1 h3 => .tup (Evl.ex_t k h1) (daAll_same k h3)
  | _, _, .dct h1 h3 => .dct (k _ _ h1) (daAll_same k h3)
theorem daAll_same (k : Same H H') : ∀ {vs : List V} {ds : List PyData}, DaAll K H vs ds → DaAll K H' vs ds
  | _, _, .nil => .nil
  | _, _, .cons a b => .cons (da_same k a) (daAll_same k b)
end
end

/-! ### what the library's Reads says of it -/
section
variable {X : Cx} {pins : List (Addr × Obj)} {σ : L2.St} {H : Hp} {s : Shared}
mutual
theorem da_reads (I : Inv X pins σ H s) : ∀ {v : V} {d : PyData} {u : Value}, Da X.K H v d → RelV v u → ∃ as, Reads s.heap u d as ∧ sysModules ∉ as
  | _, _, _, .non, r => by
    cases r
    exact ⟨_, Reads.none, by simp⟩
  | _, _, _, .bl b, r => by
    cases r
    exact ⟨_, Reads.bool b, by simp⟩
  | _, _, _, .int i, r => by
    obtain ⟨t, rfl⟩ := r
    exact ⟨_, Reads.int i t, by simp⟩
  | _, _, _, .str x, r => by
    obtain ⟨t, rfl⟩ := r
    exact ⟨_, Reads.str x t, by simp⟩
  | _, _, _, .lst h1 h2 h3, r => by
    cases r
    obtain ⟨its, rv, ⟨o, n, ho, hc, _, hd⟩, _⟩ := I.list (SqL.of h1)
    obtain ⟨as, hr, hn⟩ := daAll_reads I h3 rv
    refine ⟨_, Reads.list ho hc hd hr, fun z => ?_⟩
    rcases List.mem_cons.mp z with z | z
    · exact h2 z.symm
    · exact hn z
  | _, _, _, .tup h1 h3, r => by
    cases r
    obtain ⟨its, rv, ⟨o, ho, hc, n, hd⟩, _⟩ := I.tuple h1
    obtain ⟨as, hr, hn⟩ := daAll_reads I h3 rv
    exact ⟨_, Reads.tuple ho hc hd hr, hn⟩
  | _, _, _, @Da.dct _ _ a kvs ds h1 h3, r => by
    cases r
    obtain ⟨_, hm, vs, kv, o, es, ep, ho, hx, hd, hk, hp, _⟩ := dk_of I.hok h1
    obtain ⟨as, hr, hn⟩ := daAll_reads I h3 (pairs_vals hp kv)
    have hl : ((kvs.map Prod.fst).map keyD).length = ds.length := by
      rw [← daAll_len h3, List.length_map, List.length_map, List.length_map]
    refine ⟨a :: [] ++ as, Reads.dict ho hx.1 hd ?_ ?_, ?_⟩
    · rw [zip_fst hl]
      exact reads_keys hp kv
    · rw [zip_snd hl]
      exact hr
    · intro z
      have z : sysModules ∈ a :: as := z
      rcases List.mem_cons.mp z with z | z
      · rw [← z] at hm
        exact absurd hm (by decide)
      · exact hn z
theorem daAll_reads (I : Inv X pins σ H s) : ∀ {vs : List V} {ds : List PyData} {us : List Value}, DaAll X.K H vs ds → Vals vs us → ∃ as, ReadsAll s.heap us ds as ∧ sysModules ∉ as
  | _, _, _, .nil, .nil => ⟨_, ReadsAll.nil, by simp⟩
  | _, _, _, .cons a b, .cons r1 r2 => by
    obtain ⟨as, q1, n1⟩ := da_reads I a r1
    obtain ⟨bs, q2, n2⟩ := daAll_reads I b r2
    refine ⟨_, ReadsAll.cons q1 q2, fun z => ?_⟩
    rcases List.mem_append.mp z with z | z
    · exact n1 z
    · exact n2 z
end
end

/-! ### the heap without what may change -/
def offs (O : List Addr) (H : Hp) : Hp := fun a => if a ∈ O then Option.none else H a
section
variable {O O' : List Addr} {H H' : Hp} {a : Addr} {o : HO}
theorem offs_ne (h : a ∉ O) : offs O H a = H a := if_neg h
theorem offs_in (h : a ∈ O) : offs O H a = Option.none := if_pos h
theorem offs_some (e : offs O H a = some o) : a ∉ O ∧ H a = some o := by
  by_cases h : a ∈ O
  · rw [offs_in h] at e
    cases e
  · rw [offs_ne h] at e
    exact ⟨h, e⟩
theorem offs_sub : Same (offs O H) H := fun _ _ e => (offs_some e).2
theorem offs_same (h : ∀ a o, a ∉ O → H a = some o → H' a = some o) (hs : ∀ a, a ∈ O' → H a ≠ Option.none → a ∈ O) : Same (offs O H) (offs O' H') := fun a o e => by
  obtain ⟨n, e⟩ := offs_some e
  rw [offs_ne fun z => n (hs a z (by rw [e]; simp))]
  exact h a o n e
theorem offs_less (h : ∀ a, a ∈ O' → a ∈ O) : Same (offs O H) (offs O' H) := offs_same (fun _ _ _ e => e) fun a z _ => h a z
theorem offs_new {p : Addr} (n : H p = Option.none) (k : Same H H') : Same (offs O H) (offs (p :: O) H') := offs_same (fun a o _ e => k a o e) fun a z nn => by
  rcases List.mem_cons.mp z with z | z
  · rw [z] at nn
    exact absurd n nn
  · exact z
end
/-- what a def's body stands on: the heap at its entry, what may change there (the bag too), the bag, its cells -/
structure Bs where
  H0 : Hp
  O0 : List Addr
  b : List Addr
  l : Addr
/-- what is known of a name: nothing; data; a list of its own; the bag -/
inductive DV where
  | un
  | v (d : PyData)
  | own (ds : List PyData)
  | bag
/-- a value that is data, or a list of one's own -/
def Nq (K : PySem.W.Frag) (O : List Addr) (H : Hp) (v : V) (d : PyData) : Prop :=
  Da K (offs O H) v d ∨ ∃ a xs ds, v = .ref a ∧ d = .list ds ∧ a ≠ sysModules ∧ H a = some (.lst xs) ∧ DaAll K (offs O H) xs ds
def Nr (K : PySem.W.Frag) (c : Bs) (O : List Addr) (H : Hp) (v : V) (d : PyData) : Prop :=
  Da K (offs O H) v d ∨ ∃ a xs ds, v = .ref a ∧ d = .list ds ∧ a ≠ sysModules ∧ c.H0 a = Option.none ∧ H a = some (.lst xs) ∧ DaAll K (offs O H) xs ds
theorem Nr.nq {K : PySem.W.Frag} {c : Bs} {O : List Addr} {H : Hp} {v : V} {d : PyData} (h : Nr K c O H v d) : Nq K O H v d := by
  rcases h with h | ⟨a, xs, ds, h1, h2, h3, _, h4, h5⟩
  · exact .inl h
  · exact .inr ⟨a, xs, ds, h1, h2, h3, h4, h5⟩
theorem Nq.da {K : PySem.W.Frag} {O : List Addr} {H : Hp} {v : V} {d : PyData} (h : Nq K O H v d) : Da K H v d := by
  rcases h with h | ⟨a, xs, ds, rfl, rfl, h3, h4, h5⟩
  · exact da_same offs_sub h
  · exact .lst h4 h3 (daAll_same offs_sub h5)
def SlotR (K : PySem.W.Frag) (c : Bs) (O : List Addr) (H : Hp) : DV → Option (Option V) → Prop
  | .un, _ => True
  | .v d, s => ∃ x, s = some (some x) ∧ Da K (offs O H) x d
  | .own ds, s => ∃ a xs, s = some (some (.ref a)) ∧ a ∈ O ∧ c.H0 a = Option.none ∧ a ≠ sysModules ∧ H a = some (.lst xs) ∧ DaAll K (offs O H) xs ds
  | .bag, s => ∃ a, s = some (some (.ref a)) ∧ c.b = [a]
structure Rel (K : PySem.W.Frag) (c : Bs) (F : Hp) (env : List DV) (O : List Addr) (σ : L2.St) (H : Hp) : Prop where
  dom : ∀ a ∈ O, ∃ o, H a = some o
  sub : ∀ a ∈ c.O0, a ∈ O
  ent : ∀ a ∈ c.O0, ∃ o, c.H0 a = some o
  but : ∀ a o, a ∉ c.b → c.H0 a = some o → H a = some o
  bg : ∀ a ∈ c.b, a ∈ c.O0 ∧ Bag H a c.l ∧ c.l ∉ O
  sys : Sys H
  nsys : sysModules ∉ O
  fz : Same F (offs O H)
  sl : ∀ (i : Nat) (e : DV), env[i]? = some e → SlotR K c O H e (σ[i]?)
  ap : ∀ (i j : Nat) (ds es : List PyData) (a : Addr), i ≠ j → env[i]? = some (.own ds) → env[j]? = some (.own es) → σ[i]? = some (some (.ref a)) → σ[j]? ≠ some (some (.ref a))
  len : σ.length = env.length
/-- what an expression may do: lay new things, turn the bag -/
structure Gx (c : Bs) (H H' : Hp) : Prop where
  kp : ∀ a o, a ∉ c.b → H a = some o → H' a = some o
  bg : ∀ a ∈ c.b, Bag H' a c.l
section
variable {K : PySem.W.Frag} {c : Bs} {F : Hp} {env : List DV} {O : List Addr} {σ : L2.St} {H H' H1 H2 : Hp} {v : V} {d : PyData}
theorem Rel.refl (R : Rel K c F env O σ H) : Gx c H H := ⟨fun _ _ _ e => e, fun a h => (R.bg a h).2.1⟩
theorem Gx.trans (g : Gx c H H1) (g' : Gx c H1 H2) : Gx c H H2 := ⟨fun a o n e => g'.kp a o n (g.kp a o n e), g'.bg⟩
theorem Rel.same (R : Rel K c F env O σ H) (k : Same H H') : Gx c H H' := ⟨fun a o _ e => k a o e, fun a h => (R.bg a h).2.1.same k⟩
theorem Rel.bO (R : Rel K c F env O σ H) : ∀ a ∈ c.b, a ∈ O := fun a h => R.sub a (R.bg a h).1
theorem Rel.nb (R : Rel K c F env O σ H) {a : Addr} (n : a ∉ O) : a ∉ c.b := fun z => n (R.bO a z)
theorem Rel.go (R : Rel K c F env O σ H) (g : Gx c H H') : Same (offs O H) (offs O H') := offs_same (fun a o n e => g.kp a o (R.nb n) e) fun _ z _ => z
theorem Rel.n0 (R : Rel K c F env O σ H) {a : Addr} (h : c.H0 a = Option.none) : a ∉ c.O0 ∧ a ∉ c.b := by
  have h1 : a ∉ c.O0 := fun z => by
    obtain ⟨o, e⟩ := R.ent a z
    rw [h] at e
    cases e
  exact ⟨h1, fun z => h1 (R.bg a z).1⟩
theorem Rel.h0 (R : Rel K c F env O σ H) {a : Addr} (h : H a = Option.none) : c.H0 a = Option.none := by
  cases e : c.H0 a with
  | none => rfl
  | some o =>
    by_cases hb : a ∈ c.b
    · obtain ⟨o, e⟩ := R.dom a (R.bO a hb)
      rw [h] at e
      cases e
    · have e2 := R.but a o hb e
      rw [h] at e2
      cases e2
theorem Rel.gx (R : Rel K c F env O σ H) (g : Gx c H H') : Rel K c F env O σ H' where
  dom := fun a h => by
    by_cases hb : a ∈ c.b
    · obtain ⟨⟨p, q, r, cs, e, _⟩, _⟩ := g.bg a hb
      exact ⟨_, e⟩
    · obtain ⟨o, e⟩ := R.dom a h
      exact ⟨o, g.kp a o hb e⟩
  sub := R.sub
  ent := R.ent
  but := fun a o n e => g.kp a o n (R.but a o n e)
  bg := fun a h => ⟨(R.bg a h).1, g.bg a h, (R.bg a h).2.2⟩
  sys := by
    obtain ⟨φ, e⟩ := R.sys
    exact ⟨φ, g.kp _ _ (R.nb R.nsys) e⟩
  nsys := R.nsys
  fz := R.fz.trans (R.go g)
  sl := fun i e he => by
    have q := R.sl i e he
    cases e with
    | un => trivial
    | v d =>
      obtain ⟨x, h1, h2⟩ := q
      exact ⟨x, h1, da_same (R.go g) h2⟩
    | own ds =>
      obtain ⟨a, xs, h1, h2, h3, h5, h6, h7⟩ := q
      exact ⟨a, xs, h1, h2, h3, h5, g.kp _ _ (R.n0 h3).2 h6, daAll_same (R.go g) h7⟩
    | bag => exact q
  ap := R.ap
  len := R.len
theorem Nr.gx (h : Nr K c O H v d) (R : Rel K c F env O σ H) (g : Gx c H H') : Nr K c O H' v d := by
  rcases h with h | ⟨a, xs, ds, h1, h2, h3, h4, h6, h7⟩
  · exact .inl (da_same (R.go g) h)
  · exact .inr ⟨a, xs, ds, h1, h2, h3, h4, g.kp _ _ (R.n0 h4).2 h6, daAll_same (R.go g) h7⟩
theorem Rel.fzm {F' : Hp} (R : Rel K c F' env O σ H) (k : Same F F') : Rel K c F env O σ H := { R with fz := k.trans R.fz }
theorem Rel.fzn (R : Rel K c F env O σ H) : Rel K c (offs O H) env O σ H := { R with fz := fun _ _ e => e }
/-- a name is stored -/
theorem Rel.set (R : Rel K c F env O σ H) (i : Nat) {x : V} (h : Da K (offs O H) x d) : Rel K c F (env.set i (.v d)) O (σ.set i (some x)) H :=
  { R with
    sl := fun j e he => by
      by_cases hj : j = i
      · subst hj
        by_cases hl : j < env.length
        · rw [List.getElem?_set_self hl] at he
          cases he
          exact ⟨x, by rw [List.getElem?_set_self (by rw [R.len]; exact hl)], h⟩
        · rw [List.getElem?_eq_none (by rw [List.length_set]; omega)] at he
          cases he
      · rw [List.getElem?_set_ne (Ne.symm hj)] at he ⊢
        exact R.sl j e he
    ap := fun j k ds es a hjk h1 h2 h3 => by
      by_cases hj : j = i
      · subst hj
        by_cases hl : j < env.length
        · rw [List.getElem?_set_self hl] at h1
          cases h1
        · rw [List.getElem?_eq_none (by rw [List.length_set]; omega)] at h1
          cases h1
      · by_cases hk : k = i
        · subst hk
          by_cases hl : k < env.length
          · rw [List.getElem?_set_self hl] at h2
            cases h2
          · rw [List.getElem?_eq_none (by rw [List.length_set]; omega)] at h2
            cases h2
        · rw [List.getElem?_set_ne (Ne.symm hj)] at h1 h3
          rw [List.getElem?_set_ne (Ne.symm hk)] at h2 ⊢
          exact R.ap j k ds es a hjk h1 h2 h3
    len := by rw [List.length_set, List.length_set, R.len] }
/-- a new list of one's own is stored -/
theorem Rel.setL (R : Rel K c F env O σ H) (i : Nat) {p : Addr} {ys : List V} {ds : List PyData} (g : Gx c H H') (n : H p = Option.none) (e : H' p = some (.lst ys)) (hp : p ≠ sysModules) (h : DaAll K (offs (p :: O) H') ys ds) :
    Rel K c F (env.set i (.own ds)) (p :: O) (σ.set i (some (.ref p))) H' := by
  have R' := R.gx g
  have pO : p ∉ O := fun z => by
    obtain ⟨o, eo⟩ := R.dom p z
    rw [n] at eo
    cases eo
  have k : Same (offs O H) (offs (p :: O) H') := offs_same (fun a o n' e' => g.kp a o (R.nb n') e') fun a z nn => by
    rcases List.mem_cons.mp z with z | z
    · rw [z] at nn
      exact absurd n nn
    · exact z
  exact {
    dom := fun a h => by
      rcases List.mem_cons.mp h with z | z
      · rw [z]
        exact ⟨_, e⟩
      · exact R'.dom a z
    sub := fun a h => List.mem_cons_of_mem _ (R.sub a h)
    ent := R.ent
    but := R'.but
    bg := fun a h => ⟨(R.bg a h).1, g.bg a h, fun z => by
      rcases List.mem_cons.mp z with z | z
      · obtain ⟨⟨_, _, _, cs, _, e2, _⟩, _⟩ := (R.bg a h).2.1
        rw [z, n] at e2
        cases e2
      · exact (R.bg a h).2.2 z⟩
    sys := R'.sys
    nsys := fun z => by
      rcases List.mem_cons.mp z with z | z
      · exact hp z.symm
      · exact R.nsys z
    fz := R.fz.trans k
    sl := fun j e0 he => by
      by_cases hj : j = i
      · subst hj
        by_cases hl : j < env.length
        · rw [List.getElem?_set_self hl] at he
          cases he
          exact ⟨p, ys, by rw [List.getElem?_set_self (by rw [R.len]; exact hl)], List.mem_cons_self, R.h0 n, hp, e, h⟩
        · rw [List.getElem?_eq_none (by rw [List.length_set]; omega)] at he
          cases he
      · rw [List.getElem?_set_ne (Ne.symm hj)] at he ⊢
        have q := R.sl j e0 he
        cases e0 with
        | un => trivial
        | v d =>
          obtain ⟨x, h1, h2⟩ := q
          exact ⟨x, h1, da_same k h2⟩
        | own ds =>
          obtain ⟨a, xs, h1, h2, h3, h5, h6, h7⟩ := q
          exact ⟨a, xs, h1, List.mem_cons_of_mem _ h2, h3, h5, g.kp _ _ (R.n0 h3).2 h6, daAll_same k h7⟩
        | bag => exact q
    ap := fun j m ds es a hjk h1 h2 h3 => by
      by_cases hj : j = i
      · subst hj
        have hm : m ≠ j := fun z => hjk z.symm
        rw [List.getElem?_set_ne (Ne.symm hm)] at h2 ⊢
        intro z
        by_cases hl : j < σ.length
        · rw [List.getElem?_set_self hl] at h3
          cases h3
          obtain ⟨a', xs, q1, q2, _⟩ := R.sl m _ h2
          rw [z] at q1
          cases q1
          exact pO q2
        · rw [List.getElem?_eq_none (by rw [List.length_set]; omega)] at h3
          cases h3
      · rw [List.getElem?_set_ne (Ne.symm hj)] at h1 h3
        by_cases hm : m = i
        · subst hm
          intro z
          by_cases hl : m < σ.length
          · rw [List.getElem?_set_self hl] at z
            cases z
            obtain ⟨a', xs, q1, q2, _⟩ := R.sl j _ h1
            rw [h3] at q1
            cases q1
            exact pO q2
          · rw [List.getElem?_eq_none (by rw [List.length_set]; omega)] at z
            cases z
        · rw [List.getElem?_set_ne (Ne.symm hm)] at h2 ⊢
          exact R.ap j m ds es a hjk h1 h2 h3
    len := by rw [List.length_set, List.length_set, R.len] }
/-- a list of one's own changes -/
theorem Rel.mut (R : Rel K c F env O σ H) {i : Nat} {ds es : List PyData} {a : Addr} {ys : List V} (hi : env[i]? = some (.own ds)) (hs : σ[i]? = some (some (.ref a))) (h : DaAll K (offs O H) ys es) :
    Rel K c F (env.set i (.own es)) O σ (upd H a (.lst ys)) := by
  obtain ⟨a', xs, q1, q2, q3, q5, q6, q7⟩ := R.sl i _ hi
  have q4 := (R.n0 q3).2
  rw [hs] at q1
  cases q1
  have hl : i < env.length := (List.getElem?_eq_some_iff.mp hi).1
  have k : Same (offs O H) (offs O (upd H a (.lst ys))) := offs_same (fun b o n e => by
    rw [upd_ne (fun z => n (by rw [z]; exact q2))]
    exact e) fun _ z _ => z
  have ns : a ≠ sysModules := q5
  exact {
    dom := fun b hb => by
      by_cases z : b = a
      · exact ⟨.lst ys, by rw [z, upd_same]⟩
      · rw [upd_ne z]
        exact R.dom b hb
    sub := R.sub
    ent := R.ent
    but := fun b o n e => by
      by_cases z : b = a
      · rw [z, q3] at e
        cases e
      · rw [upd_ne z]
        exact R.but b o n e
    bg := fun b hb => ⟨(R.bg b hb).1, (R.bg b hb).2.1.upd (fun z => q4 (by rw [z]; exact hb)) (fun z => (R.bg b hb).2.2 (by rw [← z]; exact q2)) q6, (R.bg b hb).2.2⟩
    sys := by
      obtain ⟨φ, e⟩ := R.sys
      exact ⟨φ, by rw [upd_ne (Ne.symm ns)]; exact e⟩
    nsys := R.nsys
    fz := R.fz.trans k
    sl := fun j e0 he => by
      by_cases hj : j = i
      · subst hj
        rw [List.getElem?_set_self hl] at he
        cases he
        exact ⟨a, ys, hs, q2, q3, q5, upd_same, daAll_same k h⟩
      · rw [List.getElem?_set_ne (Ne.symm hj)] at he
        have q := R.sl j e0 he
        cases e0 with
        | un => trivial
        | v d =>
          obtain ⟨x, h1, h2⟩ := q
          exact ⟨x, h1, da_same k h2⟩
        | own ds' =>
          obtain ⟨b, zs, h1, h2, h3, h5, h6, h7⟩ := q
          have nba : b ≠ a := fun z => by
            rw [z] at h1
            exact R.ap i j _ _ a (Ne.symm hj) hi he hs h1
          exact ⟨b, zs, h1, h2, h3, h5, by rw [upd_ne nba]; exact h6, daAll_same k h7⟩
        | bag => exact q
    ap := fun j m ds' es' b hjm h1 h2 h3 => by
      have back : ∀ (j : Nat) (ds' : List PyData), (env.set i (.own es))[j]? = some (.own ds') → ∃ d2, env[j]? = some (.own d2) := fun j ds' e => by
        by_cases z : j = i
        · exact ⟨ds, by rw [z]; exact hi⟩
        · rw [List.getElem?_set_ne (Ne.symm z)] at e
          exact ⟨_, e⟩
      obtain ⟨_, g1⟩ := back j _ h1
      obtain ⟨_, g2⟩ := back m _ h2
      exact R.ap j m _ _ b hjm g1 g2 h3
    len := by rw [List.length_set, R.len] }
end
end Du

/-! Readings on data: expressions, tests, arguments, statements, loops, comprehensions. -/
namespace Du
open PySem PySem.Spec PyProof.Rows L2 On
/-- what an expression does on data: it comes to some value that the wish takes -/
abbrev ME := List DV → (PyData → Prop) → Prop
abbrev MT := List DV → (Bool → Prop) → Prop
abbrev MA := List DV → (List DV → Prop) → Prop
abbrev MI := List DV → (List PyData → Prop) → Prop
abbrev MG := PyData → List DV → (List DV → Prop) → Prop
abbrev MGs := List PyData → List DV → (List DV → Prop) → Prop
structure DE where
  nx : List DV → Prop
  rt : PyData → Prop
  bk : List DV → Prop := fun _ => False
  ct : List DV → Prop := fun _ => False
abbrev MS := List DV → DE → Prop
section
variable (K : PySem.W.Frag) (c : Bs)
def up (m : ME) : TE := fun σ H Q => ∃ F env O k, Rel K c F env O σ H ∧ m env k ∧ ∀ d x H', k d → Gx c H H' → Da K (offs O H') x d → Q x H'
def upN (m : ME) : TE := fun σ H Q => ∃ F env O k, Rel K c F env O σ H ∧ m env k ∧ ∀ d x H', k d → Gx c H H' → Nr K c O H' x d → Q x H'
/-- a new list -/
def upL (m : ME) : TE := fun σ H Q => ∃ F env O k, Rel K c F env O σ H ∧ m env k ∧ ∀ d p ys ds H', k d → d = .list ds → Gx c H H' → H p = Option.none → H' p = some (.lst ys) → p ≠ sysModules → DaAll K (offs (p :: O) H') ys ds → Q (.ref p) H'
def upT (m : MT) : TT := fun σ H Q => ∃ F env O k, Rel K c F env O σ H ∧ m env k ∧ ∀ b H', k b → Gx c H H' → Q b H'
def ArgR (O : List Addr) (H : Hp) (x : V) : DV → Prop
  | .v d => Da K (offs O H) x d
  | .bag => ∃ a, x = .ref a ∧ c.b = [a]
  | _ => False
def ArgN (O : List Addr) (H : Hp) (x : V) : DV → Prop
  | .v d => Nr K c O H x d
  | _ => False
def upA (m : MA) : TA := fun σ H Q => ∃ F env O k, Rel K c F env O σ H ∧ m env k ∧ ∀ as xs H', k as → Gx c H H' → Paired (ArgR K c O H') xs as → Q xs H'
def upAN (m : MA) : TA := fun σ H Q => ∃ F env O k, Rel K c F env O σ H ∧ m env k ∧ ∀ as xs H', k as → Gx c H H' → Paired (ArgN K c O H') xs as → Q xs H'
/-- what a loop goes over, as long as the things stay -/
def Walk (O : List Addr) (H : Hp) (J : It) (ds : List PyData) : Prop := ∀ O2 H2, (∀ a ∈ O2, ∃ o, H2 a = some o) → Same (offs O H) (offs O2 H2) →
  (∀ (i : Nat) d, ds[i]? = some d → J.go i H2 ∧ ∀ x H3, J.yld i H2 x H3 → Same H2 H3 ∧ Da K (offs O2 H3) x d) ∧ J.stop ds.length H2
def upI (m : MI) : TI := fun σ H R => ∃ F env O k, Rel K c F env O σ H ∧ m env k ∧ ∀ ds J H', k ds → Gx c H H' → Walk K O H' J ds → R J H'
def upG (ss : List Nat) (g : MG) : TG := fun x σ H Q => ∃ F env O d k, Rel K c F env O σ H ∧ Da K (offs O H) x d ∧ g d env k ∧ ∀ env' σ', k env' → Rel K c F env' O σ' H → (∀ j : Nat, j ∉ ss → σ'[j]? = σ[j]?) → σ'.length = σ.length → Q σ' H
def upGs (ss : List Nat) (g : MGs) : TGs := fun xs σ H Q => ∃ F env O ds k, Rel K c F env O σ H ∧ DaAll K (offs O H) xs ds ∧ g ds env k ∧ ∀ env' σ', k env' → Rel K c F env' O σ' H → (∀ j : Nat, j ∉ ss → σ'[j]? = σ[j]?) → σ'.length = σ.length → Q σ' H
structure RetR (x : V) (d : PyData) (H' : Hp) : Prop where
  but : ∀ a o, a ∉ c.b → c.H0 a = some o → H' a = some o
  bg : ∀ a ∈ c.b, Bag H' a c.l
  da : Da K (offs c.O0 H') x d
def upS (B : MS) : TS := fun D σ H => ∃ F env O DD, Rel K c F env O σ H ∧ B env DD ∧ (∀ env' O' σ' H', DD.nx env' → Rel K c F env' O' σ' H' → D.nx σ' H') ∧
  (∀ env' O' σ' H', DD.bk env' → Rel K c F env' O' σ' H' → D.bk σ' H') ∧ (∀ env' O' σ' H', DD.ct env' → Rel K c F env' O' σ' H' → D.ct σ' H') ∧ (∀ d x H', DD.rt d → RetR K c x d H' → D.rt x H')
end
/-! ### weaker readings -/
section
variable {X : Cx}
theorem pe_mono {e : Expr} {t t' : TE} (h : PE X e t) (w : ∀ σ H Q, t' σ H Q → t σ H Q) : PE X e t' := ⟨fun pins s σ H Q I q => h.run pins s σ H Q I (w _ _ _ q)⟩
theorem pt_mono {e : Expr} {t t' : TT} (h : PT X e t) (w : ∀ σ H Q, t' σ H Q → t σ H Q) : PT X e t' := ⟨fun pins s σ H Q I q => h.run pins s σ H Q I (w _ _ _ q)⟩
theorem pw_mono {e : Expr} {t t' : TT} (h : PW X e t) (w : ∀ σ H Q, t' σ H Q → t σ H Q) : PW X e t' := ⟨fun wh pins s σ H Q I q => h.run wh pins s σ H Q I (w _ _ _ q)⟩
theorem pa_mono {e : List Expr} {t t' : TA} (h : PA X e t) (w : ∀ σ H Q, t' σ H Q → t σ H Q) : PA X e t' := ⟨fun pos pins s σ H Q I q => h.run pos pins s σ H Q I (w _ _ _ q)⟩
theorem ps_mono {e : Stmt} {t t' : TS} (h : PS X e t) (w : ∀ D σ H, t' D σ H → t D σ H) : PS X e t' := ⟨fun pins s σ H D I q => h.run pins s σ H D I (w _ _ _ q)⟩
theorem pss_mono {e : List Stmt} {t t' : TS} (h : PSs X e t) (w : ∀ D σ H, t' D σ H → t D σ H) : PSs X e t' := ⟨fun pins s σ H D I q => h.run pins s σ H D I (w _ _ _ q)⟩
theorem pi_mono {a b : Expr} {t t' : TI} (h : PI X a b t) (w : ∀ σ H R, t' σ H R → t σ H R) : PI X a b t' := ⟨fun pins s σ H R I q => h.run pins s σ H R I (w _ _ _ q)⟩
theorem pg_mono {a : Expr} {t t' : TG} (h : PG X a t) (w : ∀ x σ H Q, t' x σ H Q → t x σ H Q) : PG X a t' := ⟨fun pins s σ H v u Q I r q => h.run pins s σ H v u Q I r (w _ _ _ _ q)⟩
theorem pgs_mono {a : List Expr} {t t' : TGs} (h : PGs X a t) (w : ∀ x σ H Q, t' x σ H Q → t x σ H Q) : PGs X a t' := ⟨fun pins s σ H v u Q I r q => h.run pins s σ H v u Q I r (w _ _ _ _ q)⟩
end
section
variable {K : PySem.W.Frag} {c : Bs} {X : Cx} {e : Expr}
theorem de_n {m : ME} (h : PE X e (up K c m)) : PE X e (upN K c m) := pe_mono h fun σ H Q ⟨F, env, O, k, R, hm, q⟩ => ⟨F, env, O, k, R, hm, fun d x H' kd g da => q d x H' kd g (.inl da)⟩
theorem de_l {m : ME} (h : PE X e (upL K c m)) : PE X e (up K c m) := pe_mono h fun σ H Q ⟨F, env, O, k, R, hm, q⟩ => ⟨F, env, O, k, R, hm, fun d p ys ds H' kd ed g n e hp da => by
  have pO : p ∉ O := fun z => by
    obtain ⟨o, eo⟩ := R.dom p z
    rw [n] at eo
    cases eo
  rw [ed] at kd
  exact q _ _ H' kd g (.lst (by rw [offs_ne pO]; exact e) hp (daAll_same (offs_less fun a z => List.mem_cons_of_mem _ z) da))⟩
theorem de_ln {m : ME} (h : PE X e (upL K c m)) : PE X e (upN K c m) := de_n (de_l h)
/-! ### names, constants -/
def mVar (i : Nat) : ME := fun env k => match env[i]? with
  | some (.v d) => k d
  | _ => False
def mVarN (i : Nat) : ME := fun env k => match env[i]? with
  | some (.v d) => k d
  | some (.own ds) => k (.list ds)
  | _ => False
def mC (d : PyData) : ME := fun _ k => k d
theorem de_var {i : Nat} (h : PE X e (tVar i)) : PE X e (up K c (mVar i)) := pe_mono h fun σ H Q ⟨F, env, O, k, R, hm, q⟩ => by
  unfold mVar at hm
  split at hm
  · rename_i d hd
    obtain ⟨x, h1, h2⟩ := R.sl i _ hd
    exact ⟨x, h1, q d x H hm R.refl h2⟩
  · exact hm.elim
theorem dn_var {i : Nat} (h : PE X e (tVar i)) : PE X e (upN K c (mVarN i)) := pe_mono h fun σ H Q ⟨F, env, O, k, R, hm, q⟩ => by
  unfold mVarN at hm
  split at hm
  · rename_i d hd
    obtain ⟨x, h1, h2⟩ := R.sl i _ hd
    exact ⟨x, h1, q d x H hm R.refl (.inl h2)⟩
  · rename_i ds hd
    obtain ⟨a, xs, h1, h2, h3, h5, h6, h7⟩ := R.sl i _ hd
    exact ⟨_, h1, q _ _ H hm R.refl (.inr ⟨a, xs, ds, rfl, rfl, h5, h3, h6, h7⟩)⟩
  · exact hm.elim
theorem de_c {v : V} {d : PyData} (h : PE X e (tC v)) (hv : ∀ H, Da K H v d) : PE X e (up K c (mC d)) := pe_mono h fun σ H Q ⟨F, env, O, k, R, hm, q⟩ => q d v H hm R.refl (hv _)
/-! ### operations -/
/-- a two-place operation on data: what it comes to is new -/
def OpD (K : PySem.W.Frag) (r : R2) (f : PyData → PyData → (PyData → Prop) → Prop) : Prop := ∀ O H x y d e k (Q : VK), (∀ a ∈ O, ∃ o, H a = some o) → Sys H → Nq K O H x d → Nq K O H y e → f d e k →
  (∀ z v H', k z → Same H H' → Da K (offs O H') v z → Q v H') → r x y H Q
def UnD (K : PySem.W.Frag) (r : V → Hp → VK → Prop) (f : PyData → (PyData → Prop) → Prop) : Prop := ∀ O H x d k (Q : VK), (∀ a ∈ O, ∃ o, H a = some o) → Sys H → Nq K O H x d → f d k →
  (∀ z v H', k z → Same H H' → Da K (offs O H') v z → Q v H') → r x H Q
def m2 (f : PyData → PyData → (PyData → Prop) → Prop) (ma mb : ME) : ME := fun env k => ma env fun d => mb env fun e => f d e k
def m1 (f : PyData → (PyData → Prop) → Prop) (ma : ME) : ME := fun env k => ma env fun d => f d k
theorem up_op {r : R2} {f : PyData → PyData → (PyData → Prop) → Prop} {ma mb : ME} (hf : OpD K r f) (σ : L2.St) (H : Hp) (Q : VK) (h : up K c (m2 f ma mb) σ H Q) : tOp r (upN K c ma) (upN K c mb) σ H Q := by
  obtain ⟨F, env, O, k, R, hm, q⟩ := h
  refine ⟨F, env, O, _, R, hm, fun d x H1 h1 g1 n1 => ⟨F, env, O, _, R.gx g1, h1, fun e y H2 h2 g2 n2 => ?_⟩⟩
  have R1 := R.gx g1
  have R2 := R1.gx g2
  exact hf O H2 x y d e k Q R2.dom R2.sys (n1.gx R1 g2).nq n2.nq h2 fun z v H' kz s da => q z v H' kz ((g1.trans g2).trans (R2.same s)) da
theorem up_un {r : V → Hp → VK → Prop} {f : PyData → (PyData → Prop) → Prop} {ma : ME} (hf : UnD K r f) (σ : L2.St) (H : Hp) (Q : VK) (h : up K c (m1 f ma) σ H Q) : tUn r (upN K c ma) σ H Q := by
  obtain ⟨F, env, O, k, R, hm, q⟩ := h
  refine ⟨F, env, O, _, R, hm, fun d x H1 h1 g1 n1 => ?_⟩
  have R1 := R.gx g1
  exact hf O H1 x d k Q R1.dom R1.sys n1.nq h1 fun z v H' kz s da => q z v H' kz (g1.trans (R1.same s)) da
variable {pos : Pos}
theorem de_op {op : Operator} {r : R2} {f : PyData → PyData → (PyData → Prop) → Prop} {a b : Expr} {ma mb : ME} (ho : OpR X (binaryOp op) r) (hf : OpD K r f) (ha : PE X a (upN K c ma)) (hb : PE X b (upN K c mb)) : PE X (.BinOp a op b pos) (up K c (m2 f ma mb)) :=
  pe_mono (pe_op ho ha hb) (up_op hf)
theorem de_un {op : UnaryOp} {r : V → Hp → VK → Prop} {f : PyData → (PyData → Prop) → Prop} {a : Expr} {ma : ME} (ho : UnR X (unaryOp op) r) (hf : UnD K r f) (ha : PE X a (upN K c ma)) : PE X (.UnaryOp op a pos) (up K c (m1 f ma)) :=
  pe_mono (pe_un ho ha) (up_un hf)
theorem de_cmp {op : CmpOp} {r : R2} {f : PyData → PyData → (PyData → Prop) → Prop} {a b : Expr} {ma mb : ME} (ho : OpR X (compareOp op) r) (hf : OpD K r f) (ha : PE X a (upN K c ma)) (hb : PE X b (upN K c mb)) (hm : behindInMarks op b = false) :
    PE X (.Compare a [op] [b] pos) (up K c (m2 f ma mb)) := pe_mono (pe_cmpR ho ha hb hm) (up_op hf)
/-- .. whose value is a truth, as a test -/
def mTst (m : ME) : MT := fun env k => m env fun d => match d with
  | .bool b => k b
  | _ => False
theorem up_tst {r : R2} {f : PyData → PyData → (PyData → Prop) → Prop} {ma mb : ME} (hf : OpD K r f) (σ : L2.St) (H : Hp) (Q : Bool → Hp → Prop) (h : upT K c (mTst (m2 f ma mb)) σ H Q) : tTest (tOp r (upN K c ma) (upN K c mb)) σ H Q := by
  obtain ⟨F, env, O, k, R, hm, q⟩ := h
  refine up_op hf σ H _ ⟨F, env, O, _, R, hm, fun d x H' kd g da => ?_⟩
  split at kd
  · cases da
    exact ⟨_, rfl, q _ _ kd g⟩
  · exact kd.elim
theorem dt_cmp {op : CmpOp} {r : R2} {f : PyData → PyData → (PyData → Prop) → Prop} {a b : Expr} {ma mb : ME} (ho : OpR X (compareOp op) r) (hf : OpD K r f) (ha : PE X a (upN K c ma)) (hb : PE X b (upN K c mb)) (hm : behindInMarks op b = false) :
    PT X (.Compare a [op] [b] pos) (upT K c (mTst (m2 f ma mb))) := pt_mono (pt_cmpR ho ha hb hm) (up_tst hf)
def mChain (f g : PyData → PyData → (PyData → Prop) → Prop) (ma mb mc : ME) : ME := fun env k => ma env fun d => mb env fun e => f d e fun z => match z with
  | .bool true => mc env fun w => g e w k
  | .bool false => k (.bool false)
  | _ => False
theorem up_chain {r r' : R2} {f g : PyData → PyData → (PyData → Prop) → Prop} {ma mb mc : ME} (hf : OpD K r f) (hg : OpD K r' g) (σ : L2.St) (H : Hp) (Q : VK) (h : up K c (mChain f g ma mb mc) σ H Q) :
    tChain r r' (upN K c ma) (upN K c mb) (upN K c mc) σ H Q := by
  obtain ⟨F, env, O, k, R, hm, q⟩ := h
  refine ⟨F, env, O, _, R, hm, fun d x H1 h1 g1 n1 => ⟨F, env, O, _, R.gx g1, h1, fun e y H2 h2 g2 n2 => ?_⟩⟩
  have R1 := R.gx g1
  have R2 := R1.gx g2
  refine hf O H2 x y d e _ _ R2.dom R2.sys (n1.gx R1 g2).nq n2.nq h2 fun z v H3 kz s da => ?_
  have g3 := R2.same s
  have R3 := R2.gx g3
  split at kz
  · cases da
    refine ⟨true, rfl, ?_⟩
    rw [if_pos rfl]
    refine ⟨F, env, O, _, R3, kz, fun w u H4 h4 g4 n4 => ?_⟩
    have R4 := R3.gx g4
    exact hg O H4 y u e w k Q R4.dom R4.sys ((n2.gx R2 g3).gx R3 g4).nq n4.nq h4 fun z v H' kz s da => q z v H' kz ((((g1.trans g2).trans g3).trans g4).trans (R4.same s)) da
  · cases da
    refine ⟨false, rfl, ?_⟩
    rw [if_neg Bool.false_ne_true]
    exact q _ _ _ kz ((g1.trans g2).trans g3) (.bl false)
  · exact kz.elim
theorem de_chain {op op' : CmpOp} {r r' : R2} {f g : PyData → PyData → (PyData → Prop) → Prop} {a b d : Expr} {ma mb mc : ME} (ho : OpR X (compareOp op) r) (hf : OpD K r f) (ho' : OpR X (compareOp op') r') (hg : OpD K r' g) (ha : PE X a (upN K c ma)) (hb : PE X b (upN K c mb)) (hc : PE X d (upN K c mc))
    (hm : lastMarks [op, op'] [b, d] = false := by with_unfolding_all rfl) : PE X (.Compare a [op, op'] [b, d] pos) (up K c (mChain f g ma mb mc)) := pe_mono (pe_chain ho ho' ha hb hc hm) (up_chain hf hg)
theorem dt_chain {op op' : CmpOp} {r r' : R2} {f g : PyData → PyData → (PyData → Prop) → Prop} {a b d : Expr} {ma mb mc : ME} (ho : OpR X (compareOp op) r) (hf : OpD K r f) (ho' : OpR X (compareOp op') r') (hg : OpD K r' g) (ha : PE X a (upN K c ma)) (hb : PE X b (upN K c mb)) (hc : PE X d (upN K c mc))
    (hm : lastMarks [op, op'] [b, d] = false := by with_unfolding_all rfl) : PT X (.Compare a [op, op'] [b, d] pos) (upT K c (mTst (mChain f g ma mb mc))) := pt_mono (pt_chain ho ho' ha hb hc hm) fun σ H Q h => by
  obtain ⟨F, env, O, k, R, hm, q⟩ := h
  refine up_chain hf hg σ H _ ⟨F, env, O, _, R, hm, fun d x H' kd g da => ?_⟩
  split at kd
  · cases da
    exact ⟨_, rfl, q _ _ kd g⟩
  · exact kd.elim
/-! ### tests -/
def mNot (m : MT) : MT := fun env k => m env fun b => k (!b)
def mAnd (m n : MT) : MT := fun env k => m env fun b => match b with
  | true => n env k
  | false => k false
def mOr (m n : MT) : MT := fun env k => m env fun b => match b with
  | true => k true
  | false => n env k
theorem dt_not {a : Expr} {m : MT} (h : PT X a (upT K c m)) : PT X (.UnaryOp .Not a pos) (upT K c (mNot m)) := pt_mono (pt_not h) fun σ H Q ⟨F, env, O, k, R, hm, q⟩ => ⟨F, env, O, _, R, hm, fun b H' kb g => q _ _ kb g⟩
theorem up_and {m n : MT} (σ : L2.St) (H : Hp) (Q : Bool → Hp → Prop) (h : upT K c (mAnd m n) σ H Q) : tAnd (upT K c m) (upT K c n) σ H Q := by
  obtain ⟨F, env, O, k, R, hm, q⟩ := h
  refine ⟨F, env, O, _, R, hm, fun b H' kb g => ?_⟩
  cases b with
  | true => exact ⟨F, env, O, _, R.gx g, kb, fun b H2 kb g2 => q b H2 kb (g.trans g2)⟩
  | false => exact q _ _ kb g
theorem up_or {m n : MT} (σ : L2.St) (H : Hp) (Q : Bool → Hp → Prop) (h : upT K c (mOr m n) σ H Q) : tOr (upT K c m) (upT K c n) σ H Q := by
  obtain ⟨F, env, O, k, R, hm, q⟩ := h
  refine ⟨F, env, O, _, R, hm, fun b H' kb g => ?_⟩
  cases b with
  | false => exact ⟨F, env, O, _, R.gx g, kb, fun b H2 kb g2 => q b H2 kb (g.trans g2)⟩
  | true => exact q _ _ kb g
variable {a b : Expr} {rest : List Expr}
theorem dw_and1 {m : MT} (h : PT X a (upT K c m)) : PW X (.BoolOp .And [a] pos) (upT K c m) := pw_and1 h
theorem dw_or1 {m : MT} (h : PT X a (upT K c m)) : PW X (.BoolOp .Or [a] pos) (upT K c m) := pw_or1 h
theorem dw_and {m n : MT} (h : PT X a (upT K c m)) (h2 : PW X (.BoolOp .And (b :: rest) pos) (upT K c n)) : PW X (.BoolOp .And (a :: b :: rest) pos) (upT K c (mAnd m n)) := pw_mono (pw_and h h2) up_and
theorem dw_or {m n : MT} (h : PT X a (upT K c m)) (h2 : PW X (.BoolOp .Or (b :: rest) pos) (upT K c n)) : PW X (.BoolOp .Or (a :: b :: rest) pos) (upT K c (mOr m n)) := pw_mono (pw_or h h2) up_or
/-! ### truths as values -/
def mAndV (m n : ME) : ME := fun env k => m env fun d => match d with
  | .bool true => n env k
  | .bool false => k (.bool false)
  | _ => False
def mOrV (m n : ME) : ME := fun env k => m env fun d => match d with
  | .bool true => k (.bool true)
  | .bool false => n env k
  | _ => False
def mNotV (m : ME) : ME := fun env k => m env fun d => match d with
  | .bool b => k (.bool (!b))
  | _ => False
theorem de_one {op : BoolOp} {m : ME} (h : PE X a (up K c m)) : PE X (.BoolOp op [a] pos) (up K c m) := pe_one h
theorem de_and {m n : ME} (h : PE X a (up K c m)) (h2 : PE X (.BoolOp .And (b :: rest) pos) (up K c n)) : PE X (.BoolOp .And (a :: b :: rest) pos) (up K c (mAndV m n)) := pe_mono (pe_and h h2) fun σ H Q ⟨F, env, O, k, R, hm, q⟩ => by
  refine ⟨F, env, O, _, R, hm, fun d x H' kd g da => ?_⟩
  split at kd
  · cases da
    exact ⟨true, rfl, F, env, O, _, R.gx g, kd, fun d x H2 kb g2 da => q d x H2 kb (g.trans g2) da⟩
  · cases da
    exact ⟨false, rfl, q _ _ _ kd g (.bl false)⟩
  · exact kd.elim
theorem de_or {m n : ME} (h : PE X a (up K c m)) (h2 : PE X (.BoolOp .Or (b :: rest) pos) (up K c n)) : PE X (.BoolOp .Or (a :: b :: rest) pos) (up K c (mOrV m n)) := pe_mono (pe_or h h2) fun σ H Q ⟨F, env, O, k, R, hm, q⟩ => by
  refine ⟨F, env, O, _, R, hm, fun d x H' kd g da => ?_⟩
  split at kd
  · cases da
    exact ⟨true, rfl, q _ _ _ kd g (.bl true)⟩
  · cases da
    exact ⟨false, rfl, F, env, O, _, R.gx g, kd, fun d x H2 kb g2 da => q d x H2 kb (g.trans g2) da⟩
  · exact kd.elim
/-- not e, as a value: e a test -/
def mNotT (m : MT) : ME := fun env k => m env fun b => k (.bool (!b))
def mIf (t : MT) (m n : ME) : ME := fun env k => t env fun b => match b with
  | true => m env k
  | false => n env k
theorem de_if {cn : Expr} {t : MT} {m n : ME} (hc : PT X cn (upT K c t)) (ha : PE X a (up K c m)) (hb : PE X b (up K c n)) : PE X (.IfExp cn a b pos) (up K c (mIf t m n)) := pe_mono (pe_ifExp hc ha hb) fun σ H Q ⟨F, env, O, k, R, hm, q⟩ => by
  refine ⟨F, env, O, _, R, hm, fun bb H' kb g => ?_⟩
  cases bb with
  | true => exact ⟨F, env, O, _, R.gx g, kb, fun d x H2 kb g2 da => q d x H2 kb (g.trans g2) da⟩
  | false => exact ⟨F, env, O, _, R.gx g, kb, fun d x H2 kb g2 da => q d x H2 kb (g.trans g2) da⟩
/-! ### arguments -/
def mNil : MA := fun _ k => k []
def mCons (m : ME) (ms : MA) : MA := fun env k => m env fun d => ms env fun as => k (.v d :: as)
def mBag (i : Nat) (ms : MA) : MA := fun env k => match env[i]? with
  | some .bag => ms env fun as => k (.bag :: as)
  | _ => False
theorem paired_gx {O : List Addr} {F : Hp} {env : List DV} {σ : L2.St} {H H' : Hp} (R : Rel K c F env O σ H) (g : Gx c H H') : ∀ {xs : List V} {as : List DV}, Paired (ArgR K c O H) xs as → Paired (ArgR K c O H') xs as
  | _, _, .nil => .nil
  | _, _, .cons r t => .cons (by
      rename_i x dv _ _
      cases dv with
      | v d => exact da_same (R.go g) r
      | bag => exact r
      | un => exact r
      | own _ => exact r) (paired_gx R g t)
variable {es : List Expr}
theorem da_nil : PA X [] (upA K c mNil) := pa_mono pa_nil fun σ H Q ⟨F, env, O, k, R, hm, q⟩ => q [] [] H hm R.refl .nil
theorem da_cons {m : ME} {ms : MA} (ha : PE X e (up K c m)) (hr : PA X es (upA K c ms)) (hs : starEach (e :: es) X.env = (false, eval e X.env) :: starEach es X.env := by rfl) : PA X (e :: es) (upA K c (mCons m ms)) :=
  pa_mono (pa_cons ha hr hs) fun σ H Q ⟨F, env, O, k, R, hm, q⟩ => ⟨F, env, O, _, R, hm, fun d x H1 kd g da => ⟨F, env, O, _, R.gx g, kd, fun as xs H2 ks g2 ps => q _ _ H2 ks (g.trans g2) (.cons (da_same ((R.gx g).go g2) da) ps)⟩⟩
theorem da_bag {i : Nat} {ms : MA} (ha : PE X e (tVar i)) (hr : PA X es (upA K c ms)) (hs : starEach (e :: es) X.env = (false, eval e X.env) :: starEach es X.env := by rfl) : PA X (e :: es) (upA K c (mBag i ms)) :=
  pa_mono (pa_cons ha hr hs) fun σ H Q ⟨F, env, O, k, R, hm, q⟩ => by
    unfold mBag at hm
    split at hm
    · rename_i hd
      obtain ⟨a, h1, h2⟩ := R.sl i _ hd
      exact ⟨_, h1, F, env, O, _, R, hm, fun as xs H2 ks g2 ps => q _ _ H2 ks g2 (.cons ⟨a, rfl, h2⟩ ps)⟩
    · exact hm.elim
theorem dan_nil : PA X [] (upAN K c mNil) := pa_mono pa_nil fun σ H Q ⟨F, env, O, k, R, hm, q⟩ => q [] [] H hm R.refl .nil
theorem dan_cons {m : ME} {ms : MA} (ha : PE X e (upN K c m)) (hr : PA X es (upAN K c ms)) (hs : starEach (e :: es) X.env = (false, eval e X.env) :: starEach es X.env := by rfl) : PA X (e :: es) (upAN K c (mCons m ms)) :=
  pa_mono (pa_cons ha hr hs) fun σ H Q ⟨F, env, O, k, R, hm, q⟩ => ⟨F, env, O, _, R, hm, fun d x H1 kd g da => ⟨F, env, O, _, R.gx g, kd, fun as xs H2 ks g2 ps => q _ _ H2 ks (g.trans g2) (.cons (da.gx (R.gx g) g2) ps)⟩⟩
/-- tuples, lists written out -/
def dataOf : List DV → Option (List PyData)
  | [] => some []
  | .v d :: r => (dataOf r).map (d :: ·)
  | _ :: _ => Option.none
def mTup (ms : MA) : ME := fun env k => ms env fun as => match dataOf as with
  | some ds => ds.length ≤ 100000 ∧ k (.tuple ds)
  | Option.none => False
def mLst (ms : MA) : ME := fun env k => ms env fun as => match dataOf as with
  | some ds => ds.length ≤ 100000 ∧ k (.list ds)
  | Option.none => False
theorem paired_data {O : List Addr} {H : Hp} : ∀ {xs : List V} {as : List DV} {ds : List PyData}, Paired (ArgR K c O H) xs as → dataOf as = some ds → DaAll K (offs O H) xs ds
  | _, _, _, .nil, e => by
    cases e
    exact .nil
  | _, _, _, .cons (b := dv) r t, e => by
    cases dv with
    | v d =>
      unfold dataOf at e
      obtain ⟨ds', e1, e2⟩ := Option.map_eq_some_iff.mp e
      subst e2
      exact .cons r (paired_data t e1)
    | _ => cases e
theorem de_tup {x1} {ms : MA} (h : PA X es (upA K c ms)) : PE X (.Tuple es x1 pos) (up K c (mTup ms)) := pe_mono (pe_tup h) fun σ H Q ⟨F, env, O, k, R, hm, q⟩ => by
  refine ⟨F, env, O, _, R, hm, fun as xs H' kd g ps => ?_⟩
  split at kd
  · rename_i ds hd
    have R' := R.gx g
    have da := paired_data ps hd
    have hl := daAll_len da
    refine ⟨Evl.sz_of (by omega), fun p np => ?_⟩
    have pO : p ∉ O := fun z => by
      obtain ⟨o, eo⟩ := R'.dom p z
      rw [np] at eo
      cases eo
    have s : Same H' (upd H' p (.tup xs)) := Evl.Ex.new np
    exact q _ _ _ kd.2 (g.trans (R'.same s)) (.tup (SqT.of (by rw [offs_ne pO]; exact upd_same)) (daAll_same (R'.go (R'.same s)) da))
  · exact kd.elim
theorem de_lst {ms : MA} (h : PA X es (upA K c ms)) : PE X (.List es pos) (upL K c (mLst ms)) := pe_mono (pe_lst h) fun σ H Q ⟨F, env, O, k, R, hm, q⟩ => by
  refine ⟨F, env, O, _, R, hm, fun as xs H' kd g ps => ?_⟩
  split at kd
  · rename_i ds hd
    have R' := R.gx g
    have da := paired_data ps hd
    have hl := daAll_len da
    refine ⟨Evl.sz_of (by omega), fun p np => ?_⟩
    have s : Same H' (upd H' p (.lst xs)) := Evl.Ex.new np
    have nH : H p = Option.none := by
      cases e : H p with
      | none => rfl
      | some o =>
        by_cases hb : p ∈ c.b
        · obtain ⟨o, eo⟩ := R'.dom p (R.bO p hb)
          rw [np] at eo
          cases eo
        · rw [g.kp p o hb e] at np
          cases np
    have nsys : p ≠ sysModules := fun z => by
      obtain ⟨φ, e⟩ := R'.sys
      rw [z, e] at np
      cases np
    exact q _ p xs ds _ kd.2 rfl (g.trans (R'.same s)) nH upd_same nsys (daAll_same (offs_new np s) da)
  · exact kd.elim
/-! ### calls -/
/-- a builtin, a type -/
def CallD (K : PySem.W.Frag) (r : List V → Hp → VK → Prop) (f : List PyData → (PyData → Prop) → Prop) : Prop := ∀ O H xs ds k (Q : VK), (∀ a ∈ O, ∃ o, H a = some o) → Sys H → Paired (Nq K O H) xs ds → f ds k →
  (∀ z v H', k z → Same H H' → Da K (offs O H') v z → Q v H') → r xs H Q
/-- .. that lays a new list -/
def CallL (K : PySem.W.Frag) (r : List V → Hp → VK → Prop) (f : List PyData → (PyData → Prop) → Prop) : Prop := ∀ O H xs ds k (Q : VK), (∀ a ∈ O, ∃ o, H a = some o) → Sys H → Paired (Nq K O H) xs ds → f ds k →
  (∀ z es p ys H', k z → z = .list es → Same H H' → H p = Option.none → H' p = some (.lst ys) → DaAll K (offs (p :: O) H') ys es → Q (.ref p) H') → r xs H Q
def mB (f : List PyData → (PyData → Prop) → Prop) (ms : MA) : ME := fun env k => ms env fun as => match dataOf as with
  | some ds => f ds k
  | Option.none => False
theorem paired_nq {O : List Addr} {H : Hp} : ∀ {xs : List V} {as : List DV} {ds : List PyData}, Paired (ArgN K c O H) xs as → dataOf as = some ds → Paired (Nq K O H) xs ds
  | _, _, _, .nil, e => by
    cases e
    exact .nil
  | _, _, _, .cons (b := dv) r t, e => by
    cases dv with
    | v d =>
      unfold dataOf at e
      obtain ⟨ds', e1, e2⟩ := Option.map_eq_some_iff.mp e
      subst e2
      exact .cons (Nr.nq r) (paired_nq t e1)
    | _ => cases e
theorem up_cb {r : List V → Hp → VK → Prop} {f : List PyData → (PyData → Prop) → Prop} {ms : MA} (hf : CallD K r f) (σ : L2.St) (H : Hp) (Q : VK) (h : up K c (mB f ms) σ H Q) : tCB r (upAN K c ms) σ H Q := by
  obtain ⟨F, env, O, k, R, hm, q⟩ := h
  refine ⟨F, env, O, _, R, hm, fun as xs H' kd g ps => ?_⟩
  split at kd
  · rename_i ds hd
    have R' := R.gx g
    exact hf O H' xs ds k Q R'.dom R'.sys (paired_nq ps hd) kd fun z v H2 kz s da => q z v H2 kz (g.trans (R'.same s)) da
  · exact kd.elim
theorem up_cbl {r : List V → Hp → VK → Prop} {f : List PyData → (PyData → Prop) → Prop} {ms : MA} (hf : CallL K r f) (σ : L2.St) (H : Hp) (Q : VK) (h : upL K c (mB f ms) σ H Q) : tCB r (upAN K c ms) σ H Q := by
  obtain ⟨F, env, O, k, R, hm, q⟩ := h
  refine ⟨F, env, O, _, R, hm, fun as xs H' kd g ps => ?_⟩
  split at kd
  · rename_i ds hd
    have R' := R.gx g
    refine hf O H' xs ds k Q R'.dom R'.sys (paired_nq ps hd) kd fun z es p ys H2 kz ez s np ep da => ?_
    have nH : H p = Option.none := by
      cases e : H p with
      | none => rfl
      | some o =>
        by_cases hb : p ∈ c.b
        · obtain ⟨o, eo⟩ := R'.dom p (R.bO p hb)
          rw [np] at eo
          cases eo
        · rw [g.kp p o hb e] at np
          cases np
    have nsys : p ≠ sysModules := fun z => by
      obtain ⟨φ, e⟩ := R'.sys
      rw [z, e] at np
      cases np
    exact q z p ys es H2 kz ez (g.trans (R'.same s)) nH ep nsys da
  · exact kd.elim
end
end Du

/-! Readings on data: statements, targets, loops, comprehensions, defs. -/
namespace Du
open PySem PySem.Spec PyProof.Rows L2 On
section
variable {K : PySem.W.Frag} {c : Bs} {X : Cx} {e : Expr} {pos : Pos} {st : Stmt} {rest : List Stmt}
/-! ### blocks -/
def dNext : MS := fun env D => D.nx env
def dSeq (a b : MS) : MS := fun env D => a env { D with nx := fun env' => b env' D }
def dRet (m : ME) : MS := fun env D => m env D.rt
def dRetN : MS := fun _ D => D.rt .none
def dIf (t : MT) (a b : MS) : MS := fun env D => t env fun x => match x with
  | true => a env D
  | false => b env D
def dDrop (m : ME) : MS := fun env D => m env fun _ => D.nx env
def dBrk : MS := fun env D => D.bk env
def dCnt : MS := fun env D => D.ct env
theorem dss_nil : PSs X [] (upS K c dNext) := pss_mono pss_nil fun D σ H ⟨F, env, O, DD, R, hb, h1, h2, h3, h4⟩ => h1 env O σ H hb R
theorem dss_cons {a b : MS} (h : PS X st (upS K c a)) (h' : PSs X rest (upS K c b)) : PSs X (st :: rest) (upS K c (dSeq a b)) := pss_mono (pss_cons h h') fun D σ H ⟨F, env, O, DD, R, hb, h1, h2, h3, h4⟩ =>
  ⟨F, env, O, _, R, hb, fun env' O' σ' H' n R' => ⟨F, env', O', DD, R', n, h1, h2, h3, h4⟩, h2, h3, h4⟩
theorem dss_one {a : MS} (h : PS X st (upS K c a)) : PSs X [st] (upS K c a) := pss_one h
theorem ds_pass : PS X (.Pass pos) (upS K c dNext) := ps_mono ps_pass fun D σ H ⟨F, env, O, DD, R, hb, h1, h2, h3, h4⟩ => h1 env O σ H hb R
theorem ds_break : PS X (.Break pos) (upS K c dBrk) := ps_mono ps_break fun D σ H ⟨F, env, O, DD, R, hb, h1, h2, h3, h4⟩ => h2 env O σ H hb R
theorem ds_cont : PS X (.Continue pos) (upS K c dCnt) := ps_mono ps_continue fun D σ H ⟨F, env, O, DD, R, hb, h1, h2, h3, h4⟩ => h3 env O σ H hb R
theorem retR {F : Hp} {env : List DV} {O : List Addr} {σ : L2.St} {H H' : Hp} {x : V} {d : PyData} (R : Rel K c F env O σ H) (g : Gx c H H') (h : Nr K c O H' x d) : RetR K c x d H' where
  but := (R.gx g).but
  bg := g.bg
  da := by
    rcases h with h | ⟨a, xs, ds, rfl, rfl, h3, h4, h6, h7⟩
    · exact da_same (offs_less fun a z => R.sub a z) h
    · exact .lst (by rw [offs_ne (R.n0 h4).1]; exact h6) h3 (daAll_same (offs_less fun a z => R.sub a z) h7)
theorem ds_ret {m : ME} (h : PE X e (upN K c m)) : PS X (.Return (some e) pos) (upS K c (dRet m)) := ps_mono (ps_ret h) fun D σ H ⟨F, env, O, DD, R, hb, h1, h2, h3, h4⟩ =>
  ⟨F, env, O, _, R, hb, fun d x H' kd g n => h4 d x H' kd (retR R g n)⟩
theorem ds_retN : PS X (.Return Option.none pos) (upS K c dRetN) := ps_mono ps_retN fun D σ H ⟨F, env, O, DD, R, hb, h1, h2, h3, h4⟩ => h4 .none _ H hb (retR R R.refl (.inl .non))
theorem ds_if {cn : Expr} {a b : List Stmt} {t : MT} {u v : MS} (hc : PT X cn (upT K c t)) (ha : PSs X a (upS K c u)) (hb : PSs X b (upS K c v)) : PS X (.If cn a b pos) (upS K c (dIf t u v)) := ps_mono (ps_if hc ha hb) fun D σ H ⟨F, env, O, DD, R, hb, h1, h2, h3, h4⟩ => by
  refine ⟨F, env, O, _, R, hb, fun b H' kb g => ?_⟩
  cases b with
  | true => exact ⟨F, env, O, DD, R.gx g, kb, h1, h2, h3, h4⟩
  | false => exact ⟨F, env, O, DD, R.gx g, kb, h1, h2, h3, h4⟩
theorem ds_expr {m : ME} (h : PE X e (upN K c m)) (hs : swapsWith e Option.none pos.line X.env = pure false := by rfl) : PS X (.Expr e pos) (upS K c (dDrop m)) := ps_mono (ps_expr h hs) fun D σ H ⟨F, env, O, DD, R, hb, h1, h2, h3, h4⟩ =>
  ⟨F, env, O, _, R, hb, fun d x H' kd g n => h1 env O σ H' kd (R.gx g)⟩
/-! ### targets, stores -/
def gNm (i : Nat) : MG := fun d env k => k (env.set i (.v d))
def gsNil : MGs := fun ds env k => match ds with
  | [] => k env
  | _ :: _ => False
def gsCons (g : MG) (gs : MGs) : MGs := fun ds env k => match ds with
  | [] => False
  | d :: r => g d env fun env' => gs r env' k
def gTp (n : Nat) (gs : MGs) : MG := fun d env k => match d with
  | .tuple ds => ds.length = n ∧ gs ds env k
  | _ => False
theorem set_frame {σ : L2.St} {i : Nat} {v : Option V} : (∀ j : Nat, j ∉ [i] → (σ.set i v)[j]? = σ[j]?) := fun j h => by
  rw [List.getElem?_set_ne (fun z => h (by rw [z]; simp))]
theorem dg_name {i : Nat} {tg : Expr} (h : PG X tg (gName i)) : PG X tg (upG K c [i] (gNm i)) := pg_mono h fun x σ H Q ⟨F, env, O, d, k, R, da, hg, q⟩ => q _ _ hg (R.set i da) set_frame (by rw [List.length_set])
theorem dgs_nil : PGs X [] (upGs K c [] gsNil) := pgs_mono pgs_nil fun xs σ H Q ⟨F, env, O, ds, k, R, da, hg, q⟩ => by
  unfold gsNil at hg
  split at hg
  · cases da
    exact ⟨rfl, q _ _ hg R (fun _ _ => rfl) rfl⟩
  · exact hg.elim
theorem dgs_cons {tg : Expr} {ts : List Expr} {s1 s2 : List Nat} {g : MG} {gs : MGs} (h1 : PG X tg (upG K c s1 g)) (h2 : PGs X ts (upGs K c s2 gs)) (hs : (assignEach (tg :: ts) X.env).map (·.2) = assign tg X.env :: (assignEach ts X.env).map (·.2) := by rfl) :
    PGs X (tg :: ts) (upGs K c (s1 ++ s2) (gsCons g gs)) := pgs_mono (pgs_cons h1 h2 hs) fun xs σ H Q ⟨F, env, O, ds, k, R, da, hg, q⟩ => by
  unfold gsCons at hg
  split at hg
  · exact hg.elim
  · cases da with
    | cons d1 d2 =>
      refine ⟨_, _, rfl, F, env, O, _, _, R, d1, hg, fun env' σ' k' R' f l => ⟨F, env', O, _, k, R', d2, k', fun env2 σ2 k2 R2 f2 l2 => q env2 σ2 k2 R2 (fun j hj => ?_) (l2.trans l)⟩⟩
      rw [f2 j fun z => hj (List.mem_append_right _ z), f j fun z => hj (List.mem_append_left _ z)]
theorem dg_tup {es : List Expr} {kk : Nat} {ss : List Nat} {gs : MGs} {n : Nat} (hc : X.calm = true) (hK : X.K = K) (h : PGs X es (upGs K c ss gs)) (hn : (assignEach es X.env).length = n := by rfl) (hst : (assignEach es X.env).findIdx? (·.1) = Option.none := by rfl) :
    PG X (.Tuple es kk pos) (upG K c ss (gTp n gs)) := by
  subst hK
  refine pg_mono (pg_tup hc h hn hst) fun x σ H Q ⟨F, env, O, d, k, R, da, hg, q⟩ => ?_
  unfold gTp at hg
  split at hg
  · obtain ⟨a, xs, rfl, h1, h2⟩ := da_tup da
    exact ⟨a, xs, rfl, Evl.ex_t offs_sub h1, (daAll_len h2).trans hg.1, F, env, O, _, k, R, h2, hg.2, q⟩
  · exact hg.elim
/-- target = e -/
def dAsg (m : ME) (g : MG) : MS := fun env D => m env fun d => g d env D.nx
theorem ds_set {i : Nat} {x : Str} {m : ME} {pos' : Pos} (hN : X.N.Nodup) (hi : X.N[i]? = some x) (hx : Loc X.env.scope x) (he : PE X e (up K c m)) (hs : swapsWith e (some (.Name x pos')) pos.line X.env = pure false := by rfl) (hf : X.fn x = true ∨ X.env.scope.names.lookup x = some .local := by first | exact .inl rfl | exact .inr rfl | assumption) :
    PS X (.Assign [.Name x pos'] e pos) (upS K c (dAsg m (gNm i))) := ps_mono (ps_set hN hi hx he hs hf) fun D σ H ⟨F, env, O, DD, R, hb, h1, h2, h3, h4⟩ => ⟨F, env, O, _, R, hb, fun d x H' kd g da => h1 _ O _ H' kd ((R.gx g).set i da)⟩
theorem ds_asg {tg : Expr} {m : ME} {ss : List Nat} {g : MG} (he : PE X e (up K c m)) (hg : PG X tg (upG K c ss g)) (hs : swapsWithSole [tg] e pos.line X.env = pure false := by rfl) (hw : swappedStores [tg] e X.env = pure Option.none := by rfl)
    (h1 : (assignEach [tg] X.env).map (·.2) = [assign tg X.env] := by rfl) : PS X (.Assign [tg] e pos) (upS K c (dAsg m g)) := ps_mono (ps_asg he hg hs hw h1) fun D σ H ⟨F, env, O, DD, R, hb, h1, h2, h3, h4⟩ =>
  ⟨F, env, O, _, R, hb, fun d x H' kd gx da => ⟨F, env, O, d, _, R.gx gx, da, kd, fun env' σ' k' R' _ _ => h1 env' O σ' H' k' R'⟩⟩
/-- name = a new list that is its own -/
def dAsgL (i : Nat) (m : ME) : MS := fun env D => m env fun d => match d with
  | .list ds => D.nx (env.set i (.own ds))
  | _ => False
theorem asgL {i : Nat} {m : ME} (D : Ends) (σ : L2.St) (H : Hp) (h : upS K c (dAsgL i m) D σ H) : tAsg (upL K c m) (gName i) D σ H := by
  obtain ⟨F, env, O, DD, R, hb, h1, h2, h3, h4⟩ := h
  refine ⟨F, env, O, _, R, hb, fun d p ys ds H' kd ed g n ep hp da => ?_⟩
  subst ed
  exact h1 _ _ _ H' kd (R.setL i g n ep hp da)
theorem ds_setL {i : Nat} {x : Str} {m : ME} {pos' : Pos} (hN : X.N.Nodup) (hi : X.N[i]? = some x) (hx : Loc X.env.scope x) (he : PE X e (upL K c m)) (hs : swapsWith e (some (.Name x pos')) pos.line X.env = pure false := by rfl) (hf : X.fn x = true ∨ X.env.scope.names.lookup x = some .local := by first | exact .inl rfl | exact .inr rfl | assumption) :
    PS X (.Assign [.Name x pos'] e pos) (upS K c (dAsgL i m)) := ps_mono (ps_set hN hi hx he hs hf) asgL
/-- a, b = x, y -/
def dPar (i j : Nat) (ms : MA) : MS := fun env D => ms env fun as => match as with
  | [.v d, .v e] => D.nx ((env.set i (.v d)).set j (.v e))
  | _ => False
theorem ds_par {i j : Nat} {x y : Str} {a b : Expr} {ms : MA} {px py pt : Pos} {kt k2 pt2} (hc : X.calm = true) (hN : X.N.Nodup) (hi : X.N[i]? = some x) (hj : X.N[j]? = some y) (hij : i ≠ j)
    (hx : X.env.scope.names.lookup x = some .local) (hy : X.env.scope.names.lookup y = some .local) (ha : PA X [a, b] (upA K c ms))
    (hw : swappedStores [.Tuple [.Name x px, .Name y py] kt pt] (.Tuple [a, b] k2 pt2) X.env = pure (some [x, y]))
    (hs : swapsWithSole [.Tuple [.Name x px, .Name y py] kt pt] (.Tuple [a, b] k2 pt2) pos.line X.env = pure false := by rfl) :
    PS X (.Assign [.Tuple [.Name x px, .Name y py] kt pt] (.Tuple [a, b] k2 pt2) pos) (upS K c (dPar i j ms)) := ps_mono (ps_par hc hN hi hj hij hx hy ha hw hs) fun D σ H ⟨F, env, O, DD, R, hb, h1, h2, h3, h4⟩ => by
  refine ⟨F, env, O, _, R, hb, fun as xs H' kd g ps => ?_⟩
  split at kd
  · match ps with
    | .cons (a := u) r1 (.cons (a := w) r2 .nil) => exact ⟨u, w, rfl, h1 _ O _ H' kd (((R.gx g).set i r1).set j r2)⟩
  · exact kd.elim
/-- name op= e, intsD -/
def dAug (i : Nat) (f : Int → Int → Int) (m : ME) : MS := fun env D => match env[i]? with
  | some (.v (.int a)) => m env fun d => match d with
    | .int b => D.nx (env.set i (.v (.int (f a b))))
    | _ => False
  | _ => False
theorem ds_aug {i : Nat} {x : Str} {m : ME} {op : Operator} {f : Int → Int → Int} {pos' : Pos} (hN : X.N.Nodup) (hi : X.N[i]? = some x) (hx : Loc X.env.scope x) (he : PE X e (up K c m)) (ho : PIp X op (ipI f)) (hf : X.fn x = true ∨ X.env.scope.names.lookup x = some .local := by first | exact .inl rfl | exact .inr rfl | assumption) :
    PS X (.AugAssign (.Name x pos') op e pos) (upS K c (dAug i f m)) := ps_mono (ps_aug hN hi hx he ho hf) fun D σ H ⟨F, env, O, DD, R, hb, h1, h2, h3, h4⟩ => by
  unfold dAug at hb
  split at hb
  · rename_i a hd
    obtain ⟨x, e1, da⟩ := R.sl i _ hd
    cases da
    refine ⟨_, e1, F, env, O, _, R, hb, fun d x H' kd g da => ?_⟩
    split at kd
    · cases da
      exact ⟨_, _, rfl, rfl, h1 _ O _ H' kd ((R.gx g).set i (.int _))⟩
    · exact kd.elim
  · exact hb.elim
/-! ### methods of lists of one's own -/
/-- x.append(e) -/
def dApp (i : Nat) (m : ME) : MS := fun env D => match env[i]? with
  | some (.own ds) => ds.length < 100000 ∧ m env fun d => D.nx (env.set i (.own (ds ++ [d])))
  | _ => False
theorem app_st {i : Nat} {m : ME} (D : Ends) (σ : L2.St) (H : Hp) (h : upS K c (dApp i m) D σ H) : tDrop (tBM K "list" rAppend (tVar i) (tCons (up K c m) tNil)) D σ H := by
  obtain ⟨F, env, O, DD, R, hb, h1, h2, h3, h4⟩ := h
  unfold dApp at hb
  split at hb
  · rename_i ds hd
    obtain ⟨a, xs, e1, q2, q3, q5, q6, q7⟩ := R.sl i _ hd
    refine ⟨_, e1, .inl ⟨rfl, xs, SqL.of q6⟩, F, env, O, _, R, hb.2, fun d x H' kd g da => ?_⟩
    have hl := daAll_len q7
    refine ⟨a, xs, x, rfl, rfl, g.kp _ _ (R.n0 q3).2 q6, Evl.sz_lt (by omega), ?_⟩
    have R' := R.gx g
    exact h1 _ O _ _ kd (R'.mut hd e1 (daAll_app (daAll_same (R.go g) q7) (.cons da .nil)))
  · exact hb.elim
theorem ds_app {i : Nat} {m : ME} (h : PS X st (tDrop (tBM K "list" rAppend (tVar i) (tCons (up K c m) tNil)))) : PS X st (upS K c (dApp i m)) := ps_mono h app_st
/-- x.extend(e), e another list -/
def dExt (i : Nat) (m : ME) : MS := fun env D => match env[i]? with
  | some (.own ds) => m env fun d => match d with
    | .list es => ds.length + es.length ≤ 100000 ∧ D.nx (env.set i (.own (ds ++ es)))
    | _ => False
  | _ => False
theorem ext_st {i : Nat} {m : ME} (D : Ends) (σ : L2.St) (H : Hp) (h : upS K c (dExt i m) D σ H) : tDrop (tBM K "list" rExtend (tVar i) (tCons (up K c m) tNil)) D σ H := by
  obtain ⟨F, env, O, DD, R, hb, h1, h2, h3, h4⟩ := h
  unfold dExt at hb
  split at hb
  · rename_i ds hd
    obtain ⟨a, xs, e1, q2, q3, q5, q6, q7⟩ := R.sl i _ hd
    refine ⟨_, e1, .inl ⟨rfl, xs, SqL.of q6⟩, F, env, O, _, R, hb, fun d x H' kd g da => ?_⟩
    split at kd
    · rename_i es
      obtain ⟨p, zs, rfl, f1, f2, f3⟩ := da_lst da
      have hl := daAll_len q7
      have hl2 := daAll_len f3
      have R' := R.gx g
      exact ⟨a, p, xs, zs, rfl, rfl, g.kp _ _ (R.n0 q3).2 q6, (offs_some f1).2, Evl.sz_of (by omega), h1 _ O _ _ kd.2 (R'.mut hd e1 (daAll_app (daAll_same (R.go g) q7) f3))⟩
    · exact kd.elim
  · exact hb.elim
theorem ds_ext {i : Nat} {m : ME} (h : PS X st (tDrop (tBM K "list" rExtend (tVar i) (tCons (up K c m) tNil)))) : PS X st (upS K c (dExt i m)) := ps_mono h ext_st
/-- x.insert(i, e) -/
def dIns (i : Nat) (m n : ME) : MS := fun env D => match env[i]? with
  | some (.own ds) => ds.length < 100000 ∧ m env fun d => match d with
    | .int j => (0 ≤ j ∧ j < 1000000) ∧ n env fun d => D.nx (env.set i (.own (ds.take j.toNat ++ [d] ++ ds.drop j.toNat)))
    | _ => False
  | _ => False
theorem ds_ins {i : Nat} {m n : ME} (h : PS X st (tDrop (tBM K "list" (fun x vs H Q => ∃ (l : Addr) (xs : List V) (i : Int) (y : V), x = .ref l ∧ vs = [.int i, y] ∧ H l = some (.lst xs) ∧ xs.length < sizeLine ∧ 0 ≤ i ∧ i < 2 ^ 63 ∧
    Q .non (upd H l (.lst (xs.take i.toNat ++ [y] ++ xs.drop i.toNat)))) (tVar i) (tCons (up K c m) (tCons (up K c n) tNil))))) : PS X st (upS K c (dIns i m n)) := ps_mono h fun D σ H h => by
  obtain ⟨F, env, O, DD, R, hb, h1, h2, h3, h4⟩ := h
  unfold dIns at hb
  split at hb
  · rename_i ds hd
    obtain ⟨a, xs, e1, q2, q3, q5, q6, q7⟩ := R.sl i _ hd
    refine ⟨_, e1, .inl ⟨rfl, xs, SqL.of q6⟩, F, env, O, _, R, hb.2, fun d x H1 kd g1 da => ?_⟩
    split at kd
    · cases da
      have R1 := R.gx g1
      refine ⟨F, env, O, _, R1, kd.2, fun d2 y H2 kd2 g2 da2 => ?_⟩
      have g := g1.trans g2
      have R2 := R1.gx g2
      have hl := daAll_len q7
      have q7' := daAll_same (R.go g) q7
      exact ⟨a, xs, _, y, rfl, rfl, g.kp _ _ (R.n0 q3).2 q6, Evl.sz_lt (by omega), kd.1.1, by omega, h1 _ O _ _ kd2 (R2.mut hd e1 (daAll_app (daAll_app (daAll_take _ q7') (.cons da2 .nil)) (daAll_drop _ q7')))⟩
    · exact kd.elim
  · exact hb.elim
/-- x.pop(i), dropped -/
def dPopAt (i : Nat) (m : ME) : MS := fun env D => match env[i]? with
  | some (.own ds) => m env fun d => match d with
    | .int j => (0 ≤ j ∧ j < ds.length ∧ ds.length ≤ 100000) ∧ D.nx (env.set i (.own (ds.eraseIdx j.toNat)))
    | _ => False
  | _ => False
theorem seqIx {n : Nat} {j : Int} (h : 0 ≤ j) (h2 : j < n) : seqIndex? j n = some j.toNat := by
  have e : ixN n j = some j.toNat := by
    unfold ixN
    rw [if_pos h, if_pos h2]
  exact (ixN_seq e).1
theorem ds_popAt {i : Nat} {m : ME} (h : PS X st (tDrop (tBM K "list" rPopAt (tVar i) (tCons (up K c m) tNil)))) : PS X st (upS K c (dPopAt i m)) := ps_mono h fun D σ H h => by
  obtain ⟨F, env, O, DD, R, hb, h1, h2, h3, h4⟩ := h
  unfold dPopAt at hb
  split at hb
  · rename_i ds hd
    obtain ⟨a, xs, e1, q2, q3, q5, q6, q7⟩ := R.sl i _ hd
    refine ⟨_, e1, .inl ⟨rfl, xs, SqL.of q6⟩, F, env, O, _, R, hb, fun d x H1 kd g1 da => ?_⟩
    split at kd
    · cases da
      rename_i j
      have R1 := R.gx g1
      have hl := daAll_len q7
      obtain ⟨⟨k1, k2, k3⟩, k4⟩ := kd
      have lt : j.toNat < xs.length := by omega
      exact ⟨a, xs, j, j.toNat, xs[j.toNat], rfl, rfl, g1.kp _ _ (R.n0 q3).2 q6, by omega, by omega, seqIx k1 (by omega), List.getElem?_eq_getElem lt, h1 _ O _ _ k4 (R1.mut hd e1 (daAll_erase _ (daAll_same (R.go g1) q7)))⟩
    · exact kd.elim
  · exact hb.elim
/-- x[i] = e -/
def dSetIx (i : Nat) (n m : ME) : MS := fun env D => m env fun d => match env[i]? with
  | some (.own ds) => n env fun z => match z with
    | .int j => (0 ≤ j ∧ j < ds.length) ∧ D.nx (env.set i (.own (ds.set j.toNat d)))
    | _ => False
  | _ => False
theorem ds_setIx {i : Nat} {n m : ME} (h : PS X st (tAsg (up K c m) (gSub (tVar i) (up K c n) rSetL))) : PS X st (upS K c (dSetIx i n m)) := ps_mono h fun D σ H h => by
  obtain ⟨F, env, O, DD, R, hb, h1, h2, h3, h4⟩ := h
  refine ⟨F, env, O, _, R, hb, fun d x H1 kd g1 da => ?_⟩
  have R1 := R.gx g1
  split at kd
  · rename_i ds hd
    obtain ⟨a, xs, e1, q2, q3, q5, q6, q7⟩ := R1.sl i _ hd
    refine ⟨_, e1, F, env, O, _, R1, kd, fun z y H2 kz g2 da2 => ?_⟩
    split at kz
    · cases da2
      rename_i j
      have R2 := R1.gx g2
      have hl := daAll_len q7
      obtain ⟨⟨k1, k2⟩, k4⟩ := kz
      refine ⟨a, xs, j, j.toNat, rfl, rfl, g2.kp _ _ (R1.n0 q3).2 q6, ?_, h1 _ O _ _ k4 (R2.mut hd e1 (daAll_set _ (daAll_same (R1.go g2) q7) (da_same (R1.go g2) da)))⟩
      unfold ixN
      rw [if_pos k1, if_pos (by omega)]
    · exact kz.elim
  · exact kd.elim
/-! ### loops -/
/-- the turns of a loop, one after the other -/
def dLoop (g : MG) (B : MS) (D : DE) : List PyData → List DV → Prop
  | [], env => D.nx env
  | d :: ds, env => g d env fun e1 => B e1 { nx := dLoop g B D ds, rt := D.rt, bk := D.nx, ct := dLoop g B D ds }
/-- .. by a word W of the turn and of what is known -/
def dLoopI (g : MG) (B : MS) (D : DE) (ds : List PyData) (env : List DV) : Prop := ∃ W : Nat → List DV → Prop, W 0 env ∧
  (∀ (i : Nat) d e, ds[i]? = some d → W i e → g d e fun e1 => B e1 { nx := W (i + 1), rt := D.rt, bk := D.nx, ct := W (i + 1) }) ∧ ∀ e, W ds.length e → D.nx e
theorem loopI_of {g : MG} {B : MS} {D : DE} {ds : List PyData} {env : List DV} (h : dLoop g B D ds env) : dLoopI g B D ds env := by
  refine ⟨fun i e => dLoop g B D (ds.drop i) e, h, fun i d e hd k => ?_, fun e k => ?_⟩
  · have lt := (List.getElem?_eq_some_iff.mp hd).1
    have ed : ds[i] = d := (List.getElem?_eq_some_iff.mp hd).2
    have k' : dLoop g B D (ds.drop i) e := k
    rw [List.drop_eq_getElem_cons lt, ed] at k'
    exact k'
  · have k' : dLoop g B D (ds.drop ds.length) e := k
    rw [List.drop_length] at k'
    exact k'
def dFor (mi : MI) (g : MG) (B : MS) : MS := fun env D => mi env fun ds => dLoopI g B D ds env
theorem ds_for {tg iter : Expr} {body : List Stmt} {mi : MI} {ss : List Nat} {g : MG} {B : MS} (hp : PassesOwn (model X.prog X.w) X.A X.env X.xe) (hc : X.calm = true) (hi : PI X tg iter (upI K c mi)) (hg : PG X tg (upG K c ss g)) (hb : PSs X body (upS K c B))
    (hs : ∀ x, foldedSetIterable iter X.env x = pure x := by intro _; rfl) : PS X (.For tg iter body [] pos) (upS K c (dFor mi g B)) := ps_mono (ps_for hp hc hi hg hb hs) fun D σ H ⟨F, env, O, DD, R, hm, h1, h2, h3, h4⟩ => by
  refine ⟨F, env, O, _, R, hm, fun ds J H1 kd gx W => ?_⟩
  have R1 := R.gx gx
  obtain ⟨V, v0, vs, vd⟩ := kd
  refine ⟨fun i m σ' H' => m = ds.length - i ∧ i ≤ ds.length ∧ ∃ env' O', Rel K c (offs O H1) env' O' σ' H' ∧ V i env', ⟨_, rfl, Nat.zero_le _, env, O, R1.fzn, v0⟩, ?_⟩
  rintro i m σ' H' ⟨rfl, hi', env', O', R', k'⟩
  obtain ⟨w1, w2⟩ := W O' H' R'.dom R'.fz
  by_cases lt : i < ds.length
  · obtain ⟨go, yl⟩ := w1 i ds[i] (List.getElem?_eq_getElem lt)
    refine .inr ⟨go, fun σ2 H2 => ∃ env2 O2, Rel K c (offs O H1) env2 O2 σ2 H2 ∧ V (i + 1) env2, fun σ2 H2 ⟨env2, O2, R2, k2⟩ => ⟨_, by omega, rfl, lt, env2, O2, R2, k2⟩, fun x H2 y => ?_⟩
    obtain ⟨s, da⟩ := yl x H2 y
    have R2 := R'.gx (R'.same s)
    refine ⟨_, env', O', _, _, R2, da, vs i _ env' (List.getElem?_eq_getElem lt) k', fun env3 σ3 k3 R3 _ _ => ⟨_, env3, O', _, R3, k3, fun env4 O4 σ4 H4 n R4 => ⟨env4, O4, R4, n⟩, fun env4 O4 σ4 H4 n R4 => h1 env4 O4 σ4 H4 n (R4.fzm R1.fz), fun env4 O4 σ4 H4 n R4 => ⟨env4, O4, R4, n⟩, h4⟩⟩
  · have z : i = ds.length := by omega
    subst z
    exact .inl ⟨w2, h1 env' O' σ' H' (vd env' k') (R'.fzm R1.fz)⟩
/-- while, by a word and a measure of what is known -/
def dWhile (t : MT) (B : MS) : MS := fun env D => ∃ W : Nat → List DV → Prop, (∃ m, W m env) ∧ ∀ m env, W m env → t env fun b => match b with
  | true => B env { nx := fun e => ∃ m', m' < m ∧ W m' e, rt := D.rt, bk := D.nx, ct := fun e => ∃ m', m' < m ∧ W m' e }
  | false => D.nx env
theorem ds_while {cn : Expr} {body : List Stmt} {t : MT} {B : MS} (hp : PassesOwn (model X.prog X.w) X.A X.env X.xe) (hc : PT X cn (upT K c t)) (hb : PSs X body (upS K c B)) : PS X (.While cn body [] pos) (upS K c (dWhile t B)) := ps_mono (ps_while hp hc hb) fun D σ H ⟨F, env, O, DD, R, hm, h1, h2, h3, h4⟩ => by
  obtain ⟨W, ⟨m0, w0⟩, turn⟩ := hm
  refine ⟨fun m σ' H' => ∃ env' O', Rel K c F env' O' σ' H' ∧ W m env', ⟨m0, env, O, R, w0⟩, ?_⟩
  rintro m σ' H' ⟨env', O', R', w⟩
  refine ⟨F, env', O', _, R', turn m env' w, fun b H2 kb g => ?_⟩
  have R2 := R'.gx g
  cases b with
  | true =>
    show ∃ N : L2.St → Hp → Prop, _ ∧ upS K c B _ σ' H2
    refine ⟨fun σ3 H3 => ∃ env3 O3, Rel K c F env3 O3 σ3 H3 ∧ ∃ m', m' < m ∧ W m' env3, fun σ3 H3 ⟨env3, O3, R3, m', lt, w3⟩ => ⟨m', lt, env3, O3, R3, w3⟩, F, env', O', _, R2, kb, fun env3 O3 σ3 H3 n R3 => ⟨env3, O3, R3, n⟩, h1, fun env3 O3 σ3 H3 n R3 => ⟨env3, O3, R3, n⟩, h4⟩
  | false =>
    show D.nx σ' H2
    exact h1 env' O' σ' H2 kb R2
/-! ### what a loop goes over -/
def miOf (m : ME) : MI := fun env k => m env fun d => match d with
  | .list ds => k ds
  | .tuple ds => k ds
  | _ => False
theorem walk_list {O : List Addr} {H : Hp} {a : Addr} {xs : List V} {ds : List PyData} (h : offs O H a = some (.lst xs)) (da : DaAll K (offs O H) xs ds) : Walk K O H (Itl K a) ds := fun O2 H2 _ s => by
  have e := (offs_some (s _ _ h)).2
  have da2 := daAll_same s da
  refine ⟨fun i d hd => ?_, xs, SqL.of e, Nat.le_of_eq (daAll_len da)⟩
  obtain ⟨v, hv, dv⟩ := daAll_at da2 hd
  exact ⟨⟨xs, v, SqL.of e, hv⟩, fun x H3 ⟨e3, y⟩ => by
    subst e3
    have z := y xs (SqL.of e)
    rw [hv] at z
    cases z
    exact ⟨Same.refl _, dv⟩⟩
theorem walk_tup {O : List Addr} {H : Hp} {a : Addr} {xs : List V} {ds : List PyData} (h : SqT K (offs O H) a xs) (da : DaAll K (offs O H) xs ds) : Walk K O H (Itt K a) ds := fun O2 H2 _ s => by
  have e : SqT K H2 a xs := Evl.ex_t offs_sub (Evl.ex_t s h)
  have da2 := daAll_same s da
  refine ⟨fun i d hd => ?_, xs, e, Nat.le_of_eq (daAll_len da)⟩
  obtain ⟨v, hv, dv⟩ := daAll_at da2 hd
  exact ⟨⟨xs, v, e, hv⟩, fun x H3 ⟨e3, y⟩ => by
    subst e3
    have z := y xs e
    rw [hv] at z
    cases z
    exact ⟨Same.refl _, dv⟩⟩
def miL (m : ME) : MI := fun env k => m env fun d => match d with
  | .list ds => k ds
  | _ => False
def miT (m : ME) : MI := fun env k => m env fun d => match d with
  | .tuple ds => k ds
  | _ => False
theorem di_list {tg l : Expr} {m : ME} (hK : X.K = K) (h : PE X l (up K c m)) : PI X tg l (upI K c (miL m)) := by
  subst hK
  refine pi_mono (pi_list h) fun σ H R ⟨F, env, O, k, RR, hm, q⟩ => ⟨F, env, O, _, RR, hm, fun d x H' kd g da => ?_⟩
  split at kd
  · obtain ⟨p, zs, rfl, f1, f2, f3⟩ := da_lst da
    exact ⟨p, rfl, ⟨zs, SqL.of (offs_some f1).2⟩, q _ _ H' kd g (walk_list f1 f3)⟩
  · exact kd.elim
theorem di_tup {tg l : Expr} {m : ME} (hK : X.K = K) (h : PE X l (up K c m)) : PI X tg l (upI K c (miT m)) := by
  subst hK
  refine pi_mono (pi_tup h) fun σ H R ⟨F, env, O, k, RR, hm, q⟩ => ⟨F, env, O, _, RR, hm, fun d x H' kd g da => ?_⟩
  split at kd
  · obtain ⟨p, zs, rfl, f1, f3⟩ := da_tup da
    exact ⟨p, rfl, ⟨zs, Evl.ex_t offs_sub f1⟩, q _ _ H' kd g (walk_tup f1 f3)⟩
  · exact kd.elim
def intsD (lo : Int) (n : Nat) : List PyData := (List.range n).map fun (i : Nat) => .int (lo + i)
theorem walk_rng {O : List Addr} {H : Hp} {lo : Int} {n : Nat} : Walk K O H (Itr lo n) (intsD lo n) := fun O2 H2 _ s => by
  have hl : (intsD lo n).length = n := by unfold intsD; rw [List.length_map, List.length_range]
  refine ⟨fun i d hd => ?_, by rw [hl]; exact Nat.le_refl n⟩
  have lt := (List.getElem?_eq_some_iff.mp hd).1
  rw [hl] at lt
  refine ⟨lt, fun x H3 ⟨e3, y⟩ => ?_⟩
  subst e3 y
  unfold intsD at hd
  rw [List.getElem?_map, List.getElem?_range lt] at hd
  cases hd
  exact ⟨Same.refl _, .int _⟩
def miR1 (ms : MA) : MI := fun env k => ms env fun as => match as with
  | [.v (.int j)] => (-1000000 ≤ j ∧ j ≤ 1000000) ∧ k (intsD 0 j.toNat)
  | _ => False
def miR2 (ms : MA) : MI := fun env k => ms env fun as => match as with
  | [.v (.int i), .v (.int j)] => (-1000000 ≤ i ∧ i ≤ 1000000 ∧ -1000000 ≤ j ∧ j ≤ 1000000) ∧ k (intsD i (j - i).toNat)
  | _ => False
theorem di_range1 {tg a : Expr} {ms : MA} {p pos : Pos} (hg : Gl X "range") (hm : X.mg "range" = Option.none) (ha : PA X [a] (upA K c ms)) (hs : starEach [a] X.env = [(false, eval a X.env)] := by rfl) : PI X tg (.Call (.Name "range" p) [a] [] pos) (upI K c (miR1 ms)) :=
  pi_mono (pi_range1 hg hm ha hs) fun σ H R ⟨F, env, O, k, RR, hm, q⟩ => ⟨F, env, O, _, RR, hm, fun as xs H' kd g ps => by
    split at kd
    · rename_i j
      cases ps with
      | cons r t =>
        cases t
        have r' : Da K (offs O H') _ (.int j) := r
        cases r'
        exact ⟨j, rfl, by omega, by omega, q _ _ H' kd.2 g walk_rng⟩
    · exact kd.elim⟩
theorem di_range2 {tg a b : Expr} {ms : MA} {p pos : Pos} (hg : Gl X "range") (hm : X.mg "range" = Option.none) (ha : PA X [a, b] (upA K c ms)) (hs : starEach [a, b] X.env = [(false, eval a X.env), (false, eval b X.env)] := by rfl) (hs2 : starEach [b] X.env = [(false, eval b X.env)] := by rfl) :
    PI X tg (.Call (.Name "range" p) [a, b] [] pos) (upI K c (miR2 ms)) := pi_mono (pi_range2 hg hm ha hs hs2) fun σ H R ⟨F, env, O, k, RR, hm, q⟩ => ⟨F, env, O, _, RR, hm, fun as xs H' kd g ps => by
    split at kd
    · rename_i i j
      cases ps with
      | cons r t =>
        cases t with
        | cons r2 t =>
          cases t
          have r' : Da K (offs O H') _ (.int i) := r
          have r2' : Da K (offs O H') _ (.int j) := r2
          cases r'
          cases r2'
          exact ⟨i, j, rfl, ⟨by omega, by omega, by omega, by omega⟩, q _ _ H' kd.2 g walk_rng⟩
    · exact kd.elim⟩
end
end Du

/-! Readings on data: comprehensions, calls, defs. -/
namespace Du
open PySem PySem.Spec PyProof.Rows L2 On
section
variable {K : PySem.W.Frag} {c : Bs} {X : Cx} {e : Expr} {pos : Pos} {st : Stmt} {rest : List Stmt}
/-! ### comprehensions -/
def wipeE (env : List DV) : List Nat → List DV
  | [] => env
  | v :: vs => (wipeE env vs).set v .un
section
variable {F : Hp} {env : List DV} {O : List Addr} {σ : L2.St} {H : Hp}
theorem Rel.un (R : Rel K c F env O σ H) (i : Nat) (x : Option V) : Rel K c F (env.set i .un) O (σ.set i x) H :=
  { R with
    sl := fun j e he => by
      by_cases hj : j = i
      · subst hj
        by_cases hl : j < env.length
        · rw [List.getElem?_set_self hl] at he
          cases he
          trivial
        · rw [List.getElem?_eq_none (by rw [List.length_set]; omega)] at he
          cases he
      · rw [List.getElem?_set_ne (Ne.symm hj)] at he ⊢
        exact R.sl j e he
    ap := fun j k ds es a hjk h1 h2 h3 => by
      by_cases hj : j = i
      · subst hj
        by_cases hl : j < env.length
        · rw [List.getElem?_set_self hl] at h1
          cases h1
        · rw [List.getElem?_eq_none (by rw [List.length_set]; omega)] at h1
          cases h1
      · by_cases hk : k = i
        · subst hk
          by_cases hl : k < env.length
          · rw [List.getElem?_set_self hl] at h2
            cases h2
          · rw [List.getElem?_eq_none (by rw [List.length_set]; omega)] at h2
            cases h2
        · rw [List.getElem?_set_ne (Ne.symm hj)] at h1 h3
          rw [List.getElem?_set_ne (Ne.symm hk)] at h2 ⊢
          exact R.ap j k ds es a hjk h1 h2 h3
    len := by rw [List.length_set, List.length_set, R.len] }
theorem Rel.wipe (R : Rel K c F env O σ H) : ∀ vs : List Nat, Rel K c F (wipeE env vs) O (L2.wipe σ vs) H
  | [] => R
  | v :: vs => (R.wipe vs).un v Option.none
/-- a thing that is made apart -/
theorem Rel.acc (R : Rel K c F env O σ H) {D : Addr} {o : HO} (n : H D = Option.none) : Rel K c F env (D :: O) σ (upd H D o) where
  dom := fun a h => by
    by_cases z : a = D
    · exact ⟨o, by rw [z, upd_same]⟩
    · rw [upd_ne z]
      exact R.dom a ((List.mem_cons.mp h).resolve_left z)
  sub := fun a h => List.mem_cons_of_mem _ (R.sub a h)
  ent := R.ent
  but := fun a u nb e => Evl.Ex.new n _ _ (R.but a u nb e)
  bg := fun a h => ⟨(R.bg a h).1, (R.bg a h).2.1.same (Evl.Ex.new n), fun z => by
    rcases List.mem_cons.mp z with z | z
    · obtain ⟨⟨_, _, _, cs, _, e2, _⟩, _⟩ := (R.bg a h).2.1
      rw [z, n] at e2
      cases e2
    · exact (R.bg a h).2.2 z⟩
  sys := by
    obtain ⟨φ, e⟩ := R.sys
    exact ⟨φ, Evl.Ex.new n _ _ e⟩
  nsys := fun z => by
    rcases List.mem_cons.mp z with z | z
    · obtain ⟨φ, e⟩ := R.sys
      rw [z, n] at e
      cases e
    · exact R.nsys z
  fz := R.fz.trans (offs_new n (Evl.Ex.new n))
  sl := fun j e he => by
    have k : Same (offs O H) (offs (D :: O) (upd H D o)) := offs_new n (Evl.Ex.new n)
    have q := R.sl j e he
    cases e with
    | un => trivial
    | v d =>
      obtain ⟨x, h1, h2⟩ := q
      exact ⟨x, h1, da_same k h2⟩
    | own ds =>
      obtain ⟨a, xs, h1, h2, h3, h5, h6, h7⟩ := q
      exact ⟨a, xs, h1, List.mem_cons_of_mem _ h2, h3, h5, Evl.Ex.new n _ _ h6, daAll_same k h7⟩
    | bag => exact q
  ap := R.ap
  len := R.len
theorem Rel.turn (R : Rel K c F env O σ H) {D : Addr} {o : HO} {xs : List V} (hO : D ∈ O) (hD : H D = some (.lst xs)) (n0 : c.H0 D = Option.none) (ho : ∀ (i : Nat) ds, env[i]? = some (.own ds) → σ[i]? ≠ some (some (.ref D))) : Rel K c F env O σ (upd H D o) where
  dom := fun a h => by
    by_cases z : a = D
    · exact ⟨o, by rw [z, upd_same]⟩
    · rw [upd_ne z]
      exact R.dom a h
  sub := R.sub
  ent := R.ent
  but := fun a u nb e => by
    rw [upd_ne (fun z => by rw [z, n0] at e; cases e)]
    exact R.but a u nb e
  bg := fun a h => ⟨(R.bg a h).1, (R.bg a h).2.1.upd (fun z => (R.n0 n0).2 (by rw [z]; exact h)) (fun z => (R.bg a h).2.2 (by rw [← z]; exact hO)) hD, (R.bg a h).2.2⟩
  sys := by
    obtain ⟨φ, e⟩ := R.sys
    refine ⟨φ, ?_⟩
    rw [upd_ne (fun z => R.nsys (by rw [z]; exact hO))]
    exact e
  nsys := R.nsys
  fz := R.fz.trans (offs_same (fun b u n e => by rw [upd_ne (fun z => n (by rw [z]; exact hO))]; exact e) fun _ z _ => z)
  sl := fun j e he => by
    have k : Same (offs O H) (offs O (upd H D o)) := offs_same (fun b u n e => by rw [upd_ne (fun z => n (by rw [z]; exact hO))]; exact e) fun _ z _ => z
    have q := R.sl j e he
    cases e with
    | un => trivial
    | v d =>
      obtain ⟨x, h1, h2⟩ := q
      exact ⟨x, h1, da_same k h2⟩
    | own ds =>
      obtain ⟨a, xs', h1, h2, h3, h5, h6, h7⟩ := q
      exact ⟨a, xs', h1, h2, h3, h5, by rw [upd_ne (fun z => ho j ds he (by rw [h1, z]))]; exact h6, daAll_same k h7⟩
    | bag => exact q
  ap := R.ap
  len := R.len
end
theorem wipe_get {σ : L2.St} : ∀ {vs : List Nat} {j : Nat}, (wipe σ vs)[j]? = if j ∈ vs then (if j < σ.length then some Option.none else Option.none) else σ[j]?
  | [], j => by simp [wipe]
  | v :: vs, j => by
    rw [wipe]
    by_cases h : j = v
    · subst h
      rw [if_pos List.mem_cons_self]
      by_cases hl : j < σ.length
      · rw [List.getElem?_set_self (by rw [wipe_length]; exact hl), if_pos hl]
      · rw [List.getElem?_eq_none (by rw [List.length_set, wipe_length]; omega), if_neg hl]
    · rw [List.getElem?_set_ne (Ne.symm h), wipe_get]
      by_cases hm : j ∈ vs
      · rw [if_pos hm, if_pos (List.mem_cons_of_mem _ hm)]
      · rw [if_neg hm, if_neg (fun z => (List.mem_cons.mp z).elim h hm)]
theorem wipe_same {σ σ2 : L2.St} {vs : List Nat} (h : ∀ j : Nat, j ∉ vs → σ2[j]? = (wipe σ vs)[j]?) (hl : σ2.length = (wipe σ vs).length) : wipe σ2 vs = wipe σ vs := by
  refine List.ext_getElem? fun j => ?_
  rw [wipe_get]
  rw [wipe_length] at hl
  by_cases hj : j ∈ vs
  · rw [if_pos hj, wipe_get, if_pos hj, hl]
  · rw [if_neg hj, h j hj]
def lcGo (g : MG) (mt : MT) (me : ME) (env : List DV) : List PyData → List PyData → (PyData → Prop) → Prop
  | acc, [], k => k (.list acc)
  | acc, d :: ds, k => g d env fun e1 => mt e1 fun b => match b with
    | true => acc.length < 100000 ∧ me e1 fun r => lcGo g mt me env (acc ++ [r]) ds k
    | false => lcGo g mt me env acc ds k
def mLc (mi : MI) (g : MG) (mt : MT) (me : ME) (vs : List Nat) : ME := fun env k => mi env fun ds => lcGo g mt me (wipeE env vs) [] ds k
def mYes : MT := fun _ k => k true
theorem dts_nil : PTs X [] (upT K c mYes) := ⟨fun pins s σ H Q I ⟨F, env, O, k, R, hm, q⟩ => pts_nil.run pins s σ H Q I (q _ _ hm R.refl)⟩
theorem dts_one {cn : Expr} {t : MT} (h : PT X cn (upT K c t)) : PTs X [cn] (upT K c t) := pts_one h
theorem up_lc {mi : MI} {ss : List Nat} {g : MG} {mt : MT} {me : ME} {vs : List Nat} (hss : ∀ j ∈ ss, j ∈ vs) (σ : L2.St) (H : Hp) (Q : VK) (h : upL K c (mLc mi g mt me vs) σ H Q) : tLc (upI K c mi) (upG K c ss g) (upT K c mt) (up K c me) vs σ H Q := by
  obtain ⟨F, env, O, k, R, hm, q⟩ := h
  refine ⟨F, env, O, _, R, hm, fun ds J H1 kd gx W D nD => ?_⟩
  have R1 := R.gx gx
  have nO : D ∉ O := fun z => by
    obtain ⟨o, eo⟩ := R1.dom D z
    rw [nD] at eo
    cases eo
  have n0 : c.H0 D = Option.none := R1.h0 nD
  have nb : D ∉ c.b := (R1.n0 n0).2
  have nsys : D ≠ sysModules := fun z => by
    obtain ⟨φ, e⟩ := R1.sys
    rw [← z, nD] at e
    cases e
  have nH : H D = Option.none := by
    cases e : H D with
    | none => rfl
    | some o =>
      have z := gx.kp D o nb e
      rw [nD] at z
      cases z
  have own1 : ∀ (i : Nat) ds, (wipeE env vs)[i]? = some (.own ds) → (wipe σ vs)[i]? ≠ some (some (.ref D)) := fun i ds hi z => by
    obtain ⟨a, xs, h1, h2, _⟩ := (R1.wipe vs).sl i _ hi
    rw [z] at h1
    cases h1
    exact nO h2
  refine ⟨fun i m H' => m = ds.length - i ∧ i ≤ ds.length ∧ ∃ acc ys, H' D = some (.lst ys) ∧ DaAll K (offs (D :: O) H') ys acc ∧ Rel K c F (wipeE env vs) (D :: O) (wipe σ vs) H' ∧ Gx c H1 H' ∧ Same (offs O H1) (offs (D :: O) H') ∧ lcGo g mt me (wipeE env vs) acc (ds.drop i) k,
    ⟨_, rfl, Nat.zero_le _, [], [], upd_same, .nil, (R1.wipe vs).acc nD, R1.same (Evl.Ex.new nD), offs_new nD (Evl.Ex.new nD), kd⟩, ?_⟩
  rintro i m H' ⟨rfl, hi, acc, ys, hy, da, R', g', s', k'⟩
  obtain ⟨w1, w2⟩ := W (D :: O) H' R'.dom s'
  by_cases lt : i < ds.length
  · obtain ⟨go, yl⟩ := w1 i ds[i] (List.getElem?_eq_getElem lt)
    rw [List.drop_eq_getElem_cons lt] at k'
    refine .inr ⟨go, fun H' => ∃ acc ys, H' D = some (.lst ys) ∧ DaAll K (offs (D :: O) H') ys acc ∧ Rel K c F (wipeE env vs) (D :: O) (wipe σ vs) H' ∧ Gx c H1 H' ∧ Same (offs O H1) (offs (D :: O) H') ∧ lcGo g mt me (wipeE env vs) acc (ds.drop (i + 1)) k,
      fun H2 hh => ⟨_, by omega, rfl, lt, hh⟩, fun x H2 y => ?_⟩
    obtain ⟨s, dx⟩ := yl x H2 y
    have g2 := R'.same s
    have R2 := R'.gx g2
    refine ⟨F, _, D :: O, _, _, R2, dx, k', fun e1 σ2 k2 R3 f l => ⟨wipe_same (fun j hj => f j fun z => hj (hss j z)) l, F, e1, D :: O, _, R3, k2, fun b H3 kb g3 => ?_⟩⟩
    have R4 := R3.gx g3
    cases b with
    | true =>
      show up K c me σ2 H3 _
      refine ⟨F, e1, D :: O, _, R4, kb.2, fun r v H4 kr g4 dv => ?_⟩
      have gg := (g2.trans g3).trans g4
      have hy4 := gg.kp _ _ nb hy
      have R5 := R'.gx gg
      have hl := daAll_len da
      have hlt : acc.length < 100000 := kb.1
      have k5 : Same (offs (D :: O) H4) (offs (D :: O) (upd H4 D (.lst (ys ++ [v])))) := offs_same (fun b u n e => by rw [upd_ne (fun z => n (by rw [z]; exact List.mem_cons_self))]; exact e) fun _ z _ => z
      have da4 := daAll_same (R'.go gg) da
      refine ⟨ys, hy4, Evl.sz_lt (by omega), acc ++ [r], ys ++ [v], upd_same, daAll_same k5 (daAll_app da4 (.cons dv .nil)), R5.turn List.mem_cons_self hy4 n0 own1, ⟨fun a o n e => ?_, fun a h => ?_⟩, ?_, kr⟩
      · rw [upd_ne (fun z => by rw [z, nD] at e; cases e)]
        exact gg.kp a o n (g'.kp a o n e)
      · exact ((R5.turn (o := .lst (ys ++ [v])) List.mem_cons_self hy4 n0 own1).bg a h).2.1
      · exact (s'.trans (R'.go gg)).trans k5
    | false =>
      have gg := g2.trans g3
      exact ⟨acc, ys, gg.kp _ _ nb hy, daAll_same (R'.go gg) da, R'.gx gg, g'.trans gg, s'.trans (R'.go gg), kb⟩
  · have z : i = ds.length := by omega
    subst z
    rw [List.drop_length] at k'
    exact .inl ⟨w2, q _ D ys acc H' k' rfl (gx.trans g') nH hy nsys da⟩
theorem de_lc {elt tg iter : Expr} {ifs : List Expr} {scope : Scope} {own : List (Str × Nat)} {mi : MI} {ss : List Nat} {g : MG} {mt : MT} {me : ME} (hc : X.calm = true) (hN : X.N.Nodup) (hi : PI X tg iter (upI K c mi)) (ok : BlkOk X.N X.env.scope scope own)
    (hg : ∀ (s : Shared) (H : Hp) (C : Addr) (cl : List (Str × Addr)) (fp : List Addr), PG (X.blk s H scope (compEnvC scope cl C X.env) fp) tg (upG K c ss g)) (ht : ∀ (s : Shared) (H : Hp) (C : Addr) (cl : List (Str × Addr)) (fp : List Addr), PTs (X.blk s H scope (compEnvC scope cl C X.env) fp) ifs (upT K c mt))
    (he : ∀ (s : Shared) (H : Hp) (C : Addr) (cl : List (Str × Addr)) (fp : List Addr), PE (X.blk s H scope (compEnvC scope cl C X.env) fp) elt (up K c me)) (hss : ∀ j ∈ ss, j ∈ own.map (·.2)) (hs : ∀ x, foldedSetIterable iter X.env x = pure x := by intro _; rfl) :
    PE X (.ListComp elt [⟨tg, iter, ifs, 0⟩] scope pos) (upL K c (mLc mi g mt me (own.map (·.2)))) := pe_mono (pe_lc hc hN hi ok hg ht he hs) (up_lc hss)
/-- name = [..] on one line -/
theorem ds_setLc {i : Nat} {y : Str} {py : Pos} {elt tg iter : Expr} {ifs : List Expr} {scope : Scope} {own : List (Str × Nat)} {spos : Pos} {mi : MI} {ss : List Nat} {g : MG} {mt : MT} {me : ME} (hc : X.calm = true) (hN : X.N.Nodup) (hy : X.N[i]? = some y) (hyl : X.env.scope.names.lookup y = some .local)
    (hsw : swapsWith (.ListComp elt [⟨tg, iter, ifs, 0⟩] scope pos) (some (.Name y py)) spos.line X.env = pure true) (hi : PI X tg iter (upI K c mi)) (ok : BlkOk X.N X.env.scope scope own)
    (hg : ∀ (s : Shared) (H : Hp) (C : Addr) (cl : List (Str × Addr)) (fp : List Addr), PG (X.blk s H scope (compEnvC scope cl C X.env) fp) tg (upG K c ss g)) (ht : ∀ (s : Shared) (H : Hp) (C : Addr) (cl : List (Str × Addr)) (fp : List Addr), PTs (X.blk s H scope (compEnvC scope cl C X.env) fp) ifs (upT K c mt))
    (he : ∀ (s : Shared) (H : Hp) (C : Addr) (cl : List (Str × Addr)) (fp : List Addr), PE (X.blk s H scope (compEnvC scope cl C X.env) fp) elt (up K c me)) (hss : ∀ j ∈ ss, j ∈ own.map (·.2)) (hs : ∀ x, foldedSetIterable iter X.env x = pure x := by intro _; rfl) :
    PS X (.Assign [.Name y py] (.ListComp elt [⟨tg, iter, ifs, 0⟩] scope pos) spos) (upS K c (dAsgL i (mLc mi g mt me (own.map (·.2))))) := ps_mono (ps_setLc hc hN hy hyl hsw hi ok hg ht he hs) fun D σ H h => by
  obtain ⟨F, env, O, DD, R, hb, h1, h2, h3, h4⟩ := h
  refine up_lc hss σ H _ ⟨F, env, O, _, R, hb, fun d p ys ds H' kd ed g n ep hp da => ?_⟩
  subst ed
  exact h1 _ _ _ H' kd (R.setL i g n ep hp da)
/-- .. held as data -/
theorem ds_setLcV {i : Nat} {y : Str} {py : Pos} {elt tg iter : Expr} {ifs : List Expr} {scope : Scope} {own : List (Str × Nat)} {spos : Pos} {mi : MI} {ss : List Nat} {g : MG} {mt : MT} {me : ME} (hc : X.calm = true) (hN : X.N.Nodup) (hy : X.N[i]? = some y) (hyl : X.env.scope.names.lookup y = some .local)
    (hsw : swapsWith (.ListComp elt [⟨tg, iter, ifs, 0⟩] scope pos) (some (.Name y py)) spos.line X.env = pure true) (hi : PI X tg iter (upI K c mi)) (ok : BlkOk X.N X.env.scope scope own)
    (hg : ∀ (s : Shared) (H : Hp) (C : Addr) (cl : List (Str × Addr)) (fp : List Addr), PG (X.blk s H scope (compEnvC scope cl C X.env) fp) tg (upG K c ss g)) (ht : ∀ (s : Shared) (H : Hp) (C : Addr) (cl : List (Str × Addr)) (fp : List Addr), PTs (X.blk s H scope (compEnvC scope cl C X.env) fp) ifs (upT K c mt))
    (he : ∀ (s : Shared) (H : Hp) (C : Addr) (cl : List (Str × Addr)) (fp : List Addr), PE (X.blk s H scope (compEnvC scope cl C X.env) fp) elt (up K c me)) (hss : ∀ j ∈ ss, j ∈ own.map (·.2)) (hs : ∀ x, foldedSetIterable iter X.env x = pure x := by intro _; rfl) :
    PS X (.Assign [.Name y py] (.ListComp elt [⟨tg, iter, ifs, 0⟩] scope pos) spos) (upS K c (dAsg (mLc mi g mt me (own.map (·.2))) (gNm i))) := ps_mono (ps_setLc hc hN hy hyl hsw hi ok hg ht he hs) fun D σ H h => by
  obtain ⟨F, env, O, DD, R, hb, h1, h2, h3, h4⟩ := h
  refine up_lc hss σ H _ ⟨F, env, O, _, R, hb, fun d p ys ds H' kd ed g n ep hp da => ?_⟩
  subst ed
  have pO : p ∉ O := fun z => by
    obtain ⟨o, eo⟩ := R.dom p z
    rw [n] at eo
    cases eo
  exact h1 _ O _ H' kd ((R.gx g).set i (.lst (by rw [offs_ne pO]; exact ep) hp (daAll_same (offs_less fun a z => List.mem_cons_of_mem _ z) da)))
/-! ### defs -/
def ArgB (K : PySem.W.Frag) (b : List Addr) (O : List Addr) (H : Hp) (x : V) : DV → Prop
  | .v d => Da K (offs O H) x d
  | .bag => ∃ a, x = .ref a ∧ b = [a]
  | _ => False
/-- a def of n parameters that does f on data -/
def spF (K : PySem.W.Frag) (n : Nat) (f : List DV → (PyData → Prop) → Prop) : Sp := fun vs H Q _ => ∃ (O b : List Addr) (l : Addr) (as : List DV) (k : PyData → Prop),
  (∀ a ∈ O, ∃ o, H a = some o) ∧ (∀ a ∈ b, a ∈ O ∧ Bag H a l ∧ l ∉ O) ∧ Sys H ∧ sysModules ∉ O ∧ Paired (ArgB K b O H) vs as ∧ as.length = n ∧ f as k ∧
  ∀ d x H', k d → (∀ a o, a ∉ b → H a = some o → H' a = some o) → (∀ a ∈ b, Bag H' a l) → Da K (offs O H') x d → Q x H'
def mCall (n : Nat) (f : List DV → (PyData → Prop) → Prop) (ms : MA) : ME := fun env k => ms env fun as => as.length = n ∧ f as k
theorem paired_argb {O : List Addr} {H : Hp} : ∀ {xs : List V} {as : List DV}, Paired (ArgR K c O H) xs as → Paired (ArgB K c.b O H) xs as
  | _, _, .nil => .nil
  | _, _, .cons (b := dv) r t => .cons (by
      cases dv with
      | v d => exact r
      | bag => exact r
      | _ => exact r) (paired_argb t)
theorem up_call {n : Nat} {f : List DV → (PyData → Prop) → Prop} {ms : MA} {E : XK} (σ : L2.St) (H : Hp) (Q : VK) (h : up K c (mCall n f ms) σ H Q) : tCall (spF K n f) [] E (upA K c ms) σ H Q := by
  obtain ⟨F, env, O, k, R, hm, q⟩ := h
  refine ⟨F, env, O, _, R, hm, fun as xs H' kd g ps => ?_⟩
  have R' := R.gx g
  refine ⟨O, c.b, c.l, as, k, R'.dom, fun a h => ⟨R'.bO a h, (R'.bg a h).2⟩, R'.sys, R'.nsys, by rw [List.append_nil]; exact paired_argb ps, kd.1, kd.2, fun d x H2 kx k1 k2 da => q d x H2 kx (g.trans ⟨k1, k2⟩) da⟩
theorem de_call {n : Nat} {f : List DV → (PyData → Prop) → Prop} {ms : MA} {E : XK} (h : PE X e (tCall (spF K n f) [] E (upA K c ms))) : PE X e (up K c (mCall n f ms)) := pe_mono h up_call
theorem paired_get {α β : Type} {R : α → β → Prop} : ∀ {xs : List α} {ys : List β} {i : Nat} {y : β}, Paired R xs ys → ys[i]? = some y → ∃ x, xs[i]? = some x ∧ R x y
  | _, _, _, _, .nil, e => by simp at e
  | _, _, 0, _, .cons r _, e => by
    simp at e
    subst e
    exact ⟨_, rfl, r⟩
  | _, _, i + 1, _, .cons _ t, e => by
    obtain ⟨x, h1, h2⟩ := paired_get (i := i) t (by simpa using e)
    exact ⟨x, by simpa using h1, h2⟩
def envOf (N : List Str) (as : List DV) : List DV := as ++ List.replicate (N.length - as.length) .un
theorem rel_start {N : List Str} {H : Hp} {O b : List Addr} {l : Addr} {vs : List V} {as : List DV} (h1 : ∀ a ∈ O, ∃ o, H a = some o) (h2 : ∀ a ∈ b, a ∈ O ∧ Bag H a l ∧ l ∉ O) (h3 : Sys H) (h4 : sysModules ∉ O) (h5 : Paired (ArgB K b O H) vs as) :
    Rel K ⟨H, O, b, l⟩ (offs O H) (envOf N as) O (L2.start N vs) H where
  dom := h1
  sub := fun _ h => h
  ent := h1
  but := fun _ _ _ e => e
  bg := h2
  sys := h3
  nsys := h4
  fz := fun _ _ e => e
  sl := fun i e he => by
    have hl := h5.length
    by_cases lt : i < as.length
    · unfold envOf at he
      rw [List.getElem?_append_left lt] at he
      obtain ⟨x, hx, r⟩ := paired_get h5 he
      have es : (L2.start N vs)[i]? = some (some x) := by
        unfold L2.start
        rw [List.getElem?_append_left (by rw [List.length_map]; omega), List.getElem?_map, hx]
        rfl
      cases e with
      | un => trivial
      | v d => exact ⟨x, es, r⟩
      | own ds => exact r.elim
      | bag =>
        obtain ⟨a, rfl, hb⟩ := r
        exact ⟨a, es, hb⟩
    · unfold envOf at he
      rw [List.getElem?_append_right (by omega)] at he
      rw [List.getElem?_replicate] at he
      split at he
      · cases he
        trivial
      · cases he
  ap := fun i j ds es a _ hi _ _ => by
    exfalso
    by_cases lt : i < as.length
    · unfold envOf at hi
      rw [List.getElem?_append_left lt] at hi
      obtain ⟨x, hx, r⟩ := paired_get h5 hi
      exact r
    · unfold envOf at hi
      rw [List.getElem?_append_right (by omega), List.getElem?_replicate] at hi
      split at hi
      · cases hi
      · cases hi
  len := by
    unfold L2.start envOf
    rw [List.length_append, List.length_append, List.length_map, List.length_replicate, List.length_replicate, h5.length]
/-- the rule for a def: its body B does f -/
theorem okD {P : Program} {w : World} {mg : Str → Option Value} {base : Heap} {k : Nat} {f : Addr} {fd : FuncData} {N ps : List Str} {x qual : Str} {st : Stmt} {m : List DV → (PyData → Prop) → Prop} {B : MS} (F : Fun K x qual st f fd) (S : FnScope N ps (defScope st))
    (hb : ∀ (c : Bs) (cdv : Value) (A : Around) (outer : List Env) (s : Shared) (H : Hp) (E : XK), A.guards = some [] → Room k (A.deeper (envOfC qual (defScope st) s.heap.objs.size f cdv)) →
      PSs (cxOf CX0 P w K mg base N qual (defScope st) f cdv A outer s H E).nox (defBody st) (upS K c B))
    (hm : ∀ as q, as.length = ps.length → m as q → B (envOf N as) { nx := fun _ => q .none, rt := q }) : FnG P w K mg base (k + 1) f fd ps (spF K ps.length m) := by
  refine okG F S (fun vs H Q E h => ?_) (fun cdv A' outer s H vs Q E hg hr h => ?_)
  · obtain ⟨O, b, l, as, q, _, _, _, _, h5, h6, _⟩ := h
    rw [h5.length, h6]
  · obtain ⟨O, b, l, as, q, h1, h2, h3, h4, h5, h6, h7, h8⟩ := h
    refine ⟨_, hb ⟨H, O, b, l⟩ cdv A' outer s H E hg hr, _, _, O, _, rel_start h1 h2 h3 h4 h5, hm as q h6 h7, ?_, ?_, ?_, ?_⟩
    · intro env' O' σ' H' n R
      exact h8 _ _ H' n R.but (fun a h => (R.bg a h).2.1) .non
    · exact fun _ _ _ _ z => z.elim
    · exact fun _ _ _ _ z => z.elim
    · intro d x H' kd r
      exact h8 d x H' kd r.but r.bg r.da
end
end Du

/-! == of data, one side of which is made of ints and tuples: the other may hold dicts. -/
namespace PySem.SeqAt
open AutoSeq1 (wpAny_loadPart')
open MeetsSeq
theorem dict_eq_declines_int (l : Addr) (es : Array DictEntry) (ep : Nat) (dd : Option Addr) (sl : Array (Option Value)) (b : Int) (u : Tok) :
    Meets (Builtin.«dict.__eq__» ⟨[.ref l, .int b u], []⟩) (fun _ R s => s.heap.get? l = some { cls := .type "dict", dict := dd, data := .dict es ep, slots := sl } ∧ R (.ok (.ret .notImplemented)) s) :=
  .of_wp fun prog w A R s h => by obtain ⟨hp, g, d, tk, os⟩ := s; obtain ⟨hl, h⟩ := h; have f1 := F.sub_int_dict; wp_walk using wpAny_loadPart' hl, wpAny_load hl; exact ⟨_, rfl, h⟩
theorem dict_eq_declines_tuple (l b : Addr) (es : Array DictEntry) (ep : Nat) (dd dd2 : Option Addr) (sl sl2 : Array (Option Value)) (items : Array Value) (n : Nat) :
    Meets (Builtin.«dict.__eq__» ⟨[.ref l, .ref b], []⟩) (fun _ R s => s.heap.get? l = some { cls := .type "dict", dict := dd, data := .dict es ep, slots := sl } ∧ s.heap.get? b = some { cls := .type "tuple", dict := dd2, data := .seq items n, slots := sl2 } ∧ R (.ok (.ret .notImplemented)) s) :=
  .of_wp fun prog w A R s h => by obtain ⟨hp, g, d, tk, os⟩ := s; obtain ⟨hl, hb, h⟩ := h; have f1 := F.sub_tuple_dict; wp_walk using wpAny_loadPart' hl, wpAny_loadPart' hb, wpAny_load hl, wpAny_load hb; exact ⟨_, rfl, h⟩
theorem tuple_eq_declines_dict (l b : Addr) (es : Array DictEntry) (ep : Nat) (dd dd2 : Option Addr) (sl sl2 : Array (Option Value)) (items : Array Value) (n : Nat) :
    Meets (Builtin.«tuple.__eq__» ⟨[.ref b, .ref l], []⟩) (fun _ R s => s.heap.get? l = some { cls := .type "dict", dict := dd, data := .dict es ep, slots := sl } ∧ s.heap.get? b = some { cls := .type "tuple", dict := dd2, data := .seq items n, slots := sl2 } ∧ R (.ok (.ret .notImplemented)) s) :=
  .of_wp fun prog w A R s h => by obtain ⟨hp, g, d, tk, os⟩ := s; obtain ⟨hl, hb, h⟩ := h; have f1 := F.sub_dict_tuple; wp_walk using wpAny_loadPart' hl, wpAny_loadPart' hb, wpAny_load hl, wpAny_load hb; exact ⟨_, rfl, h⟩
theorem int_eq_declines_dict (b : Int) (u : Tok) (l : Addr) (es : Array DictEntry) (ep : Nat) (dd : Option Addr) (sl : Array (Option Value)) :
    Meets (Builtin.«int.__eq__» ⟨[.int b u, .ref l], []⟩) (fun _ R s => s.heap.get? l = some { cls := .type "dict", dict := dd, data := .dict es ep, slots := sl } ∧ R (.ok (.ret .notImplemented)) s) :=
  .of_wp fun prog w A R s h => by obtain ⟨hp, g, d, tk, os⟩ := s; obtain ⟨hl, h⟩ := h; wp_walk using wpAny_loadPart' hl, wpAny_load hl; exact ⟨_, rfl, h⟩
/-- a dict -/
def IsD (h : Heap) (l : Addr) : Prop := ∃ o es n, h.get? l = some o ∧ o.cls = .type "dict" ∧ o.data = .dict es n
section
variable {A : Around} {s : Shared}
theorem RcAt.dict_int {l : Addr} (b : Int) (u : Tok) (hl : IsD s.heap l) (hu : A.units < cLine) : RcAt A s (.ref l) (.int b u) false := fun prog w E Q h => by
  obtain ⟨⟨cls, dd, data, sl⟩, es, n, ho, hc, hd⟩ := id hl
  simp only at hc hd
  subst hc hd
  exact rc_eq_decline_or (k := false) ⟨_, ho, rfl⟩ (typeIs_int s b u) (by decide) F.sub_int_dict F.slot_dict_eq F.slot_int_eq_refl
    (fun _ hq => call_meets F.slot_dict_eq ⟨_, ho, rfl⟩ F.entry_dict_eq (F.args_dict_eq_2 _ _) (dict_eq_declines_int l es n dd sl b u) ⟨ho, hq⟩)
    (fun _ hq => call_meets F.slot_int_eq_refl (typeIs_int s b u) F.entry_int_eq (F.args_int_eq_2 _ _) (int_eq_declines_dict b u l es n dd sl) ⟨ho, hq⟩)
    (fun _ hq => wpAny_of_eq (rfl : isSame (.ref l) (.int b u) = pure false) hq) (.inr hu) h
theorem EqAt.dict_int {l : Addr} (b : Int) (u : Tok) (hl : IsD s.heap l) (hu : A.units < cLine) : EqAt A s (.ref l) (.int b u) false := fun prog w E Q h => by
  unfold eqBool
  refine wpAny_holding ?_
  refine wpAny_ite_split (fun hab => absurd (eq_of_beq hab) nofun) (fun _ => ?_)
  exact wpAny_bind (RcAt.dict_int b u hl hu prog w E _ (wpAny_truthy_bool h))
theorem RcAt.int_dict {l : Addr} (b : Int) (u : Tok) (hl : IsD s.heap l) (hu : A.units < cLine) : RcAt A s (.int b u) (.ref l) false := fun prog w E Q h => by
  obtain ⟨⟨cls, dd, data, sl⟩, es, n, ho, hc, hd⟩ := id hl
  simp only at hc hd
  subst hc hd
  exact rc_eq_decline_or (k := false) (typeIs_int s b u) ⟨_, ho, rfl⟩ (by decide) F.sub_dict_int F.slot_int_eq F.slot_dict_eq_refl
    (fun _ hq => call_meets F.slot_int_eq (typeIs_int s b u) F.entry_int_eq (F.args_int_eq_2 _ _) (int_eq_declines_dict b u l es n dd sl) ⟨ho, hq⟩)
    (fun _ hq => call_meets F.slot_dict_eq_refl ⟨_, ho, rfl⟩ F.entry_dict_eq (F.args_dict_eq_2 _ _) (dict_eq_declines_int l es n dd sl b u) ⟨ho, hq⟩)
    (fun _ hq => wpAny_of_eq (rfl : isSame (.int b u) (.ref l) = pure false) hq) (.inr hu) h
theorem EqAt.int_dict {l : Addr} (b : Int) (u : Tok) (hl : IsD s.heap l) (hu : A.units < cLine) : EqAt A s (.int b u) (.ref l) false := fun prog w E Q h => by
  unfold eqBool
  refine wpAny_holding ?_
  refine wpAny_ite_split (fun hab => absurd (eq_of_beq hab) nofun) (fun _ => ?_)
  exact wpAny_bind (RcAt.int_dict b u hl hu prog w E _ (wpAny_truthy_bool h))
theorem ne_of_dict_tuple {l b : Addr} {items : Array Value} (hl : IsD s.heap l) (hb : s.heap.IsTuple b items) : l ≠ b := fun e => by
  subst e
  obtain ⟨o, _, _, ho, hc, _⟩ := hl
  obtain ⟨o2, ho2, hc2, _⟩ := hb
  rw [ho] at ho2
  cases ho2
  rw [hc] at hc2
  exact absurd hc2 (by simp)
theorem EqAt.dict_tuple {l b : Addr} {items : Array Value} (hl : IsD s.heap l) (hb : s.heap.IsTuple b items) (hu : A.units < cLine) : EqAt A s (.ref l) (.ref b) false := .of_refs (ne_of_dict_tuple hl hb) fun prog w E Q h => by
  have hne : l ≠ b := ne_of_dict_tuple hl hb
  obtain ⟨⟨cls, dd, data, sl⟩, es, n, ho, hc, hd⟩ := id hl
  obtain ⟨⟨cls2, dd2, data2, sl2⟩, ho2, hc2, n2, hd2⟩ := id hb
  simp only at hc hd hc2 hd2
  subst hc hd hc2 hd2
  exact (rc_eq_decline_or (k := false) ⟨_, ho, rfl⟩ ⟨_, ho2, rfl⟩ (by decide) F.sub_tuple_dict F.slot_dict_eq F.slot_tuple_eq_refl
    (fun _ hq => call_meets F.slot_dict_eq ⟨_, ho, rfl⟩ F.entry_dict_eq (F.args_dict_eq_2 _ _) (dict_eq_declines_tuple l b es n dd dd2 sl sl2 items n2) ⟨ho, ho2, hq⟩)
    (fun _ hq => call_meets F.slot_tuple_eq_refl ⟨_, ho2, rfl⟩ F.entry_tuple_eq (F.args_tuple_eq_2 _ _) (tuple_eq_declines_dict l b es n dd dd2 sl sl2 items n2) ⟨ho, ho2, hq⟩)
    (fun _ hq => wpAny_isSame_ref_other hne ho ho2 (by simp) hq) (.inr hu) h)
theorem EqAt.tuple_dict {l b : Addr} {items : Array Value} (hl : IsD s.heap l) (hb : s.heap.IsTuple b items) (hu : A.units < cLine) : EqAt A s (.ref b) (.ref l) false := .of_refs (ne_of_dict_tuple hl hb).symm fun prog w E Q h => by
  have hne : b ≠ l := (ne_of_dict_tuple hl hb).symm
  obtain ⟨⟨cls, dd, data, sl⟩, es, n, ho, hc, hd⟩ := id hl
  obtain ⟨⟨cls2, dd2, data2, sl2⟩, ho2, hc2, n2, hd2⟩ := id hb
  simp only at hc hd hc2 hd2
  subst hc hd hc2 hd2
  exact (rc_eq_decline_or (k := false) ⟨_, ho2, rfl⟩ ⟨_, ho, rfl⟩ (by decide) F.sub_dict_tuple F.slot_tuple_eq F.slot_dict_eq_refl
    (fun _ hq => call_meets F.slot_tuple_eq ⟨_, ho2, rfl⟩ F.entry_tuple_eq (F.args_tuple_eq_2 _ _) (tuple_eq_declines_dict l b es n dd dd2 sl sl2 items n2) ⟨ho, ho2, hq⟩)
    (fun _ hq => call_meets F.slot_dict_eq_refl ⟨_, ho, rfl⟩ F.entry_dict_eq (F.args_dict_eq_2 _ _) (dict_eq_declines_tuple l b es n dd dd2 sl sl2 items n2) ⟨ho, ho2, hq⟩)
    (fun _ hq => wpAny_isSame_ref_other' hne ho2 ho (by simp) hq) (.inr hu) h)
end
mutual
/-- made of ints and tuples -/
def ti : PyData → Bool
  | .int _ => true
  | .tuple xs => tis xs
  | _ => false
def tis : List PyData → Bool
  | [] => true
  | x :: xs => ti x && tis xs
end
mutual
theorem ti_lay : ∀ d : PyData, ti d = true → d.canLay0 = true
  | .int _, _ => by rw [PyData.canLay0]
  | .tuple xs, h => by
    rw [ti] at h
    rw [PyData.canLay0]
    exact tis_lay xs h
  | .none, h => by simp [ti] at h
  | .bool _, h => by simp [ti] at h
  | .str _, h => by simp [ti] at h
  | .list _, h => by simp [ti] at h
  | .dict _, h => by simp [ti] at h
theorem tis_lay : ∀ xs : List PyData, tis xs = true → PyData.canLayAll0 xs = true
  | [], _ => by rw [PyData.canLayAll0]
  | x :: xs, h => by
    rw [tis, Bool.and_eq_true] at h
    rw [PyData.canLayAll0, ti_lay x h.1, tis_lay xs h.2] <;> rfl
end
mutual
theorem eqTD : ∀ (da db : PyData) (A : Around) (s : Shared) (a b : Value) (as bs : List Addr), Reads s.heap a da as → Reads s.heap b db bs → ti da = true →
    A.units + min da.depth db.depth < cLine → EqAt A s a b (PyData.eqv da db)
  | .int x, _, A, s, _, _, _, _, ra, rb, _, hu => by
    cases ra with
    | int _ t =>
      cases rb with
      | none => exact EqAt.int_none x t
      | bool y => exact EqAt.int_bool x t y
      | int y u => exact EqAt.int_int x t y u
      | str y u => exact EqAt.int_str x t y u
      | list k1 k2 k3 k4 => exact EqAt.int_list x t ⟨_, k1, k2, _, k3⟩ (room_here hu)
      | tuple k1 k2 k3 k4 => exact EqAt.int_tuple x t ⟨_, k1, k2, _, k3⟩ (room_here hu)
      | dict k1 k2 k3 k4 k5 => exact EqAt.int_dict x t ⟨_, _, _, k1, k2, k3⟩ (room_here hu)
  | .tuple xs, db, A, s, _, _, _, _, ra, rb, ha, hu => by
    cases ra with
    | @tuple l o vs n _ as₁ h1 h2 h3 h4 =>
      have hl : s.heap.IsTuple l vs := ⟨_, h1, h2, _, h3⟩
      cases rb with
      | none => exact EqAt.tuple_none hl (room_here hu)
      | bool y => exact EqAt.tuple_bool y hl (room_here hu)
      | int y u => exact EqAt.tuple_int y u hl (room_here hu)
      | str y u => exact EqAt.tuple_str y u hl (room_here hu)
      | list k1 k2 k3 k4 => exact EqAt.tuple_list hl ⟨_, k1, k2, _, k3⟩ (room_here hu)
      | dict k1 k2 k3 k4 k5 => exact EqAt.tuple_dict ⟨_, _, _, k1, k2, k3⟩ hl (room_here hu)
      | @tuple l' o' vs' n' ys bs₁ k1 k2 k3 k4 =>
        have hl' : s.heap.IsTuple l' vs' := ⟨_, k1, k2, _, k3⟩
        have n1 : vs.size = xs.length := by simpa using ReadsAll.length _ _ _ h4
        have n2 : vs'.size = ys.length := by simpa using ReadsAll.length _ _ _ k4
        have ht : tis xs = true := by simpa [ti] using ha
        show EqAt A s (.ref l) (.ref l') (PyData.eqvAll xs ys)
        by_cases hll : l = l'
        · subst hll
          have e : PyData.tuple xs = PyData.tuple ys := Reads.unique (.tuple xs) (.tuple ys) _ _ _ (ti_lay _ ha) (.tuple h1 h2 h3 h4) (.tuple k1 k2 k3 k4)
          injection e with e
          subst e
          rw [eqvAll_refl xs (tis_lay _ ht)]
          exact EqAt.same _
        · rw [← eqvAll_eq xs ys, ← n1, ← n2]
          refine EqAt.of_refs hll (RcAt.tuples hl hl' (room_here hu) fun j j1 j2 => ?_)
          have := eqTDs xs ys A.in1 s vs.toList vs'.toList _ _ h4 k4 ht (room_in hu) j (by simpa using j1) (by simpa using j2)
          simpa using this
  | .none, _, _, _, _, _, _, _, _, _, h, _ => by simp [ti] at h
  | .bool _, _, _, _, _, _, _, _, _, _, h, _ => by simp [ti] at h
  | .str _, _, _, _, _, _, _, _, _, _, h, _ => by simp [ti] at h
  | .list _, _, _, _, _, _, _, _, _, _, h, _ => by simp [ti] at h
  | .dict _, _, _, _, _, _, _, _, _, _, h, _ => by simp [ti] at h
theorem eqTDs : ∀ (xs ys : List PyData) (A : Around) (s : Shared) (vs ws : List Value) (as bs : List Addr), ReadsAll s.heap vs xs as → ReadsAll s.heap ws ys bs → tis xs = true →
    A.units + min (PyData.depthAll xs) (PyData.depthAll ys) < cLine → ∀ j (h1 : j < vs.length) (h2 : j < ws.length), EqAt A s vs[j] ws[j] (pairEq xs ys j)
  | [], _, _, _, _, _, _, _, ra, _, _, _, j, h1, _ => by cases ra; exact absurd h1 (Nat.not_lt_zero _)
  | _ :: _, [], _, _, _, _, _, _, _, rb, _, _, j, _, h2 => by cases rb; exact absurd h2 (Nat.not_lt_zero _)
  | x :: xs, y :: ys, A, s, _, _, _, _, ra, rb, ha, hu, j, h1, h2 => by
    have ha' : ti x = true ∧ tis xs = true := by simpa [tis] using ha
    cases ra with
    | cons r rs =>
      cases rb with
      | cons r' rs' =>
        cases j with
        | zero => exact eqTD x y A s _ _ _ _ r r' ha'.1 (room_head hu)
        | succ j => exact eqTDs xs ys A s _ _ _ _ rs rs' ha'.2 (room_tail hu) j (Nat.lt_of_succ_lt_succ h1) (Nat.lt_of_succ_lt_succ h2)
end
mutual
theorem eqDT : ∀ (da db : PyData) (A : Around) (s : Shared) (a b : Value) (as bs : List Addr), Reads s.heap a da as → Reads s.heap b db bs → ti db = true →
    A.units + min da.depth db.depth < cLine → EqAt A s a b (PyData.eqv da db)
  | _, .int x, A, s, _, _, _, _, rb, ra, _, hu => by
    cases ra with
    | int _ t =>
      cases rb with
      | none => exact EqAt.none_int x t
      | bool y => exact EqAt.bool_int y x t
      | int y u => exact EqAt.int_int y u x t
      | str y u => exact EqAt.str_int y u x t
      | list k1 k2 k3 k4 => exact EqAt.list_int x t ⟨_, k1, k2, _, k3⟩ (room_here hu)
      | tuple k1 k2 k3 k4 => exact EqAt.tuple_int x t ⟨_, k1, k2, _, k3⟩ (room_here hu)
      | dict k1 k2 k3 k4 k5 => exact EqAt.dict_int x t ⟨_, _, _, k1, k2, k3⟩ (room_here hu)
  | db, .tuple xs, A, s, _, _, _, _, rb, ra, ha, hu => by
    cases ra with
    | @tuple l o vs n _ as₁ h1 h2 h3 h4 =>
      have hl : s.heap.IsTuple l vs := ⟨_, h1, h2, _, h3⟩
      cases rb with
      | none => exact EqAt.none_tuple hl (room_here hu)
      | bool y => exact EqAt.bool_tuple y hl (room_here hu)
      | int y u => exact EqAt.int_tuple y u hl (room_here hu)
      | str y u => exact EqAt.str_tuple y u hl (room_here hu)
      | list k1 k2 k3 k4 => exact EqAt.list_tuple ⟨_, k1, k2, _, k3⟩ hl (room_here hu)
      | dict k1 k2 k3 k4 k5 => exact EqAt.dict_tuple ⟨_, _, _, k1, k2, k3⟩ hl (room_here hu)
      | @tuple l' o' vs' n' ys bs₁ k1 k2 k3 k4 =>
        have hl' : s.heap.IsTuple l' vs' := ⟨_, k1, k2, _, k3⟩
        have n1 : vs.size = xs.length := by simpa using ReadsAll.length _ _ _ h4
        have n2 : vs'.size = ys.length := by simpa using ReadsAll.length _ _ _ k4
        have ht : tis xs = true := by simpa [ti] using ha
        show EqAt A s (.ref l') (.ref l) (PyData.eqvAll ys xs)
        by_cases hll : l = l'
        · subst hll
          have e : PyData.tuple xs = PyData.tuple ys := Reads.unique (.tuple xs) (.tuple ys) _ _ _ (ti_lay _ ha) (.tuple h1 h2 h3 h4) (.tuple k1 k2 k3 k4)
          injection e with e
          subst e
          rw [eqvAll_refl xs (tis_lay _ ht)]
          exact EqAt.same _
        · rw [← eqvAll_eq ys xs, ← n1, ← n2]
          refine EqAt.of_refs (Ne.symm hll) (RcAt.tuples hl' hl (room_here hu) fun j j1 j2 => ?_)
          have := eqDTs ys xs A.in1 s vs'.toList vs.toList _ _ k4 h4 ht (room_in hu) j (by simpa using j1) (by simpa using j2)
          simpa using this
  | _, .none, _, _, _, _, _, _, _, _, h, _ => by simp [ti] at h
  | _, .bool _, _, _, _, _, _, _, _, _, h, _ => by simp [ti] at h
  | _, .str _, _, _, _, _, _, _, _, _, h, _ => by simp [ti] at h
  | _, .list _, _, _, _, _, _, _, _, _, h, _ => by simp [ti] at h
  | _, .dict _, _, _, _, _, _, _, _, _, h, _ => by simp [ti] at h
theorem eqDTs : ∀ (xs ys : List PyData) (A : Around) (s : Shared) (vs ws : List Value) (as bs : List Addr), ReadsAll s.heap vs xs as → ReadsAll s.heap ws ys bs → tis ys = true →
    A.units + min (PyData.depthAll xs) (PyData.depthAll ys) < cLine → ∀ j (h1 : j < vs.length) (h2 : j < ws.length), EqAt A s vs[j] ws[j] (pairEq xs ys j)
  | [], _, _, _, _, _, _, _, ra, _, _, _, j, h1, _ => by cases ra; exact absurd h1 (Nat.not_lt_zero _)
  | _ :: _, [], _, _, _, _, _, _, _, rb, _, _, j, _, h2 => by cases rb; exact absurd h2 (Nat.not_lt_zero _)
  | x :: xs, y :: ys, A, s, _, _, _, _, ra, rb, ha, hu, j, h1, h2 => by
    have ha' : ti y = true ∧ tis ys = true := by simpa [tis] using ha
    cases ra with
    | cons r rs =>
      cases rb with
      | cons r' rs' =>
        cases j with
        | zero => exact eqDT x y A s _ _ _ _ r r' ha'.1 (room_head hu)
        | succ j => exact eqDTs xs ys A s _ _ _ _ rs rs' ha'.2 (room_tail hu) j (Nat.lt_of_succ_lt_succ h1) (Nat.lt_of_succ_lt_succ h2)
end
end PySem.SeqAt

/-! The operations on data. -/
namespace Du
open PySem PySem.Spec PyProof.Rows L2 On
abbrev F2 := PyData → PyData → (PyData → Prop) → Prop
section
variable {K : PySem.W.Frag} {c : Bs} {X : Cx} {e : Expr} {pos : Pos}
theorem opOr {f : Value → Value → Sem Value} {r r' : R2} (h : OpR X f r) (h' : OpR X f r') : OpR X f (fun x y H Q => r x y H Q ∨ r' x y H Q) := fun pins s σ H x y v u Q I rx ry q => q.elim (h pins s σ H x y v u Q I rx ry) (h' pins s σ H x y v u Q I rx ry)
theorem nq_int {O : List Addr} {H : Hp} {x : V} {i : Int} (h : Nq K O H x (.int i)) : x = .int i := by
  rcases h with h | ⟨a, xs, ds, rfl, e, _⟩
  · exact da_int h
  · cases e
theorem nq_bl {O : List Addr} {H : Hp} {x : V} {i : Bool} (h : Nq K O H x (.bool i)) : x = .bl i := by
  rcases h with h | ⟨a, xs, ds, rfl, e, _⟩
  · exact da_bl h
  · cases e
theorem nq_str {O : List Addr} {H : Hp} {x : V} {i : Str} (h : Nq K O H x (.str i)) : x = .str i := by
  rcases h with h | ⟨a, xs, ds, rfl, e, _⟩
  · cases h
    rfl
  · cases e
theorem nq_non {O : List Addr} {H : Hp} {x : V} (h : Nq K O H x .none) : x = .non := by
  rcases h with h | ⟨a, xs, ds, rfl, e, _⟩
  · cases h
    rfl
  · cases e
theorem nq_lst {O : List Addr} {H : Hp} {x : V} {ds : List PyData} (h : Nq K O H x (.list ds)) : ∃ a xs, x = .ref a ∧ H a = some (.lst xs) ∧ a ≠ sysModules ∧ DaAll K (offs O H) xs ds := by
  rcases h with h | ⟨a, xs, ds', rfl, e, h1, h2, h3⟩
  · obtain ⟨a, xs, rfl, h1, h2, h3⟩ := da_lst h
    exact ⟨a, xs, rfl, (offs_some h1).2, h2, h3⟩
  · cases e
    exact ⟨a, xs, rfl, h2, h1, h3⟩
theorem nq_tup {O : List Addr} {H : Hp} {x : V} {ds : List PyData} (h : Nq K O H x (.tuple ds)) : ∃ a xs, x = .ref a ∧ SqT K H a xs ∧ SqT K (offs O H) a xs ∧ DaAll K (offs O H) xs ds := by
  rcases h with h | ⟨a, xs, ds', rfl, e, _⟩
  · obtain ⟨a, xs, rfl, h1, h3⟩ := da_tup h
    exact ⟨a, xs, rfl, Evl.ex_t offs_sub h1, h1, h3⟩
  · cases e
theorem new_tup {O : List Addr} {H : Hp} {p : Addr} {xs : List V} {ds : List PyData} (hd : ∀ a ∈ O, ∃ o, H a = some o) (n : H p = Option.none) (h : DaAll K (offs O H) xs ds) : Da K (offs O (upd H p (.tup xs))) (.ref p) (.tuple ds) := by
  have pO : p ∉ O := fun z => by
    obtain ⟨o, eo⟩ := hd p z
    rw [n] at eo
    cases eo
  exact .tup (SqT.of (by rw [offs_ne pO]; exact upd_same)) (daAll_same (offs_same (fun a o _ e => Evl.Ex.new n a o e) fun _ z _ => z) h)
theorem new_lst {O : List Addr} {H : Hp} {p : Addr} {xs : List V} {ds : List PyData} (hd : ∀ a ∈ O, ∃ o, H a = some o) (hs : Sys H) (n : H p = Option.none) (h : DaAll K (offs O H) xs ds) : Da K (offs O (upd H p (.lst xs))) (.ref p) (.list ds) := by
  have pO : p ∉ O := fun z => by
    obtain ⟨o, eo⟩ := hd p z
    rw [n] at eo
    cases eo
  refine .lst (by rw [offs_ne pO]; exact upd_same) (fun z => ?_) (daAll_same (offs_same (fun a o _ e => Evl.Ex.new n a o e) fun _ z _ => z) h)
  obtain ⟨φ, e⟩ := hs
  rw [← z, n] at e
  cases e
/-! ### + - * % // -/
def rAdd (K : PySem.W.Frag) : R2 := fun x y H Q => rI0 (fun i j => .int (i + j)) x y H Q ∨ (rCat x y H Q ∨ rCatA K x y H Q)
theorem op_addD (hK : X.K = K := by rfl) : OpR X (binaryOp .Add) (rAdd K) := opOr op_add (opOr op_cat (hK ▸ op_catA))
def fAdd : F2 := fun d e k => match d, e with
  | .int i, .int j => k (.int (i + j))
  | .list xs, .list ys => xs.length + ys.length ≤ 100000 ∧ k (.list (xs ++ ys))
  | .tuple xs, .tuple ys => xs.length + ys.length ≤ 100000 ∧ k (.tuple (xs ++ ys))
  | _, _ => False
theorem od_add : OpD K (rAdd K) fAdd := fun O H x y d e k Q hd hs nx ny hf q => by
  unfold fAdd at hf
  split at hf
  · cases nq_int nx
    cases nq_int ny
    exact .inl ⟨_, _, rfl, rfl, q _ _ H hf (Same.refl H) (.int _)⟩
  · obtain ⟨a, xs', rfl, h1, _, h3⟩ := nq_lst nx
    obtain ⟨b, ys', rfl, g1, _, g3⟩ := nq_lst ny
    have l1 := daAll_len h3
    have l2 := daAll_len g3
    exact .inr (.inl ⟨a, b, xs', ys', rfl, rfl, h1, g1, Evl.sz_of (by omega), fun p n => q _ _ _ hf.2 (Evl.Ex.new n) (new_lst hd hs n (daAll_app h3 g3))⟩)
  · obtain ⟨a, xs', rfl, h1, h2, h3⟩ := nq_tup nx
    obtain ⟨b, ys', rfl, g1, g2, g3⟩ := nq_tup ny
    have l1 := daAll_len h3
    have l2 := daAll_len g3
    refine .inr (.inr ⟨a, b, xs', ys', rfl, rfl, h1, g1, Evl.sz_of (by omega), fun e => ?_, fun _ e => ?_, fun _ _ p n => q _ _ _ hf.2 (Evl.Ex.new n) (new_tup hd n (daAll_app h3 g3))⟩)
    · subst e
      cases h3
      exact q _ _ H hf.2 (Same.refl H) (.tup g2 g3)
    · subst e
      cases g3
      exact q _ _ H hf.2 (Same.refl H) (by rw [List.append_nil]; exact .tup h2 h3)
  · exact hf.elim
def fI (C : Int → Int → Prop) (g : Int → Int → Int) : F2 := fun d e k => match d, e with
  | .int i, .int j => C i j ∧ k (.int (g i j))
  | _, _ => False
theorem od_I {C : Int → Int → Prop} {g : Int → Int → Int} : OpD K (rI C fun i j => .int (g i j)) (fI C g) := fun O H x y d e k Q hd hs nx ny hf q => by
  unfold fI at hf
  split at hf
  · cases nq_int nx
    cases nq_int ny
    exact ⟨_, _, rfl, rfl, hf.1, q _ _ H hf.2 (Same.refl H) (.int _)⟩
  · exact hf.elim
def fI0 (g : Int → Int → Int) : F2 := fun d e k => match d, e with
  | .int i, .int j => k (.int (g i j))
  | _, _ => False
theorem od_I0 {g : Int → Int → Int} : OpD K (rI0 fun i j => .int (g i j)) (fI0 g) := fun O H x y d e k Q hd hs nx ny hf q => by
  unfold fI0 at hf
  split at hf
  · cases nq_int nx
    cases nq_int ny
    exact ⟨_, _, rfl, rfl, q _ _ H hf (Same.refl H) (.int _)⟩
  · exact hf.elim
abbrev fSub : F2 := fI0 fun i j => i - j
abbrev fMod : F2 := fI (fun _ j => 0 < j) fun i j => i % j
abbrev fDiv : F2 := fI CDivW fun i j => i / j
abbrev fPow : F2 := fI CPow fun i j => i ^ j.toNat
/-- ints; a list some times -/
def rMulD : R2 := fun x y H Q => rI CMulW (fun i j => .int (i * j)) x y H Q ∨ rRep x y H Q
theorem op_mulD : OpR X (binaryOp .Mult) rMulD := opOr op_mulW op_rep
def fMul : F2 := fun d e k => match d, e with
  | .int i, .int j => CMulW i j ∧ k (.int (i * j))
  | .list xs, .int j => (-1000000 ≤ j ∧ j ≤ 1000000 ∧ xs.length * j.toNat ≤ 100000) ∧ k (.list (List.replicate j.toNat xs).flatten)
  | _, _ => False
theorem daAll_rep {H : Hp} {xs : List V} {ds : List PyData} (h : DaAll K H xs ds) : ∀ n : Nat, DaAll K H (List.replicate n xs).flatten (List.replicate n ds).flatten
  | 0 => .nil
  | n + 1 => by
    rw [List.replicate_succ, List.replicate_succ, List.flatten_cons, List.flatten_cons]
    exact daAll_app h (daAll_rep h n)
theorem od_mul : OpD K rMulD fMul := fun O H x y d e k Q hd hs nx ny hf q => by
  unfold fMul at hf
  split at hf
  · cases nq_int nx
    cases nq_int ny
    exact .inl ⟨_, _, rfl, rfl, hf.1, q _ _ H hf.2 (Same.refl H) (.int _)⟩
  · obtain ⟨a, xs', rfl, h1, _, h3⟩ := nq_lst nx
    cases nq_int ny
    have l1 := daAll_len h3
    obtain ⟨⟨k1, k2, k3⟩, k4⟩ := hf
    exact .inr ⟨a, _, xs', rfl, rfl, h1, by omega, by omega, Evl.sz_of (by rw [l1]; exact k3), fun p n => q _ _ _ k4 (Evl.Ex.new n) (new_lst hd hs n (daAll_rep h3 _))⟩
  · exact hf.elim
/-! ### comparisons of ints -/
def fB (g : Int → Int → Bool) : F2 := fun d e k => match d, e with
  | .int i, .int j => k (.bool (g i j))
  | _, _ => False
theorem od_B {g : Int → Int → Bool} : OpD K (rI0 fun i j => .bl (g i j)) (fB g) := fun O H x y d e k Q hd hs nx ny hf q => by
  unfold fB at hf
  split at hf
  · cases nq_int nx
    cases nq_int ny
    exact ⟨_, _, rfl, rfl, q _ _ H hf (Same.refl H) (.bl _)⟩
  · exact hf.elim
abbrev fLt : F2 := fB fun i j => decide (i < j)
abbrev fLe : F2 := fB fun i j => decide (i ≤ j)
abbrev fGt : F2 := fB fun i j => decide (j < i)
abbrev fGe : F2 := fB fun i j => decide (j ≤ i)
/-! ### == != in -/
/-- what can be held against each other -/
def okEq (d e : PyData) : Bool := ((d.canLay0 && e.canLay0) || (SeqAt.ti d || SeqAt.ti e)) && decide (min d.depth e.depth ≤ 60)
theorem okEq_at {A : Around} {s : Shared} {a b : Value} {as bs : List Addr} {d e : PyData} (hu : A.units + 60 < cLine) (h : okEq d e = true) (ra : Reads s.heap a d as) (rb : Reads s.heap b e bs) : SeqAt.EqAt A s a b (PyData.eqv d e) := by
  unfold okEq at h
  rw [Bool.and_eq_true, Bool.or_eq_true, Bool.or_eq_true, Bool.and_eq_true] at h
  have hd := of_decide_eq_true h.2
  rcases h.1 with h | h | h
  · exact SeqAt.eqAt_reads d e A s a b as bs ra rb h.1 h.2 (by omega)
  · exact SeqAt.eqTD d e A s a b as bs ra rb h (by omega)
  · exact SeqAt.eqDT d e A s a b as bs ra rb h (by omega)
def rEqQ (K : PySem.W.Frag) : R2 := fun x y H Q => ∃ d e, Da K H x d ∧ Da K H y e ∧ d.canLay0 = true ∧ e.canLay0 = true ∧ min d.depth e.depth ≤ 60 ∧ Q (.bl (PyData.eqv d e)) H
theorem op_eqQ (hu : X.A.units + 66 < cLine) (hK : X.K = K := by rfl) : OpR X (compareOp .Eq) (rEqQ K) := by
  subst hK
  intro pins s σ H x y v u Q I rx ry h
  obtain ⟨d, e, hd, he, c1, c2, dp, q⟩ := h
  obtain ⟨as, r1, _⟩ := da_reads I hd rx
  obtain ⟨bs, r2, _⟩ := da_reads I he ry
  exact SeqAt.compareEq_reads r1 r2 c1 c2 (by omega) ⟨.bl _, H, I, rfl, q⟩
def fEq : F2 := fun d e k => (d.canLay0 = true ∧ e.canLay0 = true ∧ min d.depth e.depth ≤ 60) ∧ k (.bool (PyData.eqv d e))
theorem od_eq : OpD K (rEqQ K) fEq := fun O H x y d e k Q hd hs nx ny hf q => ⟨d, e, nx.da, ny.da, hf.1.1, hf.1.2.1, hf.1.2.2, q _ _ H hf.2 (Same.refl H) (.bl _)⟩
/-- !=: data without dicts, or two tuples of which one is made of ints and tuples -/
def okNe : PyData → PyData → Bool
  | .tuple xs, .tuple ys => ((PyData.canLayAll0 xs && PyData.canLayAll0 ys) || (SeqAt.tis xs || SeqAt.tis ys)) && decide (min (PyData.tuple xs).depth (PyData.tuple ys).depth ≤ 60)
  | d, e => d.canLay0 && (e.canLay0 && decide (min d.depth e.depth ≤ 60))
def rNeQ (K : PySem.W.Frag) : R2 := fun x y H Q => ∃ d e, Da K H x d ∧ Da K H y e ∧ okNe d e = true ∧ Q (.bl (!PyData.eqv d e)) H
theorem op_neQ (hu : X.A.units + 66 < cLine) (hK : X.K = K := by rfl) : OpR X (compareOp .NotEq) (rNeQ K) := by
  subst hK
  intro pins s σ H x y v u Q I rx ry h
  obtain ⟨d, e, hd, he, ok, q⟩ := h
  obtain ⟨as, r1, _⟩ := da_reads I hd rx
  obtain ⟨bs, r2, _⟩ := da_reads I he ry
  unfold okNe at ok
  split at ok
  · rename_i xs ys
    rw [Bool.and_eq_true, Bool.or_eq_true, Bool.or_eq_true, Bool.and_eq_true] at ok
    have hdp := of_decide_eq_true ok.2
    have fin : wpAny (model X.prog X.w) X.A (compareOp .NotEq v u) (EP X pins σ Q) X.xe s := by
      cases r1 with
      | @tuple l o vs n _ _ h1 h2 h3 h4 =>
        cases r2 with
        | @tuple l' o' vs' n' _ _ k1 k2 k3 k4 =>
          have hl : s.heap.IsTuple l vs := ⟨_, h1, h2, _, h3⟩
          have hl' : s.heap.IsTuple l' vs' := ⟨_, k1, k2, _, k3⟩
          have n1 : vs.size = xs.length := by simpa using SeqAt.ReadsAll.length _ _ _ h4
          have n2 : vs'.size = ys.length := by simpa using SeqAt.ReadsAll.length _ _ _ k4
          have room : X.A.in1.units + min (PyData.depthAll xs) (PyData.depthAll ys) < cLine := by
            have e1 : (PyData.tuple xs).depth = PyData.depthAll xs + 1 := rfl
            have e2 : (PyData.tuple ys).depth = PyData.depthAll ys + 1 := rfl
            show X.A.units + 1 + _ < _
            omega
          have he : ∀ j (j1 : j < vs.size) (j2 : j < vs'.size), SeqAt.EqAt X.A.in1 s vs[j] vs'[j] (SeqAt.pairEq xs ys j) := fun j j1 j2 => by
            rcases ok.1 with ok | ok | ok
            · have := SeqAt.eqAt_readsAll xs ys X.A.in1 s vs.toList vs'.toList _ _ h4 k4 ok.1 ok.2 room j (by simpa using j1) (by simpa using j2)
              simpa using this
            · have := SeqAt.eqTDs xs ys X.A.in1 s vs.toList vs'.toList _ _ h4 k4 ok room j (by simpa using j1) (by simpa using j2)
              simpa using this
            · have := SeqAt.eqDTs xs ys X.A.in1 s vs.toList vs'.toList _ _ h4 k4 ok room j (by simpa using j1) (by simpa using j2)
              simpa using this
          have z := SeqAt.RcNeAt.tuples hl hl' (by omega) he
          rw [n1, n2, SeqAt.eqvAll_eq xs ys] at z
          exact z X.prog X.w X.xe _ ⟨.bl _, H, I, rfl, q⟩
    exact fin
  · rw [Bool.and_eq_true, Bool.and_eq_true] at ok
    have hdp := of_decide_eq_true ok.2.2
    exact SeqAt.neOverData X.prog X.w X.A X.xe s v u d e as bs _ r1 r2 ok.1 ok.2.1 (by omega) ⟨.bl _, H, I, rfl, q⟩
def fNe : F2 := fun d e k => okNe d e = true ∧ k (.bool (!PyData.eqv d e))
theorem od_ne : OpD K (rNeQ K) fNe := fun O H x y d e k Q hd hs nx ny hf q => ⟨d, e, nx.da, ny.da, hf.1, q _ _ H hf.2 (Same.refl H) (.bl _)⟩
def okIn (d : PyData) (ds : List PyData) : Bool := ((PyData.canLayAll0 ds && d.canLay0) || (SeqAt.tis ds || SeqAt.ti d)) && decide (d.depth ≤ 60 ∨ PyData.depthAll ds ≤ 60)
theorem tis_mem : ∀ {xs : List PyData} {d : PyData}, SeqAt.tis xs = true → d ∈ xs → SeqAt.ti d = true
  | x :: xs, d, h, m => by
    rw [SeqAt.tis, Bool.and_eq_true] at h
    rcases List.mem_cons.mp m with rfl | m
    · exact h.1
    · exact tis_mem h.2 m
theorem depth_mem : ∀ {xs : List PyData} {d : PyData}, d ∈ xs → d.depth ≤ PyData.depthAll xs
  | x :: xs, d, m => by
    rw [PyData.depthAll]
    rcases List.mem_cons.mp m with rfl | m
    · exact Nat.le_max_left _ _
    · exact Nat.le_trans (depth_mem m) (Nat.le_max_right _ _)
theorem readsAll_get {h : Heap} : ∀ {xs : List PyData} {vs : List Value} {as : List Addr} {i : Nat} {y : Value}, ReadsAll h vs xs as → vs[i]? = some y → ∃ d bs, xs[i]? = some d ∧ Reads h y d bs
  | _, _, _, _, _, .nil, e => by simp at e
  | _, _, _, 0, _, .cons r _, e => by
    simp at e
    subst e
    exact ⟨_, _, rfl, r⟩
  | _, _, _, i + 1, _, .cons _ t, e => by
    obtain ⟨d, bs, h1, h2⟩ := readsAll_get (i := i) t (by simpa using e)
    exact ⟨d, bs, by simpa using h1, h2⟩
mutual
theorem reads_eqv {h : Heap} : ∀ (d : PyData) {y : Value} {z1 z2 : PyData} {as bs : List Addr}, SeqAt.ti d = true → Reads h y z1 as → Reads h y z2 bs → PyData.eqv z1 d = PyData.eqv z2 d
  | .int i, y, z1, z2, _, _, _, r1, r2 => by
    cases r1 <;> cases r2 <;> simp [PyData.eqv]
  | .tuple ds, y, z1, z2, _, _, ht, r1, r2 => by
    have hts : SeqAt.tis ds = true := by simpa [SeqAt.ti] using ht
    cases r1 with
    | tuple h1 h2 h3 h4 =>
      cases r2 with
      | tuple k1 k2 k3 k4 =>
        rw [h1] at k1
        cases k1
        rw [h3] at k3
        cases k3
        show PyData.eqvAll _ ds = PyData.eqvAll _ ds
        exact reads_eqvs ds hts h4 k4
      | list k1 k2 k3 k4 =>
        rw [h1] at k1
        cases k1
        rw [h2] at k2
        exact absurd k2 (by simp)
      | dict k1 k2 k3 k4 k5 =>
        rw [h1] at k1
        cases k1
        rw [h2] at k2
        exact absurd k2 (by simp)
    | list h1 h2 h3 h4 =>
      cases r2 with
      | tuple k1 k2 k3 k4 =>
        rw [h1] at k1
        cases k1
        rw [h2] at k2
        exact absurd k2 (by simp)
      | _ => simp [PyData.eqv]
    | dict h1 h2 h3 h4 h5 =>
      cases r2 with
      | tuple k1 k2 k3 k4 =>
        rw [h1] at k1
        cases k1
        rw [h2] at k2
        exact absurd k2 (by simp)
      | _ => simp [PyData.eqv]
    | _ => cases r2 <;> simp [PyData.eqv]
  | .none, _, _, _, _, _, h, _, _ => by simp [SeqAt.ti] at h
  | .bool _, _, _, _, _, _, h, _, _ => by simp [SeqAt.ti] at h
  | .str _, _, _, _, _, _, h, _, _ => by simp [SeqAt.ti] at h
  | .list _, _, _, _, _, _, h, _, _ => by simp [SeqAt.ti] at h
  | .dict _, _, _, _, _, _, h, _, _ => by simp [SeqAt.ti] at h
theorem reads_eqvs {h : Heap} : ∀ (ds : List PyData) {ys : List Value} {zs ws : List PyData} {as bs : List Addr}, SeqAt.tis ds = true → ReadsAll h ys zs as → ReadsAll h ys ws bs → PyData.eqvAll zs ds = PyData.eqvAll ws ds
  | [], _, _, _, _, _, _, r1, r2 => by
    cases r1 with
    | nil =>
      cases r2
      rfl
    | cons a b =>
      cases r2
      simp [PyData.eqvAll]
  | d :: ds, _, _, _, _, _, h, r1, r2 => by
    rw [SeqAt.tis, Bool.and_eq_true] at h
    cases r1 with
    | nil =>
      cases r2
      rfl
    | cons a b =>
      cases r2 with
      | cons a' b' =>
        rw [PyData.eqvAll, PyData.eqvAll, reads_eqv d h.1 a a', reads_eqvs ds h.2 b b']
end
/-- what the items of a container answer when they are held against x -/
theorem items_at {A : Around} {s : Shared} {vs : Array Value} {xs : List PyData} {as bs : List Addr} {x : Value} {d : PyData} (rs : ReadsAll s.heap vs.toList xs as) (rx : Reads s.heap x d bs) (ok : okIn d xs = true) (hu : A.units + 62 < cLine) :
    ∃ e : Value → Bool, (∀ y, y ∈ vs → SeqAt.EqAt A.in1 s y x (e y)) ∧ vs.any e = xs.any fun y => PyData.eqv y d := by
  have at_ : ∀ (i : Nat) y, vs.toList[i]? = some y → ∃ z, xs[i]? = some z ∧ SeqAt.EqAt A.in1 s y x (PyData.eqv z d) := fun i y hy => by
    obtain ⟨z, cs, hz, rz⟩ := readsAll_get rs hy
    have hm := List.mem_of_getElem? hz
    unfold okIn at ok
    rw [Bool.and_eq_true, Bool.or_eq_true, Bool.or_eq_true, Bool.and_eq_true] at ok
    have hdp := of_decide_eq_true ok.2
    have dm := depth_mem hm
    have room : A.in1.units + min z.depth d.depth < cLine := by
      show A.units + 1 + _ < _
      omega
    refine ⟨z, hz, ?_⟩
    rcases ok.1 with ok | ok | ok
    · have hz0 : z.canLay0 = true := by
        have : ∀ {ys : List PyData}, PyData.canLayAll0 ys = true → ∀ z ∈ ys, z.canLay0 = true := fun {ys} => by
          induction ys with
          | nil => intro _ z h; cases h
          | cons y ys ih =>
            intro h z m
            rw [PyData.canLayAll0, Bool.and_eq_true] at h
            rcases List.mem_cons.mp m with rfl | m
            · exact h.1
            · exact ih h.2 z m
        exact this ok.1 z hm
      exact SeqAt.eqAt_reads z d A.in1 s y x _ _ rz rx hz0 ok.2 room
    · exact SeqAt.eqTD z d A.in1 s y x _ _ rz rx (tis_mem ok hm) room
    · exact SeqAt.eqDT z d A.in1 s y x _ _ rz rx ok room
  classical
  have uniq : ∀ (i j : Nat) (y : Value) z w, vs.toList[i]? = some y → vs.toList[j]? = some y → xs[i]? = some z → xs[j]? = some w → PyData.eqv z d = PyData.eqv w d := fun i j y z w h1 h2 h3 h4 => by
    obtain ⟨z', cs, hz, rz⟩ := readsAll_get rs h1
    obtain ⟨w', cs', hw, rw'⟩ := readsAll_get rs h2
    rw [h3] at hz
    rw [h4] at hw
    cases hz
    cases hw
    unfold okIn at ok
    rw [Bool.and_eq_true, Bool.or_eq_true, Bool.or_eq_true, Bool.and_eq_true] at ok
    rcases ok.1 with ok | ok | ok
    · have hz0 : z.canLay0 = true := by
        have : ∀ {ys : List PyData}, PyData.canLayAll0 ys = true → ∀ z ∈ ys, z.canLay0 = true := fun {ys} => by
          induction ys with
          | nil => intro _ z h; cases h
          | cons y ys ih =>
            intro h z m
            rw [PyData.canLayAll0, Bool.and_eq_true] at h
            rcases List.mem_cons.mp m with rfl | m
            · exact h.1
            · exact ih h.2 z m
        exact this ok.1 z (List.mem_of_getElem? h3)
      rw [SeqAt.Reads.unique z w _ _ _ hz0 rz rw']
    · rw [SeqAt.Reads.unique z w _ _ _ (SeqAt.ti_lay _ (tis_mem ok (List.mem_of_getElem? h3))) rz rw']
    · exact reads_eqv d ok rz rw'
  have hlen : vs.toList.length = xs.length := SeqAt.ReadsAll.length _ _ _ rs
  let e : Value → Bool := fun y => if hx : ∃ (i : Nat) (z : PyData), vs.toList[i]? = some y ∧ xs[i]? = some z then PyData.eqv hx.choose_spec.choose d else false
  have he : ∀ (i : Nat) y z, vs.toList[i]? = some y → xs[i]? = some z → e y = PyData.eqv z d := fun i y z hy hz => by
    have hx : ∃ (i : Nat) (z : PyData), vs.toList[i]? = some y ∧ xs[i]? = some z := ⟨i, z, hy, hz⟩
    show (if hx : ∃ (i : Nat) (z : PyData), vs.toList[i]? = some y ∧ xs[i]? = some z then PyData.eqv hx.choose_spec.choose d else false) = _
    rw [dif_pos hx]
    exact uniq _ i y _ z hx.choose_spec.choose_spec.1 hy hx.choose_spec.choose_spec.2 hz
  refine ⟨e, fun y hy => ?_, ?_⟩
  · obtain ⟨i, hi, hv⟩ := List.mem_iff_getElem.mp (show y ∈ vs.toList by simpa using hy)
    have hy' : vs.toList[i]? = some y := by rw [List.getElem?_eq_getElem hi, hv]
    obtain ⟨z, hz, q⟩ := at_ i y hy'
    rw [he i y z hy' hz]
    exact q
  · rw [← Array.any_toList]
    apply Bool.eq_iff_iff.mpr
    rw [List.any_eq_true, List.any_eq_true]
    constructor
    · rintro ⟨y, hy, hq⟩
      obtain ⟨i, hi, hv⟩ := List.mem_iff_getElem.mp hy
      have hy' : vs.toList[i]? = some y := by rw [List.getElem?_eq_getElem hi, hv]
      obtain ⟨z, hz, _⟩ := at_ i y hy'
      exact ⟨z, List.mem_of_getElem? hz, by rw [← he i y z hy' hz]; exact hq⟩
    · rintro ⟨z, hz, hq⟩
      obtain ⟨i, hi, hv⟩ := List.mem_iff_getElem.mp hz
      have hi' : i < vs.toList.length := by omega
      have hy' : vs.toList[i]? = some vs.toList[i] := List.getElem?_eq_getElem hi'
      have hz' : xs[i]? = some z := by rw [List.getElem?_eq_getElem hi, hv]
      exact ⟨vs.toList[i], List.getElem_mem hi', by rw [he i _ z hy' hz']; exact hq⟩
end
end Du

namespace PySem.SeqAt
open AutoSeq1 (wpAny_loadPart')
open MeetsSeq
theorem int_le_bool_int (a : Bool) (b : Int) (u : Tok) : Gives (Builtin.«int.__le__» ⟨[.bool a, .int b u], []⟩) (.val (Value.bool (decide ((if a = true then (1 : Int) else 0) ≤ b)))) :=
  .of_wp fun M A E s Q h => by obtain ⟨hp, g, d, tk, os⟩ := s; wp_walk; exact ⟨_, rfl, h⟩
theorem int_ge_bool_int (a : Bool) (b : Int) (u : Tok) : Gives (Builtin.«int.__ge__» ⟨[.bool a, .int b u], []⟩) (.val (Value.bool (decide ((if a = true then (1 : Int) else 0) ≥ b)))) :=
  .of_wp fun M A E s Q h => by obtain ⟨hp, g, d, tk, os⟩ := s; wp_walk; exact ⟨_, rfl, h⟩
theorem int_ge_bool_bool (a b : Bool) : Gives (Builtin.«int.__ge__» ⟨[.bool a, .bool b], []⟩) (.val (Value.bool (decide ((if a = true then (1 : Int) else 0) ≥ (if b = true then (1 : Int) else 0))))) :=
  .of_wp fun M A E s Q h => by obtain ⟨hp, g, d, tk, os⟩ := s; wp_walk; exact ⟨_, rfl, h⟩
end PySem.SeqAt
/-! The operations on data: in, order, is, places, slices, truth, builtins. -/
namespace Du
open PySem PySem.Spec PyProof.Rows L2 On
section
variable {K : PySem.W.Frag} {c : Bs} {X : Cx} {e a b : Expr} {pos : Pos}
def rInG (K : PySem.W.Frag) (neg : Bool) : R2 := fun x y H Q => ∃ d ds, Da K H x d ∧ (Da K H y (.tuple ds) ∨ Da K H y (.list ds)) ∧ okIn d ds = true ∧ Q (.bl (neg != ds.any fun z => PyData.eqv z d)) H
theorem op_inG (hu : X.A.units + 66 < cLine) (hK : X.K = K := by rfl) : OpR X (compareOp .In) (rInG K false) := by
  subst hK
  intro pins s σ H x y v u Q I rx ry h
  obtain ⟨d, ds, hd, he, ok, q⟩ := h
  obtain ⟨as, r1, _⟩ := da_reads I hd rx
  rcases he with he | he
  · obtain ⟨bs, r2, _⟩ := da_reads I he ry
    cases r2 with
    | tuple h1 h2 h3 h4 =>
      obtain ⟨e, e1, e2⟩ := items_at (A := X.A) h4 r1 ok (by omega)
      refine SeqAt.in_tupleAt e ⟨_, h1, h2, _, h3⟩ e1 ⟨.bl _, H, I, rfl, ?_⟩
      rw [e2]
      simpa using q
  · obtain ⟨bs, r2, _⟩ := da_reads I he ry
    cases r2 with
    | list h1 h2 h3 h4 =>
      obtain ⟨e, e1, e2⟩ := items_at (A := X.A) h4 r1 ok (by omega)
      refine SeqAt.in_listAt e ⟨_, h1, h2, _, h3⟩ e1 ⟨.bl _, H, I, rfl, ?_⟩
      rw [e2]
      simpa using q
theorem op_notInG (hu : X.A.units + 66 < cLine) (hK : X.K = K := by rfl) : OpR X (compareOp .NotIn) (rInG K true) := by
  subst hK
  intro pins s σ H x y v u Q I rx ry h
  obtain ⟨d, ds, hd, he, ok, q⟩ := h
  obtain ⟨as, r1, _⟩ := da_reads I hd rx
  rcases he with he | he
  · obtain ⟨bs, r2, _⟩ := da_reads I he ry
    cases r2 with
    | tuple h1 h2 h3 h4 =>
      obtain ⟨e, e1, e2⟩ := items_at (A := X.A) h4 r1 ok (by omega)
      refine SeqAt.notIn_tupleAt e ⟨_, h1, h2, _, h3⟩ e1 ⟨.bl _, H, I, rfl, ?_⟩
      rw [e2]
      simpa using q
  · obtain ⟨bs, r2, _⟩ := da_reads I he ry
    cases r2 with
    | list h1 h2 h3 h4 =>
      obtain ⟨e, e1, e2⟩ := items_at (A := X.A) h4 r1 ok (by omega)
      refine SeqAt.notIn_listAt e ⟨_, h1, h2, _, h3⟩ e1 ⟨.bl _, H, I, rfl, ?_⟩
      rw [e2]
      simpa using q
def fIn (neg : Bool) : F2 := fun d e k => match e with
  | .tuple ds => okIn d ds = true ∧ k (.bool (neg != ds.any fun z => PyData.eqv z d))
  | .list ds => okIn d ds = true ∧ k (.bool (neg != ds.any fun z => PyData.eqv z d))
  | _ => False
theorem od_in {neg : Bool} : OpD K (rInG K neg) (fIn neg) := fun O H x y d e k Q hd hs nx ny hf q => by
  unfold fIn at hf
  split at hf
  · exact ⟨d, _, nx.da, .inl ny.da, hf.1, q _ _ H hf.2 (Same.refl H) (.bl _)⟩
  · exact ⟨d, _, nx.da, .inr ny.da, hf.1, q _ _ H hf.2 (Same.refl H) (.bl _)⟩
  · exact hf.elim
/-! ### order of tuples of ints and truths -/
def numD : PyData → Option Int
  | .int i => some i
  | .bool b => some (if b then 1 else 0)
  | _ => Option.none
/-- d >= e, where it can be asked -/
def geNum (d e : PyData) : Option Bool := match numD d, numD e with
  | some i, some j => some (decide (j ≤ i))
  | _, _ => Option.none
def geAll : List PyData → List PyData → Option Bool
  | _, [] => some true
  | [], _ :: _ => some false
  | x :: xs, y :: ys => if PyData.eqv x y = true then geAll xs ys else geNum x y
def numsD (xs : List PyData) : Bool := xs.all fun d => (numD d).isSome
theorem ge_num {A : Around} {s : Shared} {a b : Value} {as bs : List Addr} {d e : PyData} {r : Bool} (ra : Reads s.heap a d as) (rb : Reads s.heap b e bs) (h : geNum d e = some r) : Ob.RcOp .GtE A s a b r := by
  cases ra with
  | int i t =>
    cases rb with
    | int j u =>
      have h' : some (decide (j ≤ i)) = some r := h
      cases h'
      exact Ob.RcOp.ge_int i j t u
    | bool y =>
      have h' : some (decide ((if y = true then (1 : Int) else 0) ≤ i)) = some r := h
      cases h'
      intro prog w E Q h
      exact SeqAt.rc_sub_first_or (typeIs_int s i t) rfl (by decide) F.sub_bool_int F.slot_bool_le_refl
        (call_gives F.slot_bool_le_refl rfl F.entry_int_le (F.args_int_le_2 _ _) (SeqAt.int_le_bool_int y i t) ⟨nofun, h⟩) (.inl rfl)
    | _ => cases h
  | bool x =>
    cases rb with
    | int j u =>
      have h' : some (decide (j ≤ (if x = true then (1 : Int) else 0))) = some r := h
      cases h'
      intro prog w E Q h
      exact SeqAt.rc_left_or rfl (typeIs_int s j u) (by decide) F.sub_int_bool F.slot_bool_ge
        (call_gives F.slot_bool_ge rfl F.entry_int_ge (F.args_int_ge_2 _ _) (SeqAt.int_ge_bool_int x j u) ⟨nofun, h⟩) (.inl rfl)
    | bool y =>
      have h' : some (decide ((if y = true then (1 : Int) else 0) ≤ (if x = true then (1 : Int) else 0))) = some r := h
      cases h'
      intro prog w E Q h
      exact richCompare_gives (T := "bool") rfl rfl F.slot_bool_ge F.entry_int_ge (F.args_int_ge_2 _ _) (SeqAt.int_ge_bool_bool x y) (fun x => nomatch x) h
    | _ => cases h
  | _ => cases h
theorem lexAt_geAll : ∀ (xs ys pre pre2 : List PyData) (r : Bool), pre.length = pre2.length → geAll xs ys = some r →
    Ob.lexAt (SeqAt.pairEq (pre ++ xs) (pre2 ++ ys)) (fun j => (geNum ((pre ++ xs).getD j .none) ((pre2 ++ ys).getD j .none)).getD false) (decide ((pre ++ xs).length ≥ (pre2 ++ ys).length)) pre.length (min xs.length ys.length) = r
  | xs, [], pre, pre2, r, hl, h => by
    have h' : some true = some r := by
      cases xs <;> exact h
    cases h'
    rw [List.length_nil, Nat.min_zero, Ob.lexAt_zero]
    simp [hl]
  | [], y :: ys, pre, pre2, r, hl, h => by
    have h' : some false = some r := h
    cases h'
    rw [List.length_nil, Nat.zero_min, Ob.lexAt_zero]
    simp [hl]
  | x :: xs, y :: ys, pre, pre2, r, hl, h => by
    have e1 : min (x :: xs).length (y :: ys).length = min xs.length ys.length + 1 := by simp only [List.length_cons]; omega
    have g1 : (pre ++ x :: xs).getD pre.length .none = x := by simp
    have g2 : (pre2 ++ y :: ys).getD pre.length .none = y := by rw [hl]; simp
    rw [e1, Ob.lexAt_succ]
    have ep : SeqAt.pairEq (pre ++ x :: xs) (pre2 ++ y :: ys) pre.length = PyData.eqv x y := by
      show PyData.eqv _ _ = _
      rw [g1, g2]
    rw [ep]
    have h' : (if PyData.eqv x y = true then geAll xs ys else geNum x y) = some r := h
    by_cases hq : PyData.eqv x y = true
    · rw [if_pos hq] at h' ⊢
      have ih := lexAt_geAll xs ys (pre ++ [x]) (pre2 ++ [y]) r (by simp [hl]) h'
      simpa using ih
    · rw [if_neg hq] at h' ⊢
      show (geNum ((pre ++ x :: xs).getD pre.length .none) ((pre2 ++ y :: ys).getD pre.length .none)).getD false = r
      rw [g1, g2, h']
      rfl
/-- >= of ints, of tuples of ints and truths -/
def geD (d e : PyData) : Option Bool := match d, e with
  | .int i, .int j => some (decide (j ≤ i))
  | .tuple xs, .tuple ys => if numsD xs && numsD ys then geAll xs ys else Option.none
  | _, _ => Option.none
theorem nums_lay : ∀ {xs : List PyData}, numsD xs = true → PyData.canLayAll0 xs = true ∧ PyData.depthAll xs ≤ 1
  | [], _ => ⟨by rw [PyData.canLayAll0], by rw [PyData.depthAll]; exact Nat.zero_le _⟩
  | x :: xs, h => by
    rw [numsD, List.all_cons, Bool.and_eq_true] at h
    have ih := nums_lay (xs := xs) h.2
    have hx : x.canLay0 = true ∧ x.depth ≤ 1 := by
      cases x with
      | int i => exact ⟨by rw [PyData.canLay0], by simp [PyData.depth]⟩
      | bool i => exact ⟨by rw [PyData.canLay0], by simp [PyData.depth]⟩
      | _ => simp [numD] at h
    refine ⟨by rw [PyData.canLayAll0, hx.1, ih.1] <;> rfl, ?_⟩
    rw [PyData.depthAll]
    exact Nat.max_le.mpr ⟨hx.2, ih.2⟩
def rGeD (K : PySem.W.Frag) : R2 := fun x y H Q => ∃ d e r, Da K H x d ∧ Da K H y e ∧ geD d e = some r ∧ Q (.bl r) H
theorem geNum_some {x y : PyData} (hx : (numD x).isSome = true) (hy : (numD y).isSome = true) : ∃ r, geNum x y = some r := by
  unfold geNum
  cases h1 : numD x with
  | none => rw [h1] at hx; cases hx
  | some i =>
    cases h2 : numD y with
    | none => rw [h2] at hy; cases hy
    | some j => exact ⟨_, rfl⟩
theorem op_geD (hu : X.A.units + 66 < cLine) (hK : X.K = K := by rfl) : OpR X (compareOp .GtE) (rGeD K) := by
  subst hK
  intro pins s σ H x y v u Q I rx ry h
  obtain ⟨d, e, r, hd, he, ok, q⟩ := h
  obtain ⟨as, r1, _⟩ := da_reads I hd rx
  obtain ⟨bs, r2, _⟩ := da_reads I he ry
  unfold geD at ok
  split at ok
  · cases ok
    cases r1
    cases r2
    exact Ob.RcOp.ge_int _ _ _ _ X.prog X.w X.xe _ ⟨.bl _, H, I, rfl, q⟩
  · rename_i xs ys
    split at ok
    · rename_i hn
      rw [Bool.and_eq_true] at hn
      cases r1 with
      | @tuple l o vs n _ _ h1 h2 h3 h4 =>
        cases r2 with
        | @tuple l' o' vs' n' _ _ k1 k2 k3 k4 =>
          have hl : s.heap.IsTuple l vs := ⟨_, h1, h2, _, h3⟩
          have hl' : s.heap.IsTuple l' vs' := ⟨_, k1, k2, _, k3⟩
          have n1 : vs.size = xs.length := by simpa using SeqAt.ReadsAll.length _ _ _ h4
          have n2 : vs'.size = ys.length := by simpa using SeqAt.ReadsAll.length _ _ _ k4
          have l1 := nums_lay hn.1
          have l2 := nums_lay hn.2
          have room : X.A.in1.units + min (PyData.depthAll xs) (PyData.depthAll ys) < cLine := by
            show X.A.units + 1 + _ < _
            omega
          have z := Ob.RcOp.tuples_ge (A := X.A) (e := SeqAt.pairEq xs ys) (r := fun j => (geNum (xs.getD j .none) (ys.getD j .none)).getD false) hl hl' (by omega) (fun j j1 j2 => by
            have := SeqAt.eqAt_readsAll xs ys X.A.in1 s vs.toList vs'.toList _ _ h4 k4 l1.1 l2.1 room j (by simpa using j1) (by simpa using j2)
            simpa using this) (fun j j1 j2 _ => by
            have e1 : vs.toList[j]? = some vs[j] := by simp [j1]
            have e2 : vs'.toList[j]? = some vs'[j] := by simp [j2]
            obtain ⟨dx, cs, hx, rx'⟩ := readsAll_get h4 e1
            obtain ⟨dy, cs', hy, ry'⟩ := readsAll_get k4 e2
            have p1 : (numD dx).isSome = true := List.all_eq_true.mp hn.1 dx (List.mem_of_getElem? hx)
            have p2 : (numD dy).isSome = true := List.all_eq_true.mp hn.2 dy (List.mem_of_getElem? hy)
            obtain ⟨r, hr⟩ := geNum_some p1 p2
            have g := ge_num (A := X.A.in1) rx' ry' hr
            show Ob.RcOp .GtE X.A.in1 s vs[j] vs'[j] ((geNum (xs.getD j .none) (ys.getD j .none)).getD false)
            rw [List.getD_eq_getElem?_getD, List.getD_eq_getElem?_getD, hx, hy]
            show Ob.RcOp .GtE X.A.in1 s vs[j] vs'[j] ((geNum dx dy).getD false)
            rw [hr]
            exact g)
          have el := lexAt_geAll xs ys [] [] r rfl ok
          rw [List.nil_append, List.nil_append, List.length_nil] at el
          rw [n1, n2, el] at z
          exact z X.prog X.w X.xe _ ⟨.bl _, H, I, rfl, q⟩
    · cases ok
  · cases ok
def fGeD : F2 := fun d e k => match geD d e with
  | some r => k (.bool r)
  | Option.none => False
theorem od_geD : OpD K (rGeD K) fGeD := fun O H x y d e k Q hd hs nx ny hf q => by
  unfold fGeD at hf
  split at hf
  · rename_i r hr
    exact ⟨d, e, r, nx.da, ny.da, hr, q _ _ H hf (Same.refl H) (.bl _)⟩
  · exact hf.elim
/-! ### is -/
theorem is_bool_gen {M : Model} {A : Around} {E : Value → Shared → Prop} {s : Shared} {v : Value} {b : Bool} {Q : Value → Shared → Prop} (hv : ∀ n, v ≠ .builtin n) (h : Q (.bool (v == .bool b)) s) : wpAny M A (compareOp .Is v (.bool b)) Q E s := by
  cases v <;> first | exact wpAny_pure h | exact absurd rfl (hv _)
theorem isnot_bool_gen {M : Model} {A : Around} {E : Value → Shared → Prop} {s : Shared} {v : Value} {b : Bool} {Q : Value → Shared → Prop} (hv : ∀ n, v ≠ .builtin n) (h : Q (.bool (!(v == .bool b))) s) : wpAny M A (compareOp .IsNot v (.bool b)) Q E s := by
  cases v <;> first | exact wpAny_pure h | exact absurd rfl (hv _)
def isB (b : Bool) : V → Bool
  | .bl a => a == b
  | _ => false
theorem rel_isB {x : V} {v : Value} {b : Bool} (r : RelV x v) : (v == Value.bool b) = isB b x ∧ ∀ n, v ≠ .builtin n := by
  cases x with
  | non => cases r; exact ⟨rfl, fun _ => nofun⟩
  | bl a =>
    cases r
    refine ⟨?_, fun _ => nofun⟩
    show (Value.bool a == Value.bool b) = (a == b)
    by_cases e : a = b
    · subst e
      rw [beq_self_eq_true, beq_self_eq_true]
    · rw [beq_eq_false_iff_ne.mpr (fun z => e (Value.bool.inj z)), beq_eq_false_iff_ne.mpr e]
  | int _ => obtain ⟨t, rfl⟩ := r; exact ⟨rfl, fun _ => nofun⟩
  | str _ => obtain ⟨t, rfl⟩ := r; exact ⟨rfl, fun _ => nofun⟩
  | byt _ => obtain ⟨t, rfl⟩ := r; exact ⟨rfl, fun _ => nofun⟩
  | flt _ => obtain ⟨t, rfl⟩ := r; exact ⟨rfl, fun _ => nofun⟩
  | ref _ => cases r; exact ⟨rfl, fun _ => nofun⟩
  | ty _ => cases r; exact ⟨rfl, fun _ => nofun⟩
def rIsG (neg : Bool) : R2 := fun x y H Q => ∃ b, y = .bl b ∧ Q (.bl (neg != isB b x)) H
theorem op_isG : OpR X (compareOp .Is) (rIsG false) := by
  intro pins s σ H x y v u Q I rx ry h
  obtain ⟨b, rfl, q⟩ := h
  cases (show u = Value.bool b from ry)
  refine is_bool_gen (rel_isB rx (b := b)).2 ⟨.bl _, H, I, rfl, ?_⟩
  rw [(rel_isB rx).1]
  simpa using q
theorem op_isNotG : OpR X (compareOp .IsNot) (rIsG true) := by
  intro pins s σ H x y v u Q I rx ry h
  obtain ⟨b, rfl, q⟩ := h
  cases (show u = Value.bool b from ry)
  refine isnot_bool_gen (rel_isB rx (b := b)).2 ⟨.bl _, H, I, rfl, ?_⟩
  rw [(rel_isB rx).1]
  simpa using q
def isBd (b : Bool) : PyData → Bool
  | .bool a => a == b
  | _ => false
def fIs (neg : Bool) : F2 := fun d e k => match e with
  | .bool b => k (.bool (neg != isBd b d))
  | _ => False
theorem isB_d {O : List Addr} {H : Hp} {x : V} {d : PyData} {b : Bool} (h : Nq K O H x d) : isB b x = isBd b d := by
  have h := h.da
  cases h <;> rfl
theorem od_is {neg : Bool} : OpD K (rIsG neg) (fIs neg) := fun O H x y d e k Q hd hs nx ny hf q => by
  unfold fIs at hf
  split at hf
  · cases nq_bl ny
    exact ⟨_, rfl, by rw [isB_d nx]; exact q _ _ H hf (Same.refl H) (.bl _)⟩
  · exact hf.elim
/-- is None -/
def isNd : PyData → Bool
  | .none => true
  | _ => false
def fIsN (neg : Bool) : F2 := fun d e k => match e with
  | .none => k (.bool (neg != isNd d))
  | _ => False
theorem isN_d {O : List Addr} {H : Hp} {x : V} {d : PyData} (h : Nq K O H x d) : decide (x = .non) = isNd d := by
  have h := h.da
  cases h <;> rfl
theorem od_isN : OpD K (fun x y H Q => y = .non ∧ Q (.bl (decide (x = .non))) H) (fIsN false) := fun O H x y d e k Q hd hs nx ny hf q => by
  unfold fIsN at hf
  split at hf
  · exact ⟨nq_non ny, by rw [isN_d nx]; exact q _ _ H (by simpa using hf) (Same.refl H) (.bl _)⟩
  · exact hf.elim
theorem od_isNotN : OpD K (fun x y H Q => y = .non ∧ Q (.bl (!decide (x = .non))) H) (fIsN true) := fun O H x y d e k Q hd hs nx ny hf q => by
  unfold fIsN at hf
  split at hf
  · exact ⟨nq_non ny, by rw [isN_d nx]; exact q _ _ H (by simpa using hf) (Same.refl H) (.bl _)⟩
  · exact hf.elim
def fNeg : PyData → (PyData → Prop) → Prop := fun d k => match d with
  | .int i => k (.int (-i))
  | _ => False
theorem od_neg : UnD K (rU fun i => .int (-i)) fNeg := fun O H x d k Q hd hs nx hf q => by
  unfold fNeg at hf
  split at hf
  · cases nq_int nx
    exact ⟨_, rfl, q _ _ H hf (Same.refl H) (.int _)⟩
  · exact hf.elim
/-! ### places, slices -/
def fIx : F2 := fun d e k => match d, e with
  | .list ds, .int i => match atI ds i with
    | some z => k z
    | Option.none => False
  | .tuple ds, .int i => match atI ds i with
    | some z => k z
    | Option.none => False
  | _, _ => False
theorem atI_all {H : Hp} {xs : List V} {ds : List PyData} {i : Int} {z : PyData} (h : DaAll K H xs ds) (e : atI ds i = some z) : ∃ x, atI xs i = some x ∧ Da K H x z := by
  unfold atI at e ⊢
  rw [daAll_len h]
  cases hj : ixN ds.length i with
  | none => rw [hj] at e; cases e
  | some j =>
    rw [hj] at e
    exact daAll_at h e
theorem od_ix : OpD K (rIx K) fIx := fun O H x y d e k Q hd hs nx ny hf q => by
  unfold fIx at hf
  split at hf
  · cases nq_int ny
    obtain ⟨a, xs, rfl, h1, _, h3⟩ := nq_lst nx
    split at hf
    · rename_i z hz
      obtain ⟨v, hv, dv⟩ := atI_all h3 hz
      exact .inl ⟨a, xs, _, v, rfl, rfl, SqL.of h1, hv, q _ _ H hf (Same.refl H) dv⟩
    · exact hf.elim
  · cases nq_int ny
    obtain ⟨a, xs, rfl, h1, _, h3⟩ := nq_tup nx
    split at hf
    · rename_i z hz
      obtain ⟨v, hv, dv⟩ := atI_all h3 hz
      exact .inr (.inl ⟨a, xs, _, v, rfl, rfl, h1, hv, q _ _ H hf (Same.refl H) dv⟩)
    · exact hf.elim
  · exact hf.elim
theorem de_ix {ma mb : ME} (hr : IxR X (rIx K)) (ha : PE X a (upN K c ma)) (hb : PE X b (upN K c mb)) (hs : PlainIx b) : PE X (.Subscript a b pos) (up K c (m2 fIx ma mb)) := pe_mono (pe_ix hr ha hb hs) (up_op od_ix)
abbrev MO := List DV → (Option Int → Prop) → Prop
def upO (K : PySem.W.Frag) (c : Bs) (m : MO) : TO := fun σ H Q => ∃ F env O k, Rel K c F env O σ H ∧ m env k ∧ ∀ o H', k o → Gx c H H' → Q o H'
def mNoP : MO := fun _ k => k Option.none
def mPart (m : ME) : MO := fun env k => m env fun d => match d with
  | .int i => k (some i)
  | _ => False
theorem po_mono {o : Option Expr} {t t' : TO} (h : PO X o t) (w : ∀ σ H Q, t' σ H Q → t σ H Q) : PO X o t' := ⟨fun pins s σ H Q I q => h.run pins s σ H Q I (w _ _ _ q)⟩
theorem do_none : PO X Option.none (upO K c mNoP) := po_mono po_none fun σ H Q ⟨F, env, O, k, R, hm, q⟩ => q _ H hm R.refl
theorem do_some {m : ME} (h : PE X e (upN K c m)) : PO X (some e) (upO K c (mPart m)) := po_mono (po_some h) fun σ H Q ⟨F, env, O, k, R, hm, q⟩ => ⟨F, env, O, _, R, hm, fun d x H' kd g n => by
  split at kd
  · cases nq_int n.nq
    exact ⟨_, rfl, q _ H' kd g⟩
  · exact kd.elim⟩
def cutD (ds : List PyData) (lo hi : Option Int) : List PyData := (ds.drop (HT.sIx ds.length 0 lo)).take (HT.sIx ds.length ds.length hi - HT.sIx ds.length 0 lo)
theorem cut_all {H : Hp} {xs : List V} {ds : List PyData} {lo hi : Option Int} (h : DaAll K H xs ds) : DaAll K H (cutV xs lo hi) (cutD ds lo hi) := by
  unfold cutV cutD
  rw [daAll_len h]
  exact daAll_take _ (daAll_drop _ h)
def mSl (m : ME) (l h : MO) : ME := fun env k => m env fun d => l env fun lo => h env fun hi => match d with
  | .list ds => k (.list (cutD ds lo hi))
  | .tuple ds => k (.tuple (cutD ds lo hi))
  | _ => False
def mSlL (m : ME) (l h : MO) : ME := fun env k => m env fun d => l env fun lo => h env fun hi => match d with
  | .list ds => k (.list (cutD ds lo hi))
  | _ => False
def mSlT (m : ME) (l h : MO) : ME := fun env k => m env fun d => l env fun lo => h env fun hi => match d with
  | .tuple ds => k (.tuple (cutD ds lo hi))
  | _ => False
variable {lo hi : Option Expr} {p2 : Pos}
theorem de_slL {m : ME} {l h : MO} (hr : SlR X (rSlL K)) (he : PE X e (upN K c m)) (hl : PO X lo (upO K c l)) (hu : PO X hi (upO K c h)) : PE X (.Subscript e (.Slice lo hi Option.none p2) pos) (upL K c (mSlL m l h)) := pe_mono (pe_slice hr he hl hu) fun σ H Q ⟨F, env, O, k, R, hm, q⟩ => by
  refine ⟨F, env, O, _, R, hm, fun d x H1 kd g1 n => ⟨F, env, O, _, R.gx g1, kd, fun lo H2 k2 g2 => ⟨F, env, O, _, (R.gx g1).gx g2, k2, fun hi H3 k3 g3 => ?_⟩⟩⟩
  have R1 := R.gx g1
  have R2 := R1.gx g2
  have R3 := R2.gx g3
  split at k3
  · have n3 := ((n.gx R1 g2).gx R2 g3).nq
    obtain ⟨a, xs, rfl, h1, _, h3⟩ := nq_lst n3
    refine ⟨a, xs, rfl, SqL.of h1, fun p np => ?_⟩
    have g := (g1.trans g2).trans g3
    have s : Same H3 (upd H3 p (.lst (cutV xs lo hi))) := Evl.Ex.new np
    have nH : H p = Option.none := by
      cases e : H p with
      | none => rfl
      | some o =>
        by_cases hb : p ∈ c.b
        · obtain ⟨o, eo⟩ := R3.dom p (R.bO p hb)
          rw [np] at eo
          cases eo
        · rw [g.kp p o hb e] at np
          cases np
    have nsys : p ≠ sysModules := fun z => by
      obtain ⟨φ, e⟩ := R3.sys
      rw [← z, np] at e
      cases e
    exact q _ p _ _ _ k3 rfl (g.trans (R3.same s)) nH upd_same nsys (daAll_same (offs_new np s) (cut_all h3))
  · exact k3.elim
theorem de_slT {m : ME} {l h : MO} (hr : SlR X (rSlA K)) (he : PE X e (upN K c m)) (hl : PO X lo (upO K c l)) (hu : PO X hi (upO K c h)) : PE X (.Subscript e (.Slice lo hi Option.none p2) pos) (up K c (mSlT m l h)) := pe_mono (pe_slice hr he hl hu) fun σ H Q ⟨F, env, O, k, R, hm, q⟩ => by
  refine ⟨F, env, O, _, R, hm, fun d x H1 kd g1 n => ⟨F, env, O, _, R.gx g1, kd, fun lo H2 k2 g2 => ⟨F, env, O, _, (R.gx g1).gx g2, k2, fun hi H3 k3 g3 => ?_⟩⟩⟩
  have R1 := R.gx g1
  have R2 := R1.gx g2
  have R3 := R2.gx g3
  split at k3
  · have n3 := ((n.gx R1 g2).gx R2 g3).nq
    obtain ⟨a, xs, rfl, h1, h2, h3⟩ := nq_tup n3
    have g := (g1.trans g2).trans g3
    refine ⟨a, xs, rfl, h1, fun w => ?_, fun _ p np => ?_⟩
    · refine q _ _ H3 k3 g ?_
      have e : ∀ ds : List PyData, DaAll K (offs O H3) xs ds → cutD ds lo hi = ds := fun ds hds => by
        unfold cutD
        rw [← daAll_len hds, w.1, w.2, List.drop_zero, Nat.sub_zero, daAll_len hds, List.take_length]
      rw [e _ h3]
      exact .tup h2 h3
    · exact q _ _ _ k3 (g.trans (R3.same (Evl.Ex.new np))) (new_tup R3.dom np (cut_all h3))
  · exact k3.elim
/-! ### truth -/
def truD : PyData → Option Bool
  | .none => some false
  | .bool b => some b
  | .int i => some (i != 0)
  | .str x => if x.length ≤ 100000 then some ((x.length : Int) != 0) else Option.none
  | .list ds => some (!ds.isEmpty)
  | .tuple ds => some (!ds.isEmpty)
  | .dict _ => Option.none
theorem truV_of {O : List Addr} {H : Hp} {x : V} {d : PyData} {b : Bool} (h : Nq K O H x d) (e : truD d = some b) : TruV K x H b := by
  cases d with
  | none => cases nq_non h; cases e; rfl
  | bool _ => cases nq_bl h; cases e; rfl
  | int _ => cases nq_int h; cases e; rfl
  | str y =>
    cases nq_str h
    have e' : (if y.length ≤ 100000 then some ((y.length : Int) != 0) else Option.none) = some b := e
    split at e'
    · cases e'
      exact ⟨Evl.sz_of (by assumption), rfl⟩
    · cases e'
  | list ds =>
    obtain ⟨a, xs, rfl, h1, _, h3⟩ := nq_lst h
    cases e
    refine .inl ⟨xs, SqL.of h1, ?_⟩
    cases h3 <;> rfl
  | tuple ds =>
    obtain ⟨a, xs, rfl, h1, _, h3⟩ := nq_tup h
    cases e
    refine .inr (.inl ⟨xs, h1, ?_⟩)
    cases h3 <;> rfl
  | dict _ => cases e
def mTru (m : ME) : MT := fun env k => m env fun d => match truD d with
  | some b => k b
  | Option.none => False
theorem dt_val {m : ME} (hK : X.K = K) (h : PE X a (upN K c m)) (he : ∀ whole, isTrue a X.env whole = (do let v ← whole; standAt a.pos; holding [v] (truthy v)) := by intro _; rfl) : PT X a (upT K c (mTru m)) := by
  subst hK
  refine pt_mono (pt_truth h he) fun σ H Q ⟨F, env, O, k, R, hm, q⟩ => ⟨F, env, O, _, R, hm, fun d x H' kd g n => ?_⟩
  split at kd
  · rename_i b hb
    exact ⟨b, truV_of n.nq hb, q _ _ kd g⟩
  · exact kd.elim
def mNotD (m : ME) : ME := fun env k => m env fun d => match truD d with
  | some b => k (.bool (!b))
  | Option.none => False
theorem de_not {m : ME} (hK : X.K = K) (h : PE X a (upN K c m)) : PE X (.UnaryOp .Not a pos) (up K c (mNotD m)) := by
  subst hK
  refine pe_mono (pe_notT h) fun σ H Q ⟨F, env, O, k, R, hm, q⟩ => ⟨F, env, O, _, R, hm, fun d x H' kd g n => ?_⟩
  split at kd
  · rename_i b hb
    exact ⟨b, truV_of n.nq hb, q _ _ _ kd g (.bl _)⟩
  · exact kd.elim
end
end Du

/-! Builtins on data; enumerate, zip; two comprehensions in one. -/
namespace Du
open PySem PySem.Spec PyProof.Rows L2 On
abbrev FL := List PyData → (PyData → Prop) → Prop
section
variable {K : PySem.W.Frag} {c : Bs} {X : Cx} {e a b : Expr} {pos : Pos}
theorem pq1 {O : List Addr} {H : Hp} {xs : List V} {d : PyData} (h : Paired (Nq K O H) xs [d]) : ∃ x, xs = [x] ∧ Nq K O H x d := by
  cases h with
  | cons r t =>
    cases t
    exact ⟨_, rfl, r⟩
theorem pq2 {O : List Addr} {H : Hp} {xs : List V} {d e : PyData} (h : Paired (Nq K O H) xs [d, e]) : ∃ x y, xs = [x, y] ∧ Nq K O H x d ∧ Nq K O H y e := by
  cases h with
  | cons r t =>
    cases t with
    | cons r2 t =>
      cases t
      exact ⟨_, _, rfl, r, r2⟩
def fLen : FL := fun as k => match as with
  | [.list ds] => k (.int ds.length)
  | [.tuple ds] => k (.int ds.length)
  | _ => False
theorem cd_len : CallD K (On.rLen K) fLen := fun O H xs ds k Q hd hs ps hf q => by
  unfold fLen at hf
  split at hf
  · obtain ⟨x, rfl, n⟩ := pq1 ps
    obtain ⟨a, ys, rfl, h1, _, h3⟩ := nq_lst n
    exact ⟨a, ys, rfl, .inl (SqL.of h1), by rw [daAll_len h3]; exact q _ _ H hf (Same.refl H) (.int _)⟩
  · obtain ⟨x, rfl, n⟩ := pq1 ps
    obtain ⟨a, ys, rfl, h1, _, h3⟩ := nq_tup n
    exact ⟨a, ys, rfl, .inr h1, by rw [daAll_len h3]; exact q _ _ H hf (Same.refl H) (.int _)⟩
  · exact hf.elim
def fAbs : FL := fun as k => match as with
  | [.int i] => k (.int (if i < 0 then -i else i))
  | _ => False
theorem cd_abs : CallD K (fun xs H Q => ∃ i, xs = [.int i] ∧ Q (.int (if i < 0 then -i else i)) H) fAbs := fun O H xs ds k Q hd hs ps hf q => by
  unfold fAbs at hf
  split at hf
  · obtain ⟨x, rfl, n⟩ := pq1 ps
    cases nq_int n
    exact ⟨_, rfl, q _ _ H hf (Same.refl H) (.int _)⟩
  · exact hf.elim
def fInt : FL := fun as k => match as with
  | [.int i] => k (.int i)
  | [.bool b] => k (.int (if b then 1 else 0))
  | _ => False
theorem cd_int : CallD K (fun xs H Q => (∃ i, xs = [.int i] ∧ Q (.int i) H) ∨ ∃ k, xs = [.bl k] ∧ Q (.int (if k then 1 else 0)) H) fInt := fun O H xs ds k Q hd hs ps hf q => by
  unfold fInt at hf
  split at hf
  · obtain ⟨x, rfl, n⟩ := pq1 ps
    cases nq_int n
    exact .inl ⟨_, rfl, q _ _ H hf (Same.refl H) (.int _)⟩
  · obtain ⟨x, rfl, n⟩ := pq1 ps
    cases nq_bl n
    exact .inr ⟨_, rfl, q _ _ H hf (Same.refl H) (.int _)⟩
  · exact hf.elim
def fMin2 : FL := fun as k => match as with
  | [.int i, .int j] => k (.int (if j < i then j else i))
  | _ => False
theorem cd_min2 : CallD K (fun xs H Q => ∃ i j, xs = [.int i, .int j] ∧ Q (.int (if j < i then j else i)) H) fMin2 := fun O H xs ds k Q hd hs ps hf q => by
  unfold fMin2 at hf
  split at hf
  · obtain ⟨x, y, rfl, n1, n2⟩ := pq2 ps
    cases nq_int n1
    cases nq_int n2
    exact ⟨_, _, rfl, q _ _ H hf (Same.refl H) (.int _)⟩
  · exact hf.elim
def fTuple : FL := fun as k => match as with
  | [.list ds] => k (.tuple ds)
  | [.tuple ds] => k (.tuple ds)
  | _ => False
theorem cd_tuple : CallD K (rTupOf K) fTuple := fun O H xs ds k Q hd hs ps hf q => by
  unfold fTuple at hf
  split at hf
  · obtain ⟨x, rfl, n⟩ := pq1 ps
    obtain ⟨a, ys, rfl, h1, _, h3⟩ := nq_lst n
    exact ⟨a, ys, rfl, .inl ⟨SqL.of h1, fun p np => q _ _ _ hf (Evl.Ex.new np) (new_tup hd np h3)⟩⟩
  · obtain ⟨x, rfl, n⟩ := pq1 ps
    obtain ⟨a, ys, rfl, h1, h2, h3⟩ := nq_tup n
    exact ⟨a, ys, rfl, .inr ⟨h1, q _ _ H hf (Same.refl H) (.tup h2 h3)⟩⟩
  · exact hf.elim
def fList : FL := fun as k => match as with
  | [.list ds] => k (.list ds)
  | [.tuple ds] => k (.list ds)
  | _ => False
theorem cl_list : CallL K (rListOf K) fList := fun O H xs ds k Q hd hs ps hf q => by
  unfold fList at hf
  split at hf
  · obtain ⟨x, rfl, n⟩ := pq1 ps
    obtain ⟨a, ys, rfl, h1, _, h3⟩ := nq_lst n
    exact ⟨a, ys, rfl, .inl (SqL.of h1), fun p np => q _ _ p _ _ hf rfl (Evl.Ex.new np) np upd_same (daAll_same (offs_new np (Evl.Ex.new np)) h3)⟩
  · obtain ⟨x, rfl, n⟩ := pq1 ps
    obtain ⟨a, ys, rfl, h1, h2, h3⟩ := nq_tup n
    exact ⟨a, ys, rfl, .inr h1, fun p np => q _ _ p _ _ hf rfl (Evl.Ex.new np) np upd_same (daAll_same (offs_new np (Evl.Ex.new np)) h3)⟩
  · exact hf.elim
def boolsOf : List PyData → Option (List Bool)
  | [] => some []
  | .bool b :: r => (boolsOf r).map (b :: ·)
  | _ :: _ => Option.none
theorem bools_of {H : Hp} : ∀ {xs : List V} {ds : List PyData} {bs : List Bool}, DaAll K H xs ds → boolsOf ds = some bs → xs = bs.map V.bl
  | _, _, _, .nil, e => by
    cases e
    rfl
  | _, _, _, .cons (d := d) h t, e => by
    cases d with
    | bool b =>
      unfold boolsOf at e
      obtain ⟨r, e1, e2⟩ := Option.map_eq_some_iff.mp e
      subst e2
      rw [da_bl h, bools_of t e1] <;> rfl
    | _ => cases e
def fAll : FL := fun as k => match as with
  | [.list ds] => match boolsOf ds with
    | some bs => k (.bool (bs.all id))
    | Option.none => False
  | _ => False
def fAny : FL := fun as k => match as with
  | [.list ds] => match boolsOf ds with
    | some bs => k (.bool (bs.any id))
    | Option.none => False
  | _ => False
theorem cd_all : CallD K (rAll K) fAll := fun O H xs ds k Q hd hs ps hf q => by
  unfold fAll at hf
  split at hf
  · split at hf
    · rename_i bs hb
      obtain ⟨x, rfl, n⟩ := pq1 ps
      obtain ⟨a, ys, rfl, h1, _, h3⟩ := nq_lst n
      exact ⟨a, bs, rfl, by rw [← bools_of h3 hb]; exact SqL.of h1, q _ _ H hf (Same.refl H) (.bl _)⟩
    · exact hf.elim
  · exact hf.elim
theorem cd_any : CallD K (rAny K) fAny := fun O H xs ds k Q hd hs ps hf q => by
  unfold fAny at hf
  split at hf
  · split at hf
    · rename_i bs hb
      obtain ⟨x, rfl, n⟩ := pq1 ps
      obtain ⟨a, ys, rfl, h1, _, h3⟩ := nq_lst n
      exact ⟨a, bs, rfl, by rw [← bools_of h3 hb]; exact SqL.of h1, q _ _ H hf (Same.refl H) (.bl _)⟩
    · exact hf.elim
  · exact hf.elim
/-! ### isinstance -/
def tyN (T : String) : Bool := T == "int" || (T == "bool" || (T == "tuple" || T == "list"))
theorem tyN_or {T : String} (h : tyN T = true) : T = "int" ∨ T = "bool" ∨ T = "tuple" ∨ T = "list" := by
  unfold tyN at h
  simpa using h
theorem tyx_sqT {H : Hp} {p : Addr} {xs : List V} (h : SqT K H p xs) : TyX K H (.ref p) (.type "tuple") := by
  rcases h with (h | ⟨o, h⟩) | ⟨o, its, n, h, hc, _⟩
  · exact .base (.tup h)
  · exact .fTuple h
  · exact .kTuple h hc
theorem tyx_da {H : Hp} {v : V} {d : PyData} (h : Da K H v d) : TyX K H v (.type (kindOf d)) := by
  cases h with
  | non => exact .base .non
  | bl b => exact .base (.bl b)
  | int i => exact .base (.int i)
  | str x => exact .base (.str x)
  | lst h1 _ _ => exact .base (.lst h1)
  | tup h1 _ => exact tyx_sqT h1
  | dct h1 _ => exact .base (.dK h1)
def mIsi (T : String) (m : ME) : ME := fun env k => m env fun d => tyN T = true ∧ k (.bool (isK d T))
theorem up_isi {T : String} {m : ME} (σ : L2.St) (H : Hp) (Q : VK) (h : up K c (mIsi T m) σ H Q) : tCB (rIsi K) (tCons (upN K c m) (tCons (tC (.ty T)) tNil)) σ H Q := by
  obtain ⟨F, env, O, k, R, hm, q⟩ := h
  exact ⟨F, env, O, _, R, hm, fun d x H' kd g n => ⟨x, .ty T, _, _, _, rfl, .ty T, tyx_da n.nq.da, kit_ty (kit_any d (tyN_or kd.1)), q _ _ H' kd.2 g (.bl _)⟩⟩
theorem de_isi {T : String} {m : ME} (h : PE X e (tCB (rIsi K) (tCons (upN K c m) (tCons (tC (.ty T)) tNil)))) : PE X e (up K c (mIsi T m)) := pe_mono h up_isi
/-- isinstance(x, (T, U)) -/
def mIsi2 (T U : String) (m : ME) : ME := fun env k => m env fun d => (tyN T = true ∧ tyN U = true) ∧ k (.bool (isK d T || isK d U))
theorem de_isi2 {T U : String} {m : ME} (h : PE X e (tCB (rIsiT K) (tCons (upN K c m) (tCons (tTup (tCons (tC (.ty T)) (tCons (tC (.ty U)) tNil))) tNil)))) : PE X e (up K c (mIsi2 T U m)) := pe_mono h fun σ H Q ⟨F, env, O, k, R, hm, q⟩ =>
  ⟨F, env, O, _, R, hm, fun d x H' kd g n => ⟨by show 2 ≤ sizeLine; decide, fun p np => by
    have s : Same H' (upd H' p (.tup [V.ty T, V.ty U])) := Evl.Ex.new np
    refine ⟨x, p, _, _, [Value.type T, Value.type U], isK d T || isK d U, rfl, upd_same, .cons (.ty T) (.cons (.ty U) .nil), tyx_da (da_same s n.nq.da), ?_, q _ _ _ kd.2 (g.trans ((R.gx g).same s)) (.bl _)⟩
    refine kitAny_cons (kit_ty (kit_any d (tyN_or kd.1.1))) (fun e => ?_) (fun e => by rw [e, Bool.true_or])
    rw [e, Bool.false_or]
    refine kitAny_cons (kit_ty (kit_any d (tyN_or kd.1.2))) (fun e => ?_) (fun e => e)
    rw [e]
    rfl⟩⟩
/-! ### repr -/
def okShow (d : PyData) : Bool := d.showable && (decide (d.depth ≤ 64) && decide (d.shown.length ≤ 16000000))
def fRepr : FL := fun as k => match as with
  | [d] => (d.showable = true ∧ d.depth ≤ 64 ∧ d.shown.length ≤ sizeLine) ∧ k (.str d.shown)
  | _ => False
def rReprA (K : PySem.W.Frag) : List V → Hp → VK → Prop := fun xs H Q => ∃ x d, xs = [x] ∧ Da K H x d ∧ d.showable = true ∧ d.depth ≤ 64 ∧ d.shown.length ≤ sizeLine ∧ Q (.str d.shown) H
theorem call_reprA (hg : X.A.guards = some []) (hu : X.A.units + 66 < cLine) (hK : X.K = K := by rfl) : CallR X (.builtin "repr") (rReprA K) := by
  subst hK
  intro pins s σ H xs us Q I r h
  obtain ⟨x, d, rfl, hd, hs, h64, hz, q⟩ := h
  obtain ⟨u, rfl, ru⟩ := vals1 r
  obtain ⟨as, rd, hn⟩ := da_reads I hd ru
  cases hd with
  | non =>
    cases ru
    exact PySem.P.repr_of_none ⟨.str _, H, I.tok _, ⟨_, rfl⟩, by simpa only [PyData.shown] using q⟩
  | bl b =>
    cases ru
    exact PySem.P.repr_of_bool ⟨.str _, H, I.tok _, ⟨_, rfl⟩, by simpa only [PyData.shown] using q⟩
  | int i =>
    obtain ⟨t, rfl⟩ := ru
    exact PySem.P.repr_of_int (by simpa [PyData.showable] using hs) ⟨.str _, H, I.tok _, ⟨_, rfl⟩, by simpa only [PyData.shown] using q⟩
  | str z =>
    obtain ⟨t, rfl⟩ := ru
    exact PySem.P.repr_of_str ⟨.str _, H, I.tok _, ⟨_, rfl⟩, by simpa only [PyData.shown] using q⟩ (by simpa only [PyData.shown] using hz)
  | lst h1 h2 h3 =>
    cases ru
    exact repr_of_reads' rd hs (fun _ => hn) hg (by omega) (fun _ _ e => e) (fun h' u tk hk => ⟨.str _, H, I.kept (t' := tk) hk, ⟨u, rfl⟩, q⟩) hz
  | tup h1 h3 =>
    cases ru
    exact repr_of_reads' rd hs (fun _ => hn) hg (by omega) (fun _ _ e => e) (fun h' u tk hk => ⟨.str _, H, I.kept (t' := tk) hk, ⟨u, rfl⟩, q⟩) hz
  | dct h1 h3 =>
    cases ru
    exact repr_of_reads' rd hs (fun _ => hn) hg (by omega) (fun _ _ e => e) (fun h' u tk hk => ⟨.str _, H, I.kept (t' := tk) hk, ⟨u, rfl⟩, q⟩) hz
theorem cd_repr : CallD K (rReprA K) fRepr := fun O H xs ds k Q hd hs ps hf q => by
  unfold fRepr at hf
  split at hf
  · obtain ⟨x, rfl, n⟩ := pq1 ps
    exact ⟨x, _, rfl, n.da, hf.1.1, hf.1.2.1, hf.1.2.2, q _ _ H hf.2 (Same.refl H) (.str _)⟩
  · exact hf.elim
/-! ### calls of builtins, of types -/
variable {es : List Expr}
theorem de_b {r : List V → Hp → VK → Prop} {f : FL} {ms : MA} (hf : CallD K r f) (h : PE X e (tCB r (upAN K c ms))) : PE X e (up K c (mB f ms)) := pe_mono h (up_cb hf)
theorem de_bl {r : List V → Hp → VK → Prop} {f : FL} {ms : MA} (hf : CallL K r f) (h : PE X e (tCB r (upAN K c ms))) : PE X e (upL K c (mB f ms)) := pe_mono h (up_cbl hf)
/-! ### enumerate, zip over tuples -/
def enumD (ds : List PyData) : List PyData := ds.zipIdx.map fun p => .tuple [.int (p.2 : Int), p.1]
theorem enum_get {ds : List PyData} {i : Nat} {d : PyData} (h : (enumD ds)[i]? = some d) : ∃ x, ds[i]? = some x ∧ d = .tuple [.int (i : Int), x] := by
  unfold enumD at h
  rw [List.getElem?_map, List.getElem?_zipIdx] at h
  cases hx : ds[i]? with
  | none => rw [hx] at h; cases h
  | some x =>
    rw [hx] at h
    refine ⟨x, rfl, ?_⟩
    simpa using h.symm
def miEn (ms : MA) : MI := fun env k => ms env fun as => match as with
  | [.v (.tuple ds)] => k (enumD ds)
  | _ => False
theorem walk_enum {O : List Addr} {H : Hp} {a : Addr} {xs : List V} {ds : List PyData} (h : SqT K (offs O H) a xs) (da : DaAll K (offs O H) xs ds) : Walk K O H (IteT K a) (enumD ds) := fun O2 H2 hd s => by
  have e : SqT K H2 a xs := Evl.ex_t offs_sub (Evl.ex_t s h)
  have da2 := daAll_same s da
  have hl : (enumD ds).length = xs.length := by
    unfold enumD
    rw [List.length_map, List.length_zipIdx, daAll_len da]
  refine ⟨fun i d hdd => ?_, xs, e, hl.symm⟩
  obtain ⟨x, hx, rfl⟩ := enum_get hdd
  obtain ⟨v, hv, dv⟩ := daAll_at da2 hx
  refine ⟨⟨xs, v, e, hv⟩, fun y H3 ⟨T, z, ey, nT, eH, ez⟩ => ?_⟩
  have zv : z = v := by
    have q := ez xs e
    rw [hv] at q
    exact (Option.some.inj q).symm
  subst ey eH zv
  exact ⟨Evl.Ex.new nT, new_tup hd nT (.cons (.int _) (.cons dv .nil))⟩
theorem di_enum {tg : Expr} {ms : MA} (hK : X.K = K) (h : ∀ {t : TA}, PA X es t → PI X tg e (iEnumT X.K t)) (ha : PA X es (upA K c ms)) : PI X tg e (upI K c (miEn ms)) := by
  subst hK
  refine pi_mono (h ha) fun σ H R ⟨F, env, O, k, RR, hm, q⟩ => ⟨F, env, O, _, RR, hm, fun as xs H' kd g ps => ?_⟩
  split at kd
  · rename_i ds
    cases ps with
    | cons r t =>
      cases t
      have r' : Da X.K (offs O H') _ (.tuple ds) := r
      obtain ⟨p, zs, rfl, f1, f3⟩ := da_tup r'
      exact ⟨p, zs, rfl, Evl.ex_t offs_sub f1, q _ _ H' kd g (walk_enum f1 f3)⟩
  · exact kd.elim
end
end Du

/-! A dict of the module's top with int keys; the bag as data; what comprehensions and loops come to. -/
namespace Du
open PySem PySem.Spec PyProof.Rows L2 On
section
variable {K : PySem.W.Frag} {c : Bs} {X : Cx} {e a b i : Expr} {pos p : Pos}
/-- a dict of the written part: int keys, data -/
structure KInt (K : PySem.W.Frag) (d : Addr) (rows : Int → Option PyData) : Prop where
  at_ : ∃ es n, K.lookup d = some ⟨.type "dict", Option.none, .dict es n, #[]⟩ ∧ (∀ e ∈ es, ∃ i t, e.key = .int i t ∧ e.hash = hashInt i) ∧
    ∀ (i : Int) z, rows i = some z → ∃ u, findBy Value.isInt es i = some u ∧ ∃ x, RelV x u ∧ ∀ H, Da K H x z
def rIxKI (K : PySem.W.Frag) : R2 := fun x y H Q => ∃ p i z rows, x = .ref p ∧ y = .int i ∧ KInt K p rows ∧ rows i = some z ∧ ∀ v, (∀ H, Da K H v z) → Q v H
theorem ix_kint (hK : X.K = K := by rfl) : IxR X (rIxKI K) := by
  subst hK
  intro value slice pins s σ H x y v u Q I rx ry h hs
  obtain ⟨p, i, z, rows, rfl, rfl, ⟨es, n, hl, hk, hr⟩, hz, q⟩ := h
  obtain rfl : v = Value.ref p := rx
  obtain ⟨t, rfl⟩ := ry
  obtain ⟨u0, hu, x0, r0, d0⟩ := hr i z hz
  have hm : s.heap.MapOf (intKind X.prog X.w) p (fun k => findBy Value.isInt es k) := ⟨_, es, n, I.kIn _ _ hl, ⟨rfl, rfl, rfl⟩, rfl, fun e he => by
    obtain ⟨j, t, e1, e2⟩ := hk e he
    exact ⟨j, by rw [e1]; show Value.isInt j (.int j t) = true; simp [Value.isInt], e2⟩, fun _ => rfl⟩
  exact tail_any hm.typeIs PySem.F.slot_dict_getitem.lookup (wpAny_getItem_of (knd := intKind X.prog X.w) (k := i) (by show Value.isInt i (.int i t) = true; simp [Value.isInt]) hm hu ⟨x0, H, I.tok _, r0, q x0 d0⟩) hs
def mRow (rows : Int → Option PyData) (m : ME) : ME := fun env k => m env fun d => match d with
  | .int i => match rows i with
    | some z => k z
    | Option.none => False
  | _ => False
theorem de_kint {x : Str} {d : Addr} {rows : Int → Option PyData} {m : ME} (hK : X.K = K) (hx : Gl X x) (hm : X.mg x = some (.ref d)) (hk : KInt K d rows) (hi : PE X i (upN K c m)) (hs : PlainIx i) (hd : (x == ("__debug__" : Str)) = false := by decide) :
    PE X (.Subscript (.Name x p) i pos) (up K c (mRow rows m)) := by
  subst hK
  refine pe_mono (pe_ix ix_kint (pe_glob (v := .ref d) hx hm rfl hd) hi hs) fun σ H Q ⟨F, env, O, k, R, hm, q⟩ => ?_
  refine ⟨F, env, O, _, R, hm, fun z y H' kd g n => ?_⟩
  split at kd
  · cases nq_int n.nq
    split at kd
    · rename_i z' hz
      exact ⟨d, _, z', rows, rfl, rfl, hk, hz, fun v hv => q _ _ H' kd g (hv _)⟩
    · exact kd.elim
  · exact kd.elim
end
/-! ### < of tuples of ints -/
section
variable {K : PySem.W.Frag}
def intsOf : List PyData → Option (List Int)
  | [] => some []
  | .int i :: r => (intsOf r).map (i :: ·)
  | _ :: _ => Option.none
theorem ints_of {H : Hp} : ∀ {xs : List V} {ds : List PyData} {ns : List Int}, DaAll K H xs ds → intsOf ds = some ns → xs = ns.map V.int
  | _, _, _, .nil, e => by
    cases e
    rfl
  | _, _, _, .cons (d := d) h t, e => by
    cases d with
    | int b =>
      unfold intsOf at e
      obtain ⟨r, e1, e2⟩ := Option.map_eq_some_iff.mp e
      subst e2
      rw [da_int h, ints_of t e1] <;> rfl
    | _ => cases e
def fLtT : F2 := fun d e k => match d, e with
  | .tuple xs, .tuple ys => match intsOf xs, intsOf ys with
    | some ns, some ms => k (.bool (HT.lexLt ns ms))
    | _, _ => False
  | _, _ => False
theorem od_ltT : OpD K (rLtT K) fLtT := fun O H x y d e k Q hd hs nx ny hf q => by
  unfold fLtT at hf
  split at hf
  · split at hf
    · rename_i ns ms h1 h2
      obtain ⟨a, xs, rfl, g1, _, g3⟩ := nq_tup nx
      obtain ⟨b, ys, rfl, k1, _, k3⟩ := nq_tup ny
      rw [ints_of g3 h1] at g1
      rw [ints_of k3 h2] at k1
      exact ⟨a, b, ns, ms, rfl, rfl, g1, k1, q _ _ H hf (Same.refl H) (.bl _)⟩
    · exact hf.elim
  · exact hf.elim
end
/-! ### what comprehensions come to -/
section
variable {g : MG} {mt : MT} {me : ME} {env : List DV}
/-- each turn is told by P, V -/
theorem lc_pure (E : PyData → List DV) (P : PyData → Bool) (V : PyData → PyData) : ∀ (ds acc : List PyData) (k : PyData → Prop), acc.length + ds.length ≤ 100000 → (∀ d ∈ ds, ∀ k', k' (E d) → g d env k') →
    (∀ d ∈ ds, ∀ k', k' (P d) → mt (E d) k') → (∀ d ∈ ds, P d = true → ∀ k', k' (V d) → me (E d) k') → k (.list (acc ++ (ds.filter P).map V)) → lcGo g mt me env acc ds k
  | [], acc, k, _, _, _, _, h => by
    have h' : k (.list (acc ++ [])) := h
    rw [List.append_nil] at h'
    exact h'
  | d :: ds, acc, k, hl, hg, ht, he, h => by
    rw [List.length_cons] at hl
    refine hg d List.mem_cons_self _ (ht d List.mem_cons_self _ ?_)
    cases hp : P d with
    | true =>
      refine ⟨by omega, he d List.mem_cons_self hp _ ?_⟩
      refine lc_pure E P V ds _ k (by rw [List.length_append, List.length_singleton]; omega) (fun d hd => hg d (List.mem_cons_of_mem _ hd)) (fun d hd => ht d (List.mem_cons_of_mem _ hd)) (fun d hd => he d (List.mem_cons_of_mem _ hd)) ?_
      rw [List.filter_cons, if_pos hp, List.map_cons] at h
      rw [List.append_assoc]
      exact h
    | false =>
      refine lc_pure E P V ds _ k (by omega) (fun d hd => hg d (List.mem_cons_of_mem _ hd)) (fun d hd => ht d (List.mem_cons_of_mem _ hd)) (fun d hd => he d (List.mem_cons_of_mem _ hd)) ?_
      rw [List.filter_cons, if_neg (by rw [hp]; decide)] at h
      exact h
theorem mLc_pure {mi : MI} {vs : List Nat} {q : PyData → Prop} (ds : List PyData) (E : PyData → List DV) (P : PyData → Bool) (V : PyData → PyData) (hm : ∀ k', k' ds → mi env k') (hl : ds.length ≤ 100000) (hg : ∀ d ∈ ds, ∀ k', k' (E d) → g d (wipeE env vs) k')
    (ht : ∀ d ∈ ds, ∀ k', k' (P d) → mt (E d) k') (he : ∀ d ∈ ds, P d = true → ∀ k', k' (V d) → me (E d) k') (h : q (.list ((ds.filter P).map V))) : mLc mi g mt me vs env q := by
  refine hm _ (lc_pure E P V ds [] _ (by simpa using hl) hg ht he ?_)
  rw [List.nil_append]
  exact h
theorem not_lc {mi : MI} {vs : List Nat} {q : PyData → Prop} (ds : List PyData) (E : PyData → List DV) (P : PyData → Bool) (V : PyData → PyData) (hm : ∀ k', k' ds → mi env k') (hl : ds.length ≤ 100000) (hg : ∀ d ∈ ds, ∀ k', k' (E d) → g d (wipeE env vs) k')
    (ht : ∀ d ∈ ds, ∀ k', k' (P d) → mt (E d) k') (he : ∀ d ∈ ds, P d = true → ∀ k', k' (V d) → me (E d) k') (h : q (.bool (ds.filter P).isEmpty)) : mNotD (mLc mi g mt me vs) env q := by
  refine hm _ (lc_pure E P V ds [] _ (by simpa using hl) hg ht he ?_)
  show q (.bool (!(!(([] : List PyData) ++ (ds.filter P).map V).isEmpty)))
  rw [List.nil_append, Bool.not_not]
  have e : ((ds.filter P).map V).isEmpty = (ds.filter P).isEmpty := by cases ds.filter P <;> rfl
  rw [e]
  exact h
theorem tru_lc {mi : MI} {vs : List Nat} {q : Bool → Prop} (ds : List PyData) (E : PyData → List DV) (P : PyData → Bool) (V : PyData → PyData) (hm : ∀ k', k' ds → mi env k') (hl : ds.length ≤ 100000) (hg : ∀ d ∈ ds, ∀ k', k' (E d) → g d (wipeE env vs) k')
    (ht : ∀ d ∈ ds, ∀ k', k' (P d) → mt (E d) k') (he : ∀ d ∈ ds, P d = true → ∀ k', k' (V d) → me (E d) k') (h : q (!(ds.filter P).isEmpty)) : mTru (mLc mi g mt me vs) env q := by
  refine hm _ (lc_pure E P V ds [] _ (by simpa using hl) hg ht he ?_)
  show q (!(([] : List PyData) ++ (ds.filter P).map V).isEmpty)
  rw [List.nil_append]
  have e : ((ds.filter P).map V).isEmpty = (ds.filter P).isEmpty := by cases ds.filter P <;> rfl
  rw [e]
  exact h
theorem filter_none {ds : List PyData} {P : PyData → Bool} : (ds.filter P).isEmpty = ds.all fun d => !P d := by
  induction ds with
  | nil => rfl
  | cons d ds ih =>
    rw [List.filter_cons, List.all_cons]
    cases P d with
    | true => rfl
    | false =>
      rw [if_neg Bool.false_ne_true]
      exact ih
/-- no test, each turn comes to something that R takes -/
theorem lc_any (E : PyData → List DV) (R : PyData → PyData → Prop) : ∀ (ds acc : List PyData) (k : PyData → Prop), acc.length + ds.length ≤ 100000 → (∀ d ∈ ds, ∀ k', k' (E d) → g d env k') →
    (∀ d ∈ ds, ∀ k' : Bool → Prop, k' true → mt (E d) k') → (∀ d ∈ ds, ∀ k' : PyData → Prop, (∀ r, R d r → k' r) → me (E d) k') → (∀ rs, Paired R ds rs → k (.list (acc ++ rs))) → lcGo g mt me env acc ds k
  | [], acc, k, _, _, _, _, h => by
    have h' : k (.list (acc ++ [])) := h [] .nil
    rw [List.append_nil] at h'
    exact h'
  | d :: ds, acc, k, hl, hg, ht, he, h => by
    rw [List.length_cons] at hl
    refine hg d List.mem_cons_self _ (ht d List.mem_cons_self _ ⟨by omega, he d List.mem_cons_self _ fun r hr => ?_⟩)
    refine lc_any E R ds _ k (by rw [List.length_append, List.length_singleton]; omega) (fun d hd => hg d (List.mem_cons_of_mem _ hd)) (fun d hd => ht d (List.mem_cons_of_mem _ hd)) (fun d hd => he d (List.mem_cons_of_mem _ hd)) fun rs hrs => ?_
    rw [List.append_assoc]
    exact h (r :: rs) (.cons hr hrs)
end
theorem okNe_int (i j : Int) : okNe (.int i) (.int j) = true := by
  show ((PyData.int i).canLay0 && ((PyData.int j).canLay0 && decide (min (PyData.int i).depth (PyData.int j).depth ≤ 60))) = true
  rw [PyData.canLay0, PyData.canLay0]
  simp [PyData.depth]
theorem okEq_int (i j : Int) : (PyData.int i).canLay0 = true ∧ (PyData.int j).canLay0 = true ∧ min (PyData.int i).depth (PyData.int j).depth ≤ 60 := ⟨by rw [PyData.canLay0], by rw [PyData.canLay0], by simp [PyData.depth]⟩
theorem eqv_int (i j : Int) : PyData.eqv (.int i) (.int j) = decide (i = j) := by
  show (i == j) = _
  rw [Bool.beq_eq_decide_eq]
/-- a pair of ints -/
def duo (p : Int × Int) : PyData := .tuple [.int p.1, .int p.2]
theorem mem_ints {lo : Int} {n : Nat} {d : PyData} (h : d ∈ intsD lo n) : ∃ i : Nat, i < n ∧ d = .int (lo + i) := by
  unfold intsD at h
  obtain ⟨i, hi, e⟩ := List.mem_map.mp h
  exact ⟨i, List.mem_range.mp hi, e.symm⟩
theorem ints_len (lo : Int) (n : Nat) : (intsD lo n).length = n := by
  unfold intsD
  rw [List.length_map, List.length_range]
theorem gd_at {α : Type} {xs : List α} {i : Nat} {d : α} (h : i < xs.length) : xs.getD i d = xs[i] := by
  rw [List.getD_eq_getElem?_getD, List.getElem?_eq_getElem h]
  rfl
theorem atI_gd {xs : List PyData} {i : Nat} (h : i < xs.length) : atI xs (i : Int) = some (xs.getD i .none) := by
  rw [gd_at h]
  exact atI_nat (List.getElem?_eq_getElem h)
theorem atI_gd1 {xs : List PyData} {i : Nat} (h : i + 1 < xs.length) : atI xs ((i : Int) + 1) = some (xs.getD (i + 1) .none) := atI_gd (i := i + 1) h
theorem bools_map (f : PyData → Bool) : ∀ ds : List PyData, boolsOf (ds.map fun d => .bool (f d)) = some (ds.map f)
  | [] => rfl
  | d :: ds => by
    show (boolsOf (ds.map fun d => .bool (f d))).map (f d :: ·) = _
    rw [bools_map f ds]
    rfl
theorem map_id' (ds : List PyData) : ds.map id = ds := by simp
/-! ### the bag -/
section
variable {P : Program} {w : World} {K : PySem.W.Frag} {mg : Str → Option Value} {base : Heap} {k : Nat} {f : Addr} {fd : FuncData} {ps : List Str}
theorem FnG.imp {sp sp' : Sp} (F : FnG P w K mg base k f fd ps sp) (h : ∀ vs H Q E, sp' vs H Q E → sp vs H Q E) : FnG P w K mg base k f fd ps sp' := ⟨fun vs H Q E q => F.ln vs H Q E (h _ _ _ _ q), fun A outer s H args us vs Q E hg hr e0 hb rv hq => F.go A outer s H args us vs Q E hg hr e0 hb rv (h _ _ _ _ hq)⟩
/-- a draw -/
def mTake : List DV → (PyData → Prop) → Prop := fun as k => match as with
  | [.bag, .v (.int n)] => (0 < n ∧ n.natAbs.log2 < 9000) ∧ ∀ v : Int, 0 ≤ v → v < n → k (.int v)
  | _ => False
theorem take_of (F : FnG P w K mg base k f fd ps spTake) : FnG P w K mg base k f fd ps (spF K 2 mTake) := FnG.imp F fun vs H Q E ⟨O, b, l, as, q, h1, h2, h3, h4, h5, h6, h7, h8⟩ => by
  unfold mTake at h7
  split at h7
  · rename_i n
    cases h5 with
    | cons r t =>
      cases t with
      | cons r2 t =>
        cases t
        obtain ⟨a, rfl, hb⟩ := r
        have r2' : Da K (offs O H) _ (.int n) := r2
        cases r2'
        refine ⟨a, l, n, rfl, (h2 a (by rw [hb]; simp)).2.1, h7.1.1, h7.1.2, fun v H' v0 v1 B k => h8 _ _ H' (h7.2 v v0 v1) (fun c o nc e => k c o (fun z => nc (by rw [hb, z]; simp)) e) (fun c hc => ?_) (.int v)⟩
        rw [hb, List.mem_singleton] at hc
        rw [hc]
        exact B
  · exact h7.elim
end
end Du

namespace L11
open PySem PySem.Spec PyProof.Rows L2 On Du
def top (i : Nat) : Stmt := PySem.Challenge.pw_onorback_k11_places_and_benches_judged.main.body.getD i (.Pass ⟨0, 0, 0, 0⟩)
abbrev sis_integer : Stmt := top 2
abbrev s_is_tuple_of : Stmt := top 3
abbrev sascends : Stmt := top 4
abbrev sis_place : Stmt := top 5
abbrev sis_bench : Stmt := top 6
abbrev s_law_bag : Stmt := top 8
abbrev s_law_take : Stmt := top 9
abbrev s_law_some : Stmt := top 10
abbrev s_law_alike : Stmt := top 11
abbrev s_law_mixed : Stmt := top 12
abbrev s_law_place : Stmt := top 13
abbrev s_law_is_int : Stmt := top 14
abbrev s_law_rises : Stmt := top 15
abbrev s_law_is_place : Stmt := top 16
abbrev s_law_is_bench : Stmt := top 17
abbrev s_law_odd : Stmt := top 18
abbrev s_law_bent : Stmt := top 19
abbrev s_law_flat : Stmt := top 20
abbrev slaw : Stmt := top 21
theorem sc_is_integer : FnScope ["thing"] ["thing"] (defScope sis_integer) := ⟨rfl, rfl, rfl, by decide +kernel, rfl, by decide +kernel, by decide +kernel⟩
theorem sc__is_tuple_of : FnScope ["thing", "many"] ["thing", "many"] (defScope s_is_tuple_of) := ⟨rfl, rfl, rfl, by decide +kernel, rfl, by decide +kernel, by decide +kernel⟩
theorem sc_ascends : FnScope ["items", "k"] ["items"] (defScope sascends) := ⟨rfl, rfl, rfl, by decide +kernel, rfl, by decide +kernel, by decide +kernel⟩
theorem sc_is_place : FnScope ["thing", "many", "moves", "free", "move", "v", "w"] ["thing"] (defScope sis_place) := ⟨rfl, rfl, rfl, by decide +kernel, rfl, by decide +kernel, by decide +kernel⟩
theorem sc_is_bench : FnScope ["thing", "place"] ["thing"] (defScope sis_bench) := ⟨rfl, rfl, rfl, by decide +kernel, rfl, by decide +kernel, by decide +kernel⟩
theorem sc__law_bag : FnScope ["_law_script", "_law_cell"] ["_law_script"] (defScope s_law_bag) := ⟨rfl, rfl, rfl, by decide +kernel, rfl, by decide +kernel, by decide +kernel⟩
theorem sc__law_take : FnScope ["_law_bag_here", "_law_upto", "_law_cell", "_law_stirred", "_law_value", "_law_begin", "_law_second"] ["_law_bag_here", "_law_upto"] (defScope s_law_take) := ⟨rfl, rfl, rfl, by decide +kernel, rfl, by decide +kernel, by decide +kernel⟩
theorem sc__law_some : FnScope ["_law_bag_here", "_law_things"] ["_law_bag_here", "_law_things"] (defScope s_law_some) := ⟨rfl, rfl, rfl, by decide +kernel, rfl, by decide +kernel, by decide +kernel⟩
theorem sc__law_alike : FnScope ["_law_found", "_law_due"] ["_law_found", "_law_due"] (defScope s_law_alike) := ⟨rfl, rfl, rfl, by decide +kernel, rfl, by decide +kernel, by decide +kernel⟩
theorem sc__law_mixed : FnScope ["_law_bag_here", "_law_things", "_law_found", "_law_thing"] ["_law_bag_here", "_law_things"] (defScope s_law_mixed) := ⟨rfl, rfl, rfl, by decide +kernel, rfl, by decide +kernel, by decide +kernel⟩
theorem sc__law_place : FnScope ["_law_bag_here", "_law_most", "_law_many", "_law_way", "_law_every", "_law_v", "_law_w"] ["_law_bag_here", "_law_most"] (defScope s_law_place) := ⟨rfl, rfl, rfl, by decide +kernel, rfl, by decide +kernel, by decide +kernel⟩
theorem sc__law_is_int : FnScope ["_law_thing", "_law_low", "_law_high"] ["_law_thing", "_law_low", "_law_high"] (defScope s_law_is_int) := ⟨rfl, rfl, rfl, by decide +kernel, rfl, by decide +kernel, by decide +kernel⟩
theorem sc__law_rises : FnScope ["_law_things", "_law_k"] ["_law_things"] (defScope s_law_rises) := ⟨rfl, rfl, rfl, by decide +kernel, rfl, by decide +kernel, by decide +kernel⟩
theorem sc__law_is_place : FnScope ["_law_thing", "_law_move"] ["_law_thing"] (defScope s_law_is_place) := ⟨rfl, rfl, rfl, by decide +kernel, rfl, by decide +kernel, by decide +kernel⟩
theorem sc__law_is_bench : FnScope ["_law_thing", "_law_place_here"] ["_law_thing"] (defScope s_law_is_bench) := ⟨rfl, rfl, rfl, by decide +kernel, rfl, by decide +kernel, by decide +kernel⟩
theorem sc__law_odd : FnScope ["_law_bag_here", "_law_some_here"] ["_law_bag_here"] (defScope s_law_odd) := ⟨rfl, rfl, rfl, by decide +kernel, rfl, by decide +kernel, by decide +kernel⟩
theorem sc__law_bent : FnScope ["_law_bag_here", "_law_thing", "_law_at", "_law_by", "_law_row", "_law_way"] ["_law_bag_here", "_law_thing"] (defScope s_law_bent) := ⟨rfl, rfl, rfl, by decide +kernel, rfl, by decide +kernel, by decide +kernel⟩
theorem sc__law_flat : FnScope ["_law_rows", "_law_found", "_law_row"] ["_law_rows"] (defScope s_law_flat) := ⟨rfl, rfl, rfl, by decide +kernel, rfl, by decide +kernel, by decide +kernel⟩
theorem sc_law : FnScope ["_law_script", "_law_bag_here", "_law_turn", "_law_places", "_law_bench", "_law_things", "_law_deep", "_law_k", "_law_thing", "_law_number", "_law_bent_here", "_law_shown", "_law_told", "_law_due"] ["_law_script"] (defScope slaw) := ⟨rfl, rfl, rfl, by decide +kernel, rfl, by decide +kernel, by decide +kernel⟩
structure Ads where
  ais_integer : Addr
  dis_integer : FuncData
  a_is_tuple_of : Addr
  d_is_tuple_of : FuncData
  aascends : Addr
  dascends : FuncData
  ais_place : Addr
  dis_place : FuncData
  ais_bench : Addr
  dis_bench : FuncData
  a_law_bag : Addr
  d_law_bag : FuncData
  a_law_take : Addr
  d_law_take : FuncData
  a_law_some : Addr
  d_law_some : FuncData
  a_law_alike : Addr
  d_law_alike : FuncData
  a_law_mixed : Addr
  d_law_mixed : FuncData
  a_law_place : Addr
  d_law_place : FuncData
  a_law_is_int : Addr
  d_law_is_int : FuncData
  a_law_rises : Addr
  d_law_rises : FuncData
  a_law_is_place : Addr
  d_law_is_place : FuncData
  a_law_is_bench : Addr
  d_law_is_bench : FuncData
  a_law_odd : Addr
  d_law_odd : FuncData
  a_law_bent : Addr
  d_law_bent : FuncData
  a_law_flat : Addr
  d_law_flat : FuncData
  alaw : Addr
  dlaw : FuncData
structure NB (mg : Str → Option Value) : Prop where
  nb_abs : mg "abs" = none
  nb_all : mg "all" = none
  nb_bool : mg "bool" = none
  nb_int : mg "int" = none
  nb_isinstance : mg "isinstance" = none
  nb_len : mg "len" = none
  nb_list : mg "list" = none
  nb_range : mg "range" = none
  nb_repr : mg "repr" = none
  nb_sorted : mg "sorted" = none
  nb_tuple : mg "tuple" = none
structure Txt (K : PySem.W.Frag) (mg : Str → Option Value) (A : Ads) : Prop extends NB mg where
  is_integer : Df K mg "is_integer" sis_integer ["thing"] A.ais_integer A.dis_integer
  _is_tuple_of : Df K mg "_is_tuple_of" s_is_tuple_of ["thing", "many"] A.a_is_tuple_of A.d_is_tuple_of
  ascends : Df K mg "ascends" sascends ["items"] A.aascends A.dascends
  is_place : Df K mg "is_place" sis_place ["thing"] A.ais_place A.dis_place
  is_bench : Df K mg "is_bench" sis_bench ["thing"] A.ais_bench A.dis_bench
  _law_bag : Df K mg "_law_bag" s_law_bag ["_law_script"] A.a_law_bag A.d_law_bag
  _law_take : Df K mg "_law_take" s_law_take ["_law_bag_here", "_law_upto"] A.a_law_take A.d_law_take
  _law_some : Df K mg "_law_some" s_law_some ["_law_bag_here", "_law_things"] A.a_law_some A.d_law_some
  _law_alike : Df K mg "_law_alike" s_law_alike ["_law_found", "_law_due"] A.a_law_alike A.d_law_alike
  _law_mixed : Df K mg "_law_mixed" s_law_mixed ["_law_bag_here", "_law_things"] A.a_law_mixed A.d_law_mixed
  _law_place : Df K mg "_law_place" s_law_place ["_law_bag_here", "_law_most"] A.a_law_place A.d_law_place
  _law_is_int : Df K mg "_law_is_int" s_law_is_int ["_law_thing", "_law_low", "_law_high"] A.a_law_is_int A.d_law_is_int
  _law_rises : Df K mg "_law_rises" s_law_rises ["_law_things"] A.a_law_rises A.d_law_rises
  _law_is_place : Df K mg "_law_is_place" s_law_is_place ["_law_thing"] A.a_law_is_place A.d_law_is_place
  _law_is_bench : Df K mg "_law_is_bench" s_law_is_bench ["_law_thing"] A.a_law_is_bench A.d_law_is_bench
  _law_odd : Df K mg "_law_odd" s_law_odd ["_law_bag_here"] A.a_law_odd A.d_law_odd
  _law_bent : Df K mg "_law_bent" s_law_bent ["_law_bag_here", "_law_thing"] A.a_law_bent A.d_law_bent
  _law_flat : Df K mg "_law_flat" s_law_flat ["_law_rows"] A.a_law_flat A.d_law_flat
  law : Df K mg "law" slaw ["_law_script"] A.alaw A.dlaw
/-- a def that tells f of one thing -/
def f1 (f : PyData → Bool) : List DV → (PyData → Prop) → Prop := fun as k => match as with
  | [.v d] => k (.bool (f d))
  | _ => False
def isTup (d : PyData) (n : Int) : Bool := match d with
  | .tuple xs => decide ((xs.length : Int) = n)
  | _ => false
def fTupOf : List DV → (PyData → Prop) → Prop := fun as k => match as with
  | [.v d, .v (.int n)] => k (.bool (isTup d n))
  | _ => False
/-- a tuple of ints and truths -/
def numT : PyData → Bool
  | .tuple xs => numsD xs
  | _ => false
/-- not one that is less than the next -/
def ups (ms : List PyData) : Bool := (List.range (ms.length - 1)).all fun k => geD (ms.getD k .none) (ms.getD (k + 1) .none) != some true
def fAsc : List DV → (PyData → Prop) → Prop := fun as k => match as with
  | [.v (.tuple ms)] => (ms.all numT = true ∧ ms.length ≤ 90000) ∧ k (.bool (ups ms))
  | _ => False
theorem geAll_some : ∀ {xs ys : List PyData}, numsD xs = true → numsD ys = true → ∃ r, geAll xs ys = some r
  | _, [], _, _ => ⟨true, by unfold geAll; rfl⟩
  | [], _ :: _, _, _ => ⟨false, rfl⟩
  | x :: xs, y :: ys, h1, h2 => by
    rw [numsD, List.all_cons, Bool.and_eq_true] at h1 h2
    show ∃ r, (if PyData.eqv x y = true then geAll xs ys else geNum x y) = some r
    split
    · exact geAll_some h1.2 h2.2
    · exact geNum_some h1.1 h2.1
theorem geD_some {d e : PyData} (h1 : numT d = true) (h2 : numT e = true) : ∃ r, geD d e = some r := by
  unfold numT at h1 h2
  split at h1
  · split at h2
    · rename_i xs _ ys
      show ∃ r, (if numsD xs && numsD ys then geAll xs ys else Option.none) = some r
      rw [h1, h2]
      exact geAll_some h1 h2
    · cases h2
  · cases h1
section
variable {P : Program} {w : World} {K : PySem.W.Frag} {mg : Str → Option Value} {base : Heap} {A : Ads}
theorem ok_is_integer (T : Txt K mg A) : FnG P w K mg base 1 A.ais_integer A.dis_integer ["thing"] (spF K 1 (f1 isInt)) := by
  refine okD T.is_integer.F sc_is_integer (fun c cdv A' outer s H E hg hr => (dss_one (ds_ret (de_n (de_and (de_isi (pe_callB (kIsi K) (by rfl) T.nb_isinstance (by decide +kernel) (pa_cons (de_n (de_var (pv 0))) (pa_cons (pe_bltn (v := .ty "int") (u := .type "int") rfl (T.nb_int) (by decide +kernel) rfl) pa_nil)))) (de_one (de_not rfl (de_n (de_isi (pe_callB (kIsi K) (by rfl) T.nb_isinstance (by decide +kernel) (pa_cons (de_n (de_var (pv 0))) (pa_cons (pe_bltn (v := .ty "bool") (u := .type "bool") rfl (T.nb_bool) (by decide +kernel) rfl) pa_nil)))))))))))) ?_
  intro as q hl h
  unfold f1 at h
  split at h
  · rename_i d
    rw [← isK_int] at h
    simp only [dRet, dRetN, dIf, dSeq, dDrop, dAsg, gNm, gTp, gsNil, gsCons, dAsgL, dApp, dExt, dIns, dPopAt, dSetIx, dPar, dAug, dNext, mVar, mVarN, mC, m1, m2, mTst, mChain, mNot, mAnd, mOr, mAndV, mOrV, mNotV, mIf, mNil, mCons, mBag, Du.dataOf, mTup, mLst, mB, mCall, mIsi, mIsi2, mNotD, mTru, truD, fAdd, fI, fI0, fMul, fB, fEq, fNe, fIn, fGeD, fIs, isBd, fIsN, isNd, fNeg, fIx, mSlL, mSlT, mNoP, mPart, fLen, fAbs, fInt, fMin2, fTuple, fList, fAll, fAny, fRepr, miL, miT, miR1, miR2, miEn, mRow, mLc, wipeE, dFor, mYes, Du.envOf, Option.map_some, Option.map_none, List.map_cons, List.map_nil, List.length_cons, List.length_nil, Nat.sub_self, Nat.add_sub_cancel, Nat.reduceAdd, Nat.reduceSub, List.replicate, List.cons_append, List.nil_append, List.append_nil, List.getElem?_cons_zero, List.getElem?_cons_succ, List.getElem?_nil, List.set_cons_zero, List.set_cons_succ]
    refine ⟨rfl, ?_⟩
    cases h1 : isK d "int" with
    | true =>
      rw [h1] at h
      exact ⟨rfl, h⟩
    | false =>
      rw [h1] at h
      exact h
  · exact h.elim
theorem ok_tup (T : Txt K mg A) : FnG P w K mg base 1 A.a_is_tuple_of A.d_is_tuple_of ["thing", "many"] (spF K 2 fTupOf) := by
  refine okD T._is_tuple_of.F sc__is_tuple_of (fun c cdv A' outer s H E hg hr => (dss_one (ds_ret (de_n (de_and (de_isi (pe_callB (kIsi K) (by rfl) T.nb_isinstance (by decide +kernel) (pa_cons (de_n (de_var (pv 0))) (pa_cons (pe_bltn (v := .ty "tuple") (u := .type "tuple") rfl (T.nb_tuple) (by decide +kernel) rfl) pa_nil)))) (de_one (de_cmp (op_eqQ (un66 hr)) od_eq (de_n (de_b cd_len (pe_callB (kLen K) (by rfl) T.nb_len PySem.boot_len (dan_cons (de_n (de_var (pv 0))) dan_nil)))) (de_n (de_var (pv 1))) (nomark _)))))))) ?_
  intro as q hl h
  unfold fTupOf at h
  split at h
  · rename_i d n
    simp only [dRet, dRetN, dIf, dSeq, dDrop, dAsg, gNm, gTp, gsNil, gsCons, dAsgL, dApp, dExt, dIns, dPopAt, dSetIx, dPar, dAug, dNext, mVar, mVarN, mC, m1, m2, mTst, mChain, mNot, mAnd, mOr, mAndV, mOrV, mNotV, mIf, mNil, mCons, mBag, Du.dataOf, mTup, mLst, mB, mCall, mIsi, mIsi2, mNotD, mTru, truD, fAdd, fI, fI0, fMul, fB, fEq, fNe, fIn, fGeD, fIs, isBd, fIsN, isNd, fNeg, fIx, mSlL, mSlT, mNoP, mPart, fLen, fAbs, fInt, fMin2, fTuple, fList, fAll, fAny, fRepr, miL, miT, miR1, miR2, miEn, mRow, mLc, wipeE, dFor, mYes, Du.envOf, Option.map_some, Option.map_none, List.map_cons, List.map_nil, List.length_cons, List.length_nil, Nat.sub_self, Nat.add_sub_cancel, Nat.reduceAdd, Nat.reduceSub, List.replicate, List.cons_append, List.nil_append, List.append_nil, List.getElem?_cons_zero, List.getElem?_cons_succ, List.getElem?_nil, List.set_cons_zero, List.set_cons_succ]
    refine ⟨rfl, ?_⟩
    rw [isK_tuple]
    cases d with
    | tuple xs =>
      refine ⟨⟨by rw [PyData.canLay0], by rw [PyData.canLay0], by simp [PyData.depth]⟩, ?_⟩
      have e : PyData.eqv (.int (xs.length : Int)) (.int n) = isTup (.tuple xs) n := by
        show ((xs.length : Int) == n) = decide ((xs.length : Int) = n)
        rw [Bool.beq_eq_decide_eq]
      rw [e]
      exact h
    | _ => exact h
  · exact h.elim
theorem ok_asc (T : Txt K mg A) : FnG P w K mg base 1 A.aascends A.dascends ["items"] (spF K 1 fAsc) := by
  refine okD T.ascends.F sc_ascends (fun c cdv A' outer s H E hg hr => (dss_one (ds_ret (de_n (de_not rfl (de_ln (de_lc (own := [("k", 1)]) rfl sc_ascends.nd (di_range1 rfl T.nb_range (da_cons (de_op op_sub od_I0 (de_n (de_b cd_len (pe_callB (kLen K) (by rfl) T.nb_len PySem.boot_len (dan_cons (de_n (de_var (pv 0))) dan_nil)))) (de_n (de_c pe_int (fun _ => .int _)))) da_nil)) (blkOk_by (N := ["items", "k"]) (sc := defScope sascends) (by decide +kernel)) (fun _ _ _ _ _ => (dg_name (pg_name (i := 1) sc_ascends.nd rfl (by first | exact Or.inl rfl | exact Or.inr rfl)))) (fun _ _ _ _ _ => (dts_one (dt_cmp (op_geD (un66 hr)) od_geD (de_n (de_ix (kIxS K) (de_n (de_var (pv 0))) (de_n (de_var (pv 1))) (fun _ _ => rfl))) (de_n (de_ix (kIxS K) (de_n (de_var (pv 0))) (de_n (de_op op_addD od_add (de_n (de_var (pv 1))) (de_n (de_c pe_int (fun _ => .int _))))) (fun _ _ => rfl))) (nomark _)))) (fun _ _ _ _ _ => (de_var (pv 1))) (by decide)))))))) ?_
  intro as q hl h
  unfold fAsc at h
  split at h
  · rename_i ms
    simp only [dRet, dRetN, dIf, dSeq, dDrop, dAsg, gNm, gTp, gsNil, gsCons, dAsgL, dApp, dExt, dIns, dPopAt, dSetIx, dPar, dAug, dNext, mVar, mVarN, mC, m1, m2, mTst, mChain, mNot, mAnd, mOr, mAndV, mOrV, mNotV, mIf, mNil, mCons, mBag, Du.dataOf, mTup, mLst, mB, mCall, mIsi, mIsi2, mNotD, mTru, truD, fAdd, fI, fI0, fMul, fB, fEq, fNe, fIn, fGeD, fIs, isBd, fIsN, isNd, fNeg, fIx, mSlL, mSlT, mNoP, mPart, fLen, fAbs, fInt, fMin2, fTuple, fList, fAll, fAny, fRepr, miL, miT, miR1, miR2, miEn, mRow, mLc, wipeE, dFor, mYes, Du.envOf, Option.map_some, Option.map_none, List.map_cons, List.map_nil, List.length_cons, List.length_nil, Nat.sub_self, Nat.add_sub_cancel, Nat.reduceAdd, Nat.reduceSub, List.replicate, List.cons_append, List.nil_append, List.append_nil, List.getElem?_cons_zero, List.getElem?_cons_succ, List.getElem?_nil, List.set_cons_zero, List.set_cons_succ]
    refine ⟨⟨by omega, by omega⟩, ?_⟩
    have en : ((ms.length : Int) - 1).toNat = ms.length - 1 := by omega
    rw [en]
    have hn : ∀ k, k + 1 < ms.length → ∃ r, geD (ms.getD k .none) (ms.getD (k + 1) .none) = some r := fun k hk => by
      have h1 : ms.getD k .none = ms[k] := by rw [List.getD_eq_getElem?_getD, List.getElem?_eq_getElem (by omega)]; rfl
      have h2 : ms.getD (k + 1) .none = ms[k + 1] := by rw [List.getD_eq_getElem?_getD, List.getElem?_eq_getElem hk]; rfl
      rw [h1, h2]
      exact geD_some (List.all_eq_true.mp h.1.1 _ (List.getElem_mem _)) (List.all_eq_true.mp h.1.1 _ (List.getElem_mem _))
    refine lc_pure (fun d => [.v (.tuple ms), .v d]) (fun d => match d with | .int k => geD (ms.getD k.toNat .none) (ms.getD (k.toNat + 1) .none) == some true | _ => false) id _ [] _ ?_ (fun d hd k' hk => hk) ?_ ?_ ?_
    · simp [intsD]
      omega
    · intro d hd k' hk
      obtain ⟨i, hi, rfl⟩ := mem_ints hd
      rw [Int.zero_add] at hk ⊢
      obtain ⟨r, hr⟩ := hn i (by omega)
      have hk' : k' (geD (ms.getD i .none) (ms.getD (i + 1) .none) == some true) := hk
      rw [hr] at hk'
      have a1 : atI ms (i : Int) = some (ms.getD i .none) := atI_gd (by omega)
      have a2 : atI ms ((i : Int) + 1) = some (ms.getD (i + 1) .none) := atI_gd1 (by omega)
      simp only [dRet, dRetN, dIf, dSeq, dDrop, dAsg, gNm, gTp, gsNil, gsCons, dAsgL, dApp, dExt, dIns, dPopAt, dSetIx, dPar, dAug, dNext, mVar, mVarN, mC, m1, m2, mTst, mChain, mNot, mAnd, mOr, mAndV, mOrV, mNotV, mIf, mNil, mCons, mBag, Du.dataOf, mTup, mLst, mB, mCall, mIsi, mIsi2, mNotD, mTru, truD, fAdd, fI, fI0, fMul, fB, fEq, fNe, fIn, fGeD, fIs, isBd, fIsN, isNd, fNeg, fIx, mSlL, mSlT, mNoP, mPart, fLen, fAbs, fInt, fMin2, fTuple, fList, fAll, fAny, fRepr, miL, miT, miR1, miR2, miEn, mRow, mLc, wipeE, dFor, mYes, Du.envOf, Option.map_some, Option.map_none, List.map_cons, List.map_nil, List.length_cons, List.length_nil, Nat.sub_self, Nat.add_sub_cancel, Nat.reduceAdd, Nat.reduceSub, List.replicate, List.cons_append, List.nil_append, List.append_nil, List.getElem?_cons_zero, List.getElem?_cons_succ, List.getElem?_nil, List.set_cons_zero, List.set_cons_succ, a1, a2, hr]
      cases r <;> exact hk'
    · intro d hd hp k' hk
      exact hk
    · have e : (!(([] : List PyData) ++ List.map id (List.filter (fun d => match d with | .int k => geD (ms.getD k.toNat .none) (ms.getD (k.toNat + 1) .none) == some true | _ => false) (intsD 0 (ms.length - 1)))).isEmpty) = !ups ms := by
        rw [List.nil_append, map_id']
        congr 1
        apply Bool.eq_iff_iff.mpr
        unfold ups
        rw [List.isEmpty_iff, List.filter_eq_nil_iff, List.all_eq_true]
        constructor
        · intro hh k hk
          have hk := List.mem_range.mp hk
          have z := hh (.int (0 + (k : Int))) (by unfold intsD; exact List.mem_map.mpr ⟨k, List.mem_range.mpr hk, rfl⟩)
          rw [Int.zero_add] at z
          have z' : ¬ (geD (ms.getD k .none) (ms.getD (k + 1) .none) == some true) = true := z
          simpa using z'
        · intro hh d hd
          obtain ⟨i, hi, rfl⟩ := mem_ints hd
          rw [Int.zero_add]
          have z := hh i (List.mem_range.mpr hi)
          show ¬ (geD (ms.getD i .none) (ms.getD (i + 1) .none) == some true) = true
          simpa using z
      show q (.bool (!(!(([] : List PyData) ++ _).isEmpty)))
      rw [e, Bool.not_not]
      exact h.2
  · exact h.elim
end
end L11

namespace L11
open PySem PySem.Spec PyProof.Rows L2 On Du
def freeL (n : Nat) : List (Int × Int) := (List.range n).flatMap fun (v : Nat) => ((List.range n).filter (fun (u : Nat) => u != v)).map fun (w : Nat) => (((v : Nat) : Int), ((w : Nat) : Int))
def freeRows (i : Int) : Option PyData := if 2 ≤ i ∧ i ≤ 6 then some (.tuple ((freeL i.toNat).map duo)) else Option.none
def mvOk (m : Int) : PyData → Bool
  | .tuple [.int v, .int w] => (decide (0 ≤ v) && decide (v < m)) && ((decide (0 ≤ w) && decide (w < m)) && decide (v ≠ w))
  | _ => false
def prD : PyData → List Int
  | .tuple [.int v, .int w] => [v, w]
  | _ => []
def ltP (d e : PyData) : Bool := match prD d, prD e with
  | [a, b], [x, y] => decide (a < x) || (decide (a = x) && decide (b < y))
  | _, _ => false
def asc2 (ms : List PyData) : Bool := (List.range (ms.length - 1)).all fun k => ltP (ms.getD k .none) (ms.getD (k + 1) .none)
theorem eqvAll_len : ∀ {xs ys : List PyData}, PyData.eqvAll xs ys = true → xs.length = ys.length
  | [], [], _ => rfl
  | [], _ :: _, h => by rw [PyData.eqvAll] at h; cases h
  | _ :: _, [], h => by rw [PyData.eqvAll] at h; cases h
  | x :: xs, y :: ys, h => by
    rw [PyData.eqvAll, Bool.and_eq_true] at h
    rw [List.length_cons, List.length_cons, eqvAll_len h.2]
def placeOk : PyData → Bool
  | .tuple [.int m, .tuple ms] => (decide (2 ≤ m) && decide (m ≤ 6)) && (ms.all (mvOk m) && asc2 ms)
  | _ => false
def benchOk : PyData → Bool
  | .tuple ds => decide (0 < ds.length) && ds.all placeOk
  | _ => false
/-- no truth in a pair -/
def noTru : PyData → Bool
  | .tuple [x, y] => !(isBd true x || (isBd false x || (isBd true y || isBd false y)))
  | _ => true
theorem free_mem {n : Nat} {p : Int × Int} : p ∈ freeL n ↔ (0 ≤ p.1 ∧ p.1 < n) ∧ ((0 ≤ p.2 ∧ p.2 < n) ∧ p.1 ≠ p.2) := by
  obtain ⟨v, w⟩ := p
  unfold freeL
  simp only [List.mem_flatMap, List.mem_map, List.mem_filter, List.mem_range, Prod.mk.injEq, bne_iff_ne, ne_eq]
  constructor
  · rintro ⟨a, ha, b, ⟨hb, hab⟩, rfl, rfl⟩
    refine ⟨⟨by omega, by omega⟩, ⟨by omega, by omega⟩, by omega⟩
  · rintro ⟨⟨h1, h2⟩, ⟨h3, h4⟩, h5⟩
    exact ⟨v.toNat, by omega, w.toNat, ⟨by omega, by omega⟩, by omega, by omega⟩
theorem mv_pair {m : Int} {d : PyData} (h : mvOk m d = true) : ∃ p : Int × Int, d = duo p ∧ p ∈ freeL m.toNat := by
  unfold mvOk at h
  split at h
  · rename_i v w
    simp only [Bool.and_eq_true, decide_eq_true_eq] at h
    exact ⟨(v, w), rfl, free_mem.mpr ⟨⟨h.1.1, by simp only; omega⟩, ⟨h.2.1.1, by simp only; omega⟩, h.2.2⟩⟩
  · cases h
theorem pair_mv {m : Int} {p : Int × Int} (hm : 0 ≤ m) (h : p ∈ freeL m.toNat) : mvOk m (duo p) = true := by
  obtain ⟨v, w⟩ := p
  obtain ⟨⟨h1, h2⟩, ⟨h3, h4⟩, h5⟩ := free_mem.mp h
  simp only at h1 h2 h3 h4 h5
  show ((decide (0 ≤ v) && decide (v < m)) && ((decide (0 ≤ w) && decide (w < m)) && decide (v ≠ w))) = true
  simp only [Bool.and_eq_true, decide_eq_true_eq]
  exact ⟨⟨h1, by omega⟩, ⟨h3, by omega⟩, h5⟩
theorem eqv_num {i : Int} {x : PyData} (h : PyData.eqv (.int i) x = true ∨ PyData.eqv x (.int i) = true) : numD x = some i := by
  cases x with
  | int j =>
    have e : i = j := by
      rcases h with h | h
      · simpa [PyData.eqv] using h
      · have := (show j = i by simpa [PyData.eqv] using h); exact this.symm
    rw [e] <;> rfl
  | bool b =>
    have e : i = (if b then 1 else 0) := by
      rcases h with h | h
      · simpa [PyData.eqv] using h
      · have := (show (if b then (1 : Int) else 0) = i by simpa [PyData.eqv] using h); exact this.symm
    rw [e] <;> rfl
  | _ => simp [PyData.eqv] at h
theorem eqv_pair {p : Int × Int} {d : PyData} (h : PyData.eqv (duo p) d = true ∨ PyData.eqv d (duo p) = true) : ∃ x y, d = .tuple [x, y] ∧ numD x = some p.1 ∧ numD y = some p.2 := by
  cases d with
  | tuple xs =>
    match xs with
    | [x, y] =>
      refine ⟨x, y, rfl, eqv_num ?_, eqv_num ?_⟩
      · rcases h with h | h
        · have h' : (PyData.eqv (.int p.1) x && (PyData.eqv (.int p.2) y && true)) = true := h
          simp only [Bool.and_eq_true] at h'
          exact .inl h'.1
        · have h' : (PyData.eqv x (.int p.1) && (PyData.eqv y (.int p.2) && true)) = true := h
          simp only [Bool.and_eq_true] at h'
          exact .inr h'.1
      · rcases h with h | h
        · have h' : (PyData.eqv (.int p.1) x && (PyData.eqv (.int p.2) y && true)) = true := h
          simp only [Bool.and_eq_true] at h'
          exact .inl h'.2.1
        · have h' : (PyData.eqv x (.int p.1) && (PyData.eqv y (.int p.2) && true)) = true := h
          simp only [Bool.and_eq_true] at h'
          exact .inr h'.2.1
    | [] => rcases h with h | h <;> exact absurd (eqvAll_len (show PyData.eqvAll _ _ = true from h)) (by simp)
    | [_] => rcases h with h | h <;> exact absurd (eqvAll_len (show PyData.eqvAll _ _ = true from h)) (by simp)
    | _ :: _ :: _ :: _ => rcases h with h | h <;> exact absurd (eqvAll_len (show PyData.eqvAll _ _ = true from h)) (by simp)
  | _ => rcases h with h | h <;> simp [duo, PyData.eqv] at h
theorem num_int {x : PyData} {i : Int} (h : numD x = some i) (h1 : isBd true x = false) (h2 : isBd false x = false) : x = .int i := by
  cases x with
  | int j => cases h; rfl
  | bool b => cases b <;> simp [isBd] at h1 h2
  | _ => cases h
theorem eqv_exact {p : Int × Int} {d : PyData} (h : PyData.eqv (duo p) d = true ∨ PyData.eqv d (duo p) = true) (hn : noTru d = true) : d = duo p := by
  obtain ⟨x, y, rfl, h1, h2⟩ := eqv_pair h
  unfold noTru at hn
  simp only [Bool.not_eq_true', Bool.or_eq_false_iff] at hn
  rw [num_int h1 hn.1 hn.2.1, num_int h2 hn.2.2.1 hn.2.2.2]
  rfl
theorem mv_noTru {m : Int} {d : PyData} (h : mvOk m d = true) : noTru d = true := by
  obtain ⟨p, rfl, _⟩ := mv_pair h
  rfl
/-- is in the free moves -/
def inF (fs : List (Int × Int)) (d : PyData) : Bool := (fs.map duo).any fun y => PyData.eqv y d
theorem inF_some {fs : List (Int × Int)} {d : PyData} (h : inF fs d = true) : ∃ p ∈ fs, PyData.eqv (duo p) d = true := by
  unfold inF at h
  rw [List.any_eq_true] at h
  obtain ⟨y, hy, e⟩ := h
  obtain ⟨p, hp, rfl⟩ := List.mem_map.mp hy
  exact ⟨p, hp, e⟩
theorem pair_eqv (p : Int × Int) : PyData.eqv (duo p) (duo p) = true := by
  show (PyData.eqv (.int p.1) (.int p.1) && (PyData.eqv (.int p.2) (.int p.2) && true)) = true
  simp [PyData.eqv]
theorem mv_inF {m : Int} {d : PyData} (h : mvOk m d = true) : inF (freeL m.toNat) d = true := by
  obtain ⟨p, rfl, hp⟩ := mv_pair h
  unfold inF
  rw [List.any_eq_true]
  exact ⟨duo p, List.mem_map.mpr ⟨p, hp, rfl⟩, pair_eqv p⟩
theorem ge_pair (p q : Int × Int) : geD (duo p) (duo q) = some (!ltP (duo p) (duo q)) := by
  obtain ⟨a, b⟩ := p
  obtain ⟨c, d⟩ := q
  show (if PyData.eqv (.int a) (.int c) = true then (if PyData.eqv (.int b) (.int d) = true then some true else some (decide (d ≤ b))) else some (decide (c ≤ a))) = some (!(decide (a < c) || (decide (a = c) && decide (b < d))))
  simp only [PyData.eqv, beq_iff_eq]
  by_cases h1 : a = c
  · rw [if_pos h1]
    by_cases h2 : b = d
    · rw [if_pos h2]
      congr 1
      apply Bool.eq_iff_iff.mpr
      simp only [decide_eq_true_eq, Bool.not_eq_true', Bool.or_eq_false_iff, Bool.and_eq_false_iff, decide_eq_false_iff_not, true_iff]
      omega
    · rw [if_neg h2]
      congr 1
      apply Bool.eq_iff_iff.mpr
      simp only [decide_eq_true_eq, Bool.not_eq_true', Bool.or_eq_false_iff, Bool.and_eq_false_iff, decide_eq_false_iff_not]
      omega
  · rw [if_neg h1]
    congr 1
    apply Bool.eq_iff_iff.mpr
    simp only [decide_eq_true_eq, Bool.not_eq_true', Bool.or_eq_false_iff, Bool.and_eq_false_iff, decide_eq_false_iff_not]
    omega
theorem ups_asc {ms : List PyData} (h : ∀ d ∈ ms, ∃ p, d = duo p) : ups ms = asc2 ms := by
  unfold ups asc2
  apply Bool.eq_iff_iff.mpr
  rw [List.all_eq_true, List.all_eq_true]
  have e : ∀ k, k < ms.length - 1 → geD (ms.getD k .none) (ms.getD (k + 1) .none) = some (!ltP (ms.getD k .none) (ms.getD (k + 1) .none)) := fun k hk => by
    obtain ⟨p, hp⟩ := h (ms.getD k .none) (by rw [gd_at (by omega)]; exact List.getElem_mem _)
    obtain ⟨q, hq⟩ := h (ms.getD (k + 1) .none) (by rw [gd_at (by omega)]; exact List.getElem_mem _)
    rw [hp, hq]
    exact ge_pair p q
  constructor
  · intro hh k hk
    have z := hh k hk
    rw [e k (List.mem_range.mp hk)] at z
    simpa using z
  · intro hh k hk
    rw [e k (List.mem_range.mp hk)]
    have z := hh k hk
    simpa using z
theorem ti_duo (p : Int × Int) : SeqAt.ti (duo p) = true := rfl
theorem tis_duo : ∀ fs : List (Int × Int), SeqAt.tis (fs.map duo) = true
  | [] => rfl
  | p :: fs => by
    rw [List.map_cons, SeqAt.tis, ti_duo, tis_duo fs] <;> rfl
theorem depth_duo : ∀ fs : List (Int × Int), PyData.depthAll (fs.map duo) ≤ 2
  | [] => by rw [List.map_nil, PyData.depthAll]; exact Nat.zero_le _
  | p :: fs => by
    rw [List.map_cons, PyData.depthAll]
    refine Nat.max_le.mpr ⟨?_, depth_duo fs⟩
    show PyData.depth (.tuple [.int p.1, .int p.2]) ≤ 2
    simp [PyData.depth, PyData.depthAll]
theorem all_eqv : ∀ {ms : List PyData} {fs : List (Int × Int)}, PyData.eqvAll ms (fs.map duo) = true → (∀ d ∈ ms, noTru d = true) → ms = fs.map duo
  | [], [], _, _ => rfl
  | [], _ :: _, h, _ => by simp [PyData.eqvAll] at h
  | _ :: _, [], h, _ => by simp [PyData.eqvAll] at h
  | d :: ms, p :: fs, h, hn => by
    have h' : (PyData.eqv d (duo p) && PyData.eqvAll ms (fs.map duo)) = true := h
    rw [Bool.and_eq_true] at h'
    rw [List.map_cons, eqv_exact (.inr h'.1) (hn d List.mem_cons_self), all_eqv h'.2 fun d hd => hn d (List.mem_cons_of_mem _ hd)]
theorem eqv_all_pair : ∀ {ms : List PyData} {fs : List (Int × Int)}, PyData.eqvAll ms (fs.map duo) = true → ∀ d ∈ ms, ∃ p ∈ fs, PyData.eqv d (duo p) = true
  | [], _, _, d, hd => by cases hd
  | _ :: _, [], h, _, _ => by simp [PyData.eqvAll] at h
  | e :: ms, p :: fs, h, d, hd => by
    have h' : (PyData.eqv e (duo p) && PyData.eqvAll ms (fs.map duo)) = true := h
    rw [Bool.and_eq_true] at h'
    rcases List.mem_cons.mp hd with rfl | hd
    · exact ⟨p, List.mem_cons_self, h'.1⟩
    · obtain ⟨q, hq, e⟩ := eqv_all_pair h'.2 d hd
      exact ⟨q, List.mem_cons_of_mem _ hq, e⟩
theorem free_asc {m : Int} (h : 2 ≤ m ∧ m ≤ 6) : asc2 ((freeL m.toNat).map duo) = true := by
  obtain rfl | rfl | rfl | rfl | rfl : m = 2 ∨ m = 3 ∨ m = 4 ∨ m = 5 ∨ m = 6 := by omega
  all_goals decide +kernel
/-- the four ways -/
theorem place1 {m : Int} {ms : List PyData} (hm : 2 ≤ m ∧ m ≤ 6) (h : PyData.eqvAll ms ((freeL m.toNat).map duo) = true) : ms.all noTru = (ms.all (mvOk m) && asc2 ms) := by
  cases hn : ms.all noTru with
  | true =>
    have e := all_eqv h fun d hd => List.all_eq_true.mp hn d hd
    have h1 : ms.all (mvOk m) = true := by
      rw [List.all_eq_true, e]
      intro d hd
      obtain ⟨p, hp, rfl⟩ := List.mem_map.mp hd
      exact pair_mv (by omega) hp
    have h2 : asc2 ms = true := by rw [e]; exact free_asc hm
    rw [h1, h2] <;> rfl
  | false =>
    have h1 : ms.all (mvOk m) = false := by
      cases e : ms.all (mvOk m) with
      | false => rfl
      | true =>
        rw [List.all_eq_true] at e
        have : ms.all noTru = true := List.all_eq_true.mpr fun d hd => mv_noTru (e d hd)
        rw [hn] at this
        cases this
    rw [h1] <;> rfl
theorem place2 {m : Int} {ms : List PyData} (h : ms.all (inF (freeL m.toNat)) = false) : (ms.all (mvOk m) && asc2 ms) = false := by
  cases e : ms.all (mvOk m) with
  | false => rfl
  | true =>
    rw [List.all_eq_true] at e
    have : ms.all (inF (freeL m.toNat)) = true := List.all_eq_true.mpr fun d hd => mv_inF (e d hd)
    rw [h] at this
    cases this
theorem place3 {m : Int} {ms : List PyData} (h : ups ms = false) : (ms.all (mvOk m) && asc2 ms) = false := by
  cases e : ms.all (mvOk m) with
  | false => rfl
  | true =>
    rw [List.all_eq_true] at e
    rw [← ups_asc fun d hd => (mv_pair (e d hd)).elim fun p hp => ⟨p, hp.1⟩, h] <;> rfl
theorem place4 {m : Int} {ms : List PyData} (hm : 2 ≤ m ∧ m ≤ 6) (h1 : ms.all (inF (freeL m.toNat)) = true) (h2 : ups ms = true) : ms.all noTru = (ms.all (mvOk m) && asc2 ms) := by
  cases hn : ms.all noTru with
  | true =>
    rw [List.all_eq_true] at hn h1
    have ex : ∀ d ∈ ms, ∃ p, d = duo p ∧ p ∈ freeL m.toNat := fun d hd => by
      obtain ⟨p, hp, e⟩ := inF_some (h1 d hd)
      exact ⟨p, eqv_exact (.inl e) (hn d hd), hp⟩
    have e1 : ms.all (mvOk m) = true := List.all_eq_true.mpr fun d hd => by
      obtain ⟨p, rfl, hp⟩ := ex d hd
      exact pair_mv (by omega) hp
    rw [e1, ← ups_asc fun d hd => (ex d hd).elim fun p hp => ⟨p, hp.1⟩, h2] <;> rfl
  | false =>
    have h1 : ms.all (mvOk m) = false := by
      cases e : ms.all (mvOk m) with
      | false => rfl
      | true =>
        rw [List.all_eq_true] at e
        have : ms.all noTru = true := List.all_eq_true.mpr fun d hd => mv_noTru (e d hd)
        rw [hn] at this
        cases this
    rw [h1] <;> rfl
end L11

namespace L11
open PySem PySem.Spec PyProof.Rows L2 On Du
/-- .. of data that is not too long -/
def fPl (f : PyData → Bool) : List DV → (PyData → Prop) → Prop := fun as k => match as with
  | [.v d] => wq d ≤ 60000 ∧ k (.bool (f d))
  | _ => False
theorem isTup2 {d : PyData} (h : isTup d 2 = true) : ∃ a b, d = .tuple [a, b] := by
  unfold isTup at h
  split at h
  · rename_i xs
    have e := of_decide_eq_true h
    match xs, e with
    | [a, b], _ => exact ⟨a, b, rfl⟩
    | [], e => simp at e
    | [_], e => simp at e
    | _ :: _ :: _ :: r, e => simp at e; omega
  · cases h
theorem isTup2_no {d : PyData} (h : isTup d 2 = false) (a b : PyData) : d ≠ .tuple [a, b] := fun z => by
  rw [z] at h
  simp [isTup] at h
theorem placeOk_no {d : PyData} (h : isTup d 2 = false) : placeOk d = false := by
  unfold placeOk
  split
  · exact absurd rfl (isTup2_no h _ _)
  · rfl
section
variable {P : Program} {w : World} {K : PySem.W.Frag} {mg : Str → Option Value} {base : Heap} {A : Ads}
theorem ok_place (T : Txt K mg A) (hfm : ∃ d, mg "FREE_MOVES" = some (.ref d) ∧ KInt K d freeRows) (Gis_integer : FnG P w K mg base 1 A.ais_integer A.dis_integer ["thing"] (spF K 1 (f1 isInt))) (G_is_tuple_of : FnG P w K mg base 1 A.a_is_tuple_of A.d_is_tuple_of ["thing", "many"] (spF K 2 fTupOf)) (Gascends : FnG P w K mg base 1 A.aascends A.dascends ["items"] (spF K 1 fAsc)) : FnG P w K mg base 2 A.ais_place A.dis_place ["thing"] (spF K 1 (fPl placeOk)) := by
  obtain ⟨ad, hm, hk⟩ := hfm
  refine okD T.is_place.F sc_is_place (fun c cdv A' outer s H E hg hr => (dss_cons (ds_if (dt_not (dt_val rfl (de_n (de_call (pe_callG G_is_tuple_of hg (hr.mono (by first | decide | omega)) rfl T._is_tuple_of.g T._is_tuple_of.F.kp T._is_tuple_of.b (da_cons (de_var (pv 0)) (da_cons (de_c pe_int (fun _ => .int _)) da_nil))))))) (dss_one (ds_ret (de_n (de_c pe_bl (fun _ => .bl _))))) dss_nil)
      (dss_cons (ds_asg (de_var (pv 0)) (dg_tup (n := 2) rfl rfl (dgs_cons (dg_name (pg_name (i := 1) sc_is_place.nd rfl (by first | exact Or.inl rfl | exact Or.inr rfl))) (dgs_cons (dg_name (pg_name (i := 2) sc_is_place.nd rfl (by first | exact Or.inl rfl | exact Or.inr rfl))) dgs_nil))))
      (dss_cons (ds_if (PW.pt (dw_or (dt_not (dt_val rfl (de_n (de_call (pe_callG Gis_integer hg (hr.mono (by first | decide | omega)) rfl T.is_integer.g T.is_integer.F.kp T.is_integer.b (da_cons (de_var (pv 1)) da_nil)))))) (dw_or (dt_not (dt_chain op_le od_B op_le od_B (de_n (de_c pe_int (fun _ => .int _))) (de_n (de_var (pv 1))) (de_n (de_c pe_int (fun _ => .int _))))) (dw_or1 (dt_not (dt_val rfl (de_n (de_isi (pe_callB (kIsi K) (by rfl) T.nb_isinstance (by decide +kernel) (pa_cons (de_n (de_var (pv 2))) (pa_cons (pe_bltn (v := .ty "tuple") (u := .type "tuple") rfl (T.nb_tuple) (by decide +kernel) rfl) pa_nil))))))))))) (dss_one (ds_ret (de_n (de_c pe_bl (fun _ => .bl _))))) dss_nil)
      (dss_cons (ds_set (i := 3) sc_is_place.nd rfl (by first | exact Or.inl rfl | exact Or.inr rfl) (de_kint rfl rfl hm hk (de_n (de_var (pv 1))) (fun _ _ => rfl)))
      (dss_cons (ds_if (PW.pt (dw_and (dt_cmp (op_neQ (un66 hr)) od_ne (de_n (de_var (pv 2))) (de_n (de_var (pv 3))) (nomark _)) (dw_and1 (PW.pt (dw_or (dt_val rfl (de_ln (de_lc (own := [("move", 4)]) rfl sc_is_place.nd (di_tup rfl (de_var (pv 2))) (blkOk_by (N := ["thing", "many", "moves", "free", "move", "v", "w"]) (sc := defScope sis_place) (by decide +kernel)) (fun _ _ _ _ _ => (dg_name (pg_name (i := 4) sc_is_place.nd rfl (by first | exact Or.inl rfl | exact Or.inr rfl)))) (fun _ _ _ _ _ => (dts_one (dt_cmp (op_notInG (un66 hr)) od_in (de_n (de_var (pv 4))) (de_n (de_var (pv 3))) rfl))) (fun _ _ _ _ _ => (de_var (pv 4))) (by decide)))) (dw_or1 (dt_not (dt_val rfl (de_n (de_call (pe_callG Gascends hg (hr.mono (by first | decide | omega)) rfl T.ascends.g T.ascends.F.kp T.ascends.b (da_cons (de_var (pv 2)) da_nil)))))))))))) (dss_one (ds_ret (de_n (de_c pe_bl (fun _ => .bl _))))) dss_nil)
      (dss_one (ds_ret (de_n (de_not rfl (de_ln (de_lc (own := [("v", 5), ("w", 6)]) rfl sc_is_place.nd (di_tup rfl (de_var (pv 2))) (blkOk_by (N := ["thing", "many", "moves", "free", "move", "v", "w"]) (sc := defScope sis_place) (by decide +kernel)) (fun _ _ _ _ _ => (dg_tup (n := 2) rfl rfl (dgs_cons (dg_name (pg_name (i := 5) sc_is_place.nd rfl (by first | exact Or.inl rfl | exact Or.inr rfl))) (dgs_cons (dg_name (pg_name (i := 6) sc_is_place.nd rfl (by first | exact Or.inl rfl | exact Or.inr rfl))) dgs_nil)))) (fun _ _ _ _ _ => (dts_one (PW.pt (dw_or (dt_cmp op_isG od_is (de_n (de_var (pv 5))) (de_n (de_c pe_bl (fun _ => .bl _))) (nomark _)) (dw_or (dt_cmp op_isG od_is (de_n (de_var (pv 5))) (de_n (de_c pe_bl (fun _ => .bl _))) (nomark _)) (dw_or (dt_cmp op_isG od_is (de_n (de_var (pv 6))) (de_n (de_c pe_bl (fun _ => .bl _))) (nomark _)) (dw_or1 (dt_cmp op_isG od_is (de_n (de_var (pv 6))) (de_n (de_c pe_bl (fun _ => .bl _))) (nomark _))))))))) (fun _ _ _ _ _ => (de_var (pv 5))) (by decide))))))))))))) ?_
  intro as q hl h
  unfold fPl at h
  split at h
  · rename_i d
    obtain ⟨hw, h⟩ := h
    cases h1 : isTup d 2 with
    | false =>
      rw [placeOk_no h1] at h
      simp only [dRet, dRetN, dIf, dSeq, dDrop, dAsg, gNm, gTp, gsNil, gsCons, dAsgL, dApp, dExt, dIns, dPopAt, dSetIx, dPar, dAug, dNext, mVar, mVarN, mC, m1, m2, mTst, mChain, mNot, mAnd, mOr, mAndV, mOrV, mNotV, mIf, mNil, mCons, mBag, Du.dataOf, mTup, mLst, mB, mCall, mIsi, mIsi2, mNotD, mTru, truD, fAdd, fI, fI0, fMul, fB, fEq, fNe, fIn, fGeD, fIs, isBd, fIsN, isNd, fNeg, fIx, mSlL, mSlT, mNoP, mPart, fLen, fAbs, fInt, fMin2, fTuple, fList, fAll, fAny, fRepr, miL, miT, miR1, miR2, miEn, mRow, mLc, wipeE, dFor, mYes, Du.envOf, Option.map_some, Option.map_none, List.map_cons, List.map_nil, List.length_cons, List.length_nil, Nat.sub_self, Nat.add_sub_cancel, Nat.reduceAdd, Nat.reduceSub, List.replicate, List.cons_append, List.nil_append, List.append_nil, List.getElem?_cons_zero, List.getElem?_cons_succ, List.getElem?_nil, List.set_cons_zero, List.set_cons_succ, fTupOf, f1, h1, Bool.not_false]
      exact ⟨trivial, h⟩
    | true =>
      obtain ⟨dm, dv, rfl⟩ := isTup2 h1
      have hwv : wq (.tuple [dm, dv]) = 4 + (wq dm + 2 + (wq dv + 2 + 0)) := by rw [wq, wqs, wqs, wqs]
      cases h2 : On.isInt dm with
      | false =>
        have e : placeOk (.tuple [dm, dv]) = false := by
          cases dm <;> first | rfl | cases h2
        rw [e] at h
        simp only [dRet, dRetN, dIf, dSeq, dDrop, dAsg, gNm, gTp, gsNil, gsCons, dAsgL, dApp, dExt, dIns, dPopAt, dSetIx, dPar, dAug, dNext, mVar, mVarN, mC, m1, m2, mTst, mChain, mNot, mAnd, mOr, mAndV, mOrV, mNotV, mIf, mNil, mCons, mBag, Du.dataOf, mTup, mLst, mB, mCall, mIsi, mIsi2, mNotD, mTru, truD, fAdd, fI, fI0, fMul, fB, fEq, fNe, fIn, fGeD, fIs, isBd, fIsN, isNd, fNeg, fIx, mSlL, mSlT, mNoP, mPart, fLen, fAbs, fInt, fMin2, fTuple, fList, fAll, fAny, fRepr, miL, miT, miR1, miR2, miEn, mRow, mLc, wipeE, dFor, mYes, Du.envOf, Option.map_some, Option.map_none, List.map_cons, List.map_nil, List.length_cons, List.length_nil, Nat.sub_self, Nat.add_sub_cancel, Nat.reduceAdd, Nat.reduceSub, List.replicate, List.cons_append, List.nil_append, List.append_nil, List.getElem?_cons_zero, List.getElem?_cons_succ, List.getElem?_nil, List.set_cons_zero, List.set_cons_succ, fTupOf, f1, h1, h2, Bool.not_false, Bool.not_true]
        exact ⟨trivial, trivial, trivial, h⟩
      | true =>
        obtain ⟨m, rfl⟩ : ∃ m, dm = .int m := by cases dm <;> first | exact ⟨_, rfl⟩ | cases h2
        simp only [dRet, dRetN, dIf, dSeq, dDrop, dAsg, gNm, gTp, gsNil, gsCons, dAsgL, dApp, dExt, dIns, dPopAt, dSetIx, dPar, dAug, dNext, mVar, mVarN, mC, m1, m2, mTst, mChain, mNot, mAnd, mOr, mAndV, mOrV, mNotV, mIf, mNil, mCons, mBag, Du.dataOf, mTup, mLst, mB, mCall, mIsi, mIsi2, fAdd, fI, fI0, fMul, fB, fEq, fNe, fIn, fGeD, fIs, isBd, fIsN, isNd, fNeg, fIx, mSlL, mSlT, mNoP, mPart, fLen, fAbs, fInt, fMin2, fTuple, fList, fAll, fAny, fRepr, miL, miT, miR1, miR2, miEn, mRow, wipeE, dFor, mYes, Du.envOf, Option.map_some, Option.map_none, List.map_cons, List.map_nil, List.length_cons, List.length_nil, Nat.sub_self, Nat.add_sub_cancel, Nat.reduceAdd, Nat.reduceSub, List.replicate, List.cons_append, List.nil_append, List.append_nil, List.getElem?_cons_zero, List.getElem?_cons_succ, List.getElem?_nil, List.set_cons_zero, List.set_cons_succ, fTupOf, f1, h1, h2, Bool.not_false, Bool.not_true, mTru, truD]
        refine ⟨trivial, trivial, trivial, ?_⟩
        cases g1 : decide (2 ≤ m) with
        | false =>
          have e : placeOk (.tuple [.int m, dv]) = false := by
            cases dv <;> first | rfl | (show ((decide (2 ≤ m) && _) && _) = false; rw [g1]; rfl)
          rw [e] at h
          exact h
        | true =>
          cases g2 : decide (m ≤ 6) with
          | false =>
            have e : placeOk (.tuple [.int m, dv]) = false := by
              cases dv <;> first | rfl | (show ((decide (2 ≤ m) && decide (m ≤ 6)) && _) = false; rw [g2, Bool.and_false]; rfl)
            rw [e] at h
            exact h
          | true =>
            have hmm : 2 ≤ m ∧ m ≤ 6 := ⟨of_decide_eq_true g1, of_decide_eq_true g2⟩
            have hfr : freeRows m = some (.tuple ((freeL m.toNat).map duo)) := by unfold freeRows; rw [if_pos hmm]
            refine ⟨rfl, ?_⟩
            rw [isK_tuple, hfr]
            cases dv with
            | tuple ms =>
              have hz : ms.length ≤ 30000 := by
                have y1 := wqs_len ms
                have y3 : wq (.tuple ms) = 4 + wqs ms := by rw [wq]
                omega
              have e : placeOk (.tuple [.int m, .tuple ms]) = (ms.all (mvOk m) && asc2 ms) := by
                show ((decide (2 ≤ m) && decide (m ≤ 6)) && _) = _
                rw [g1, g2] <;> rfl
              rw [e] at h
              have last : ∀ z, (∀ d ∈ ms, ∃ x y, d = .tuple [x, y]) → ms.all noTru = (ms.all (mvOk m) && asc2 ms) → mNotD
                (mLc (miT (mVar 2)) (gTp 2 (gsCons (gNm 5) (gsCons (gNm 6) gsNil)))
                  (mOr (mTst (m2 (fIs false) (mVar 5) (mC (.bool true)))) (mOr (mTst (m2 (fIs false) (mVar 5) (mC (.bool false)))) (mOr (mTst (m2 (fIs false) (mVar 6) (mC (.bool true)))) (mTst (m2 (fIs false) (mVar 6) (mC (.bool false)))))))
                  (mVar 5) [5, 6]) [.v (.tuple [.int m, .tuple ms]), .v (.int m), .v (.tuple ms), .v z, .un, .un, .un] q := fun z hp he => by
                refine not_lc ms (fun d => match d with | .tuple [x, y] => [.v (.tuple [.int m, .tuple ms]), .v (.int m), .v (.tuple ms), .v z, .un, .v x, .v y] | _ => []) (fun d => !noTru d)
                  (fun d => match d with | .tuple [x, y] => x | _ => .none) (fun k' hk' => hk') (by omega) (fun d hd k' hk' => ?_) (fun d hd k' hk' => ?_) (fun d hd _ k' hk' => ?_) ?_
                · obtain ⟨x, y, rfl⟩ := hp d hd
                  exact ⟨rfl, hk'⟩
                · obtain ⟨x, y, rfl⟩ := hp d hd
                  have hk2 : k' (!(!(isBd true x || (isBd false x || (isBd true y || isBd false y))))) := hk'
                  rw [Bool.not_not] at hk2
                  simp only [mOr, mTst, m2, fIs, mVar, mC, List.getElem?_cons_zero, List.getElem?_cons_succ, Bool.false_bne]
                  cases b1 : isBd true x with
                  | true => rw [b1] at hk2; exact hk2
                  | false =>
                    cases b2 : isBd false x with
                    | true => rw [b1, b2] at hk2; exact hk2
                    | false =>
                      cases b3 : isBd true y with
                      | true => rw [b1, b2, b3] at hk2; exact hk2
                      | false => rw [b1, b2, b3] at hk2; exact hk2
                · obtain ⟨x, y, rfl⟩ := hp d hd
                  exact hk'
                · rw [filter_none]
                  have e2 : (ms.all fun d => !(!noTru d)) = ms.all noTru := by
                    congr 1
                    funext d
                    rw [Bool.not_not]
                  rw [e2, he]
                  exact h
              refine ⟨?_, ?_⟩
              · show (((_ && _) || (_ || SeqAt.tis _)) && decide (min _ _ ≤ 60)) = true
                rw [tis_duo, Bool.or_true, Bool.or_true, Bool.true_and]
                have dd := depth_duo (freeL m.toNat)
                have e3 : (PyData.tuple ((freeL m.toNat).map duo)).depth = PyData.depthAll ((freeL m.toNat).map duo) + 1 := rfl
                exact decide_eq_true (by omega)
              · have ee : PyData.eqv (.tuple ms) (.tuple ((freeL m.toNat).map duo)) = PyData.eqvAll ms ((freeL m.toNat).map duo) := rfl
                rw [ee]
                cases hb : PyData.eqvAll ms ((freeL m.toNat).map duo) with
                | true =>
                  refine last _ (fun d hd => ?_) (place1 hmm hb)
                  obtain ⟨p, _, e⟩ := eqv_all_pair hb d hd
                  obtain ⟨x, y, rfl, _⟩ := eqv_pair (.inr e)
                  exact ⟨x, y, rfl⟩
                | false =>
                  refine mLc_pure ms (fun d => [.v (.tuple [.int m, .tuple ms]), .v (.int m), .v (.tuple ms), .v (.tuple ((freeL m.toNat).map duo)), .v d, .un, .un]) (fun d => !inF (freeL m.toNat) d) id (fun k' hk' => hk') (by omega) (fun d hd k' hk' => hk') (fun d hd k' hk' => ?_) (fun d hd _ k' hk' => hk') ?_
                  · refine ⟨?_, (show k' (true != inF (freeL m.toNat) d) by rw [Bool.true_bne]; exact hk')⟩
                    show (((_ && _) || (SeqAt.tis _ || _)) && decide (_ ∨ _)) = true
                    rw [tis_duo, Bool.true_or, Bool.or_true, Bool.true_and]
                    have dd := depth_duo (freeL m.toNat)
                    exact decide_eq_true (.inr (by omega))
                  · have fe := filter_none (ds := ms) (P := fun d => !inF (freeL m.toNat) d)
                    have fe2 : (ms.all fun d => !(!inF (freeL m.toNat) d)) = ms.all (inF (freeL m.toNat)) := by
                      congr 1
                      funext d
                      rw [Bool.not_not]
                    rw [fe2] at fe
                    rw [map_id']
                    cases hf : ms.filter (fun d => !inF (freeL m.toNat) d) with
                    | cons d0 r0 =>
                      rw [hf] at fe
                      rw [place2 fe.symm] at h
                      exact h
                    | nil =>
                      rw [hf] at fe
                      have hall : ms.all (inF (freeL m.toNat)) = true := fe.symm
                      have pr : ∀ d ∈ ms, ∃ x y, d = .tuple [x, y] ∧ (numD x).isSome = true ∧ (numD y).isSome = true := fun d hd => by
                        obtain ⟨p, _, e⟩ := inF_some (List.all_eq_true.mp hall d hd)
                        obtain ⟨x, y, rfl, e1, e2⟩ := eqv_pair (.inl e)
                        exact ⟨x, y, rfl, by rw [e1]; rfl, by rw [e2]; rfl⟩
                      refine ⟨trivial, ⟨List.all_eq_true.mpr fun d hd => ?_, by omega⟩, ?_⟩
                      · obtain ⟨x, y, rfl, e1, e2⟩ := pr d hd
                        show ([x, y].all fun d => (numD d).isSome) = true
                        simp [e1, e2]
                      · cases hu : ups ms with
                        | false =>
                          rw [place3 hu] at h
                          exact h
                        | true =>
                          exact last _ (fun d hd => (pr d hd).elim fun x hx => hx.elim fun y hy => ⟨x, y, hy.1⟩) (place4 hmm hall hu)
            | _ => exact h
  · exact h.elim
theorem ok_bench (T : Txt K mg A) (Gis_place : FnG P w K mg base 2 A.ais_place A.dis_place ["thing"] (spF K 1 (fPl placeOk))) : FnG P w K mg base 3 A.ais_bench A.dis_bench ["thing"] (spF K 1 (fPl benchOk)) := by
  refine okD T.is_bench.F sc_is_bench (fun c cdv A' outer s H E hg hr => (dss_one (ds_ret (de_n (de_and (de_isi (pe_callB (kIsi K) (by rfl) T.nb_isinstance (by decide +kernel) (pa_cons (de_n (de_var (pv 0))) (pa_cons (pe_bltn (v := .ty "tuple") (u := .type "tuple") rfl (T.nb_tuple) (by decide +kernel) rfl) pa_nil)))) (de_and (de_cmp op_gt od_B (de_n (de_b cd_len (pe_callB (kLen K) (by rfl) T.nb_len PySem.boot_len (dan_cons (de_n (de_var (pv 0))) dan_nil)))) (de_n (de_c pe_int (fun _ => .int _))) (nomark _)) (de_one (de_b cd_all (pe_callB (kAll K rfl) (by rfl) T.nb_all (by decide +kernel) (dan_cons (de_ln (de_lc (own := [("place", 1)]) rfl sc_is_bench.nd (di_tup rfl (de_var (pv 0))) (blkOk_by (N := ["thing", "place"]) (sc := defScope sis_bench) (by decide +kernel)) (fun _ _ _ _ _ => (dg_name (pg_name (i := 1) sc_is_bench.nd rfl (by first | exact Or.inl rfl | exact Or.inr rfl)))) (fun _ _ _ _ _ => dts_nil) (fun _ _ _ _ _ => (de_call (pe_callG Gis_place hg (hr.mono (by first | decide | omega)) rfl T.is_place.g T.is_place.F.kp T.is_place.b (da_cons (de_var (pv 1)) da_nil)))) (by decide))) dan_nil)))))))))) ?_
  intro as q hl h
  unfold fPl at h
  split at h
  · rename_i d
    obtain ⟨hw, h⟩ := h
    simp only [dRet, dRetN, dIf, dSeq, dDrop, dAsg, gNm, gTp, gsNil, gsCons, dAsgL, dApp, dExt, dIns, dPopAt, dSetIx, dPar, dAug, dNext, mVar, mVarN, mC, m1, m2, mTst, mChain, mNot, mAnd, mOr, mAndV, mOrV, mNotV, mIf, mNil, mCons, mBag, Du.dataOf, mTup, mLst, mB, mCall, mIsi, mIsi2, fAdd, fI, fI0, fMul, fB, fEq, fNe, fIn, fGeD, fIs, isBd, fIsN, isNd, fNeg, fIx, mSlL, mSlT, mNoP, mPart, fLen, fAbs, fInt, fMin2, fTuple, fList, fAll, fAny, fRepr, miL, miT, miR1, miR2, miEn, mRow, wipeE, dFor, mYes, Du.envOf, Option.map_some, Option.map_none, List.map_cons, List.map_nil, List.length_cons, List.length_nil, Nat.sub_self, Nat.add_sub_cancel, Nat.reduceAdd, Nat.reduceSub, List.replicate, List.cons_append, List.nil_append, List.append_nil, List.getElem?_cons_zero, List.getElem?_cons_succ, List.getElem?_nil, List.set_cons_zero, List.set_cons_succ, truD]
    rw [isK_tuple]
    refine ⟨rfl, ?_⟩
    cases d with
    | tuple ds =>
      have y3 : wq (.tuple ds) = 4 + wqs ds := by rw [wq]
      have y1 := wqs_len ds
      show (match PyData.bool (decide ((0 : Int) < (ds.length : Int))) with | .bool true => _ | .bool false => _ | _ => False)
      have ei : decide ((0 : Int) < (ds.length : Int)) = decide (0 < ds.length) := decide_eq_decide.mpr (by omega)
      have eb : benchOk (.tuple ds) = (decide (0 < ds.length) && ds.all placeOk) := rfl
      rw [eb] at h
      rw [ei]
      cases hz : decide (0 < ds.length) with
      | false => rw [hz] at h; exact h
      | true =>
        rw [hz] at h
        refine mLc_pure ds (fun d => [.v (.tuple ds), .v d]) (fun _ => true) (fun d => .bool (placeOk d)) (fun k' hk' => hk') (by omega) (fun d hd k' hk' => hk') (fun d hd k' hk' => hk') (fun d hd _ k' hk' => ?_) ?_
        · have := wqs_mem hd
          exact ⟨rfl, by omega, hk'⟩
        · rw [List.filter_eq_self.mpr (fun _ _ => rfl)]
          show (match boolsOf (ds.map fun d => .bool (placeOk d)) with | some bs => q (.bool (bs.all id)) | Option.none => False)
          rw [bools_map]
          have e2 : (ds.map placeOk).all id = ds.all placeOk := by rw [List.all_map]; rfl
          show q (.bool ((ds.map placeOk).all id))
          rw [e2]
          exact h
    | _ => exact h
  · exact h.elim
end
end L11

namespace L11
open PySem PySem.Spec PyProof.Rows L2 On Du
/-! the table of the free moves, looked up in the written part -/
def zipB {α β : Type} (f : α → β → Bool) : List α → List β → Bool
  | [], [] => true
  | a :: s, b :: t => f a b && zipB f s t
  | _, _ => false
def seqAt (K : PySem.W.Frag) : Value → Option (List Value)
  | .ref a => match K.lookup a with
    | some o => match o.cls, o.data with
      | .type t, .seq its _ => if t = "tuple" ∧ its.size ≤ sizeLine then some its.toList else Option.none
      | _, _ => Option.none
    | Option.none => Option.none
  | _ => Option.none
def pairAt (K : PySem.W.Frag) (p : Int × Int) (v : Value) : Bool := match seqAt K v with
  | some [.int i _, .int j _] => decide (i = p.1) && decide (j = p.2)
  | _ => false
def rowAt (K : PySem.W.Frag) (ps : List (Int × Int)) (v : Value) : Bool := match seqAt K v with
  | some vs => zipB (pairAt K) ps vs
  | Option.none => false
def keyOk (e : DictEntry) : Bool := match e.key with
  | .int i _ => decide (e.hash = hashInt i)
  | _ => false
def freeAt (K : PySem.W.Frag) (d : Addr) : Bool := match K.lookup d with
  | some ⟨.type t, Option.none, .dict es _, sl⟩ => decide (t = "dict") && (decide (sl.size = 0) && (es.toList.all keyOk && [2, 3, 4, 5, 6].all fun (i : Nat) => match es.toList.find? fun e => Value.isInt (i : Int) e.key with
    | some e => rowAt K (freeL i) e.val
    | Option.none => false))
  | _ => false
section
variable {K : PySem.W.Frag}
theorem seq_of {v : Value} {vs : List Value} (h : seqAt K v = some vs) : ∃ a, v = .ref a ∧ ∀ {xs : List V} (H : Hp), Vals xs vs → SqT K H a xs := by
  unfold seqAt at h
  split at h
  · rename_i a
    split at h
    · rename_i o ho
      split at h
      · rename_i t its n h1 h2
        split at h
        · rename_i hh
          cases h
          exact ⟨a, rfl, fun H r => .inr ⟨o, its, n, ho, by rw [h1, hh.1], h2, hh.2, r⟩⟩
        · cases h
      · cases h
    · cases h
  · cases h
theorem pair_of {p : Int × Int} {v : Value} (h : pairAt K p v = true) : ∃ x, RelV x v ∧ ∀ H, Da K H x (duo p) := by
  unfold pairAt at h
  split at h
  · rename_i i ti j tj e
    rw [Bool.and_eq_true, decide_eq_true_eq, decide_eq_true_eq] at h
    obtain ⟨a, rfl, q⟩ := seq_of e
    obtain ⟨h1, h2⟩ := h
    refine ⟨.ref a, rfl, fun H => .tup (q H (xs := [.int i, .int j]) (.cons ⟨_, rfl⟩ (.cons ⟨_, rfl⟩ .nil))) ?_⟩
    rw [h1, h2]
    exact .cons (.int _) (.cons (.int _) .nil)
  · cases h
theorem row_all : ∀ {ps : List (Int × Int)} {vs : List Value}, zipB (pairAt K) ps vs = true → ∃ xs, Vals xs vs ∧ ∀ H, DaAll K H xs (ps.map duo)
  | [], [], _ => ⟨[], .nil, fun _ => .nil⟩
  | [], _ :: _, h => by simp [zipB] at h
  | _ :: _, [], h => by simp [zipB] at h
  | p :: ps, v :: vs, h => by
    rw [zipB, Bool.and_eq_true] at h
    obtain ⟨x, r, d⟩ := pair_of h.1
    obtain ⟨xs, rs, ds⟩ := row_all h.2
    exact ⟨x :: xs, .cons r rs, fun H => .cons (d H) (ds H)⟩
theorem row_of {ps : List (Int × Int)} {v : Value} (h : rowAt K ps v = true) : ∃ x, RelV x v ∧ ∀ H, Da K H x (.tuple (ps.map duo)) := by
  unfold rowAt at h
  split at h
  · rename_i vs e
    obtain ⟨a, rfl, q⟩ := seq_of e
    obtain ⟨xs, rs, ds⟩ := row_all h
    exact ⟨.ref a, rfl, fun H => .tup (q H rs) (ds H)⟩
  · cases h
theorem kint_of {d : Addr} (h : freeAt K d = true) : KInt K d freeRows := by
  unfold freeAt at h
  split at h
  · rename_i t es n sl hl
    simp only [Bool.and_eq_true, decide_eq_true_eq] at h
    obtain ⟨rfl, h2, h3, h4⟩ := h
    obtain rfl : sl = #[] := Array.eq_empty_of_size_eq_zero h2
    refine ⟨es, n, hl, fun e he => ?_, fun i z hz => ?_⟩
    · have z := List.all_eq_true.mp h3 e (by simpa using he)
      unfold keyOk at z
      split at z
      · rename_i i t hk
        exact ⟨i, t, hk, of_decide_eq_true z⟩
      · cases z
    · unfold freeRows at hz
      split at hz
      · rename_i hi
        cases hz
        have e : ((i.toNat : Nat) : Int) = i := by omega
        have z := List.all_eq_true.mp h4 i.toNat (by
          have : i.toNat = 2 ∨ i.toNat = 3 ∨ i.toNat = 4 ∨ i.toNat = 5 ∨ i.toNat = 6 := by omega
          simpa using this)
        rw [e] at z
        split at z
        · rename_i v hv
          obtain ⟨x, r, da⟩ := row_of z
          exact ⟨v.val, by unfold findBy; rw [← Array.find?_toList, hv] <;> rfl, x, r, da⟩
        · cases z
      · cases hz
  · cases h
end
end L11

namespace K11
open PySem PySem.Spec PyProof.Rows L2 On L11
theorem small_log {n : Int} (h0 : 0 < n) (h : n < 1000000) : n.natAbs.log2 < 9000 := by
  have h1 : n.natAbs ≠ 0 := by omega
  have h2 : n.natAbs < 2 ^ 20 := by omega
  have h3 := (Nat.log2_lt h1).mpr h2
  omega
def absAt (xs : List V) (i : Nat) : Int := match xs[i]? with
  | some (.int c) => if c < 0 then -c else c
  | _ => 0
theorem head_int (cs : List Int) (lo hi : Option Int) : ∃ c : Int, atI (cutV (cs.map V.int) lo hi ++ [V.int 0]) 0 = some (.int c) := by
  have e : cutV (cs.map V.int) lo hi = ((cs.drop (HT.sIx cs.length 0 lo)).take (HT.sIx cs.length cs.length hi - HT.sIx cs.length 0 lo)).map V.int := by
    unfold cutV
    rw [List.length_map, List.map_take, List.map_drop]
  rw [e]
  cases (cs.drop (HT.sIx cs.length 0 lo)).take (HT.sIx cs.length cs.length hi - HT.sIx cs.length 0 lo) with
  | nil => exact ⟨0, rfl⟩
  | cons c t => exact ⟨c, atI_nat (j := 0) rfl⟩
section
variable {P : Program} {w : World} {K : PySem.W.Frag} {mg : Str → Option Value} {base : Heap} {A : Ads}
theorem ok_take (T : Txt K mg A) : FnOk P w K mg base CX0 1 A.a_law_take A.d_law_take ["_law_bag_here", "_law_upto"] spTake := by
  refine T._law_take.F.ok sc__law_take (fun vs H Q E h => ?_) (fun cdv A' outer s H vs Q E hr h => ?_)
  · obtain ⟨b, c, n, rfl, _⟩ := h
    rfl
  · obtain ⟨b, l, n, rfl, B, hn, hn9, k⟩ := h
    refine ⟨_, (Evl.pss_cut (ps_if (pt_cmpR op_eq (pe_ix (kIxL K) (pv 0) pe_int (fun _ _ => rfl)) pe_int (nomark _)) (pss_cons (ps_set (i := 2) sc__law_take.nd rfl (by first | exact Or.inl rfl | exact Or.inr rfl) (pe_ix (kIxL K) (pe_op op_cat (pe_slice (kSlL K) (pe_ix (kIxL K) (pv 0) pe_int (fun _ _ => rfl)) (po_some (pe_ix (kIxL K) (pv 0) pe_int (fun _ _ => rfl))) po_none) (pe_lst (pa_cons pe_int pa_nil))) pe_int (fun _ _ => rfl)))
      (pss_cons (ps_augS (pv 0) pe_int (kGet K) pe_int ip_add set_list)
      (Evl.pss_cut (ps_if (pt_cmpR op_ge (pv 2) (pe_op op_pow pe_int pe_int) (nomark _)) (pss_one (ps_asg (pv 2) (pg_sub (pv 0) pe_int set_list))) pss_nil)
      (pss_cons (ps_set (i := 3) sc__law_take.nd rfl (by first | exact Or.inl rfl | exact Or.inr rfl) (pe_op op_add (pe_op op_add (pe_op op_mul (pe_ix (kIxL K) (pv 0) pe_int (fun _ _ => rfl)) pe_int) (pe_op op_mod (pe_callTy call_int1 (by rfl) T.nb_int (by decide +kernel) (pa_cons (pv 2) pa_nil)) pe_int)) (pe_op op_mul pe_int (pe_ix (kIxL K) (pv 0) pe_int (fun _ _ => rfl)))))
      (pss_one (ps_asg (pe_op op_mod (pe_callTy call_int1 (by rfl) T.nb_int (by decide +kernel) (pa_cons (pv 3) pa_nil)) pe_int) (pg_sub (pv 0) pe_int set_list))))))) pss_nil)
      (Evl.pss_cut (ps_if (pt_cmpR op_gt (pe_ix (kIxL K) (pv 0) pe_int (fun _ _ => rfl)) pe_int (nomark _)) (pss_cons (ps_set (i := 4) sc__law_take.nd rfl (by first | exact Or.inl rfl | exact Or.inr rfl) (pe_op op_mod (pe_callTy call_int1 (by rfl) T.nb_int (by decide +kernel) (pa_cons (pe_ix (kIxL K) (pv 0) pe_int (fun _ _ => rfl)) pa_nil)) (pv 1)))
      (pss_cons (ps_asg (pe_op op_fdivW (pe_callTy call_int1 (by rfl) T.nb_int (by decide +kernel) (pa_cons (pe_ix (kIxL K) (pv 0) pe_int (fun _ _ => rfl)) pa_nil)) (pv 1)) (pg_sub (pv 0) pe_int set_list))
      (pss_one (ps_ret (pv 4))))) pss_nil)
      (pss_cons (ps_set (i := 5) sc__law_take.nd rfl (by first | exact Or.inl rfl | exact Or.inr rfl) (pe_op op_mod (pe_callTy call_int1 (by rfl) T.nb_int (by decide +kernel) (pa_cons (pe_op op_mul (pe_op op_add (pe_ix (kIxL K) (pv 0) pe_int (fun _ _ => rfl)) pe_int) pe_int) pa_nil)) pe_int))
      (pss_cons (ps_set (i := 6) sc__law_take.nd rfl (by first | exact Or.inl rfl | exact Or.inr rfl) (pe_op op_mod (pe_callTy call_int1 (by rfl) T.nb_int (by decide +kernel) (pa_cons (pe_op op_mul (pe_op op_mod (pe_callTy call_int1 (by rfl) T.nb_int (by decide +kernel) (pa_cons (pe_op op_mul (pv 5) (pv 5)) pa_nil)) pe_int) pe_int) pa_nil)) pe_int))
      (pss_one (ps_ret (pe_op op_mod (pe_callTy call_int1 (by rfl) T.nb_int (by decide +kernel) (pa_cons (pe_op op_fdivW (pv 6) pe_int) pa_nil)) (pv 1)))))))), ?_⟩
    obtain ⟨⟨p, q, r, cs, h1, h2, h3⟩, hsys⟩ := id B
    refine ⟨fun σ' H' => ∃ c s, σ' = [some (.ref b), some (.int n), c, s, none, none, none] ∧ Bag H' b l ∧ But b H H', ?_, ?_⟩
    · -- if bag[0] == 0
      refine ⟨_, rfl, b, _, 0, _, rfl, rfl, SqL.of h1, rfl, rfl, _, rfl, ?_⟩
      refine ite2 (fun _ => ?_) (fun _ => ⟨_, _, rfl, B, But.refl _ _⟩)
      -- cell = (bag[3][bag[2]:] + [0])[0]
      obtain ⟨c, hc⟩ := head_int cs (some r) Option.none
      refine ⟨_, rfl, b, _, 3, _, rfl, rfl, SqL.of h1, rfl, _, rfl, b, _, 2, _, rfl, rfl, SqL.of h1, rfl, r, rfl, l, _, rfl, SqL.of h2, fun p1 n1 => ?_⟩
      refine ⟨(by decide), fun p2 n2 => ?_⟩
      refine ⟨p1, p2, _, _, rfl, rfl, (by rw [upd_ne (ne_of_none upd_same n2)]; exact upd_same), upd_same, ?_, fun p3 n3 => ?_⟩
      · have z := cutV_length (cs.map V.int) (some r) Option.none
        rw [List.length_map] at z
        rw [sizeLine_eq]
        show _ + 1 ≤ _
        omega
      have s1 := ((same_upd n1).trans (same_upd n2)).trans (same_upd (o := .lst (cutV (cs.map V.int) (some r) Option.none ++ [V.int 0])) n3)
      refine ⟨p3, _, 0, _, rfl, rfl, SqL.of upd_same, hc, ?_⟩
      generalize upd (upd (upd H p1 _) p2 _) p3 _ = H1 at s1 ⊢
      -- bag[2] += 1
      refine ⟨_, rfl, b, _, 2, _, rfl, rfl, SqL.of (s1 _ _ h1), rfl, r, 1, rfl, rfl, b, _, 2, 2, rfl, rfl, s1 _ _ h1, rfl, ?_⟩
      have B1 : Bag H1 b l := B.same s1
      have B2 := B1.put p q (r + 1)
      have k2 : But b H (upd H1 b (.lst [.int p, .int q, .int (r + 1), .ref l])) := (But.of_same s1).trans but_put
      show Evl.tCut _ _ _ _ (upd H1 b (.lst [.int p, .int q, .int (r + 1), .ref l]))
      generalize upd H1 b (.lst [.int p, .int q, .int (r + 1), .ref l]) = H2 at B2 k2 ⊢
      refine ⟨fun σ' H' => σ' = [some (.ref b), some (.int n), some (.int c), none, none, none, none] ∧ Bag H' b l ∧ But b H H', ?_, ?_⟩
      · -- if cell >= 10 ** 18: bag[0] = cell
        refine ⟨_, rfl, _, _, rfl, rfl, ⟨by decide, by decide, by decide⟩, _, _, rfl, rfl, _, rfl, ?_⟩
        refine ite2 (fun _ => ?_) (fun _ => ⟨rfl, B2, k2⟩)
        obtain ⟨⟨p', q', r', cs', g1, g2, g3⟩, _⟩ := id B2
        refine ⟨_, rfl, _, rfl, b, _, 0, 0, rfl, rfl, g1, rfl, rfl, B2.put _ _ _, k2.trans but_put⟩
      · rintro σ' H' ⟨rfl, B3, k3⟩
        obtain ⟨⟨p', q', r', cs', g1, g2, g3⟩, _⟩ := id B3
        -- stirred = .. ; bag[1] = ..
        refine ⟨_, rfl, b, _, 1, _, rfl, rfl, SqL.of g1, rfl, _, _, rfl, rfl, .inr ⟨by decide, by decide⟩, _, rfl, .inl ⟨_, rfl, _, _, rfl, rfl, (by show (0 : Int) < 2147483647; decide), ?_⟩⟩
        refine ⟨_, _, rfl, rfl, ?_⟩
        refine ⟨_, rfl, b, _, 2, _, rfl, rfl, SqL.of g1, rfl, _, _, rfl, rfl, .inl ⟨by decide, by decide⟩, _, _, rfl, rfl, ?_⟩
        refine ⟨_, rfl, .inl ⟨_, rfl, _, _, rfl, rfl, (by show (0 : Int) < 2147483647; decide), ?_⟩⟩
        exact ⟨_, rfl, b, _, 1, 1, rfl, rfl, g1, rfl, _, _, rfl, B3.put _ _ _, k3.trans but_put⟩
    · rintro σ' H' ⟨c, s, rfl, B1, k1⟩
      obtain ⟨⟨p, q, r, cs, h1, h2, h3⟩, _⟩ := id B1
      refine ⟨fun σ' H2 => σ' = [some (.ref b), some (.int n), c, s, none, none, none] ∧ H2 = H', ?_, ?_⟩
      · -- if bag[0] > 0
        refine ⟨_, rfl, b, _, 0, _, rfl, rfl, SqL.of h1, rfl, _, _, rfl, rfl, _, rfl, ?_⟩
        refine ite2 (fun _ => ?_) (fun _ => ⟨rfl, rfl⟩)
        refine ⟨_, rfl, b, _, 0, _, rfl, rfl, SqL.of h1, rfl, .inl ⟨_, rfl, _, rfl, _, _, rfl, rfl, hn, ?_⟩⟩
        refine ⟨_, rfl, b, _, 0, _, rfl, rfl, SqL.of h1, rfl, .inl ⟨_, rfl, _, rfl, _, _, rfl, rfl, ⟨hn, hn9⟩, ?_⟩⟩
        refine ⟨_, rfl, b, _, 0, 0, rfl, rfl, h1, rfl, _, rfl, ?_⟩
        exact k _ _ (Int.emod_nonneg _ (by omega)) (Int.emod_lt_of_pos _ hn) (B1.put _ _ _) (k1.trans but_put)
      · rintro σ2 H2 ⟨rfl, rfl⟩
        -- begin, second
        refine ⟨_, rfl, b, _, 1, _, rfl, rfl, SqL.of h1, rfl, _, _, rfl, rfl, _, _, rfl, rfl, .inr ⟨by decide, by decide⟩, .inl ⟨_, rfl, _, _, rfl, rfl, (by show (0 : Int) < 1000000007; decide), ?_⟩⟩
        have b0 : 0 ≤ (q + 1) * 39373 % 1000000007 := Int.emod_nonneg _ (by decide)
        have b1 : (q + 1) * 39373 % 1000000007 < 1000000007 := Int.emod_lt_of_pos _ (by decide)
        generalize (q + 1) * 39373 % 1000000007 = z at b0 b1 ⊢
        refine ⟨_, rfl, _, rfl, _, _, rfl, rfl, .inl ⟨by omega, by omega⟩, .inl ⟨_, rfl, _, _, rfl, rfl, (by show (0 : Int) < 998244353; decide), _, _, rfl, rfl, .inr ⟨by decide, by decide⟩, .inl ⟨_, rfl, _, _, rfl, rfl, (by show (0 : Int) < 998244353; decide), ?_⟩⟩⟩
        refine ⟨_, rfl, _, _, rfl, rfl, ⟨by decide, by decide⟩, .inl ⟨_, rfl, _, rfl, _, _, rfl, rfl, hn, ?_⟩⟩
        exact k _ _ (Int.emod_nonneg _ (by omega)) (Int.emod_lt_of_pos _ hn) B1 k1
theorem ok_some (T : Txt K mg A) (G_law_take : FnOk P w K mg base CX0 1 A.a_law_take A.d_law_take ["_law_bag_here", "_law_upto"] spTake) : FnOk P w K mg base CX0 2 A.a_law_some A.d_law_some ["_law_bag_here", "_law_things"] (spSome K) := by
  refine T._law_some.F.ok sc__law_some (fun vs H Q E h => ?_) (fun cdv A' outer s H vs Q E hr h => ?_)
  · obtain ⟨b, c, l, xs, rfl, _⟩ := h
    rfl
  · obtain ⟨b, c, l, xs, rfl, B, hl, hlb, hx, hz, k⟩ := h
    refine ⟨_, (pss_one (ps_ret (pe_ix (kIxL K) (pv 1) (pe_call G_law_take (hr.mono (by first | decide | omega)) rfl T._law_take.g T._law_take.F.kp T._law_take.b .nil pass0 (pa_cons (pv 0) (pa_cons (pe_callB (kLen K) (by rfl) T.nb_len PySem.boot_len (pa_cons (pv 1) pa_nil)) pa_nil))) (fun _ _ => rfl)))), ?_⟩
    refine ⟨_, rfl, _, rfl, _, rfl, l, _, rfl, .inl (SqL.of hl), b, c, _, rfl, B, by omega, small_log (by omega) (by omega), fun v H' h0 h1 B' k' => ?_⟩
    obtain ⟨i, rfl⟩ : ∃ i : Nat, v = (i : Int) := ⟨v.toNat, by omega⟩
    have hi : i < xs.length := by omega
    refine ⟨l, _, _, xs[i], rfl, rfl, SqL.of (k' _ _ hlb hl), atI_nat (List.getElem?_eq_getElem hi), ?_⟩
    exact k _ _ (List.getElem_mem hi) B' k'
/-- _law_bag(script) -/
def spBag (K : PySem.W.Frag) : Sp := fun vs H Q _ => ∃ (a : Addr) (ns : List Int), vs = [.ref a] ∧ SqL K H a (ns.map V.int) ∧ ns.length ≤ 63 ∧ Sys H ∧ ∀ (b c : Addr) (H' : Hp), H b = Option.none → Bag H' b c → Same H H' → Q (.ref b) H'
theorem ok_bag (T : Txt K mg A) : FnOk P w K mg base CX0 1 A.a_law_bag A.d_law_bag ["_law_script"] (spBag K) := by
  refine T._law_bag.F.ok sc__law_bag (fun vs H Q E h => ?_) (fun cdv A' outer s H vs Q E hr h => ?_)
  · obtain ⟨a, ns, rfl, _⟩ := h
    rfl
  · obtain ⟨a, ns, rfl, hs, h63, hsys, k⟩ := h
    refine ⟨_, (pss_one (ps_ret (pe_lst (pa_cons pe_int (pa_cons pe_int (pa_cons pe_int (pa_cons (pe_lc (own := [("_law_cell", 1)]) rfl sc__law_bag.nd (kPiL K (pe_slice (kSlL K) (pv 0) po_none (po_some pe_int))) (blkOk_by (N := ["_law_script", "_law_cell"]) (sc := defScope s_law_bag) (by decide +kernel)) (fun _ _ _ _ _ => (pg_name (i := 1) sc__law_bag.nd rfl (by first | exact Or.inl rfl | exact Or.inr rfl))) (fun _ _ _ _ _ => pts_nil) (fun _ _ _ _ _ => (pe_callB call_abs (by rfl) T.nb_abs (by decide +kernel) (pa_cons (pv 1) pa_nil)))) pa_nil))))))), ?_⟩
    have hz : (cutV (ns.map V.int) Option.none (some 63)).length ≤ 63 := by
      have z := cutV_length (ns.map V.int) Option.none (some 63)
      rw [List.length_map] at z
      omega
    have hi : ∀ x ∈ cutV (ns.map V.int) Option.none (some 63), ∃ c : Int, x = .int c := fun x hx => by
      have h1 : x ∈ ns.map V.int := List.mem_of_mem_drop (List.mem_of_mem_take hx)
      obtain ⟨c, _, e⟩ := List.mem_map.mp h1
      exact ⟨c, e.symm⟩
    generalize hxs : cutV (ns.map V.int) Option.none (some 63) = xs at hz hi
    refine to_ret (to_lst (to_c (to_c (to_c (to_cons ?_)))))
    refine Evl.el_lcNL (xs := xs) (fun _ => true) (fun i => .int (absAt xs i)) ?_ (by omega) ?_ ?_ ?_ H (Evl.Ex.refl H) _ (fun p H2 np e hp => ?_)
    · rw [← hxs]
      exact Evl.el_sl (Evl.ev_var rfl) Evl.eo_none (Evl.eo_some Evl.ev_c) hs
    · intro x
      rfl
    · intro i x H1 _ _ H2 _ Q' q
      exact q H2 (Evl.Ex.refl H2)
    · intro i x H1 _ hx _
      obtain ⟨c, rfl⟩ := hi x (List.mem_of_getElem? hx)
      refine Evl.ev_cb (Evl.ea_cons (Evl.ev_var rfl) Evl.ea_nil) (fun H2 _ Q' q => ⟨c, rfl, ?_⟩)
      have e2 : absAt xs i = if c < 0 then -c else c := by
        unfold absAt
        rw [hx]
      rw [← e2]
      exact q H2 (Evl.Ex.refl H2)
    · refine ⟨(by show 4 ≤ sizeLine; decide), fun b nb => ?_⟩
      have e3 : Evl.given xs.length (fun _ => true) (fun i => V.int (absAt xs i)) = ((List.range xs.length).map (absAt xs)).map V.int := by
        unfold Evl.given
        rw [List.filter_eq_self.mpr (fun _ _ => rfl), List.map_map]
        rfl
      rw [e3] at hp
      have npb : p ≠ b := ne_of_none hp nb
      have s2 : Same H (upd H2 b (.lst [V.int 0, V.int 1234567891, V.int 0, V.ref p])) := fun x o ex => by
        have y := e x o ex
        rw [upd_ne (ne_of_none y nb)]
        exact y
      obtain ⟨φ, hφ⟩ := hsys
      refine k b p _ ?_ ⟨⟨_, _, _, _, upd_same, by rw [upd_ne npb]; exact hp, by rw [List.length_map, List.length_range]; exact hz⟩, φ, s2 _ _ hφ⟩ s2
      cases hb : H b with
      | none => rfl
      | some o =>
        rw [e b o hb] at nb
        cases nb
theorem ok_alike (T : Txt K mg A) : FnG P w K mg base 1 A.a_law_alike A.d_law_alike ["_law_found", "_law_due"] (spAlike K) := by
  refine okG T._law_alike.F sc__law_alike (fun vs H Q E h => ?_) (fun cdv A' outer s H vs Q E hg hr h => ?_)
  · obtain ⟨x, y, d, rfl, _⟩ := h
    rfl
  · obtain ⟨x, y, d, rfl, dx, dy, fd, k⟩ := h
    refine ⟨_, (pss_one (ps_ret (pe_and (pe_cmpR (kEqD K (un64 hr)) (pv 0) (pv 1) (nomark _)) (pe_one (pe_cmpR op_eq (pe_callB (kRepr K hg (un66 hr)) (by rfl) T.nb_repr (by decide +kernel) (pa_cons (pv 0) pa_nil)) (pe_callB (kRepr K hg (un66 hr)) (by rfl) T.nb_repr (by decide +kernel) (pa_cons (pv 1) pa_nil)) (nomark _)))))), ?_⟩
    refine ⟨_, rfl, _, rfl, d, d, dp_of_dq fd.tm dx, dp_of_dq fd.tm dy, fd.shaped, fd.shaped, _, rfl, ?_⟩
    rw [fd.eqv]
    refine iteT ?_
    have h64 : d.depth ≤ 64 := Nat.le_trans fd.dp (by decide)
    refine ⟨_, rfl, x, d, rfl, dx, tame_show d fd.tm, h64, fd.len, _, rfl, y, d, rfl, dy, tame_show d fd.tm, h64, fd.len, rfl, ?_⟩
    rw [decide_eq_true rfl]
    exact k
end
end K11

namespace K11
open PySem PySem.Spec PyProof.Rows L2 On L11
/-! ### what is told -/
def isTup (n : Int) : PyData → Bool
  | .tuple xs => decide ((xs.length : Int) = n)
  | _ => false
def isBelow (n : Int) : PyData → Bool
  | .int i => decide (0 ≤ i) && decide (i < n)
  | _ => false
def inR (lo hi : Int) : PyData → Bool
  | .int i => decide (lo ≤ i) && decide (i ≤ hi)
  | _ => false
def sameInt : PyData → PyData → Bool
  | .int i, .int j => decide (i = j)
  | _, _ => false
def moveOk (m : Int) : PyData → Bool
  | .tuple [d, e] => isBelow m d && (isBelow m e && !sameInt d e)
  | _ => false
def pr : PyData → List Int
  | .tuple [.int v, .int w] => [v, w]
  | _ => []
def asc (ms : List PyData) : Bool := (List.range ((ms.length : Int) - 1).toNat).all fun k => HT.lexLt (pr (ms.getD k .none)) (pr (ms.getD (k + 1) .none))
def placeOk : PyData → Bool
  | .tuple [.int m, .tuple ms] => (decide (2 ≤ m) && decide (m ≤ 6)) && (ms.all (moveOk m) && asc ms)
  | _ => false
def benchOk : PyData → Bool
  | .tuple ds => decide (0 < ds.length) && ds.all placeOk
  | _ => false
def f1 (f : PyData → Bool) : List PyData → Option Bool
  | [d] => some (f d)
  | _ => Option.none
def fTup : List PyData → Option Bool
  | [d, .int n] => some (isTup n d)
  | _ => Option.none
def fBelow : List PyData → Option Bool
  | [d, .int n] => some (isBelow n d)
  | _ => Option.none
def fInR : List PyData → Option Bool
  | [d, .int lo, .int hi] => some (inR lo hi d)
  | _ => Option.none
def fMove : List PyData → Option Bool
  | [.int m, d] => some (moveOk m d)
  | _ => Option.none
def isPair : PyData → Bool
  | .tuple [.int _, .int _] => true
  | _ => false
def fAsc : List PyData → Option Bool
  | [.tuple ms] => if ms.all isPair = true ∧ ms.length ≤ 30000 then some (asc ms) else Option.none
  | _ => Option.none
section
variable {P : Program} {w : World} {K : PySem.W.Frag} {mg : Str → Option Value} {base : Heap} {A : Ads}
theorem ok_is_integer (T : Txt K mg A) : FnOk P w K mg base CX0 1 A.ais_integer A.dis_integer ["thing"] (spB K 1 (f1 isInt)) := by
  refine T.is_integer.F.ok sc_is_integer (fun vs H Q E ⟨_, _, _, hl, _⟩ => hl) (fun cdv A' outer s H vs Q E hr h => ?_)
  obtain ⟨ds, r, hd, hl, he, k⟩ := h
  obtain ⟨x, d, rfl, rfl, dx⟩ := dq1 hd hl
  cases he
  refine ⟨_, (pss_one (ps_ret (pe_and (pe_callB (kIsi K) (by rfl) T.nb_isinstance (by decide +kernel) (pa_cons (pv 0) (pa_cons (pe_bltn (v := .ty "int") (u := .type "int") rfl (T.nb_int) (by decide +kernel) rfl) pa_nil))) (pe_one (pe_not (pe_callB (kIsi K) (by rfl) T.nb_isinstance (by decide +kernel) (pa_cons (pv 0) (pa_cons (pe_bltn (v := .ty "bool") (u := .type "bool") rfl (T.nb_bool) (by decide +kernel) rfl) pa_nil)))))))), ?_⟩
  exact Evl.s_ret (ev_isInt (fun _ _ => Evl.ev_var rfl) dx) k
theorem ok_law_is_int (T : Txt K mg A) : FnOk P w K mg base CX0 1 A.a_law_is_int A.d_law_is_int ["_law_thing", "_law_low", "_law_high"] (spB K 3 fInR) := by
  refine T._law_is_int.F.ok sc__law_is_int (fun vs H Q E ⟨_, _, _, hl, _⟩ => hl) (fun cdv A' outer s H vs Q E hr h => ?_)
  obtain ⟨ds, r, hd, hl, he, k⟩ := h
  obtain ⟨x, d, y, e, z, g, rfl, rfl, dx, dy, dz⟩ := dq3 hd hl
  cases dy with
  | int lo =>
    cases dz with
    | int hi =>
      cases he
      refine ⟨_, (pss_one (ps_ret (pe_and (pe_callB (kIsi K) (by rfl) T.nb_isinstance (by decide +kernel) (pa_cons (pv 0) (pa_cons (pe_bltn (v := .ty "int") (u := .type "int") rfl (T.nb_int) (by decide +kernel) rfl) pa_nil))) (pe_and (pe_not (pe_callB (kIsi K) (by rfl) T.nb_isinstance (by decide +kernel) (pa_cons (pv 0) (pa_cons (pe_bltn (v := .ty "bool") (u := .type "bool") rfl (T.nb_bool) (by decide +kernel) rfl) pa_nil)))) (pe_one (pe_chain op_le op_le (pv 1) (pv 0) (pv 2))))))), ?_⟩
      have hk := isK_int d
      refine Evl.s_ret (Evl.ev_is (Evl.ev_andV (ev_isi (by simp) (Evl.ev_var rfl) dx) (b := !isK d "bool" && inR lo hi d) fun h1 => Evl.ev_andV (Evl.ev_notV (ev_isi (by simp) (Evl.ev_var rfl) dx)) fun h2 => ?_) ?_) k
      · rw [h1, h2] at hk
        cases dx with
        | int i =>
          refine ev_chain (a := lo) (b := i) (c := hi) ?_ ?_ ?_
          · exact Evl.ev_var rfl
          · exact Evl.ev_var rfl
          · exact Evl.ev_var rfl
        | _ => cases hk
      · rw [← Bool.and_assoc, hk]
        cases d <;> rfl
    | _ => cases he
  | _ => cases he
end
end K11

namespace K11
open PySem PySem.Spec PyProof.Rows L2 On L11
theorem isTup2 {d : PyData} (h : isTup 2 d = true) : ∃ a b, d = .tuple [a, b] := by
  unfold isTup at h
  split at h
  · rename_i xs
    have e := of_decide_eq_true h
    match xs, e with
    | [a, b], _ => exact ⟨a, b, rfl⟩
    | [], e => simp at e
    | [_], e => simp at e
    | _ :: _ :: _ :: r, e => simp at e; omega
  · cases h
theorem isTup2_no {d : PyData} (h : isTup 2 d = false) (a b : PyData) : d ≠ .tuple [a, b] := fun z => by
  rw [z] at h
  simp [isTup] at h
theorem moveOk_no {m : Int} {d : PyData} (h : isTup 2 d = false) : moveOk m d = false := by
  unfold moveOk
  split
  · exact absurd rfl (isTup2_no h _ _)
  · rfl
theorem placeOk_no {d : PyData} (h : isTup 2 d = false) : placeOk d = false := by
  unfold placeOk
  split
  · exact absurd rfl (isTup2_no h _ _)
  · rfl
theorem moveOk_pair {m : Int} {d : PyData} (h : moveOk m d = true) : isPair d = true := by
  unfold moveOk at h
  split at h
  · rename_i a b
    rw [Bool.and_eq_true, Bool.and_eq_true] at h
    obtain ⟨h1, h2, _⟩ := h
    cases a <;> first | (simp [isBelow] at h1; done) | skip
    cases b <;> first | (simp [isBelow] at h2; done) | skip
    rfl
  · cases h
/-- the law of places, of benches: of data that are not too long -/
def fPl (f : PyData → Bool) : List PyData → Option Bool
  | [d] => if wq d ≤ 60000 then some (f d) else Option.none
  | _ => Option.none
theorem dqAll_two {K : PySem.W.Frag} {H : Hp} {xs : List V} {a b : PyData} (h : DqAll K H xs [a, b]) : ∃ x y, xs = [x, y] ∧ Dq K H x a ∧ Dq K H y b := by
  match h with
  | .cons p (.cons q .nil) => exact ⟨_, _, rfl, p, q⟩
theorem pair_at {K : PySem.W.Frag} {H : Hp} {v : V} {d : PyData} (h : isPair d = true) (q : Dq K H v d) : ∃ a, v = .ref a ∧ H a = some (.tup ((pr d).map V.int)) := by
  unfold isPair at h
  split at h
  · rename_i i j
    obtain ⟨a, xs, rfl, h1, h2⟩ := dq_tup q
    obtain ⟨x, y, rfl, hx, hy⟩ := dqAll_two h2
    cases hx
    cases hy
    exact ⟨a, rfl, h1⟩
  · cases h
theorem placeOk_bad {dm dv : PyData} (h : (!On.isInt dm || (!inR 2 6 dm || !isTuple dv)) = true) : placeOk (.tuple [dm, dv]) = false := by
  cases dm with
  | int m =>
    cases dv with
    | tuple ms =>
      have h' : (false || (!(decide (2 ≤ m) && decide (m ≤ 6)) || false)) = true := h
      have e5 : (decide (2 ≤ m) && decide (m ≤ 6)) = false := by
        cases z : (decide (2 ≤ m) && decide (m ≤ 6)) with
        | false => rfl
        | true => rw [z] at h'; cases h'
      show ((decide (2 ≤ m) && decide (m ≤ 6)) && _) = false
      rw [e5] <;> rfl
    | _ => rfl
  | _ => cases dv <;> rfl
section
variable {P : Program} {w : World} {K : PySem.W.Frag} {mg : Str → Option Value} {base : Heap} {A : Ads}
theorem rv_ltT {H : Hp} {a b : Addr} {ns ms : List Int} (h1 : H a = some (.tup (ns.map V.int))) (h2 : H b = some (.tup (ms.map V.int))) : Evl.RV (rLtT K) (.ref a) (.ref b) H (.bl (HT.lexLt ns ms)) := fun H1 e Q q =>
  ⟨a, b, ns, ms, rfl, rfl, SqT.of (e _ _ h1), SqT.of (e _ _ h2), q H1 (Evl.Ex.refl H1)⟩
end
end K11

namespace K11
open PySem PySem.Spec PyProof.Rows L2 On L11 Du
theorem lex_lt (p r : Int × Int) : HT.lexLt [p.1, p.2] [r.1, r.2] = L11.ltP (duo p) (duo r) := by
  show (if p.1 = r.1 then (if p.2 = r.2 then false else decide (p.2 < r.2)) else decide (p.1 < r.1)) = (decide (p.1 < r.1) || (decide (p.1 = r.1) && decide (p.2 < r.2)))
  by_cases h1 : p.1 = r.1
  · rw [if_pos h1, decide_eq_true h1, decide_eq_false (by omega : ¬ p.1 < r.1)]
    by_cases h2 : p.2 = r.2
    · rw [if_pos h2, decide_eq_false (by omega : ¬ p.2 < r.2)] <;> rfl
    · rw [if_neg h2] <;> rfl
  · rw [if_neg h1, decide_eq_false h1]
    simp
theorem asc_eq {ms : List PyData} (h : ∀ d ∈ ms, ∃ p, d = duo p) : asc2 ms = asc ms := by
  unfold asc asc2
  rw [show ((ms.length : Int) - 1).toNat = ms.length - 1 by omega]
  have e : ∀ k, k < ms.length - 1 → HT.lexLt (pr (ms.getD k .none)) (pr (ms.getD (k + 1) .none)) = L11.ltP (ms.getD k .none) (ms.getD (k + 1) .none) := fun k hk => by
    obtain ⟨p, hp⟩ := h (ms.getD k .none) (by rw [gd_at (by omega)]; exact List.getElem_mem _)
    obtain ⟨q, hq⟩ := h (ms.getD (k + 1) .none) (by rw [gd_at (by omega)]; exact List.getElem_mem _)
    rw [hp, hq]
    exact lex_lt p q
  apply Bool.eq_iff_iff.mpr
  rw [List.all_eq_true, List.all_eq_true]
  constructor
  · intro hh k hk
    rw [e k (List.mem_range.mp hk)]
    exact hh k hk
  · intro hh k hk
    have z := hh k hk
    rwa [e k (List.mem_range.mp hk)] at z
theorem mv_eq (m : Int) (d : PyData) : L11.mvOk m d = moveOk m d := by
  cases d with
  | tuple xs =>
    match xs with
    | [a, b] => cases a <;> cases b <;> simp [L11.mvOk, moveOk, isBelow, sameInt]
    | [] => rfl
    | [_] => simp [L11.mvOk, moveOk]
    | _ :: _ :: _ :: _ => simp [L11.mvOk, moveOk]
  | _ => rfl
theorem pl_eq (d : PyData) : L11.placeOk d = placeOk d := by
  cases d with
  | tuple xs =>
    match xs with
    | [a, b] =>
      cases a with
      | int m =>
        cases b with
        | tuple ms =>
          show ((decide (2 ≤ m) && decide (m ≤ 6)) && (ms.all (L11.mvOk m) && asc2 ms)) = ((decide (2 ≤ m) && decide (m ≤ 6)) && (ms.all (moveOk m) && asc ms))
          rw [show L11.mvOk m = moveOk m from funext (mv_eq m)]
          cases z : ms.all (moveOk m) with
          | false => rfl
          | true =>
            rw [asc_eq fun d hd => (mv_pair ((mv_eq m d).trans (List.all_eq_true.mp z d hd))).elim fun p hp => ⟨p, hp.1⟩]
        | _ => rfl
      | _ => cases b <;> rfl
    | [] => rfl
    | [_] => simp [L11.placeOk, placeOk]
    | _ :: _ :: _ :: _ => simp [L11.placeOk, placeOk]
  | _ => rfl
theorem be_eq (d : PyData) : L11.benchOk d = benchOk d := by
  cases d with
  | tuple ds =>
    show (decide (0 < ds.length) && ds.all L11.placeOk) = (decide (0 < ds.length) && ds.all placeOk)
    rw [show L11.placeOk = placeOk from funext pl_eq]
  | _ => rfl
section
variable {K : PySem.W.Frag} {H : Hp}
mutual
theorem dq_da : ∀ {v : V} {d : PyData}, Dq K H v d → Da K H v d
  | _, _, .non => .non
  | _, _, .bl b => .bl b
  | _, _, .int i => .int i
  | _, _, .str x => .str x
  | _, _, .lst h n t => .lst h n (dq_daAll t)
  | _, _, .tup h t => .tup (SqT.of h) (dq_daAll t)
  | _, _, .dct h t => .dct h (dq_daAll t)
theorem dq_daAll : ∀ {vs : List V} {ds : List PyData}, DqAll K H vs ds → DaAll K H vs ds
  | _, _, .nil => .nil
  | _, _, .cons h t => .cons (dq_da h) (dq_daAll t)
end
theorem offs_nil : Du.offs [] H = H := funext fun a => if_neg (by simp)
theorem paired_ds : ∀ {vs : List V} {ds : List PyData}, DqAll K H vs ds → Paired (ArgB K [] [] H) vs (ds.map DV.v)
  | _, _, .nil => .nil
  | _, _, .cons (d := d) h t => .cons (b := DV.v d) (show Da K (Du.offs [] H) _ d by rw [offs_nil]; exact dq_da h) (paired_ds t)
end
/-- .. where the heap holds sys.modules -/
def spBs (K : PySem.W.Frag) (n : Nat) (f : List PyData → Option Bool) : Sp := fun vs H Q E => Sys H ∧ spB K n f vs H Q E
section
variable {P : Program} {w : World} {K : PySem.W.Frag} {mg : Str → Option Value} {base : Heap} {A : Ads} {lv : Nat} {fa : Addr} {fd : FuncData} {ps : List Str}
theorem bs_of {n : Nat} {f : List PyData → Option Bool} {g : List DV → (PyData → Prop) → Prop} (hg : ∀ ds r (k : PyData → Prop), f ds = some r → k (.bool r) → g (ds.map DV.v) k) (F : FnG P w K mg base lv fa fd ps (spF K n g)) : FnG P w K mg base lv fa fd ps (spBs K n f) :=
  FnG.imp F fun vs H Q E h => by
  obtain ⟨hs, ds, r, hd, hl, he, k⟩ := h
  refine ⟨[], [], (default : Addr), ds.map DV.v, fun d => d = .bool r, by simp, by simp, hs, by simp, paired_ds hd, ?_, hg ds r _ he rfl, fun d x H' e s _ da => ?_⟩
  · rw [List.length_map, ← dqAll_len hd, hl]
  · subst e
    cases da
    exact k H' fun a o e => s a o (by simp) e
theorem spv_Bs {n : Nat} {f : List PyData → Option Bool} {vs : List V} {H : Hp} {ds : List PyData} {r : Bool} (hs : Sys H) (h : DqAll K H vs ds) (hl : vs.length = n) (e : f ds = some r) : Evl.SpV (spBs K n f) vs H (.bl r) := fun H1 e1 Q q E =>
  ⟨by
    obtain ⟨φ, h⟩ := hs
    exact ⟨φ, e1 _ _ h⟩, spv_B h hl e H1 e1 Q q E⟩
theorem place_hg (ds : List PyData) (r : Bool) (k : PyData → Prop) (h : fPl placeOk ds = some r) (hk : k (.bool r)) : L11.fPl L11.placeOk (ds.map DV.v) k := by
  unfold fPl at h
  split at h
  · rename_i d
    split at h
    · rename_i hw
      cases h
      exact ⟨hw, by rw [pl_eq]; exact hk⟩
    · cases h
  · cases h
theorem bench_hg (ds : List PyData) (r : Bool) (k : PyData → Prop) (h : fPl benchOk ds = some r) (hk : k (.bool r)) : L11.fPl L11.benchOk (ds.map DV.v) k := by
  unfold fPl at h
  split at h
  · rename_i d
    split at h
    · rename_i hw
      cases h
      exact ⟨hw, by rw [be_eq]; exact hk⟩
    · cases h
  · cases h
end
end K11


namespace K11
open PySem PySem.Spec PyProof.Rows L2 On L11
def hd0 : PyData → PyData
  | .tuple (a :: _) => a
  | _ => .none
theorem below_is (m : Int) (d : PyData) : inR 0 (m - 1) d = isBelow m d := by
  cases d with
  | int i =>
    show (decide (0 ≤ i) && decide (i ≤ m - 1)) = (decide (0 ≤ i) && decide (i < m))
    congr 1
    exact decide_eq_decide.mpr (by omega)
  | _ => rfl
theorem placeOk_move {m : Int} {ms : List PyData} {d : PyData} (hm : d ∈ ms) (h : moveOk m d = false) : placeOk (.tuple [.int m, .tuple ms]) = false := by
  show ((decide (2 ≤ m) && decide (m ≤ 6)) && (ms.all (moveOk m) && asc ms)) = false
  have e : ms.all (moveOk m) = false := by
    cases z : ms.all (moveOk m) with
    | false => rfl
    | true =>
      rw [List.all_eq_true.mp z d hm] at h
      cases h
  rw [e, Bool.false_and, Bool.and_false]
section
variable {P : Program} {w : World} {K : PySem.W.Frag} {mg : Str → Option Value} {base : Heap} {A : Ads}
theorem ok_rises (T : Txt K mg A) : FnOk P w K mg base CX0 1 A.a_law_rises A.d_law_rises ["_law_things"] (spB K 1 fAsc) := by
  refine T._law_rises.F.ok sc__law_rises (fun vs H Q E ⟨_, _, _, hl, _⟩ => hl) (fun cdv A' outer s H vs Q E hr h => ?_)
  obtain ⟨ds, r, hd, hl, he, k⟩ := h
  obtain ⟨x, d, rfl, rfl, dx⟩ := dq1 hd hl
  cases dx with
  | @tup a xs ms h1 h2 =>
    have he' : (if ms.all isPair = true ∧ ms.length ≤ 30000 then some (asc ms) else Option.none) = some r := he
    split at he'
    · rename_i hm
      cases he'
      refine ⟨_, (pss_one (ps_ret (pe_callB (kAll K rfl) (by rfl) T.nb_all (by decide +kernel) (pa_cons (pe_lc (own := [("_law_k", 1)]) rfl sc__law_rises.nd (pi_range1 rfl T.nb_range (pa_cons (pe_op op_sub (pe_callB (kLen K) (by rfl) T.nb_len PySem.boot_len (pa_cons (pv 0) pa_nil)) pe_int) pa_nil)) (blkOk_by (N := ["_law_things", "_law_k"]) (sc := defScope s_law_rises) (by decide +kernel)) (fun _ _ _ _ _ => (pg_name (i := 1) sc__law_rises.nd rfl (by first | exact Or.inl rfl | exact Or.inr rfl))) (fun _ _ _ _ _ => pts_nil) (fun _ _ _ _ _ => (pe_cmpR (kLtT K (un0 hr)) (pe_ix (kIxT K) (pv 0) (pv 1) (fun _ _ => rfl)) (pe_ix (kIxT K) (pv 0) (pe_op op_add (pv 1) pe_int) (fun _ _ => rfl)) (nomark _)))) pa_nil)))), ?_⟩
      have hlen := dqAll_len h2
      refine Evl.s_ret (ev_allR (n := (ms.length : Int) - 1) (fun i => HT.lexLt (pr (ms.getD i .none)) (pr (ms.getD (i + 1) .none))) ?_ (by omega) (fun x => rfl) ?_) k
      · refine Evl.ea_cons (Evl.ev_is (Evl.ev_op (Evl.ev_cb (Evl.ea_cons (Evl.ev_var rfl) Evl.ea_nil) (rc_lenT h1)) Evl.ev_c Evl.rv_I0) ?_) Evl.ea_nil
        rw [hlen]
      · intro i H1 e1 hi
        obtain ⟨d0, hd0⟩ : ∃ d, ms[i]? = some d := ⟨_, List.getElem?_eq_getElem (by omega)⟩
        obtain ⟨d1, hd1⟩ : ∃ d, ms[i + 1]? = some d := ⟨_, List.getElem?_eq_getElem (by omega)⟩
        obtain ⟨v0, hv0, q0⟩ := dqAll_at h2 hd0
        obtain ⟨v1, hv1, q1⟩ := dqAll_at h2 hd1
        obtain ⟨a0, rfl, g0⟩ := pair_at (List.all_eq_true.mp hm.1 _ (List.mem_of_getElem? hd0)) q0
        obtain ⟨a1, rfl, g1⟩ := pair_at (List.all_eq_true.mp hm.1 _ (List.mem_of_getElem? hd1)) q1
        rw [List.getD_eq_getElem?_getD, List.getD_eq_getElem?_getD, hd0, hd1]
        refine Evl.ev_op (x := .ref a0) (y := .ref a1) (Evl.ev_op (Evl.ev_var rfl) (Evl.ev_var rfl) (Evl.rv_ixT (SqT.of (e1 _ _ h1)) (atI_nat hv0))) (Evl.ev_op (Evl.ev_var rfl) (Evl.ev_op (Evl.ev_var rfl) Evl.ev_c Evl.rv_I0) (Evl.rv_ixT (SqT.of (e1 _ _ h1)) (atI_nat (j := i + 1) hv1))) ?_
        exact rv_ltT (e1 _ _ g0) (e1 _ _ g1)
    · cases he'
  | _ => cases he
/-- not isinstance(x, tuple) or len(x) != 2 or not _law_is_int(x[0], lo, hi) -/
theorem et_head {σ : L2.St} {H : Hp} {j : Nat} {x : V} {d : PyData} {lo hi : Int} {tl th : TE} (hσ : σ[j]? = some (some x)) (dx : Dq K H x d) (hlo : ∀ H1, Evl.Ex H H1 → Evl.Ev tl σ H1 (.int lo)) (hhi : ∀ H1, Evl.Ex H H1 → Evl.Ev th σ H1 (.int hi)) :
    Evl.EvT (tOr (tNot (tB (tCB (rIsi K) (tCons (tVar j) (tCons (tC (.ty "tuple")) tNil))))) (tOr (tTest (tOp rNe (tCB (On.rLen K) (tCons (tVar j) tNil)) (tC (.int 2))))
      (tNot (tB (tCall (spB K 3 fInR) [] E0 (tCons (tOp (rIxT K) (tVar j) (tC (.int 0))) (tCons tl (tCons th tNil)))))))) σ H (!(isTup 2 d && inR lo hi (hd0 d))) := by
  refine Evl.et_is (Evl.et_or (a := !isTuple d) (b := !(isTup 2 d && inR lo hi (hd0 d))) (Evl.et_is (Evl.et_not (Evl.et_B (ev_isi (by simp) (Evl.ev_var hσ) dx))) (by rw [isK_tuple])) fun hk => ?_) ?_
  · cases dx with
    | @tup a xs ms h1 h2 =>
      refine Evl.et_is (Evl.et_or (a := !decide ((ms.length : Int) = 2)) (b := !inR lo hi (ms.getD 0 .none)) (Evl.et_test (Evl.ev_is (Evl.ev_op (Evl.ev_cb (Evl.ea_cons (Evl.ev_var hσ) Evl.ea_nil) (rc_lenT h1)) Evl.ev_c (Evl.rv_ne rfl)) ?_)) fun h2' => ?_) ?_
      · rw [dec_int, dqAll_len h2, Bool.beq_eq_decide_eq]
      · have e2 : (ms.length : Int) = 2 := by simpa using h2'
        match ms, e2, h2 with
        | a0 :: ms', _, .cons (v := v0) q0 q1 =>
          refine Evl.et_not (Evl.et_B (Evl.ev_call (Evl.ea_cons (x := v0) (Evl.ev_op (Evl.ev_var hσ) Evl.ev_c (Evl.rv_ixT (SqT.of h1) (atI_nat (j := 0) rfl))) (Evl.ea_cons (hlo _ (Evl.Ex.refl _)) (Evl.ea_cons (hhi _ (Evl.Ex.refl _)) Evl.ea_nil))) (spv_B (ds := [a0, .int lo, .int hi]) (.cons q0 (.cons (.int lo) (.cons (.int hi) .nil))) rfl rfl)))
      · cases ms with
        | nil => rfl
        | cons a0 r =>
          show (!decide (((a0 :: r).length : Int) = 2) || !inR lo hi a0) = !(decide (((a0 :: r).length : Int) = 2) && inR lo hi a0)
          cases decide (((a0 :: r).length : Int) = 2) <;> rfl
    | _ => simp [isTuple, dictD] at hk
  · cases d <;> simp [isTuple, isTup]
end
end K11


namespace K11
open PySem PySem.Spec PyProof.Rows L2 On L11
section
variable {P : Program} {w : World} {K : PySem.W.Frag} {mg : Str → Option Value} {base : Heap} {A : Ads}
theorem placeOk_head {d : PyData} (h : (!(isTup 2 d && inR 2 6 (hd0 d))) = true) : placeOk d = false := by
  unfold placeOk
  split
  · rename_i m ms
    have h' : (!(true && (decide (2 ≤ m) && decide (m ≤ 6)))) = true := h
    cases z : (decide (2 ≤ m) && decide (m ≤ 6)) with
    | false => rfl
    | true =>
      rw [z] at h'
      cases h'
  · rfl
theorem moveOk_head {m : Int} {d : PyData} (h : (!(isTup 2 d && inR 0 (m - 1) (hd0 d))) = true) : moveOk m d = false := by
  unfold moveOk
  split
  · rename_i a b
    have h' : (!(true && inR 0 (m - 1) a)) = true := h
    rw [below_is] at h'
    cases z : isBelow m a with
    | false => rfl
    | true =>
      rw [z] at h'
      cases h'
  · rfl
theorem ok_law_place (T : Txt K mg A) (G_law_is_int : FnOk P w K mg base CX0 1 A.a_law_is_int A.d_law_is_int ["_law_thing", "_law_low", "_law_high"] (spB K 3 fInR)) (G_law_rises : FnOk P w K mg base CX0 1 A.a_law_rises A.d_law_rises ["_law_things"] (spB K 1 fAsc)) : FnOk P w K mg base CX0 2 A.a_law_is_place A.d_law_is_place ["_law_thing"] (spB K 1 (fPl placeOk)) := by
  refine T._law_is_place.F.ok sc__law_is_place (fun vs H Q E ⟨_, _, _, hl, _⟩ => hl) (fun cdv A' outer s H vs Q E hr h => ?_)
  obtain ⟨ds, r, hd, hl, he, k⟩ := h
  obtain ⟨x, d, rfl, rfl, dx⟩ := dq1 hd hl
  have he' : (if wq d ≤ 60000 then some (placeOk d) else Option.none) = some r := he
  split at he'
  case isFalse => cases he'
  rename_i hw
  cases he'
  refine ⟨_, (pss_cons (ps_if (PW.pt (pw_or (pt_not (pt_val (pe_callB (kIsi K) (by rfl) T.nb_isinstance (by decide +kernel) (pa_cons (pv 0) (pa_cons (pe_bltn (v := .ty "tuple") (u := .type "tuple") rfl (T.nb_tuple) (by decide +kernel) rfl) pa_nil))))) (pw_or (pt_cmpR op_ne (pe_callB (kLen K) (by rfl) T.nb_len PySem.boot_len (pa_cons (pv 0) pa_nil)) pe_int (nomark _)) (pw_or1 (pt_not (pt_val (pe_call G_law_is_int (hr.mono (by first | decide | omega)) rfl T._law_is_int.g T._law_is_int.F.kp T._law_is_int.b .nil pass0 (pa_cons (pe_ix (kIxT K) (pv 0) pe_int (fun _ _ => rfl)) (pa_cons pe_int (pa_cons pe_int pa_nil)))))))))) (pss_one (ps_ret pe_bl)) pss_nil)
      (pss_cons (ps_if (pt_not (pt_val (pe_callB (kIsi K) (by rfl) T.nb_isinstance (by decide +kernel) (pa_cons (pe_ix (kIxT K) (pv 0) pe_int (fun _ _ => rfl)) (pa_cons (pe_bltn (v := .ty "tuple") (u := .type "tuple") rfl (T.nb_tuple) (by decide +kernel) rfl) pa_nil))))) (pss_one (ps_ret pe_bl)) pss_nil)
      (pss_cons (ps_for PassesOwn.never rfl (kPiT K (pe_ix (kIxT K) (pv 0) pe_int (fun _ _ => rfl))) (pg_name (i := 1) sc__law_is_place.nd rfl (by first | exact Or.inl rfl | exact Or.inr rfl)) (pss_cons (ps_if (PW.pt (pw_or (pt_not (pt_val (pe_callB (kIsi K) (by rfl) T.nb_isinstance (by decide +kernel) (pa_cons (pv 1) (pa_cons (pe_bltn (v := .ty "tuple") (u := .type "tuple") rfl (T.nb_tuple) (by decide +kernel) rfl) pa_nil))))) (pw_or (pt_cmpR op_ne (pe_callB (kLen K) (by rfl) T.nb_len PySem.boot_len (pa_cons (pv 1) pa_nil)) pe_int (nomark _)) (pw_or1 (pt_not (pt_val (pe_call G_law_is_int (hr.mono (by first | decide | omega)) rfl T._law_is_int.g T._law_is_int.F.kp T._law_is_int.b .nil pass0 (pa_cons (pe_ix (kIxT K) (pv 1) pe_int (fun _ _ => rfl)) (pa_cons pe_int (pa_cons (pe_op op_sub (pe_ix (kIxT K) (pv 0) pe_int (fun _ _ => rfl)) pe_int) pa_nil)))))))))) (pss_one (ps_ret pe_bl)) pss_nil)
      (pss_one (ps_if (PW.pt (pw_or (pt_not (pt_val (pe_call G_law_is_int (hr.mono (by first | decide | omega)) rfl T._law_is_int.g T._law_is_int.F.kp T._law_is_int.b .nil pass0 (pa_cons (pe_ix (kIxT K) (pv 1) pe_int (fun _ _ => rfl)) (pa_cons pe_int (pa_cons (pe_op op_sub (pe_ix (kIxT K) (pv 0) pe_int (fun _ _ => rfl)) pe_int) pa_nil)))))) (pw_or1 (pt_cmpR op_eq (pe_ix (kIxT K) (pv 1) pe_int (fun _ _ => rfl)) (pe_ix (kIxT K) (pv 1) pe_int (fun _ _ => rfl)) (nomark _))))) (pss_one (ps_ret pe_bl)) pss_nil))))
      (pss_one (ps_ret (pe_call G_law_rises (hr.mono (by first | decide | omega)) rfl T._law_rises.g T._law_rises.F.kp T._law_rises.b .nil pass0 (pa_cons (pe_ix (kIxT K) (pv 0) pe_int (fun _ _ => rfl)) pa_nil))))))), ?_⟩
  refine Evl.q_when (et_head rfl dx (fun _ _ => Evl.ev_c) (fun _ _ => Evl.ev_c)) (fun hb H1 e1 => ?_) (fun hb H1 e1 => ?_)
  · refine Evl.s_ret Evl.ev_c fun H2 e2 => ?_
    have z := k H2 (e1.trans e2)
    rwa [placeOk_head hb] at z
  · have hb' : isTup 2 d = true ∧ inR 2 6 (hd0 d) = true := by simpa using hb
    obtain ⟨dm, dv, rfl⟩ := isTup2 hb'.1
    obtain ⟨p, xs, rfl, h1, h2⟩ := dq_tup dx
    obtain ⟨x0, x1, rfl, q0, q1⟩ := dqAll_two h2
    have hm : inR 2 6 dm = true := hb'.2
    have i1 : ∀ (σ : L2.St) H2, σ[0]? = some (some (V.ref p)) → Evl.Ex H H2 → Evl.Ev (tOp (rIxT K) (tVar 0) (tC (.int 1))) σ H2 x1 := fun σ H2 hσ e2 => Evl.ev_op (Evl.ev_var hσ) Evl.ev_c (Evl.rv_ixT (SqT.of (e2 _ _ h1)) rfl)
    have i0 : ∀ (σ : L2.St) H2, σ[0]? = some (some (V.ref p)) → Evl.Ex H H2 → Evl.Ev (tOp (rIxT K) (tVar 0) (tC (.int 0))) σ H2 x0 := fun σ H2 hσ e2 => Evl.ev_op (Evl.ev_var hσ) Evl.ev_c (Evl.rv_ixT (SqT.of (e2 _ _ h1)) rfl)
    cases q0 with
    | int m =>
      refine Evl.q_when (b := !isTuple dv) (Evl.et_is (Evl.et_not (Evl.et_B (ev_isi (by simp) (i1 _ _ rfl e1) (dq_same e1 q1)))) (by rw [isK_tuple])) (fun hb H2 e2 => ?_) (fun hb H2 e2 => ?_)
      · refine Evl.s_ret Evl.ev_c fun H3 e3 => ?_
        have z := k H3 ((e1.trans e2).trans e3)
        have e4 : placeOk (.tuple [.int m, dv]) = false := placeOk_bad (dm := .int m) (by rw [hb, Bool.or_true, Bool.or_true])
        rwa [e4] at z
      · cases q1 with
        | @tup a ys ms f1 f2 =>
          have e12 := e1.trans e2
          have hz : ms.length ≤ 30000 := by
            have y1 := wqs_len ms
            have y2 : wq (.tuple [.int m, .tuple ms]) = 4 + wqs [.int m, .tuple ms] := by rw [wq]
            have y3 : wq (.tuple ms) = 4 + wqs ms := by rw [wq]
            have y4 : wq (.tuple ms) + 2 ≤ wqs [.int m, .tuple ms] := wqs_mem (by simp)
            omega
          have hlen := dqAll_len f2
          refine Evl.q_forT (K := K) (a := a) (xs := ys) (i1 _ _ rfl e12) (SqT.of (e12 _ _ f1)) (fun i σ' H' => (∃ v, σ' = [some (.ref p), v]) ∧ Evl.Ex H H' ∧ ∀ j, j < i → ∀ d, ms[j]? = some d → moveOk m d = true)
            (fun H3 e3 => ⟨⟨_, rfl⟩, e12.trans e3, fun j hj => absurd hj (by omega)⟩) (fun i σ' H' _ hp => SqT.of (hp.2.1 _ _ f1)) ?_ ?_
          · rintro i x σ' H' hx ⟨⟨v, rfl⟩, e3, hall⟩
            obtain ⟨d, hd', q⟩ := dqAll_vat f2 hx
            have q' := dq_same e3 q
            show tSeq _ _ _ [some (V.ref p), some x] H'
            have hi : ∀ H4, Evl.Ex H' H4 → Evl.Ev (tOp (rI0 fun i j => V.int (i - j)) (tOp (rIxT K) (tVar 0) (tC (.int 0))) (tC (.int 1))) [some (V.ref p), some x] H4 (.int (m - 1)) := fun H4 e4 =>
              Evl.ev_op (i0 _ _ rfl (e3.trans e4)) Evl.ev_c Evl.rv_I0
            refine Evl.q_when (et_head (j := 1) rfl q' (fun _ _ => Evl.ev_c) hi) (fun hb H4 e4 => ?_) (fun hb H4 e4 => ?_)
            · refine Evl.s_ret Evl.ev_c fun H5 e5 => ?_
              have z := k H5 ((e3.trans e4).trans e5)
              rwa [placeOk_move (List.mem_of_getElem? hd') (moveOk_head hb)] at z
            · have hb' : isTup 2 d = true ∧ inR 0 (m - 1) (hd0 d) = true := by simpa using hb
              obtain ⟨d0, d1, rfl⟩ := isTup2 hb'.1
              have g0 : inR 0 (m - 1) d0 = true := hb'.2
              rw [below_is] at g0
              obtain ⟨pm, xs, rfl, f3, f4⟩ := dq_tup q'
              obtain ⟨y0, y1, rfl, r0, r1⟩ := dqAll_two f4
              have f3' := e4 _ _ f3
              have j0 : ∀ H5, Evl.Ex H4 H5 → Evl.Ev (tOp (rIxT K) (tVar 1) (tC (.int 0))) [some (V.ref p), some (V.ref pm)] H5 y0 := fun H5 e5 => Evl.ev_op (Evl.ev_var rfl) Evl.ev_c (Evl.rv_ixT (SqT.of (e5 _ _ f3')) rfl)
              have j1 : ∀ H5, Evl.Ex H4 H5 → Evl.Ev (tOp (rIxT K) (tVar 1) (tC (.int 1))) [some (V.ref p), some (V.ref pm)] H5 y1 := fun H5 e5 => Evl.ev_op (Evl.ev_var rfl) Evl.ev_c (Evl.rv_ixT (SqT.of (e5 _ _ f3')) rfl)
              have n4 := Evl.Ex.refl H4
              refine Evl.s_when (b := !isBelow m d1 || sameInt d0 d1) (Evl.et_or (Evl.et_is (Evl.et_not (Evl.et_B (Evl.ev_call (Evl.ea_cons (j1 _ n4) (Evl.ea_cons Evl.ev_c (Evl.ea_cons (hi _ e4) Evl.ea_nil))) (spv_B (ds := [d1, .int 0, .int (m - 1)]) (.cons (dq_same e4 r1) (.cons (.int 0) (.cons (.int (m - 1)) .nil))) rfl rfl)))) (by rw [below_is])) fun g1 => ?_) (fun hb H5 e5 => ?_) (fun hb H5 e5 => ?_)
              · have g1' : isBelow m d1 = true := by simpa using g1
                cases r0 with
                | int i =>
                  cases r1 with
                  | int j =>
                    refine Evl.et_test (Evl.ev_is (Evl.ev_op (j0 _ n4) (j1 _ n4) (Evl.rv_eq rfl)) ?_)
                    rw [dec_int, Bool.beq_eq_decide_eq] <;> rfl
                  | _ => simp [isBelow, dictD] at g1'
                | _ => simp [isBelow, dictD] at g0
              · refine Evl.s_ret Evl.ev_c fun H6 e6 => ?_
                have z := k H6 (((e3.trans e4).trans e5).trans e6)
                have e7 : moveOk m (.tuple [d0, d1]) = false := by
                  show (isBelow m d0 && (isBelow m d1 && !sameInt d0 d1)) = false
                  cases h8 : isBelow m d1 <;> cases h9 : sameInt d0 d1 <;> simp_all
                rwa [placeOk_move (List.mem_of_getElem? hd') e7] at z
              · refine ⟨⟨_, rfl⟩, (e3.trans e4).trans e5, fun j hj d hd'' => ?_⟩
                by_cases hji : j = i
                · subst hji
                  rw [hd'] at hd''
                  cases hd''
                  show (isBelow m d0 && (isBelow m d1 && !sameInt d0 d1)) = true
                  have hb2 : isBelow m d1 = true ∧ sameInt d0 d1 = false := by simpa using hb
                  rw [g0, hb2.1, hb2.2] <;> rfl
                · exact hall j (by omega) d hd''
          · rintro σ' H' ⟨⟨v, rfl⟩, e3, hall⟩
            have hall' : ms.all (moveOk m) = true := List.all_eq_true.mpr fun d hd' => by
              obtain ⟨j, hj, e⟩ := List.mem_iff_getElem.mp hd'
              exact hall j (by omega) d (by rw [List.getElem?_eq_getElem hj, e])
            refine Evl.s_ret (v := .bl (asc ms)) (Evl.ev_call (Evl.ea_cons (i1 _ _ rfl e3) Evl.ea_nil) (spv_B (ds := [.tuple ms]) (.cons (.tup (e3 _ _ f1) (dqAll_same e3 f2)) .nil) rfl ?_)) fun H4 e4 => ?_
            · show (if ms.all isPair = true ∧ ms.length ≤ 30000 then some (asc ms) else Option.none) = some (asc ms)
              rw [if_pos ⟨List.all_eq_true.mpr fun d hd' => moveOk_pair (List.all_eq_true.mp hall' d hd'), hz⟩]
            · have z := k H4 (e3.trans e4)
              have e5 : placeOk (.tuple [.int m, .tuple ms]) = asc ms := by
                show ((decide (2 ≤ m) && decide (m ≤ 6)) && (ms.all (moveOk m) && asc ms)) = asc ms
                have hm' : (decide (2 ≤ m) && decide (m ≤ 6)) = true := hm
                rw [hm', hall', Bool.true_and, Bool.true_and]
              rwa [e5] at z
        | _ => simp [isTuple, dictD] at hb
    | _ => simp [inR, dictD] at hm
theorem ok_law_bench (T : Txt K mg A) (G_law_is_place : FnOk P w K mg base CX0 2 A.a_law_is_place A.d_law_is_place ["_law_thing"] (spB K 1 (fPl placeOk))) : FnOk P w K mg base CX0 3 A.a_law_is_bench A.d_law_is_bench ["_law_thing"] (spB K 1 (fPl benchOk)) := by
  refine T._law_is_bench.F.ok sc__law_is_bench (fun vs H Q E ⟨_, _, _, hl, _⟩ => hl) (fun cdv A' outer s H vs Q E hr h => ?_)
  obtain ⟨ds, r, hd, hl, he, k⟩ := h
  obtain ⟨x, d, rfl, rfl, dx⟩ := dq1 hd hl
  have he' : (if wq d ≤ 60000 then some (benchOk d) else Option.none) = some r := he
  split at he'
  case isFalse => cases he'
  rename_i hw
  cases he'
  refine ⟨_, (pss_one (ps_ret (pe_and (pe_callB (kIsi K) (by rfl) T.nb_isinstance (by decide +kernel) (pa_cons (pv 0) (pa_cons (pe_bltn (v := .ty "tuple") (u := .type "tuple") rfl (T.nb_tuple) (by decide +kernel) rfl) pa_nil))) (pe_and (pe_cmpR op_gt (pe_callB (kLen K) (by rfl) T.nb_len PySem.boot_len (pa_cons (pv 0) pa_nil)) pe_int (nomark _)) (pe_one (pe_callB (kAll K rfl) (by rfl) T.nb_all (by decide +kernel) (pa_cons (pe_lc (own := [("_law_place_here", 1)]) rfl sc__law_is_bench.nd (kPiT K (pv 0)) (blkOk_by (N := ["_law_thing", "_law_place_here"]) (sc := defScope s_law_is_bench) (by decide +kernel)) (fun _ _ _ _ _ => (pg_name (i := 1) sc__law_is_bench.nd rfl (by first | exact Or.inl rfl | exact Or.inr rfl))) (fun _ _ _ _ _ => pts_nil) (fun _ _ _ _ _ => (pe_call G_law_is_place (hr.mono (by first | decide | omega)) rfl T._law_is_place.g T._law_is_place.F.kp T._law_is_place.b .nil pass0 (pa_cons (pv 1) pa_nil)))) pa_nil))))))), ?_⟩
  refine Evl.s_ret (Evl.ev_is (Evl.ev_andV (b := benchOk d) (ev_isi (by simp) (Evl.ev_var rfl) dx) fun hk => ?_) ?_) k
  · rw [isK_tuple] at hk
    cases dx with
    | @tup a ys ms f1 f2 =>
      have hlen := dqAll_len f2
      have y3 : wq (.tuple ms) = 4 + wqs ms := by rw [wq]
      have y1 := wqs_len ms
      refine Evl.ev_andV (a := decide (0 < ms.length)) (b := ms.all placeOk) (Evl.ev_is (Evl.ev_op (Evl.ev_cb (Evl.ea_cons (Evl.ev_var rfl) Evl.ea_nil) (rc_lenT f1)) Evl.ev_c Evl.rv_I0) ?_) fun _ => ?_
      · rw [hlen]
        congr 1
        exact decide_eq_decide.mpr (by omega)
      · refine Evl.ev_is (ev_allT (a := a) (xs := ys) (fun i => placeOk (ms.getD i .none)) ?_ (SqT.of f1) (by omega) (fun x => rfl) ?_) ?_
        · exact Evl.ev_var rfl
        · intro i x H3 e3 hx
          obtain ⟨d, hd', q⟩ := dqAll_vat f2 hx
          rw [List.getD_eq_getElem?_getD, hd']
          have y4 := wqs_mem (List.mem_of_getElem? hd')
          refine Evl.ev_call (Evl.ea_cons ?_ Evl.ea_nil) (spv_B (ds := [d]) (.cons (dq_same e3 q) .nil) rfl ?_)
          · exact Evl.ev_var rfl
          · show (if wq d ≤ 60000 then some (placeOk d) else Option.none) = _
            rw [if_pos (by omega)]
            rfl
        · rw [hlen, all_at]
    | _ => simp [isTuple, dictD] at hk
  · rw [isK_tuple]
    cases d <;> rfl
end
end K11

namespace K11
open PySem PySem.Spec PyProof.Rows L2 On L11
section
variable {P : Program} {w : World} {K : PySem.W.Frag} {mg : Str → Option Value} {base : Heap} {A : Ads}
/-- _law_flat(rows) -/
def spFlat : Sp := fun vs H Q _ => ∃ (a : Addr) (rs : List (Addr × List V)), vs = [.ref a] ∧ H a = some (.lst (rs.map fun r => V.ref r.1)) ∧ (∀ r ∈ rs, H r.1 = some (.lst r.2)) ∧ ((rs.map (·.2)).flatten).length ≤ 10000 ∧
  ∀ (p : Addr) (H' : Hp), H p = Option.none → Same H H' → H' p = some (.lst ((rs.map (·.2)).flatten)) → Q (.ref p) H'
theorem flat_take {rs : List (Addr × List V)} {i : Nat} {r : Addr × List V} (h : rs[i]? = some r) : ((rs.take (i + 1)).map (·.2)).flatten = ((rs.take i).map (·.2)).flatten ++ r.2 := by
  rw [List.take_add_one, h]
  simp
theorem flat_le (rs : List (Addr × List V)) (i : Nat) : (((rs.take i).map (·.2)).flatten).length ≤ ((rs.map (·.2)).flatten).length := by
  conv => rhs; rw [← List.take_append_drop i rs]
  rw [List.map_append, List.flatten_append, List.length_append]
  omega
theorem ok_flat (T : Txt K mg A) : FnOk P w K mg base CX0 1 A.a_law_flat A.d_law_flat ["_law_rows"] spFlat := by
  refine T._law_flat.F.ok sc__law_flat (fun vs H Q E h => ?_) (fun cdv A' outer s H vs Q E hr h => ?_)
  · obtain ⟨a, rs, rfl, _⟩ := h
    rfl
  · obtain ⟨a, rs, rfl, ha, hrs, hz, k⟩ := h
    refine ⟨_, (pss_cons (ps_set (i := 1) sc__law_flat.nd rfl (by first | exact Or.inl rfl | exact Or.inr rfl) (pe_lst pa_nil))
      (pss_cons (ps_for PassesOwn.never rfl (kPiL K (pv 0)) (pg_name (i := 2) sc__law_flat.nd rfl (by first | exact Or.inl rfl | exact Or.inr rfl)) (pss_one (ps_expr (pe_bm PySem.F.plainAttrs_list PySem.F.slot_list_extend PySem.F.type_list_extend mt_extend (pv 1) (pa_cons (pv 2) pa_nil)))))
      (pss_one (ps_ret (pv 1))))), ?_⟩
    refine ⟨(by decide), fun p np => ?_⟩
    show tSeq _ _ _ [some (V.ref a), some (V.ref p), none] (upd H p (.lst []))
    refine ⟨_, rfl, a, rfl, ⟨_, SqL.of (same_upd np _ _ ha)⟩, for_list (K := K) (a := a) (xs := rs.map fun r => V.ref r.1) (fun i σ H' => ∃ v, σ = [some (.ref a), some (.ref p), v] ∧ Same H H' ∧ H' p = some (.lst ((rs.take i).map (·.2)).flatten))
      ⟨none, rfl, same_upd np, upd_same⟩ (fun i σ H' _ ⟨_, _, s1, _⟩ => SqL.of (s1 _ _ ha)) ?_ ?_⟩
    · rintro i x σ H' hx ⟨v, rfl, s1, hp⟩
      rw [List.getElem?_map] at hx
      obtain ⟨r, hr', rfl⟩ : ∃ r, rs[i]? = some r ∧ V.ref r.1 = x := by
        cases z : rs[i]? with
        | none =>
          rw [z] at hx
          cases hx
        | some r =>
          rw [z] at hx
          exact ⟨r, rfl, Option.some.inj hx⟩
      refine ⟨_, rfl, .inl ⟨rfl, _, SqL.of hp⟩, _, rfl, p, r.1, _, _, rfl, rfl, hp, s1 _ _ (hrs r (List.mem_of_getElem? hr')), ?_, _, rfl, ?_, ?_⟩
      · have y := flat_le rs (i + 1)
        rw [flat_take hr', List.length_append] at y
        rw [sizeLine_eq]
        omega
      · intro b o e
        rw [upd_ne (ne_of_none e np)]
        exact s1 _ _ e
      · rw [upd_same, flat_take hr']
    · rintro σ H' ⟨v, rfl, s1, hp⟩
      rw [List.length_map, List.take_length] at hp
      exact ⟨_, rfl, k p H' np s1 hp⟩
/-- _law_mixed(bag, things) -/
def spMixed : Sp := fun vs H Q _ => ∃ (b c l : Addr) (xs : List V), vs = [.ref b, .ref l] ∧ Bag H b c ∧ H l = some (.lst xs) ∧ l ≠ b ∧ xs.length ≤ 1000 ∧
  ∀ (p : Addr) (ys : List V) (H' : Hp), ys.Perm xs → H p = Option.none → Bag H' b c → But b H H' → H' p = some (.lst ys) → Q (.ref p) H'
theorem ok_mixed (T : Txt K mg A) (G_law_take : FnOk P w K mg base CX0 1 A.a_law_take A.d_law_take ["_law_bag_here", "_law_upto"] spTake) : FnOk P w K mg base CX0 2 A.a_law_mixed A.d_law_mixed ["_law_bag_here", "_law_things"] spMixed := by
  refine T._law_mixed.F.ok sc__law_mixed (fun vs H Q E h => ?_) (fun cdv A' outer s H vs Q E hr h => ?_)
  · obtain ⟨b, c, l, xs, rfl, _⟩ := h
    rfl
  · obtain ⟨b, c, l, xs, rfl, B, hl, hlb, hz, k⟩ := h
    refine ⟨_, (pss_cons (ps_set (i := 2) sc__law_mixed.nd rfl (by first | exact Or.inl rfl | exact Or.inr rfl) (pe_lst pa_nil))
      (pss_cons (ps_for PassesOwn.never rfl (kPiL K (pv 1)) (pg_name (i := 3) sc__law_mixed.nd rfl (by first | exact Or.inl rfl | exact Or.inr rfl)) (pss_one (ps_expr (pe_bm PySem.F.plainAttrs_list PySem.F.slot_list_insert PySem.F.type_list_insert mt_insert (pv 2) (pa_cons (pe_call G_law_take (hr.mono (by first | decide | omega)) rfl T._law_take.g T._law_take.F.kp T._law_take.b .nil pass0 (pa_cons (pv 0) (pa_cons (pe_op op_add (pe_callB (kLen K) (by rfl) T.nb_len PySem.boot_len (pa_cons (pv 2) pa_nil)) pe_int) pa_nil))) (pa_cons (pv 3) pa_nil))))))
      (pss_one (ps_ret (pv 2))))), ?_⟩
    refine ⟨(by decide), fun p np => ?_⟩
    have npb : p ≠ b := B.ne_new np
    show tSeq _ _ _ [some (V.ref b), some (V.ref l), some (V.ref p), none] (upd H p (.lst []))
    refine ⟨_, rfl, l, rfl, ⟨_, SqL.of (same_upd np _ _ hl)⟩, for_list (K := K) (a := l) (xs := xs) (fun i σ H' => ∃ v ys, σ = [some (.ref b), some (.ref l), some (.ref p), v] ∧ Bag H' b c ∧ But b H H' ∧ ys.Perm (xs.take i) ∧ H' p = some (.lst ys))
      ⟨none, [], rfl, B.same (same_upd np), But.of_same (same_upd np), .nil, upd_same⟩ (fun i σ H' _ ⟨_, _, _, _, k1, _⟩ => SqL.of (k1 _ _ hlb hl)) ?_ ?_⟩
    · rintro i x σ H' hx ⟨v, ys, rfl, B1, k1, hp, hy⟩
      have hi := (List.getElem?_eq_some_iff.mp hx).1
      have hyl : ys.length ≤ i := by
        rw [hp.length_eq, List.length_take]
        omega
      refine ⟨_, rfl, .inl ⟨rfl, _, SqL.of hy⟩, _, rfl, _, rfl, p, _, rfl, .inl (SqL.of hy), _, _, rfl, rfl, b, c, _, rfl, B1, by omega, small_log (by omega) (by omega), fun u H2 u0 u1 B2 k2 => ?_⟩
      have hy2 := k2 _ _ npb hy
      refine ⟨_, rfl, p, ys, u, _, rfl, rfl, hy2, by rw [sizeLine_eq]; omega, u0, by omega, ?_⟩
      refine ⟨some x, _, rfl, ?_, ?_, ?_, upd_same⟩
      · exact B2.upd npb (B.ne_cells np) hy2
      · intro a o na ea
        rw [upd_ne (ne_of_none ea np)]
        exact k2 _ _ na (k1 _ _ na ea)
      · rw [List.take_add_one, hx]
        show (ys.take u.toNat ++ [x] ++ ys.drop u.toNat).Perm (xs.take i ++ [x])
        have e1 : (ys.take u.toNat ++ [x] ++ ys.drop u.toNat).Perm (ys.take u.toNat ++ ys.drop u.toNat ++ [x]) := by
          rw [List.append_assoc, List.append_assoc]
          exact List.Perm.append_left _ List.perm_append_comm
        rw [List.take_append_drop] at e1
        exact e1.trans (hp.append_right [x])
    · rintro σ H' ⟨v, ys, rfl, B1, k1, hp, hy⟩
      rw [List.take_length] at hp
      exact ⟨_, rfl, k p ys H' hp np B1 k1 hy⟩
end
end K11

namespace K11
open PySem PySem.Spec PyProof.Rows L2 On L11
/-! ### places -/
abbrev prD : Int × Int → PyData := On.pairD
def placeD (m : Nat) (ps : List (Int × Int)) : PyData := .tuple [.int (m : Int), .tuple (ps.map prD)]
def rowP (m v : Nat) : List (Int × Int) := ((List.range m).filter fun (w : Nat) => !decide (w = v)).map (fun (w : Nat) => (((v : Nat) : Int), ((w : Nat) : Int)))
def everyP (m : Nat) : List (Int × Int) := ((List.range m).map (rowP m)).flatten
def okP (m : Nat) (p : Int × Int) : Bool := decide (0 ≤ p.1) && decide (p.1 < m) && (decide (0 ≤ p.2) && decide (p.2 < m)) && !decide (p.1 = p.2)
theorem mem_every {m : Nat} {p : Int × Int} (h : p ∈ everyP m) : 0 ≤ p.1 ∧ p.1 < m ∧ 0 ≤ p.2 ∧ p.2 < m ∧ p.1 ≠ p.2 := by
  unfold everyP at h
  rw [List.mem_flatten] at h
  obtain ⟨l, hl, hp⟩ := h
  obtain ⟨v, hv, rfl⟩ := List.mem_map.mp hl
  unfold rowP at hp
  obtain ⟨w, hw, rfl⟩ := List.mem_map.mp hp
  obtain ⟨h1, h2⟩ := List.mem_filter.mp hw
  have h3 := List.mem_range.mp h1
  have h4 := List.mem_range.mp hv
  have h5 : ¬ w = v := by simpa using h2
  refine ⟨?_, ?_, ?_, ?_, ?_⟩ <;> simp only <;> omega
theorem moves_ok {m : Nat} {ps : List (Int × Int)} (h : ∀ p ∈ ps, p ∈ everyP m) : (ps.map prD).all (moveOk (m : Int)) = true := by
  rw [List.all_eq_true]
  intro d hd
  obtain ⟨p, hp, rfl⟩ := List.mem_map.mp hd
  obtain ⟨a1, a2, a3, a4, a5⟩ := mem_every (h p hp)
  show (isBelow (m : Int) (.int p.1) && (isBelow (m : Int) (.int p.2) && !sameInt (.int p.1) (.int p.2))) = true
  show ((decide (0 ≤ p.1) && decide (p.1 < m)) && ((decide (0 ≤ p.2) && decide (p.2 < m)) && !decide (p.1 = p.2))) = true
  rw [decide_eq_true a1, decide_eq_true a2, decide_eq_true a3, decide_eq_true a4, decide_eq_false a5] <;> rfl
def ltP (p q : Int × Int) : Prop := HT.lexLt [p.1, p.2] [q.1, q.2] = true
theorem asc_ok {ps : List (Int × Int)} (h : ps.Pairwise ltP) : asc (ps.map prD) = true := by
  unfold asc
  rw [List.all_eq_true]
  intro k hk
  have hk' := List.mem_range.mp hk
  rw [List.length_map] at hk'
  have h1 : k < ps.length := by omega
  have h2 : k + 1 < ps.length := by omega
  rw [List.getD_eq_getElem?_getD, List.getD_eq_getElem?_getD, List.getElem?_map, List.getElem?_map, List.getElem?_eq_getElem h1, List.getElem?_eq_getElem h2]
  exact List.pairwise_iff_getElem.mp h k (k + 1) h1 h2 (by omega)
theorem place_ok {m : Nat} {ps : List (Int × Int)} (h2 : 2 ≤ m) (h6 : m ≤ 6) (h : ∀ p ∈ ps, p ∈ everyP m) (ha : ps.Pairwise ltP) : placeOk (placeD m ps) = true := by
  show ((decide ((2 : Int) ≤ m) && decide ((m : Int) ≤ 6)) && ((ps.map prD).all (moveOk (m : Int)) && asc (ps.map prD))) = true
  rw [moves_ok h, asc_ok ha, decide_eq_true (by omega), decide_eq_true (by omega)] <;> rfl
instance (p q : Int × Int) : Decidable (ltP p q) := inferInstanceAs (Decidable (_ = true))
theorem every_asc {m : Nat} (h2 : 2 ≤ m) (h6 : m ≤ 6) : (everyP m).Pairwise ltP := by
  have : m = 2 ∨ m = 3 ∨ m = 4 ∨ m = 5 ∨ m = 6 := by omega
  rcases this with rfl | rfl | rfl | rfl | rfl <;> decide +kernel
theorem every_len {m : Nat} (h6 : m ≤ 6) : (everyP m).length ≤ 30 := by
  have : m = 0 ∨ m = 1 ∨ m = 2 ∨ m = 3 ∨ m = 4 ∨ m = 5 ∨ m = 6 := by omega
  rcases this with rfl | rfl | rfl | rfl | rfl | rfl | rfl <;> decide +kernel
theorem filter_ok {m : Nat} (h2 : 2 ≤ m) (h6 : m ≤ 6) (f : Int × Int → Bool) : placeOk (placeD m ((everyP m).filter f)) = true :=
  place_ok h2 h6 (fun p hp => (List.mem_filter.mp hp).1) ((every_asc h2 h6).filter f)
/-- by the order of codes, no two alike -/
theorem sorted_ok {m : Nat} {ps : List (Int × Int)} (h2 : 2 ≤ m) (h6 : m ≤ 6) (h : ∀ p ∈ ps, p ∈ everyP m) (nd : ps.Nodup) (hs : ps.Pairwise fun p q => TS.code 6 [p.1, p.2] ≤ TS.code 6 [q.1, q.2]) : placeOk (placeD m ps) = true := by
  refine place_ok h2 h6 h ?_
  have h3 := List.pairwise_and_iff.mpr ⟨hs, nd⟩
  refine List.Pairwise.imp_of_mem (fun {p q} hp hq hpq => ?_) h3
  obtain ⟨a1, a2, a3, a4, _⟩ := mem_every (h p hp)
  obtain ⟨b1, b2, b3, b4, _⟩ := mem_every (h q hq)
  obtain ⟨c1, c2⟩ := hpq
  have e1 : ∀ x y : Int, TS.code 6 [x, y] = x * 6 + y := fun x y => by
    show x * 6 ^ 1 + (y * 6 ^ 0 + 0) = x * 6 + y
    omega
  rw [e1, e1] at c1
  show (if p.1 = q.1 then (if p.2 = q.2 then HT.lexLt [] [] else decide (p.2 < q.2)) else decide (p.1 < q.1)) = true
  by_cases z1 : p.1 = q.1
  · rw [if_pos z1]
    by_cases z2 : p.2 = q.2
    · exact absurd (Prod.ext z1 z2) c2
    · rw [if_neg z2]
      exact decide_eq_true (by omega)
  · rw [if_neg z1]
    exact decide_eq_true (by omega)
section
variable {P : Program} {w : World} {K : PySem.W.Frag} {mg : Str → Option Value} {base : Heap} {A : Ads}
theorem to_yes {p q : Hp → Prop} {σ : L2.St} {H : Hp} (h : p H) : tYes σ H fun b H3 => if b = true then p H3 else q H3 := by
  show (if true = true then p H else q H)
  rw [if_pos rfl]
  exact h
theorem to_call {sp : Sp} {t : TA} {σ : L2.St} {H : Hp} {R : VK} (h : t σ H fun vs H1 => sp (vs ++ []) H1 R E0) : tCall sp [] E0 t σ H R := h
theorem to_nm {i : Nat} {x : V} {σ : L2.St} {σ' : L2.St} {H : Hp} {D : L2.St → Hp → Prop} (e : σ.set i (some x) = σ') (h : D σ' H) : gName i x σ H D := by
  subst e
  exact h
/-- what is kept of the rows -/
structure RowsAt (K : PySem.W.Frag) (H : Hp) (D : Addr) (rs : List (Addr × List V)) (ds : List PyData) : Prop where
  at_ : H D = some (.lst (rs.map fun r => V.ref r.1))
  row : ∀ r ∈ rs, H r.1 = some (.lst r.2) ∧ r.1 ≠ D
  dat : DqAll K H ((rs.map (·.2)).flatten) ds
theorem ev_rows {m : Nat} (m6 : m ≤ 6) {o0 o1 o3 o4 o5 o6 : Option V} {H : Hp} {Q : VK}
    (q : ∀ (D : Addr) (rs : List (Addr × List V)) (H' : Hp), H D = Option.none → Same H H' → RowsAt K H' D rs ((everyP m).map prD) → Q (.ref D) H') :
    tLc (iRng1 (tCons (tVar 2) tNil)) (gName 5) tYes (tLc (iRng1 (tCons (tVar 2) tNil)) (gName 6) (tTest (tOp rNe (tVar 6) (tVar 5))) (tTup (tCons (tVar 5) (tCons (tVar 6) tNil))) [6]) [5]
      [o0, o1, some (.int (m : Int)), o3, o4, o5, o6] H Q := by
  refine ⟨_, rfl, m, rfl, by omega, by omega, fun D hD => ?_⟩
  refine lc_range (lo := 0) (n := (m : Int).toNat) (fun n H' => Same H H' ∧ ∃ rs : List (Addr × List V), rs.length = n ∧ RowsAt K H' D rs ((((List.range n).map (rowP m)).flatten).map prD))
    ⟨Evl.Ex.new hD, [], rfl, ⟨upd_same, (fun _ hh => nomatch hh), DqAll.nil⟩⟩ (fun n H' hn p => ?_) (fun H' p => ?_)
  · obtain ⟨e2, rs, hl, h1, h2, h3⟩ := p
    have hn' : n < m := by omega
    have e0 : (0 : Int) + (n : Int) = (n : Int) := Int.zero_add _
    rw [e0]
    refine ⟨rfl, ?_⟩
    refine to_yes ?_
    refine ed_row (K := K) (iv := 5) (j := 6) (many := m) (v := (n : Int)) (fun w => !decide (w = n)) (H := H') (fun H1 e H2 e2 Q q => ⟨_, rfl, q H2 (Evl.Ex.refl _)⟩) (by omega) (fun x => rfl) (fun x => rfl) (fun x => rfl) (fun w H1 hw e H2 e2 Q q => ?_) H' (Evl.Ex.refl H') _ fun p ys H4 np e4 hys hds => ?_
    · refine ⟨_, rfl, _, rfl, rfl, _, rfl, ?_⟩
      have e5 : (!decide (V.int (w : Int) = V.int (n : Int))) = !decide (w = n) := by
        congr 1
        rw [decide_eq_decide]
        constructor
        · intro h
          injection h with h
          omega
        · rintro rfl
          rfl
      rw [e5]
      exact q H2 (Evl.Ex.refl _)
    · have npD : p ≠ D := ne_of_none h1 np |>.symm
      refine ⟨_, e4 _ _ h1, by rw [List.length_map, sizeLine_eq]; omega, ?_, rs ++ [(p, ys)], by rw [List.length_append, hl]; rfl, ?_, ?_, ?_⟩
      · intro a o ea
        rw [upd_ne (ne_of_none ea hD)]
        exact e4 _ _ (e2 _ _ ea)
      · rw [upd_same, List.map_append]
        rfl
      · intro r hr
        rw [List.mem_append] at hr
        rcases hr with hr | hr
        · obtain ⟨r1, r2⟩ := h2 r hr
          exact ⟨by rw [upd_ne r2]; exact e4 _ _ r1, r2⟩
        · rw [List.mem_singleton] at hr
          subst hr
          exact ⟨by rw [upd_ne npD]; exact hys, npD⟩
      · have hkp := keep_lst (H := H4) (a := D) (xs := rs.map fun r => V.ref r.1) (ys := (rs.map fun r => V.ref r.1) ++ [.ref p]) (e4 _ _ h1)
        rw [List.range_succ, List.map_append, List.map_append, List.flatten_append, List.flatten_append, List.map_append]
        have e6 : ((List.map (rowP m) [n]).flatten).map prD = ((List.range m).filter fun w => !decide (w = n)).map fun (w : Nat) => pairD ((n : Int), (w : Int)) := by
          simp only [List.map_cons, List.map_nil, List.flatten_cons, List.flatten_nil, List.append_nil, rowP, List.map_map]
          rfl
        rw [e6]
        have e7 : ((List.map (fun r : Addr × List V => r.2) [(p, ys)]).flatten) = ys := by simp
        rw [e7]
        refine dqAll_app (dqAll_keep hkp (dqAll_same e4 h3) (pairD_tup _)) (dqAll_keep hkp hds ?_)
        rw [tups_iff]
        intro d hd
        obtain ⟨p, _, rfl⟩ := List.mem_map.mp hd
        simp [On.pairD, tup, tups]
  · obtain ⟨e2, rs, hl, h⟩ := p
    have e3 : (m : Int).toNat = m := by omega
    rw [e3] at h
    exact q D rs H' hD e2 h
/-- the pair that stands at a value -/
def prOf (H : Hp) : V → Int × Int
  | .ref a => match H a with
    | some (.tup [.int p, .int q]) => (p, q)
    | _ => (0, 0)
  | _ => (0, 0)
def IsPr (H : Hp) (x : V) : Prop := ∃ a, x = .ref a ∧ H a = some (.tup [.int (prOf H x).1, .int (prOf H x).2])
theorem prOf_at {H : Hp} {a : Addr} {p q : Int} (h : H a = some (.tup [.int p, .int q])) : prOf H (.ref a) = (p, q) := by
  show (match H a with
    | some (.tup [.int p, .int q]) => (p, q)
    | _ => ((0 : Int), (0 : Int))) = (p, q)
  rw [h]
theorem prs_of {H : Hp} : ∀ {ps : List (Int × Int)} {xs : List V}, DqAll K H xs (ps.map prD) → xs.map (prOf H) = ps ∧ ∀ x ∈ xs, IsPr H x
  | [], [], _ => ⟨rfl, fun _ h => nomatch h⟩
  | p :: ps, x :: xs, .cons h1 h2 => by
    obtain ⟨e1, e2⟩ := prs_of h2
    obtain ⟨a, rfl, ha⟩ := dq_pair h1
    have e3 := prOf_at ha
    refine ⟨?_, ?_⟩
    · rw [List.map_cons, e1, e3]
    · intro x hx
      rcases List.mem_cons.mp hx with rfl | hx
      · exact ⟨a, rfl, by rw [e3]; exact ha⟩
      · exact e2 x hx
theorem prs_to {H H' : Hp} : ∀ {xs : List V}, (∀ x ∈ xs, IsPr H x) → (∀ a p q, H a = some (.tup [.int p, .int q]) → H' a = some (.tup [.int p, .int q])) → DqAll K H' xs ((xs.map (prOf H)).map prD)
  | [], _, _ => .nil
  | x :: xs, h, k => by
    obtain ⟨a, rfl, ha⟩ := h x (List.mem_cons_self ..)
    exact .cons (dq_mk (k _ _ _ ha)) (prs_to (fun y hy => h y (List.mem_cons_of_mem _ hy)) k)
theorem every_nd {m : Nat} (h2 : 2 ≤ m) (h6 : m ≤ 6) : (everyP m).Nodup := (every_asc h2 h6).imp fun {p q} h e => by
  subst e
  have : HT.lexLt [p.1, p.2] [p.1, p.2] = false := by
    show (if p.1 = p.1 then (if p.2 = p.2 then HT.lexLt [] [] else decide (p.2 < p.2)) else decide (p.1 < p.1)) = false
    rw [if_pos rfl, if_pos rfl]
    rfl
  unfold ltP at h
  rw [this] at h
  cases h
theorem cut_sub (xs : List V) (lo hi : Option Int) : (cutV xs lo hi).Sublist xs := (List.take_sublist _ _).trans (List.drop_sublist _ _)
/-- return (many, tuple(pairs)) -/
theorem ret_pairs {te : TE} {D : Ends} {σ : L2.St} {H : Hp} {m : Nat} {ps : List (Int × Int)} (hm : σ[2]? = some (some (.int (m : Int))))
    (hE : ∀ Q : VK, (∀ p ys H1, Same H H1 → H1 p = some (.lst ys) → DqAll K H1 ys (ps.map prD) → Q (.ref p) H1) → te σ H Q)
    (q : ∀ v H1, Same H H1 → Dq K H1 v (placeD m ps) → D.rt v H1) : tRet (tTup (tCons (tVar 2) (tCons (tCB (rTupOf K) (tCons te tNil)) tNil))) D σ H := by
  refine ⟨_, hm, ?_⟩
  refine to_cons (to_cb (to_cons (hE _ fun p ys H1 s1 hp hd => ?_)))
  refine ⟨p, ys, rfl, .inl ⟨SqL.of hp, fun l nl => ⟨(by show 2 ≤ sizeLine; decide), fun v nv => ?_⟩⟩⟩
  have s2 := same_upd (o := .tup ys) nl
  have s3 := same_upd (o := .tup [.int (m : Int), .ref l]) nv
  exact q _ _ ((s1.trans s2).trans s3) (.tup upd_same (.cons (.int _) (.cons (.tup (s3 _ _ upd_same) (dqAll_same (s2.trans s3) hd)) .nil)))
/-- _law_place(bag, 6) -/
def spPlace (K : PySem.W.Frag) : Sp := fun vs H Q _ => ∃ (b c : Addr), vs = [.ref b, .int 6] ∧ Bag H b c ∧
  ∀ (m : Nat) (ps : List (Int × Int)) (v : V) (H' : Hp), placeOk (placeD m ps) = true → ps.length ≤ 30 → Bag H' b c → But b H H' → Dq K H' v (placeD m ps) → Q v H'
theorem ok_lplace (T : Txt K mg A) (G_law_take : FnOk P w K mg base CX0 1 A.a_law_take A.d_law_take ["_law_bag_here", "_law_upto"] spTake) (G_law_some : FnOk P w K mg base CX0 2 A.a_law_some A.d_law_some ["_law_bag_here", "_law_things"] (spSome K)) (G_law_flat : FnOk P w K mg base CX0 1 A.a_law_flat A.d_law_flat ["_law_rows"] spFlat) (G_law_mixed : FnOk P w K mg base CX0 2 A.a_law_mixed A.d_law_mixed ["_law_bag_here", "_law_things"] spMixed) : FnOk P w K mg base CX0 3 A.a_law_place A.d_law_place ["_law_bag_here", "_law_most"] (spPlace K) := by
  refine T._law_place.F.ok sc__law_place (fun vs H Q E h => ?_) (fun cdv A' outer s H vs Q E hr h => ?_)
  · obtain ⟨b, c, rfl, _⟩ := h
    rfl
  · obtain ⟨b, c, rfl, B, k⟩ := h
    refine ⟨_, (pss_cons (ps_set (i := 2) sc__law_place.nd rfl (by first | exact Or.inl rfl | exact Or.inr rfl) (pe_op op_add pe_int (pe_call G_law_take (hr.mono (by first | decide | omega)) rfl T._law_take.g T._law_take.F.kp T._law_take.b .nil pass0 (pa_cons (pv 0) (pa_cons (pe_op op_sub (pv 1) pe_int) pa_nil)))))
      (pss_cons (ps_set (i := 3) sc__law_place.nd rfl (by first | exact Or.inl rfl | exact Or.inr rfl) (pe_call G_law_some (hr.mono (by first | decide | omega)) rfl T._law_some.g T._law_some.F.kp T._law_some.b .nil pass0 (pa_cons (pv 0) (pa_cons (pe_lst (pa_cons pe_int (pa_cons pe_int (pa_cons pe_int (pa_cons pe_int (pa_cons pe_int (pa_cons pe_int (pa_cons pe_int (pa_cons pe_int (pa_cons pe_int (pa_cons pe_int (pa_cons pe_int pa_nil)))))))))))) pa_nil))))
      (pss_cons (ps_set (i := 4) sc__law_place.nd rfl (by first | exact Or.inl rfl | exact Or.inr rfl) (pe_call G_law_flat (hr.mono (by first | decide | omega)) rfl T._law_flat.g T._law_flat.F.kp T._law_flat.b .nil pass0 (pa_cons (pe_lc (own := [("_law_v", 5)]) rfl sc__law_place.nd (pi_range1 rfl T.nb_range (pa_cons (pv 2) pa_nil)) (blkOk_by (N := ["_law_bag_here", "_law_most", "_law_many", "_law_way", "_law_every", "_law_v", "_law_w"]) (sc := defScope s_law_place) (by decide +kernel)) (fun _ _ _ _ _ => (pg_name (i := 5) sc__law_place.nd rfl (by first | exact Or.inl rfl | exact Or.inr rfl))) (fun _ _ _ _ _ => pts_nil) (fun _ _ _ _ _ => (pe_lc (own := [("_law_w", 6)]) rfl sc__law_place.nd (pi_range1 rfl T.nb_range (pa_cons (pv 2) pa_nil)) (blkOk_by (by rfl)) (fun _ _ _ _ _ => (pg_name (i := 6) sc__law_place.nd rfl (by first | exact Or.inl rfl | exact Or.inr rfl))) (fun _ _ _ _ _ => (pts_one (pt_cmpR op_ne (pv 6) (pv 5) (nomark _)))) (fun _ _ _ _ _ => (pe_tup (pa_cons (pv 5) (pa_cons (pv 6) pa_nil))))))) pa_nil)))
      (pss_cons (ps_if (pt_cmpR op_lt (pv 3) pe_int (nomark _)) (pss_one (ps_ret (pe_tup (pa_cons (pv 2) (pa_cons (pe_callTy (kTuple K) (by rfl) T.nb_tuple (by decide +kernel) (pa_cons (pv 4) pa_nil)) pa_nil))))) pss_nil)
      (pss_cons (ps_if (PW.pt (pw_or (pt_cmpR op_lt (pv 3) pe_int (nomark _)) (pw_or1 (PW.pt (pw_and (pt_cmpR op_eq (pv 3) pe_int (nomark _)) (pw_and1 (pt_cmpR op_lt (pv 2) pe_int (nomark _)))))))) (pss_one (ps_ret (pe_tup (pa_cons (pv 2) (pa_cons (pe_callTy (kTuple K) (by rfl) T.nb_tuple (by decide +kernel) (pa_cons (pe_lc (own := [("_law_v", 5), ("_law_w", 6)]) rfl sc__law_place.nd (kPiL K (pv 4)) (blkOk_by (N := ["_law_bag_here", "_law_most", "_law_many", "_law_way", "_law_every", "_law_v", "_law_w"]) (sc := defScope s_law_place) (by decide +kernel)) (fun _ _ _ _ _ => (kPgT K (n := 2) (pgs_cons (pg_name (i := 5) sc__law_place.nd rfl (by first | exact Or.inl rfl | exact Or.inr rfl)) (pgs_cons (pg_name (i := 6) sc__law_place.nd rfl (by first | exact Or.inl rfl | exact Or.inr rfl)) pgs_nil)))) (fun _ _ _ _ _ => (pts_one (pt_cmpR (kIn K) (pe_op op_sub (pv 5) (pv 6)) (pe_tup (pa_cons pe_int (pa_cons (pe_un un_neg pe_int) pa_nil))) rfl))) (fun _ _ _ _ _ => (pe_tup (pa_cons (pv 5) (pa_cons (pv 6) pa_nil))))) pa_nil)) pa_nil))))) pss_nil)
      (pss_cons (ps_if (pt_cmpR op_eq (pv 3) pe_int (nomark _)) (pss_one (ps_ret (pe_tup (pa_cons (pv 2) (pa_cons (pe_callTy (kTuple K) (by rfl) T.nb_tuple (by decide +kernel) (pa_cons (pe_lc (own := [("_law_v", 5), ("_law_w", 6)]) rfl sc__law_place.nd (kPiL K (pv 4)) (blkOk_by (N := ["_law_bag_here", "_law_most", "_law_many", "_law_way", "_law_every", "_law_v", "_law_w"]) (sc := defScope s_law_place) (by decide +kernel)) (fun _ _ _ _ _ => (kPgT K (n := 2) (pgs_cons (pg_name (i := 5) sc__law_place.nd rfl (by first | exact Or.inl rfl | exact Or.inr rfl)) (pgs_cons (pg_name (i := 6) sc__law_place.nd rfl (by first | exact Or.inl rfl | exact Or.inr rfl)) pgs_nil)))) (fun _ _ _ _ _ => (pts_one (pt_cmpR (kIn K) (pe_op op_mod (pe_callTy call_int1 (by rfl) T.nb_int (by decide +kernel) (pa_cons (pe_op op_sub (pv 5) (pv 6)) pa_nil)) (pv 2)) (pe_tup (pa_cons pe_int (pa_cons (pe_op op_sub (pv 2) pe_int) pa_nil))) rfl))) (fun _ _ _ _ _ => (pe_tup (pa_cons (pv 5) (pa_cons (pv 6) pa_nil))))) pa_nil)) pa_nil))))) pss_nil)
      (pss_cons (ps_if (pt_cmpR (kIn K) (pv 3) (pe_tup (pa_cons pe_int (pa_cons pe_int pa_nil))) rfl) (pss_one (ps_ret (pe_tup (pa_cons (pv 2) (pa_cons (pe_callTy (kTuple K) (by rfl) T.nb_tuple (by decide +kernel) (pa_cons (pe_lc (own := [("_law_v", 5), ("_law_w", 6)]) rfl sc__law_place.nd (kPiL K (pv 4)) (blkOk_by (N := ["_law_bag_here", "_law_most", "_law_many", "_law_way", "_law_every", "_law_v", "_law_w"]) (sc := defScope s_law_place) (by decide +kernel)) (fun _ _ _ _ _ => (kPgT K (n := 2) (pgs_cons (pg_name (i := 5) sc__law_place.nd rfl (by first | exact Or.inl rfl | exact Or.inr rfl)) (pgs_cons (pg_name (i := 6) sc__law_place.nd rfl (by first | exact Or.inl rfl | exact Or.inr rfl)) pgs_nil)))) (fun _ _ _ _ _ => (pts_one (PW.pt (pw_and (pt_cmpR op_lt (pv 5) (pv 6) (nomark _)) (pw_and1 (PW.pt (pw_or (pt_cmpR op_eq (pv 3) pe_int (nomark _)) (pw_or1 (pt_cmpR op_eq (pv 6) (pe_op op_add (pv 5) pe_int) (nomark _)))))))))) (fun _ _ _ _ _ => (pe_tup (pa_cons (pv 5) (pa_cons (pv 6) pa_nil))))) pa_nil)) pa_nil))))) pss_nil)
      (pss_one (ps_ret (pe_tup (pa_cons (pv 2) (pa_cons (pe_callTy (kTuple K) (by rfl) T.nb_tuple (by decide +kernel) (pa_cons (pe_callB (kSortT K (d := 2) (B := 6) (by decide)) (by rfl) T.nb_sorted (by decide +kernel) (pa_cons (pe_slice (kSlL K) (pe_call G_law_mixed (hr.mono (by first | decide | omega)) rfl T._law_mixed.g T._law_mixed.F.kp T._law_mixed.b .nil pass0 (pa_cons (pv 0) (pa_cons (pv 4) pa_nil))) po_none (po_some (pe_call G_law_take (hr.mono (by first | decide | omega)) rfl T._law_take.g T._law_take.F.kp T._law_take.b .nil pass0 (pa_cons (pv 0) (pa_cons (pe_op op_add (pe_callB (kLen K) (by rfl) T.nb_len PySem.boot_len (pa_cons (pv 4) pa_nil)) pe_int) pa_nil))))) pa_nil)) pa_nil)) pa_nil)))))))))))), ?_⟩
    -- many = 2 + take(bag, most - 1)
    refine ⟨_, rfl, _, rfl, _, _, rfl, rfl, b, c, 5, rfl, B, by decide, small_log (by decide) (by decide), fun u H1 u0 u1 B1 k1 => ?_⟩
    refine ⟨_, _, rfl, rfl, ?_⟩
    obtain ⟨m, hm⟩ : ∃ m : Nat, (2 + u : Int) = (m : Int) := ⟨(2 + u).toNat, by omega⟩
    have m2 : 2 ≤ m := by omega
    have m6 : m ≤ 6 := by omega
    show tSeq _ _ _ [some (.ref b), some (.int 6), some (.int (2 + u)), none, none, none, none] H1
    rw [hm]
    -- way
    refine ⟨_, rfl, by decide, fun p1 n1 => ⟨b, c, p1, _, rfl, B1.same (same_upd n1), upd_same, B1.ne_new n1, by decide, by decide, fun wy H2 hwy B2 k2 => ?_⟩⟩
    obtain ⟨way, rfl, hway⟩ : ∃ way : Int, wy = .int way ∧ way ∈ ([0, 2, 4, 5, 6, 7] : List Int) := by
      simp only [List.mem_cons, List.not_mem_nil, or_false] at hwy
      rcases hwy with h | h | h | h | h | h | h | h | h | h | h <;> exact ⟨_, h, by decide⟩
    refine to_nm (σ' := [some (.ref b), some (.int 6), some (.int m), some (.int way), none, none, none]) rfl ?_
    dsimp only
    have k2' : But b H H2 := k1.trans ((But.of_same (same_upd n1)).trans k2)
    clear k2 B1 n1 k1
    -- every
    refine to_qasg (to_call (to_cons ?_))
    refine ev_rows (K := K) m6 fun D rs H3 nD s3 hR => ?_
    have B3 := B2.same s3
    have k3 : But b H H3 := k2'.trans (But.of_same s3)
    have hflen : ((rs.map (·.2)).flatten).length = (everyP m).length := by rw [dqAll_len hR.dat, List.length_map]
    have hel := every_len m6
    refine ⟨D, rs, rfl, hR.at_, fun r hr => (hR.row r hr).1, by omega, fun e H4 ne s4 he => ?_⟩
    have B4 := B3.same s4
    have k4 : But b H H4 := k3.trans (But.of_same s4)
    have hd4 := dqAll_same s4 hR.dat
    have neb : e ≠ b := B3.ne_new ne
    generalize ((rs.map (·.2)).flatten) = xs at he hd4 hflen
    clear hR B3 k3 k2' s4 s3 nD
    refine to_nm (σ' := [some (.ref b), some (.int 6), some (.int m), some (.int way), some (.ref e), none, none]) rfl ?_
    refine Evl.q_when (b := decide (way < 2)) (Evl.et_test (Evl.ev_op (Evl.ev_var rfl) Evl.ev_c Evl.rv_I0)) (fun _ H5 e5 => ?_) (fun _ H5 e5 => ?_)
    · refine ret_pairs (K := K) (m := m) (ps := everyP m) rfl (fun Q q => ⟨_, rfl, q e xs H5 (Evl.Ex.refl _) (e5 _ _ he) (dqAll_same e5 hd4)⟩) fun v H6 s6 hv => ?_
      exact k m _ v H6 (place_ok m2 m6 (fun _ h => h) (every_asc m2 m6)) hel (B4.same (e5.trans s6)) (k4.trans (But.of_same (e5.trans s6))) hv
    have he := e5 _ _ he
    have hd4 := dqAll_same e5 hd4
    have B4 := B4.same e5
    have k4 := k4.trans (But.of_same e5)
    have FIN : ∀ f : Int × Int → Bool, ∀ v H6, Same H5 H6 → Dq K H6 v (placeD m ((everyP m).filter f)) → Q v H6 := fun f v H6 s6 hv =>
      k m _ v H6 (filter_ok m2 m6 f) (Nat.le_trans (List.length_filter_le _ _) hel) (B4.same s6) (k4.trans (But.of_same s6)) hv
    refine Evl.q_when (b := decide (way < 4) || (decide (V.int way = V.int 4) && decide ((m : Int) < 3))) (Evl.et_or (Evl.et_test (Evl.ev_op (Evl.ev_var rfl) Evl.ev_c Evl.rv_I0)) fun _ => Evl.et_and (Evl.et_test (Evl.ev_op (Evl.ev_var rfl) Evl.ev_c (Evl.rv_eq rfl))) fun _ => Evl.et_test (Evl.ev_op (Evl.ev_var rfl) Evl.ev_c Evl.rv_I0)) (fun _ H6 e6 => ?_) (fun _ H6 e6 => ?_)
    · exact ret_pairs (K := K) (m := m) rfl (fun Q q => ed_pairs (everyP m) (fun p => inV (.int (p.1 - p.2)) [.int 1, .int (-1)]) (fun H1 _ => Evl.ev_var rfl) (e6 _ _ he) (dqAll_same e6 hd4) (by omega) (fun _ _ => rfl) (fun _ _ => rfl) (fun _ _ => rfl)
        (fun p H1 _ _ => Evl.et_test (Evl.ev_inU (Evl.ev_op (Evl.ev_var rfl) (Evl.ev_var rfl) Evl.rv_I0) (Evl.eu_tup (Evl.ea_cons Evl.ev_c (Evl.ea_cons (Evl.ev_un Evl.ev_c Evl.ru_neg) Evl.ea_nil)) (by show 2 ≤ 100000; decide)) rfl rfl)) H6 (Evl.Ex.refl _) _ fun p ys H2 _ e2 hys hds => q p ys H2 e2 hys hds)
        fun v H7 s7 hv => FIN _ v H7 (e6.trans s7) hv
    refine Evl.q_when (b := decide (V.int way = V.int 4)) (Evl.et_test (Evl.ev_op (Evl.ev_var rfl) Evl.ev_c (Evl.rv_eq rfl))) (fun _ H7 e7 => ?_) (fun _ H7 e7 => ?_)
    · have e67 := e6.trans e7
      exact ret_pairs (K := K) (m := m) rfl (fun Q q => ed_pairs (everyP m) (fun p => inV (.int ((p.1 - p.2) % (m : Int))) [.int 1, .int ((m : Int) - 1)]) (fun H1 _ => Evl.ev_var rfl) (e67 _ _ he) (dqAll_same e67 hd4) (by omega) (fun _ _ => rfl) (fun _ _ => rfl) (fun _ _ => rfl)
        (fun p H1 _ _ => Evl.et_test (Evl.ev_inU (Evl.ev_op (Evl.ev_cb (Evl.ea_cons (Evl.ev_op (Evl.ev_var rfl) (Evl.ev_var rfl) Evl.rv_I0) Evl.ea_nil) (fun H1 _ Q q => .inl ⟨_, rfl, q H1 (Evl.Ex.refl _)⟩)) (Evl.ev_var rfl) (Evl.rv_I (by omega))) (Evl.eu_tup (Evl.ea_cons Evl.ev_c (Evl.ea_cons (Evl.ev_op (Evl.ev_var rfl) Evl.ev_c Evl.rv_I0) Evl.ea_nil)) (by show 2 ≤ 100000; decide)) rfl rfl)) H7 (Evl.Ex.refl _) _ fun p ys H2 _ e2 hys hds => q p ys H2 e2 hys hds)
        fun v H8 s8 hv => FIN _ v H8 (e67.trans s8) hv
    have e67 := e6.trans e7
    refine Evl.q_when (b := inV (.int way) [.int 5, .int 7]) (Evl.et_test (Evl.ev_inU (Evl.ev_var rfl) (Evl.eu_tup (Evl.ea_cons Evl.ev_c (Evl.ea_cons Evl.ev_c Evl.ea_nil)) (by show 2 ≤ 100000; decide)) rfl rfl)) (fun _ H8 e8 => ?_) (fun _ H8 e8 => ?_)
    · have e68 := e67.trans e8
      exact ret_pairs (K := K) (m := m) rfl (fun Q q => ed_pairs (everyP m) (fun p => decide (p.1 < p.2) && (decide (V.int way = V.int 5) || decide (V.int p.2 = V.int (p.1 + 1)))) (fun H1 _ => Evl.ev_var rfl) (e68 _ _ he) (dqAll_same e68 hd4) (by omega) (fun _ _ => rfl) (fun _ _ => rfl) (fun _ _ => rfl)
        (fun p H1 _ _ => Evl.et_and (Evl.et_test (Evl.ev_op (Evl.ev_var rfl) (Evl.ev_var rfl) Evl.rv_I0)) fun _ => Evl.et_or (Evl.et_test (Evl.ev_op (Evl.ev_var rfl) Evl.ev_c (Evl.rv_eq rfl))) fun _ => Evl.et_test (Evl.ev_op (Evl.ev_var rfl) (Evl.ev_op (Evl.ev_var rfl) Evl.ev_c Evl.rv_I0) (Evl.rv_eq rfl))) H8 (Evl.Ex.refl _) _ fun p ys H2 _ e2 hys hds => q p ys H2 e2 hys hds)
        fun v H9 s9 hv => FIN _ v H9 (e68.trans s9) hv
    have e68 := e67.trans e8
    -- sorted(mixed(bag, every)[:take(bag, len(every) + 1)])
    have he8 := e68 _ _ he
    have hd8 := dqAll_same e68 hd4
    have B8 := B4.same e68
    have k8 : But b H H8 := k4.trans (But.of_same e68)
    clear FIN
    obtain ⟨pr1, pr2⟩ := prs_of hd8
    refine to_ret (to_tup (to_cons ⟨_, rfl, to_cons (to_cb (to_cons (to_cb (to_cons ?_))))⟩))
    refine ⟨_, rfl, _, rfl, b, c, e, xs, rfl, B8, he8, neb, by omega, fun p ys H9 perm np B9 k9 hp => ?_⟩
    refine ⟨_, rfl, _, rfl, e, xs, rfl, .inl (SqL.of (k9 _ _ neb he8)), _, _, rfl, rfl, b, c, _, rfl, B9, by omega, small_log (by omega) (by omega), fun u HA u0 u1 BA kA => ⟨u, rfl, ?_⟩⟩
    have npb : p ≠ b := B8.ne_new np
    refine ⟨p, ys, rfl, SqL.of (kA _ _ npb hp), fun l nl => ?_⟩
    have sl := same_upd (o := .lst (cutV ys none (some u))) nl
    have kL : But b H8 (upd HA l (.lst (cutV ys none (some u)))) := (k9.trans kA).trans (But.of_same sl)
    have BL := BA.same sl
    have hl : upd HA l (.lst (cutV ys none (some u))) l = some (.lst (cutV ys none (some u))) := upd_same
    generalize upd HA l (.lst (cutV ys none (some u))) = HL at kL BL hl
    have hcs := cut_sub ys none (some u)
    generalize cutV ys none (some u) = cs at hl hcs
    have hb8 : ∀ a p q, H8 a = some (.tup [.int p, .int q]) → a ≠ b := by
      rintro a p q h rfl
      obtain ⟨⟨_, _, _, _, h1, _⟩, _⟩ := B8
      rw [h1] at h
      cases h
    have hcm : ∀ x ∈ cs, x ∈ xs := fun x hx => perm.subset (hcs.subset hx)
    have hcl : cs.length ≤ 30 := by
      have := hcs.length_le
      have := perm.length_eq
      omega
    refine ⟨l, cs, rfl, SqL.of hl, by omega, fun x hx => ?_, fun zs z permz pw nz => ?_⟩
    · obtain ⟨a, rfl, ha⟩ := pr2 x (hcm x hx)
      refine ⟨[(prOf H8 (.ref a)).1, (prOf H8 (.ref a)).2], ⟨a, rfl, SqT.of (kL _ _ (hb8 _ _ _ ha) ha)⟩, rfl, fun n hn => ?_⟩
      have hmem : prOf H8 (.ref a) ∈ everyP m := by
        rw [← pr1]
        exact List.mem_map_of_mem (hcm _ hx)
      obtain ⟨a1, a2, a3, a4, _⟩ := mem_every hmem
      rcases List.mem_cons.mp hn with rfl | hn
      · omega
      · rcases List.mem_cons.mp hn with rfl | hn
        · omega
        · cases hn
    · have hzm : ∀ x ∈ zs, x ∈ xs := fun x hx => hcm x (permz.subset hx)
      refine ⟨z, zs, rfl, .inl ⟨SqL.of upd_same, fun t nt => ⟨(by show 2 ≤ sizeLine; decide), fun v nv => ?_⟩⟩⟩
      have s1 := same_upd (o := .lst zs) nz
      have s2 := same_upd (o := .tup zs) nt
      have s3 := same_upd (o := .tup [.int (m : Int), .ref t]) nv
      have s13 := (s1.trans s2).trans s3
      refine k m (zs.map (prOf H8)) _ _ (sorted_ok m2 m6 ?_ ?_ ?_) ?_ (BL.same s13) (k8.trans (kL.trans (But.of_same s13))) (.tup upd_same (.cons (.int _) (.cons (.tup (s3 _ _ upd_same) (prs_to (fun x hx => pr2 x (hzm x hx)) fun a p q h => s13 _ _ (kL _ _ (hb8 _ _ _ h) h))) .nil)))
      · intro q hq
        obtain ⟨x, hx, rfl⟩ := List.mem_map.mp hq
        rw [← pr1]
        exact List.mem_map_of_mem (hzm x hx)
      · have n1 : (xs.map (prOf H8)).Nodup := by
          rw [pr1]
          exact every_nd m2 m6
        have n2 : (ys.map (prOf H8)).Nodup := (perm.map _).nodup_iff.mpr n1
        have n3 : (cs.map (prOf H8)).Nodup := (hcs.map _).nodup n2
        exact (permz.map _).nodup_iff.mpr n3
      · rw [List.pairwise_map]
        refine pw.imp_of_mem fun {x y} hx hy hxy => ?_
        obtain ⟨a, rfl, ha⟩ := pr2 x (hzm x hx)
        obtain ⟨a', rfl, ha'⟩ := pr2 y (hzm y hy)
        exact hxy _ _ ⟨a, rfl, SqT.of (kL _ _ (hb8 _ _ _ ha) ha)⟩ ⟨a', rfl, SqT.of (kL _ _ (hb8 _ _ _ ha') ha')⟩
      · rw [List.length_map, permz.length_eq]
        exact hcl
end
end K11

namespace K11
open PySem PySem.Spec PyProof.Rows L2 On L11
section
variable {P : Program} {w : World} {K : PySem.W.Frag} {mg : Str → Option Value} {base : Heap} {A : Ads}
/-- the heap but for what stands at L -/
def offs (L : List Addr) (H : Hp) : Hp := fun a => if a ∈ L then Option.none else H a
theorem offs_ne {L : List Addr} {a : Addr} {H : Hp} (h : a ∉ L) : offs L H a = H a := if_neg h
theorem offs_some {L : List Addr} {a : Addr} {H : Hp} {o : HO} (e : offs L H a = some o) : a ∉ L := fun z => by
  unfold offs at e
  rw [if_pos z] at e
  cases e
theorem offs_sub {L : List Addr} {H : Hp} : Same (offs L H) H := fun a o e => by
  rwa [offs_ne (offs_some e)] at e
theorem offs_but {L : List Addr} {b : Addr} {H H' : Hp} (hb : b ∈ L) (k : But b H H') : Same (offs L H) (offs L H') := fun a o e => by
  have n := offs_some e
  rw [offs_ne n] at e ⊢
  exact k a o (fun z => n (z ▸ hb)) e
theorem offs_same {L : List Addr} {H H' : Hp} (k : Same H H') : Same (offs L H) (offs L H') := fun a o e => by
  have n := offs_some e
  rw [offs_ne n] at e ⊢
  exact k a o e
theorem offs_new {L : List Addr} {a : Addr} {H : Hp} {o : HO} (h : a ∉ L) : offs L (upd H a o) a = some o := by
  rw [offs_ne h]
  exact upd_same
theorem offs_cons {L : List Addr} {r : Addr} {H : Hp} : Same (offs (r :: L) H) (offs L H) := fun a o e => by
  have n := offs_some e
  rw [offs_ne n] at e
  rw [offs_ne fun z => n (List.mem_cons_of_mem _ z)]
  exact e
theorem offs_put {L : List Addr} {r : Addr} {H : Hp} {o : HO} (hr : r ∈ L) : Same (offs L H) (offs L (upd H r o)) := fun a u e => by
  have n := offs_some e
  rw [offs_ne n] at e ⊢
  have n2 : a ≠ r := fun z => n (by rw [z]; exact hr)
  rw [upd_ne n2]
  exact e
theorem offs_add {L : List Addr} {r : Addr} {H : Hp} {o : HO} (h : H r = Option.none) : Same (offs L H) (offs (r :: L) (upd H r o)) := fun a u e => by
  have n := offs_some e
  rw [offs_ne n] at e
  have n2 : a ≠ r := ne_of_none e h
  rw [offs_ne (fun z => by
    rcases List.mem_cons.mp z with z | z
    · exact n2 z
    · exact n z), upd_ne n2]
  exact e
/-- what stands at L is there -/
def Live (L : List Addr) (H : Hp) : Prop := ∀ a ∈ L, H a ≠ Option.none
theorem Live.same {L : List Addr} {H H' : Hp} (h : Live L H) (k : Same H H') : Live L H' := fun a ha e => by
  cases z : H a with
  | none => exact h a ha z
  | some o =>
    rw [k _ _ z] at e
    cases e
theorem Live.but {L : List Addr} {H H' : Hp} {b c : Addr} (h : Live L H) (B : Bag H' b c) (k : But b H H') : Live L H' := fun a ha e => by
  by_cases hb : a = b
  · subst hb
    obtain ⟨⟨_, _, _, _, h1, _⟩, _⟩ := B
    rw [h1] at e
    cases e
  · cases z : H a with
    | none => exact h a ha z
    | some o =>
      rw [k _ _ hb z] at e
      cases e
theorem Live.new {L : List Addr} {H : Hp} {a : Addr} (h : Live L H) (n : H a = Option.none) : a ∉ L := fun z => h a z n
theorem Live.add {L : List Addr} {H : Hp} {r : Addr} {o : HO} (h : Live L H) (e : H r = some o) : Live (r :: L) H := fun a ha => by
  rcases List.mem_cons.mp ha with rfl | ha
  · rw [e]
    exact fun z => by cases z
  · exact h a ha
structure LiveX (L : List Addr) (H : Hp) : Prop where
  liv : Live L H
  sys : Sys H
theorem LiveX.same {L : List Addr} {H H' : Hp} (h : LiveX L H) (k : Same H H') : LiveX L H' := ⟨h.liv.same k, by
  obtain ⟨_, φ, e⟩ := h
  exact ⟨φ, k _ _ e⟩⟩
theorem LiveX.new {L : List Addr} {H : Hp} {a : Addr} (h : LiveX L H) (n : H a = Option.none) : a ∉ L := h.liv.new n
theorem LiveX.nsys {L : List Addr} {H : Hp} {a : Addr} (h : LiveX L H) (n : H a = Option.none) : a ≠ sysModules := fun z => by
  obtain ⟨_, φ, h4⟩ := h
  rw [z, h4] at n
  cases n
/-- what a reading evaluates to: a datum, apart from L -/
def EvQ (K : PySem.W.Frag) (L : List Addr) (te : TE) (σ : L2.St) (d : PyData) : Prop := ∀ H, LiveX L H → ∀ Q : VK, (∀ v H1, Same H H1 → Dq K (offs L H1) v d → Q v H1) → te σ H Q
def EvQA (K : PySem.W.Frag) (L : List Addr) (ta : TA) (σ : L2.St) (ds : List PyData) : Prop := ∀ H, LiveX L H → ∀ Q : List V → Hp → Prop, (∀ vs H1, Same H H1 → DqAll K (offs L H1) vs ds → Q vs H1) → ta σ H Q
section
variable {L : List Addr} {σ : L2.St} {d : PyData} {ds : List PyData} {te : TE} {ta : TA}
theorem eq_c {v : V} (h : ∀ H, Dq K H v d) : EvQ K L (tC v) σ d := fun H _ Q q => q v H (Evl.Ex.refl H) (h _)
theorem eq_neg {i : Int} : EvQ K L (tUn (rU fun i => V.int (-i)) (tC (V.int i))) σ (.int (-i)) := fun H _ Q q => ⟨i, rfl, q _ H (Evl.Ex.refl H) (.int _)⟩
theorem eqa_nil : EvQA K L tNil σ [] := fun H _ Q q => q [] H (Evl.Ex.refl H) .nil
theorem eqa_cons (h : EvQ K L te σ d) (h2 : EvQA K L ta σ ds) : EvQA K L (tCons te ta) σ (d :: ds) := fun H B Q q =>
  h H B _ fun v H1 s1 hv => h2 H1 (B.same s1) _ fun vs H2 s2 hvs => q (v :: vs) H2 (s1.trans s2) (.cons (dq_same (offs_same s2) hv) hvs)
theorem eq_tup (h : EvQA K L ta σ ds) (hl : ds.length ≤ 100) : EvQ K L (tTup ta) σ (.tuple ds) := fun H B Q q =>
  h H B _ fun vs H1 s1 hvs => ⟨by rw [dqAll_len hvs, sizeLine_eq]; omega, fun p np => q (.ref p) _ (s1.trans (same_upd np)) (.tup (offs_new ((B.same s1).new np)) (dqAll_same (offs_same (same_upd np)) hvs))⟩
theorem eq_lst (h : EvQA K L ta σ ds) (hl : ds.length ≤ 100) : EvQ K L (tLst ta) σ (.list ds) := fun H B Q q =>
  h H B _ fun vs H1 s1 hvs => ⟨by rw [dqAll_len hvs, sizeLine_eq]; omega, fun p np => q (.ref p) _ (s1.trans (same_upd np)) (.lst (offs_new ((B.same s1).new np)) ((B.same s1).nsys np) (dqAll_same (offs_same (same_upd np)) hvs))⟩
theorem eq_d0 : EvQ K L tDNewK σ (.dict []) := fun H B Q q p np => q (.ref p) _ (same_upd np) (Dq.dct (kvs := []) (ds := []) (offs_new (B.new np)) .nil)
end
def OddD (d : PyData) : Prop := plainQ d = true ∧ d.depth ≤ 3 ∧ wq d ≤ 100
def oddA : List PyData := [.none, .bool true, .bool false, .int 0, .int 1, .int (-1), .int 6, .int 7, .int (10 ^ 39), .str (Str.ofString ""), .str (Str.ofString "0"), .tuple [], .list [], .dict [], .tuple [.int 0], .list [.int 0], .tuple [.tuple []], .dict [(.int 0, .int 1)], .tuple [.tuple [.int 0, .int 1]]]
def oddB : List PyData := [.tuple [.int 0, .int 0], .tuple [.bool true], .tuple [.int 0, .int 0, .int 0], .tuple [.tuple [.int 0, .int 0], .tuple [.int 1, .int 0]], .str (Str.ofString "free")]
theorem odd_all : ∀ d ∈ oddA ++ oddB, OddD d := by
  have h : ((oddA ++ oddB).all fun d => plainQ d && (decide (d.depth ≤ 3) && decide (wq d ≤ 100))) = true := by decide +kernel
  intro d hd
  have z := List.all_eq_true.mp h d hd
  simp only [Bool.and_eq_true, decide_eq_true_eq] at z
  exact ⟨z.1, z.2.1, z.2.2⟩
/-- _law_odd(bag) -/
def spOdd (K : PySem.W.Frag) : Sp := fun vs H Q _ => ∃ (b c : Addr) (L : List Addr), vs = [.ref b] ∧ Bag H b c ∧ b ∈ L ∧ Live L H ∧
  ∀ (d : PyData) (v : V) (H' : Hp), OddD d → Bag H' b c → But b H H' → Dq K (offs L H') v d → Q v H'
theorem ok_odd (T : Txt K mg A) (G_law_some : FnOk P w K mg base CX0 2 A.a_law_some A.d_law_some ["_law_bag_here", "_law_things"] (spSome K)) : FnOk P w K mg base CX0 3 A.a_law_odd A.d_law_odd ["_law_bag_here"] (spOdd K) := by
  refine T._law_odd.F.ok sc__law_odd (fun vs H Q E h => ?_) (fun cdv A' outer s H vs Q E hr h => ?_)
  · obtain ⟨b, c, L, rfl, _⟩ := h
    rfl
  · obtain ⟨b, c, L, rfl, B, hb, hL, k⟩ := h
    refine ⟨_, (pss_cons (ps_set (i := 1) sc__law_odd.nd rfl (by first | exact Or.inl rfl | exact Or.inr rfl) (pe_lst (pa_cons pe_non (pa_cons pe_bl (pa_cons pe_bl (pa_cons pe_int (pa_cons pe_int (pa_cons (pe_un un_neg pe_int) (pa_cons pe_int (pa_cons pe_int (pa_cons (pe_op op_pow pe_int pe_int) (pa_cons pe_str (pa_cons pe_str (pa_cons (pe_tup pa_nil) (pa_cons (pe_lst pa_nil) (pa_cons pe_dnewK (pa_cons (pe_tup (pa_cons pe_int pa_nil)) (pa_cons (pe_lst (pa_cons pe_int pa_nil)) (pa_cons (pe_tup (pa_cons (pe_tup pa_nil) pa_nil)) (pa_cons (pe_disp (pps_cons pe_int pe_int pps_nil) rfl rfl (by decide) (by decide)) (pa_cons (pe_tup (pa_cons (pe_tup (pa_cons pe_int (pa_cons pe_int pa_nil))) pa_nil)) pa_nil)))))))))))))))))))))
      (pss_one (ps_ret (pe_call G_law_some (hr.mono (by first | decide | omega)) rfl T._law_some.g T._law_some.F.kp T._law_some.b .nil pass0 (pa_cons (pv 0) (pa_cons (pe_op op_cat (pv 1) (pe_lst (pa_cons (pe_tup (pa_cons pe_int (pa_cons pe_int pa_nil))) (pa_cons (pe_tup (pa_cons pe_bl pa_nil)) (pa_cons (pe_tup (pa_cons pe_int (pa_cons pe_int (pa_cons pe_int pa_nil)))) (pa_cons (pe_tup (pa_cons (pe_tup (pa_cons pe_int (pa_cons pe_int pa_nil))) (pa_cons (pe_tup (pa_cons pe_int (pa_cons pe_int pa_nil))) pa_nil))) (pa_cons pe_str pa_nil))))))) pa_nil)))))), ?_⟩
    have eA : EvQA K L (tCons (tC V.non) (tCons (tC (V.bl true)) (tCons (tC (V.bl false)) (tCons (tC (V.int 0)) (tCons (tC (V.int 1)) (tCons (tUn (rU fun i => V.int (-i)) (tC (V.int 1))) (tCons (tC (V.int 6)) (tCons (tC (V.int 7))
      (tCons (tOp (rI CPow fun i j => V.int (i ^ j.toNat)) (tC (V.int 10)) (tC (V.int 39))) (tCons (tC (V.str (Str.ofString ""))) (tCons (tC (V.str (Str.ofString "0"))) (tCons (tTup tNil) (tCons (tLst tNil) (tCons tDNewK (tCons (tTup (tCons (tC (V.int 0)) tNil))
      (tCons (tLst (tCons (tC (V.int 0)) tNil)) (tCons (tTup (tCons (tTup tNil) tNil)) (tCons (tDisp [(tC (V.int 0), tC (V.int 1))]) (tCons (tTup (tCons (tTup (tCons (tC (V.int 0)) (tCons (tC (V.int 1)) tNil))) tNil)) tNil))))))))))))))))))) [some (.ref b), none] oddA := by
      refine eqa_cons (eq_c fun _ => .non) (eqa_cons (eq_c fun _ => .bl _) (eqa_cons (eq_c fun _ => .bl _) (eqa_cons (eq_c fun _ => .int _) (eqa_cons (eq_c fun _ => .int _) (eqa_cons eq_neg (eqa_cons (eq_c fun _ => .int _) (eqa_cons (eq_c fun _ => .int _)
        (eqa_cons ?_ (eqa_cons (eq_c fun _ => .str _) (eqa_cons (eq_c fun _ => .str _) (eqa_cons (eq_tup eqa_nil (by decide)) (eqa_cons (eq_lst eqa_nil (by decide)) (eqa_cons eq_d0 (eqa_cons (eq_tup (eqa_cons (eq_c fun _ => .int _) eqa_nil) (by decide))
        (eqa_cons (eq_lst (eqa_cons (eq_c fun _ => .int _) eqa_nil) (by decide)) (eqa_cons (eq_tup (eqa_cons (eq_tup eqa_nil (by decide)) eqa_nil) (by decide)) (eqa_cons ?_ (eqa_cons (eq_tup (eqa_cons (eq_tup (eqa_cons (eq_c fun _ => .int _) (eqa_cons (eq_c fun _ => .int _) eqa_nil)) (by decide)) eqa_nil) (by decide)) eqa_nil))))))))))))))))))
      · exact fun H _ Q q => ⟨10, 39, rfl, rfl, ⟨by decide, by decide, by decide⟩, q _ H (Evl.Ex.refl H) (.int _)⟩
      · intro H B Q q p np
        refine ⟨upd_same, [(.inl 0, .int 1)], rfl, by decide, ?_⟩
        have e : mergeK ([] : List (Key × V)) [(.inl 0, .int 1)] = [(.inl 0, .int 1)] := rfl
        rw [e]
        refine q (.ref p) _ (fun a o ea => ?_) (Dq.dct (kvs := [(.inl 0, .int 1)]) (ds := [.int 1]) (offs_new (B.new np)) (.cons (.int _) .nil))
        rw [upd_ne (ne_of_none ea np), upd_ne (ne_of_none ea np)]
        exact ea
    have B0 : LiveX L H := ⟨hL, B.sys⟩
    refine to_qasg (to_lst ?_)
    show tCons _ _ [some (.ref b), none] H _
    refine eA H B0 _ fun as H1 s1 hA => ⟨by rw [dqAll_len hA, sizeLine_eq]; decide, fun e ne => ?_⟩
    refine to_nm (σ' := [some (.ref b), some (.ref e)]) rfl ?_
    have B1 := B0.same s1
    have s2 := same_upd (o := .lst as) ne
    have he : upd H1 e (.lst as) e = some (.lst as) := upd_same
    have hA2 := dqAll_same (offs_same s2) hA
    have B2 := B1.same s2
    have neb : e ≠ b := fun z => B1.new ne (z ▸ hb)
    have s12 := s1.trans s2
    generalize upd H1 e (.lst as) = H2 at s2 he hA2 B2 s12
    refine to_ret (to_call (to_cons ⟨_, rfl, to_cons ⟨_, rfl, to_lst ?_⟩⟩))
    have eB : EvQA K L (tCons (tTup (tCons (tC (V.int 0)) (tCons (tC (V.int 0)) tNil))) (tCons (tTup (tCons (tC (V.bl true)) tNil)) (tCons (tTup (tCons (tC (V.int 0)) (tCons (tC (V.int 0)) (tCons (tC (V.int 0)) tNil))))
        (tCons (tTup (tCons (tTup (tCons (tC (V.int 0)) (tCons (tC (V.int 0)) tNil))) (tCons (tTup (tCons (tC (V.int 1)) (tCons (tC (V.int 0)) tNil))) tNil))) (tCons (tC (V.str (Str.ofString "free"))) tNil)))))
        [some (.ref b), some (.ref e)] oddB :=
      eqa_cons (eq_tup (eqa_cons (eq_c fun _ => .int _) (eqa_cons (eq_c fun _ => .int _) eqa_nil)) (by decide)) (eqa_cons (eq_tup (eqa_cons (eq_c fun _ => .bl _) eqa_nil) (by decide)) (eqa_cons (eq_tup (eqa_cons (eq_c fun _ => .int _) (eqa_cons (eq_c fun _ => .int _) (eqa_cons (eq_c fun _ => .int _) eqa_nil))) (by decide))
        (eqa_cons (eq_tup (eqa_cons (eq_tup (eqa_cons (eq_c fun _ => .int _) (eqa_cons (eq_c fun _ => .int _) eqa_nil)) (by decide)) (eqa_cons (eq_tup (eqa_cons (eq_c fun _ => .int _) (eqa_cons (eq_c fun _ => .int _) eqa_nil)) (by decide)) eqa_nil)) (by decide)) (eqa_cons (eq_c fun _ => .str _) eqa_nil))))
    refine eB H2 B2 _ fun bs H3 s3 hB => ⟨by rw [dqAll_len hB, sizeLine_eq]; decide, fun f nf => ?_⟩
    have B3 := B2.same s3
    have s4 := same_upd (o := .lst bs) nf
    have lA : as.length = 19 := dqAll_len hA
    have lB : bs.length = 5 := dqAll_len hB
    refine ⟨e, f, as, bs, rfl, rfl, s4 _ _ (s3 _ _ he), upd_same, by rw [lA, lB, sizeLine_eq]; decide, fun l nl => ?_⟩
    have s5 := same_upd (o := .lst (as ++ bs)) nl
    have B4 := B3.same s4
    have B5 := B4.same s5
    have s35 := (s3.trans s4).trans s5
    have hAll : DqAll K (offs L (upd (upd H3 f (.lst bs)) l (.lst (as ++ bs)))) (as ++ bs) (oddA ++ oddB) := dqAll_app (dqAll_same (offs_same s35) hA2) (dqAll_same (offs_same (s4.trans s5)) hB)
    refine ⟨b, c, l, as ++ bs, rfl, B.same (s12.trans s35), upd_same, (fun z => B4.new nl (z ▸ hb)), by rw [List.length_append, lA, lB]; decide, by rw [List.length_append, lA, lB]; decide, fun v H' hv B' k' => ?_⟩
    obtain ⟨i, hi⟩ := List.getElem?_of_mem hv
    obtain ⟨d, hd, q⟩ := dqAll_vat hAll hi
    exact k d v H' (odd_all d (List.mem_of_getElem? hd)) B' ((But.of_same (s12.trans s35)).trans k') (dq_same (offs_but hb k') q)
end
end K11

namespace K11
open PySem PySem.Spec PyProof.Rows L2 On L11
section
variable {P : Program} {w : World} {K : PySem.W.Frag} {mg : Str → Option Value} {base : Heap} {A : Ads}
def BentD (d d' : PyData) : Prop := (plainQ d = true → plainQ d' = true) ∧ d'.depth ≤ d.depth + 4 ∧ wq d' ≤ 2 * wq d + 120
def mk (t : Bool) (xs : List PyData) : PyData := if t = true then .tuple xs else .list xs
theorem depthAll_mem {d : PyData} : ∀ {xs : List PyData}, d ∈ xs → d.depth ≤ PyData.depthAll xs
  | x :: xs, h => by
    rw [PyData.depthAll]
    rcases List.mem_cons.mp h with rfl | h
    · omega
    · have := depthAll_mem h
      omega
theorem mk_depth (t : Bool) (xs : List PyData) : (mk t xs).depth = PyData.depthAll xs + 1 := by
  cases t
  · show (PyData.list xs).depth = _
    rw [PyData.depth]
    try omega
  · show (PyData.tuple xs).depth = _
    rw [PyData.depth]
    try omega
theorem mk_wq (t : Bool) (xs : List PyData) : wq (mk t xs) = 4 + wqs xs := by
  cases t
  · show wq (PyData.list xs) = _
    rw [wq]
  · show wq (PyData.tuple xs) = _
    rw [wq]
theorem mk_plain (t : Bool) (xs : List PyData) : plainQ (mk t xs) = plainQs xs := by
  cases t
  · show plainQ (PyData.list xs) = _
    rw [plainQ]
  · show plainQ (PyData.tuple xs) = _
    rw [plainQ]
theorem bent_seq {t t' : Bool} {xs ys : List PyData} (h1 : plainQs xs = true → ∀ y ∈ ys, plainQ y = true) (h2 : ∀ y ∈ ys, y.depth ≤ PyData.depthAll xs + 4) (h3 : wqs ys ≤ 2 * wqs xs + 120) : BentD (mk t xs) (mk t' ys) := by
  refine ⟨fun h => ?_, ?_, ?_⟩
  · rw [mk_plain] at h ⊢
    exact plainQs_iff.mpr (h1 h)
  · rw [mk_depth, mk_depth]
    have := depthAll_le h2
    omega
  · rw [mk_wq, mk_wq]
    omega
theorem wqs_set {y : PyData} : ∀ {xs : List PyData} {i : Nat} {x : PyData}, xs[i]? = some x → wqs (xs.set i y) + wq x = wqs xs + wq y
  | a :: xs, 0, x, h => by
    cases h
    rw [List.set_cons_zero, wqs, wqs]
    omega
  | a :: xs, i + 1, x, h => by
    have := wqs_set (y := y) (xs := xs) (i := i) h
    rw [List.set_cons_succ, wqs, wqs]
    omega
theorem wqs_erase : ∀ (xs : List PyData) (i : Nat), wqs (xs.eraseIdx i) ≤ wqs xs
  | [], i => by simp
  | a :: xs, 0 => by
    rw [List.eraseIdx_cons_zero, wqs]
    omega
  | a :: xs, i + 1 => by
    have := wqs_erase xs i
    rw [List.eraseIdx_cons_succ, wqs, wqs]
    omega
theorem wqs_ins (xs : List PyData) (i : Nat) (y : PyData) : wqs (xs.take i ++ [y] ++ xs.drop i) = wqs xs + wq y + 2 := by
  have e : wqs (xs.take i) + wqs (xs.drop i) = wqs xs := by rw [← wqs_app, List.take_append_drop]
  have e2 : wqs [y] = wq y + 2 := by simp [wqs]
  rw [wqs_app, wqs_app, e2]
  omega
theorem mem_ins {xs : List PyData} {i : Nat} {y z : PyData} (h : z ∈ xs.take i ++ [y] ++ xs.drop i) : z ∈ xs ∨ z = y := by
  rw [List.mem_append, List.mem_append, List.mem_singleton] at h
  rcases h with (h | h) | h
  · exact .inl (List.mem_of_mem_take h)
  · exact .inr h
  · exact .inl (List.mem_of_mem_drop h)
theorem bent_same {t t' : Bool} {xs : List PyData} : BentD (mk t xs) (mk t' xs) := bent_seq (fun h => plainQs_iff.mp h) (fun y hy => Nat.le_trans (depthAll_mem hy) (by omega)) (by omega)
theorem bent_pop {t t' : Bool} {xs : List PyData} {i : Nat} : BentD (mk t xs) (mk t' (xs.eraseIdx i)) := bent_seq (fun h y hy => plainQs_iff.mp h y (List.mem_of_mem_eraseIdx hy)) (fun y hy => Nat.le_trans (depthAll_mem (List.mem_of_mem_eraseIdx hy)) (by omega)) (by
  have := wqs_erase xs i
  omega)
theorem bent_twice {t t' : Bool} {xs : List PyData} {i : Nat} {y : PyData} (hy : y ∈ xs) : BentD (mk t xs) (mk t' (xs.take i ++ [y] ++ xs.drop i)) := by
  have hm : ∀ z, z ∈ xs.take i ++ [y] ++ xs.drop i → z ∈ xs := fun z hz => by
    rcases mem_ins hz with h | rfl
    · exact h
    · exact hy
  refine bent_seq (fun h z hz => plainQs_iff.mp h z (hm z hz)) (fun z hz => Nat.le_trans (depthAll_mem (hm z hz)) (by omega)) ?_
  rw [wqs_ins]
  have := wqs_mem hy
  omega
theorem bent_odd {t t' : Bool} {xs : List PyData} {i : Nat} {y : PyData} (hy : OddD y) : BentD (mk t xs) (mk t' (xs.take i ++ [y] ++ xs.drop i)) := by
  refine bent_seq (fun h z hz => ?_) (fun z hz => ?_) ?_
  · rcases mem_ins hz with h' | rfl
    · exact plainQs_iff.mp h z h'
    · exact hy.1
  · rcases mem_ins hz with h' | rfl
    · exact Nat.le_trans (depthAll_mem h') (by omega)
    · have := hy.2.1
      omega
  · rw [wqs_ins]
    have := hy.2.2
    omega
theorem bent_at {t t' : Bool} {xs : List PyData} {i : Nat} {x x' : PyData} (hx : xs[i]? = some x) (h : BentD x x') : BentD (mk t xs) (mk t' (xs.set i x')) := by
  have hm := List.mem_of_getElem? hx
  refine bent_seq (fun hp z hz => ?_) (fun z hz => ?_) ?_
  · rcases List.mem_or_eq_of_mem_set hz with h' | rfl
    · exact plainQs_iff.mp hp z h'
    · exact h.1 (plainQs_iff.mp hp _ hm)
  · rcases List.mem_or_eq_of_mem_set hz with h' | rfl
    · exact Nat.le_trans (depthAll_mem h') (by omega)
    · have := h.2.1
      have := depthAll_mem hm
      omega
  · have := wqs_set (y := x') hx
    have := wqs_mem hm
    have := h.2.2
    omega
theorem bent_swap {t t' : Bool} {xs : List PyData} {i j : Nat} {x y : PyData} (hx : xs[i]? = some x) (hy : xs[j]? = some y) : BentD (mk t xs) (mk t' ((xs.set i y).set j x)) := by
  have hm : ∀ z, z ∈ (xs.set i y).set j x → z ∈ xs := fun z hz => by
    rcases List.mem_or_eq_of_mem_set hz with h' | rfl
    · rcases List.mem_or_eq_of_mem_set h' with h' | rfl
      · exact h'
      · exact List.mem_of_getElem? hy
    · exact List.mem_of_getElem? hx
  refine bent_seq (fun hp z hz => plainQs_iff.mp hp z (hm z hz)) (fun z hz => Nat.le_trans (depthAll_mem (hm z hz)) (by omega)) ?_
  have h1 := wqs_set (y := y) hx
  have hj : (xs.set i y)[j]? = some y := by
    by_cases e : i = j
    · subst e
      have := (List.getElem?_eq_some_iff.mp hx).1
      simp [this]
    · rw [List.getElem?_set_ne e]
      exact hy
  have h2 := wqs_set (y := x) hj
  omega
theorem bent_oddT {d o : PyData} (h : OddD o) : BentD d o := ⟨fun _ => h.1, by have := h.2.1; omega, by have := h.2.2; omega⟩
theorem bent_int {i j : Int} (h : inR (-9) 9 (.int i) = true) (hj : -5 ≤ j ∧ j ≤ 5) : BentD (.int i) (.int (i + j)) := by
  have hi : (decide ((-9 : Int) ≤ i) && decide (i ≤ 9)) = true := h
  simp only [Bool.and_eq_true, decide_eq_true_eq] at hi
  refine ⟨fun _ => ?_, ?_, ?_⟩
  · rw [plainQ]
    refine decide_eq_true ?_
    have : (i + j).natAbs < 100 := by omega
    exact Nat.lt_trans this (by decide)
  · rw [PyData.depth, PyData.depth]
    omega
  · have : (i + j).natAbs < 1000000 := by omega
    rw [wq, if_pos this]
    omega
def isSeq : PyData → Bool
  | .tuple _ => true
  | .list _ => true
  | _ => false
def isList : PyData → Bool
  | .list _ => true
  | _ => false
theorem isK_list (d : PyData) : isK d "list" = isList d := by
  cases d <;> simp only [isK, On.kindOf, isList] <;> decide +kernel
theorem isTuple_mk (t : Bool) (xs : List PyData) : isTuple (mk t xs) = t := by cases t <;> rfl
theorem dq_mkS {K : PySem.W.Frag} {H : Hp} {v : V} {t : Bool} {ds : List PyData} (h : Dq K H v (mk t ds)) : ∃ a xs, v = .ref a ∧ DqAll K H xs ds ∧ (H a = some (.tup xs) ∨ H a = some (.lst xs)) := by
  cases t with
  | true =>
    obtain ⟨a, xs, e, h1, h2⟩ := dq_tup h
    exact ⟨a, xs, e, h2, .inl h1⟩
  | false =>
    obtain ⟨a, xs, e, h1, _, h2⟩ := dq_lst h
    exact ⟨a, xs, e, h2, .inr h1⟩
theorem sq_or {K : PySem.W.Frag} {H : Hp} {a : Addr} {xs : List V} (h : H a = some (.tup xs) ∨ H a = some (.lst xs)) : SqL K H a xs ∨ SqT K H a xs := by
  rcases h with h | h
  · exact .inr (SqT.of h)
  · exact .inl (SqL.of h)
theorem at_nat {α : Type} {xs : List α} {i : Int} {x : α} (h0 : 0 ≤ i) (h : xs[i.toNat]? = some x) : atI xs i = some x := by
  have hl := (List.getElem?_eq_some_iff.mp h).1
  unfold atI ixN
  rw [if_pos h0, if_pos (by omega)]
  exact h
theorem ixN_nat {n : Nat} {i : Int} (h0 : 0 ≤ i) (h : i < n) : ixN n i = some i.toNat := by
  unfold ixN
  rw [if_pos h0, if_pos h]
theorem but_upd {b r : Addr} {H H' : Hp} {o : HO} (k : But b H H') (h : H r = Option.none) : But b H (upd H' r o) := fun a u n e => by
  rw [upd_ne (ne_of_none e h)]
  exact k a u n e
/-- a row of our own, being changed -/
structure RowAt (K : PySem.W.Frag) (H0 H : Hp) (L : List Addr) (b c r : Addr) (zs : List V) (ds : List PyData) : Prop where
  bag : Bag H b c
  but : But b H0 H
  new : H0 r = Option.none
  nb : r ≠ b
  nc : r ≠ c
  inL : b ∈ L
  liv : Live L H
  at_ : H r = some (.lst zs)
  dat : DqAll K (offs (r :: L) H) zs ds
theorem RowAt.inR {K : PySem.W.Frag} {H0 H : Hp} {L : List Addr} {b c r : Addr} {zs : List V} {ds : List PyData} (R : RowAt K H0 H L b c r zs ds) : b ∈ r :: L := List.mem_cons_of_mem _ R.inL
theorem RowAt.go {K : PySem.W.Frag} {H0 H H' : Hp} {L : List Addr} {b c r : Addr} {zs : List V} {ds : List PyData} (R : RowAt K H0 H L b c r zs ds) (B : Bag H' b c) (k : But b H H') : RowAt K H0 H' L b c r zs ds :=
  ⟨B, R.but.trans k, R.new, R.nb, R.nc, R.inL, R.liv.but B k, k _ _ R.nb R.at_, dqAll_same (offs_but R.inR k) R.dat⟩
theorem RowAt.put {K : PySem.W.Frag} {H0 H : Hp} {L : List Addr} {b c r : Addr} {zs ws : List V} {ds es : List PyData} (R : RowAt K H0 H L b c r zs ds) (h : DqAll K (offs (r :: L) H) ws es) : RowAt K H0 (upd H r (.lst ws)) L b c r ws es :=
  ⟨R.bag.upd R.nb R.nc R.at_, but_upd R.but R.new, R.new, R.nb, R.nc, R.inL, fun a ha e => by
    by_cases z : a = r
    · rw [z, upd_same] at e
      cases e
    · rw [upd_ne z] at e
      exact R.liv a ha e, upd_same, dqAll_same (offs_put List.mem_cons_self) h⟩
theorem RowAt.lst {K : PySem.W.Frag} {H0 H : Hp} {L : List Addr} {b c r : Addr} {zs : List V} {ds : List PyData} (R : RowAt K H0 H L b c r zs ds) (n : r ∉ L) : Dq K (offs L H) (.ref r) (K11.mk false ds) :=
  .lst (by rw [offs_ne n]; exact R.at_) (fun z => by
    obtain ⟨_, φ, h4⟩ := R.bag
    rw [← z, R.at_] at h4
    cases h4) (dqAll_same offs_cons R.dat)
theorem RowAt.tup {K : PySem.W.Frag} {H0 H : Hp} {L : List Addr} {b c r l : Addr} {zs : List V} {ds : List PyData} (R : RowAt K H0 H L b c r zs ds) (nl : H l = Option.none) : Dq K (offs L (upd H l (.tup zs))) (.ref l) (K11.mk true ds) :=
  .tup (offs_new (R.liv.new nl)) (dqAll_same (offs_same (same_upd nl)) (dqAll_same offs_cons R.dat))
theorem kit_seq {K : PySem.W.Frag} (d : PyData) : PySem.W.kitAny K (.type (kindOf d)) [.type "tuple", .type "list"] = some (isSeq d) := by
  have k1 := kit_ty (K := K) (kit_any d (T := "tuple") (by simp))
  have k2 := kit_ty (K := K) (kit_any d (T := "list") (by simp))
  refine kitAny_cons k1 (r := isSeq d) (fun h => kitAny_cons k2 (r := isSeq d) (fun h2 => ?_) fun h2 => ?_) fun h => ?_
  · rw [kitAny_nil]
    rw [isK_tuple] at h
    rw [isK_list] at h2
    cases d with
    | tuple xs => cases h
    | list xs => cases h2
    | _ => rfl
  · rw [isK_list] at h2
    cases d with
    | list xs => rfl
    | _ => cases h2
  · rw [isK_tuple] at h
    cases d with
    | tuple xs => rfl
    | _ => cases h
theorem seq_mk {d : PyData} (h : isSeq d = true) : ∃ xs, d = mk (isTuple d) xs := by
  cases d with
  | tuple xs => exact ⟨xs, rfl⟩
  | list xs => exact ⟨xs, rfl⟩
  | _ => cases h
/-- _law_bent(bag, thing), the thing not deeper than n -/
def spBent (K : PySem.W.Frag) : Nat → Sp
  | 0 => fun _ _ _ _ => False
  | n + 1 => fun vs H Q _ => ∃ (b c : Addr) (L : List Addr) (v : V) (d : PyData), vs = [.ref b, v] ∧ Bag H b c ∧ b ∈ L ∧ Live L H ∧ Dq K (offs L H) v d ∧ d.depth < n + 1 ∧ wq d ≤ 60000 ∧
    ∀ (d' : PyData) (v' : V) (H' : Hp), BentD d d' → Bag H' b c → But b H H' → Dq K (offs L H') v' d' → Q v' H'
theorem ok_bent0 (T : Txt K mg A) : FnOk P w K mg base CX0 4 A.a_law_bent A.d_law_bent ["_law_bag_here", "_law_thing"] (spBent K 0) := by
  refine T._law_bent.F.ok sc__law_bent (fun vs H Q E h => ?_) (fun cdv A' outer s H vs Q E hr h => ?_)
  · exact h.elim
  · exact h.elim
theorem ok_bentS (T : Txt K mg A) (G_law_is_int : FnOk P w K mg base CX0 1 A.a_law_is_int A.d_law_is_int ["_law_thing", "_law_low", "_law_high"] (spB K 3 fInR)) (G_law_take : FnOk P w K mg base CX0 1 A.a_law_take A.d_law_take ["_law_bag_here", "_law_upto"] spTake) (G_law_some : FnOk P w K mg base CX0 2 A.a_law_some A.d_law_some ["_law_bag_here", "_law_things"] (spSome K)) (G_law_odd : FnOk P w K mg base CX0 3 A.a_law_odd A.d_law_odd ["_law_bag_here"] (spOdd K)) (n : Nat) (Gself : FnOk P w K mg base CX0 (4 + n) A.a_law_bent A.d_law_bent ["_law_bag_here", "_law_thing"] (spBent K n)) :
    FnOk P w K mg base CX0 (4 + (n + 1)) A.a_law_bent A.d_law_bent ["_law_bag_here", "_law_thing"] (spBent K (n + 1)) := by
  refine T._law_bent.F.ok sc__law_bent (fun vs H Q E h => ?_) (fun cdv A' outer s H vs Q E hr h => ?_)
  · obtain ⟨b, c, L, v, d, rfl, _⟩ := h
    rfl
  · obtain ⟨b, c, L, v, d, rfl, B, hb, hL, hv, hdp, hwq, k⟩ := h
    have hr : Room (4 + n) _ := hr
    have hrself := hr
    refine ⟨_, (Evl.pss_cut (ps_if (PW.pt (pw_and (pt_val (pe_call G_law_is_int (hr.mono (by first | decide | omega)) rfl T._law_is_int.g T._law_is_int.F.kp T._law_is_int.b .nil pass0 (pa_cons (pv 1) (pa_cons (pe_un un_neg pe_int) (pa_cons pe_int pa_nil))))) (pw_and1 (pt_cmpR op_eq (pe_call G_law_take (hr.mono (by first | decide | omega)) rfl T._law_take.g T._law_take.F.kp T._law_take.b .nil pass0 (pa_cons (pv 0) (pa_cons pe_int pa_nil))) pe_int (nomark _))))) (pss_one (ps_ret (pe_op op_add (pv 1) (pe_call G_law_some (hr.mono (by first | decide | omega)) rfl T._law_some.g T._law_some.F.kp T._law_some.b .nil pass0 (pa_cons (pv 0) (pa_cons (pe_lst (pa_cons pe_int (pa_cons (pe_un un_neg pe_int) (pa_cons pe_int pa_nil)))) pa_nil)))))) pss_nil)
      (Evl.pss_cut (ps_if (PW.pt (pw_or (pt_not (pt_val (pe_callB (kIsiT K) (by rfl) T.nb_isinstance (by decide +kernel) (pa_cons (pv 1) (pa_cons (pe_tup (pa_cons (pe_bltn (v := .ty "tuple") (u := .type "tuple") rfl (T.nb_tuple) (by decide +kernel) rfl) (pa_cons (pe_bltn (v := .ty "list") (u := .type "list") rfl (T.nb_list) (by decide +kernel) rfl) pa_nil))) pa_nil))))) (pw_or (pt_cmpR op_eq (pe_callB (kLen K) (by rfl) T.nb_len PySem.boot_len (pa_cons (pv 1) pa_nil)) pe_int (nomark _)) (pw_or1 (pt_cmpR op_eq (pe_call G_law_take (hr.mono (by first | decide | omega)) rfl T._law_take.g T._law_take.F.kp T._law_take.b .nil pass0 (pa_cons (pv 0) (pa_cons pe_int pa_nil))) pe_int (nomark _)))))) (pss_one (ps_ret (pe_call G_law_odd (hr.mono (by first | decide | omega)) rfl T._law_odd.g T._law_odd.F.kp T._law_odd.b .nil pass0 (pa_cons (pv 0) pa_nil)))) pss_nil)
      (pss_cons (ps_asg (pe_tup (pa_cons (pe_call G_law_take (hr.mono (by first | decide | omega)) rfl T._law_take.g T._law_take.F.kp T._law_take.b .nil pass0 (pa_cons (pv 0) (pa_cons (pe_callB (kLen K) (by rfl) T.nb_len PySem.boot_len (pa_cons (pv 1) pa_nil)) pa_nil))) (pa_cons (pe_call G_law_take (hr.mono (by first | decide | omega)) rfl T._law_take.g T._law_take.F.kp T._law_take.b .nil pass0 (pa_cons (pv 0) (pa_cons (pe_callB (kLen K) (by rfl) T.nb_len PySem.boot_len (pa_cons (pv 1) pa_nil)) pa_nil))) (pa_cons (pe_callTy (kList K) (by rfl) T.nb_list (by decide +kernel) (pa_cons (pv 1) pa_nil)) (pa_cons (pe_call G_law_take (hr.mono (by first | decide | omega)) rfl T._law_take.g T._law_take.F.kp T._law_take.b .nil pass0 (pa_cons (pv 0) (pa_cons pe_int pa_nil))) pa_nil))))) (kPgT K (n := 4) (pgs_cons (pg_name (i := 2) sc__law_bent.nd rfl (by first | exact Or.inl rfl | exact Or.inr rfl)) (pgs_cons (pg_name (i := 3) sc__law_bent.nd rfl (by first | exact Or.inl rfl | exact Or.inr rfl)) (pgs_cons (pg_name (i := 4) sc__law_bent.nd rfl (by first | exact Or.inl rfl | exact Or.inr rfl)) (pgs_cons (pg_name (i := 5) sc__law_bent.nd rfl (by first | exact Or.inl rfl | exact Or.inr rfl)) pgs_nil))))))
      (Evl.pss_cut (ps_if (pt_cmpR op_eq (pv 5) pe_int (nomark _)) (pss_one (ps_ret (pe_ifExp (pt_val (pe_callB (kIsi K) (by rfl) T.nb_isinstance (by decide +kernel) (pa_cons (pv 1) (pa_cons (pe_bltn (v := .ty "tuple") (u := .type "tuple") rfl (T.nb_tuple) (by decide +kernel) rfl) pa_nil)))) (pv 4) (pe_callTy (kTuple K) (by rfl) T.nb_tuple (by decide +kernel) (pa_cons (pv 4) pa_nil))))) pss_nil)
      (Evl.pss_cut (ps_if (pt_cmpR op_eq (pv 5) pe_int (nomark _)) (pss_one (ps_expr (pe_bm PySem.F.plainAttrs_list PySem.F.slot_list_pop PySem.F.type_list_pop mt_popAt (pv 4) (pa_cons (pv 2) pa_nil)))) (pss_one (ps_if (pt_cmpR op_eq (pv 5) pe_int (nomark _)) (pss_one (ps_expr (pe_bm PySem.F.plainAttrs_list PySem.F.slot_list_insert PySem.F.type_list_insert mt_insert (pv 4) (pa_cons (pv 2) (pa_cons (pe_ix (kIxL K) (pv 4) (pv 3) (fun _ _ => rfl)) pa_nil))))) (pss_one (ps_if (pt_cmpR op_eq (pv 5) pe_int (nomark _)) (pss_one (ps_asg (pe_tup (pa_cons (pe_ix (kIxL K) (pv 4) (pv 3) (fun _ _ => rfl)) (pa_cons (pe_ix (kIxL K) (pv 4) (pv 2) (fun _ _ => rfl)) pa_nil))) (kPgT K (n := 2) (pgs_cons (pg_sub (pv 4) (pv 2) set_list) (pgs_cons (pg_sub (pv 4) (pv 3) set_list) pgs_nil))))) (pss_one (ps_if (pt_cmpR op_eq (pv 5) pe_int (nomark _)) (pss_one (ps_expr (pe_bm PySem.F.plainAttrs_list PySem.F.slot_list_insert PySem.F.type_list_insert mt_insert (pv 4) (pa_cons (pe_call G_law_take (hr.mono (by first | decide | omega)) rfl T._law_take.g T._law_take.F.kp T._law_take.b .nil pass0 (pa_cons (pv 0) (pa_cons (pe_op op_add (pe_callB (kLen K) (by rfl) T.nb_len PySem.boot_len (pa_cons (pv 4) pa_nil)) pe_int) pa_nil))) (pa_cons (pe_call G_law_odd (hr.mono (by first | decide | omega)) rfl T._law_odd.g T._law_odd.F.kp T._law_odd.b .nil pass0 (pa_cons (pv 0) pa_nil)) pa_nil))))) (pss_one (ps_asg (pe_call Gself hrself rfl T._law_bent.g T._law_bent.F.kp T._law_bent.b .nil pass0 (pa_cons (pv 0) (pa_cons (pe_ix (kIxL K) (pv 4) (pv 2) (fun _ _ => rfl)) pa_nil))) (pg_sub (pv 4) (pv 2) set_list))))))))))
      (pss_one (ps_ret (pe_ifExp (pt_val (pe_callB (kIsi K) (by rfl) T.nb_isinstance (by decide +kernel) (pa_cons (pv 1) (pa_cons (pe_bltn (v := .ty "tuple") (u := .type "tuple") rfl (T.nb_tuple) (by decide +kernel) rfl) pa_nil)))) (pe_callTy (kTuple K) (by rfl) T.nb_tuple (by decide +kernel) (pa_cons (pv 4) pa_nil)) (pv 4))))))))), ?_⟩
    have RO : ∀ (D : Ends) H1, D.rt = Q → Bag H1 b c → But b H H1 → tRet (tCall (spOdd K) [] E0 (tCons (tVar 0) tNil)) D [some (.ref b), some v, none, none, none, none] H1 := fun D H1 hD B1 k1 => by
      refine to_ret (to_call (to_cons ⟨_, rfl, b, c, L, rfl, B1, hb, hL.but B1 k1, fun o vo H2 ho B2 k2 q => ?_⟩))
      rw [hD]
      exact k o vo H2 (bent_oddT ho) B2 (k1.trans k2) q
    refine ⟨fun σ' H' => σ' = [some (.ref b), some v, none, none, none, none] ∧ Bag H' b c ∧ But b H H', ?_, ?_⟩
    · refine ⟨_, rfl, 9, rfl, [d, .int (-9), .int 9], inR (-9) 9 d, .cons (dq_same offs_sub hv) (.cons (.int _) (.cons (.int _) .nil)), rfl, rfl, fun H1 s1 => ⟨_, rfl, ?_⟩⟩
      refine ite2 (fun hi => ?_) (fun hi => ?_)
      · have B1 := B.same s1
        refine ⟨_, rfl, b, c, 2, rfl, B1, by decide, small_log (by decide) (by decide), fun u H2 u0 u1 B2 k2 => ⟨rfl, _, rfl, ?_⟩⟩
        have k02 : But b H H2 := (But.of_same s1).trans k2
        refine ite2 (fun _ => ?_) (fun _ => ⟨rfl, B2, k02⟩)
        obtain ⟨i, rfl⟩ : ∃ i, d = .int i := by
          cases d with
          | int i => exact ⟨i, rfl⟩
          | _ => cases hi
        have ev := dq_int hv
        subst ev
        refine ⟨_, rfl, _, rfl, 1, rfl, (by decide), fun p np => ⟨b, c, p, _, rfl, B2.same (same_upd np), upd_same, B2.ne_new np, by decide, by decide, fun y H3 hy B3 k3 => ?_⟩⟩
        obtain ⟨j, rfl, hj⟩ : ∃ j : Int, y = .int j ∧ -5 ≤ j ∧ j ≤ 5 := by
          simp only [List.mem_cons, List.not_mem_nil, or_false] at hy
          rcases hy with h | h | h <;> exact ⟨_, h, by decide, by decide⟩
        refine ⟨_, _, rfl, rfl, k (.int (i + j)) _ H3 (bent_int hi hj) B3 (k02.trans ((But.of_same (same_upd np)).trans k3)) (.int _)⟩
      · exact ⟨rfl, B.same s1, But.of_same s1⟩
    rintro σ' H1 ⟨rfl, B1, k1⟩
    have hv1 := dq_same (offs_but hb k1) hv
    refine ⟨fun σ' H' => σ' = [some (.ref b), some v, none, none, none, none] ∧ Bag H' b c ∧ But b H H' ∧ ∃ t xs, d = mk t xs ∧ xs ≠ [], ?_, ?_⟩
    · refine ⟨_, rfl, (by decide), fun p np => ⟨v, p, [.ty "tuple", .ty "list"], .type (kindOf d), [.type "tuple", .type "list"], isSeq d, rfl, upd_same, .cons (.ty _) (.cons (.ty _) .nil), tyx_of (dq_same (same_upd np) (dq_same offs_sub hv1)), kit_seq d, _, rfl, ?_⟩⟩
      have B2 := B1.same (same_upd (o := .tup [.ty "tuple", .ty "list"]) np)
      have k2 := k1.trans (But.of_same (same_upd (o := .tup [.ty "tuple", .ty "list"]) np))
      generalize upd H1 p (.tup [.ty "tuple", .ty "list"]) = H2 at B2 k2
      refine ite2 (fun hs => iteT (RO _ H2 rfl B2 k2)) (fun hs => ?_)
      obtain ⟨t, xs, rfl⟩ : ∃ t xs, d = mk t xs := by
        cases h : isSeq d with
        | true =>
          obtain ⟨xs, e⟩ := seq_mk h
          exact ⟨_, xs, e⟩
        | false =>
          rw [h] at hs
          exact absurd rfl hs
      obtain ⟨a, ys, rfl, hd, ha⟩ := dq_mkS (dq_same (offs_but hb k2) hv)
      have ha2 : H2 a = some (.tup ys) ∨ H2 a = some (.lst ys) := ha.imp (fun h => offs_sub _ _ h) fun h => offs_sub _ _ h
      have hl := dqAll_len hd
      refine ⟨_, rfl, a, ys, rfl, sq_or ha2, rfl, _, rfl, ?_⟩
      refine ite2 (fun _ => iteT (RO _ H2 rfl B2 k2)) (fun hz => ?_)
      refine ⟨_, rfl, b, c, 7, rfl, B2, by decide, small_log (by decide) (by decide), fun u H3 u0 u1 B3 k3 => ⟨rfl, _, rfl, ?_⟩⟩
      refine ite2 (fun _ => RO _ H3 rfl B3 (k2.trans k3)) (fun _ => ⟨rfl, B3, k2.trans k3, t, xs, rfl, ?_⟩)
      rintro rfl
      rw [List.length_nil] at hl
      rw [hl] at hz
      exact hz rfl
    clear RO hv1 k1 B1
    rintro σ' H1 ⟨rfl, B1, k1, t, xs, rfl, hne⟩
    obtain ⟨a, ys, rfl, hd, ha⟩ := dq_mkS (dq_same (offs_but hb k1) hv)
    have hl := dqAll_len hd
    have nab : a ≠ b := by
      rintro rfl
      rcases ha with h | h <;> exact offs_some h hb
    have ha1 : H1 a = some (.tup ys) ∨ H1 a = some (.lst ys) := ha.imp (fun h => offs_sub _ _ h) fun h => offs_sub _ _ h
    have haK : ∀ H', But b H1 H' → H' a = some (.tup ys) ∨ H' a = some (.lst ys) := fun H' k' => ha1.imp (fun h => k' _ _ nab h) fun h => k' _ _ nab h
    have hpos : 0 < ys.length := by
      rw [hl]
      exact List.length_pos_iff.mpr hne
    have hsz : ys.length ≤ 30000 := by
      have h1 := wqs_len xs
      rw [mk_wq] at hwq
      omega
    refine ⟨_, rfl, _, rfl, a, ys, rfl, sq_or ha1, b, c, _, rfl, B1, by omega, small_log (by omega) (by omega), fun u H2 u0 u1 B2 k2 => ?_⟩
    refine ⟨_, rfl, _, rfl, a, ys, rfl, sq_or (haK _ k2), b, c, _, rfl, B2, by omega, small_log (by omega) (by omega), fun x H3 x0 x1 B3 k3 => ?_⟩
    have k13 := k2.trans k3
    refine ⟨_, rfl, a, ys, rfl, sq_or (haK _ k13), fun r nr => ?_⟩
    have k03 := k1.trans k13
    have nrb : r ≠ b := B3.ne_new nr
    have r0 : H r = Option.none := by
      cases z : H r with
      | none => rfl
      | some o =>
        rw [k03 _ _ nrb z] at nr
        cases nr
    have L3 : Live L H3 := hL.but B3 k03
    have nrL : r ∉ L := L3.new nr
    have R3 : RowAt K H (upd H3 r (.lst ys)) L b c r ys xs := ⟨B3.same (same_upd nr), but_upd k03 r0, r0, nrb, B3.ne_cells nr, hb, L3.same (same_upd nr), upd_same, dqAll_same (offs_add nr) (dqAll_same (offs_but hb k13) hd)⟩
    refine ⟨_, rfl, b, c, 12, rfl, R3.bag, by decide, small_log (by decide) (by decide), fun way H5 way0 way1 B5 k5 => ?_⟩
    have R5 := R3.go B5 k5
    refine ⟨(by show 4 ≤ sizeLine; decide), fun q nq => ⟨q, _, rfl, SqT.of upd_same, rfl, ?_⟩⟩
    have R6 := R5.go (B5.same (same_upd (o := .tup [.int u, .int x, .ref r, .int way]) nq)) (But.of_same (same_upd nq))
    generalize upd H5 q (.tup [.int u, .int x, .ref r, .int way]) = H6 at R6
    -- what is returned of a row
    have isT : ∀ (σ' : L2.St) H', σ'[1]? = some (some (.ref a)) → But b H H' → Evl.Ev (tCB (rIsi K) (tCons (tVar 1) (tCons (tC (.ty "tuple")) tNil))) σ' H' (.bl t) := fun σ' H' e k' => by
      have z := ev_isi (T := "tuple") (by simp) (Evl.ev_var (σ := σ') (H := H') e) (dq_same offs_sub (dq_same (offs_but hb k') hv))
      rwa [isK_tuple, isTuple_mk] at z
    have RL : ∀ (σ' : L2.St) H' zs ds, σ'[4]? = some (some (.ref r)) → RowAt K H H' L b c r zs ds → (∀ t', BentD (mk t xs) (mk t' ds)) → tVar 4 σ' H' Q := fun σ' H' zs ds e R h => by
      exact ⟨_, e, k _ _ H' (h false) R.bag R.but (R.lst nrL)⟩
    have RT : ∀ (σ' : L2.St) H' zs ds, σ'[4]? = some (some (.ref r)) → RowAt K H H' L b c r zs ds → (∀ t', BentD (mk t xs) (mk t' ds)) → tCB (rTupOf K) (tCons (tVar 4) tNil) σ' H' Q := fun σ' H' zs ds e R h => by
      exact ⟨_, e, r, zs, rfl, .inl ⟨SqL.of R.at_, fun l nl => k _ _ _ (h true) (R.bag.same (same_upd nl)) (R.but.trans (But.of_same (same_upd nl))) (R.tup nl)⟩⟩
    refine ⟨_, _, rfl, _, _, rfl, _, _, rfl, _, _, rfl, rfl, ?_⟩
    refine ⟨fun σ' H' => σ' = [some (.ref b), some (.ref a), some (.int u), some (.int x), some (.ref r), some (.int way)] ∧ RowAt K H H' L b c r ys xs, ?_, ?_⟩
    · refine ⟨_, rfl, rfl, _, rfl, ite2 (fun _ => ?_) (fun _ => ⟨rfl, R6⟩)⟩
      refine isT _ H6 rfl R6.but H6 (Evl.Ex.refl _) _ fun H7 e7 => ⟨_, rfl, ?_⟩
      have R7 := R6.go (R6.bag.same e7) (But.of_same e7)
      exact ite2 (fun _ => RL _ H7 ys xs rfl R7 fun t' => bent_same) (fun _ => RT _ H7 ys xs rfl R7 fun t' => bent_same)
    clear R6 R5 R3
    rintro σ' H7 ⟨rfl, R7⟩
    have hu : ∃ y dy, ys[u.toNat]? = some y ∧ xs[u.toNat]? = some dy ∧ Dq K (offs (r :: L) H7) y dy := by
      have h1 : u.toNat < ys.length := by omega
      have e := List.getElem?_eq_getElem h1
      obtain ⟨dy, e2, q⟩ := dqAll_vat R7.dat e
      exact ⟨_, dy, e, e2, q⟩
    have hx : ∃ y dy, ys[x.toNat]? = some y ∧ xs[x.toNat]? = some dy ∧ Dq K (offs (r :: L) H7) y dy := by
      have h1 : x.toNat < ys.length := by omega
      have e := List.getElem?_eq_getElem h1
      obtain ⟨dy, e2, q⟩ := dqAll_vat R7.dat e
      exact ⟨_, dy, e, e2, q⟩
    obtain ⟨yu, du, hyu, hdu, qu⟩ := hu
    obtain ⟨yx, dx, hyx, hdx, qx⟩ := hx
    have u63 : u < 2 ^ 63 := by omega
    refine ⟨fun σ' H' => σ' = [some (.ref b), some (.ref a), some (.int u), some (.int x), some (.ref r), some (.int way)] ∧ ∃ zs ds, RowAt K H H' L b c r zs ds ∧ ∀ t', BentD (mk t xs) (mk t' ds), ?_, ?_⟩
    · -- pop
      refine ⟨_, rfl, rfl, _, rfl, ite2 (fun _ => ?_) (fun _ => ?_)⟩
      · refine ⟨_, rfl, .inl ⟨rfl, _, SqL.of R7.at_⟩, _, rfl, r, ys, u, u.toNat, yu, rfl, rfl, R7.at_, by omega, by omega, (ixN_seq (ixN_nat u0 u1)).1, hyu, rfl, _, _, R7.put (dqAll_erase _ R7.dat), fun t' => bent_pop⟩
      -- insert one twice
      refine ⟨_, rfl, rfl, _, rfl, ite2 (fun _ => ?_) (fun _ => ?_)⟩
      · refine ⟨_, rfl, .inl ⟨rfl, _, SqL.of R7.at_⟩, _, rfl, _, rfl, _, rfl, r, ys, x, yx, rfl, rfl, SqL.of R7.at_, at_nat x0 hyx, r, ys, u, yx, rfl, rfl, R7.at_, by rw [sizeLine_eq]; omega, u0, u63, rfl, _, _,
          R7.put (dqAll_app (dqAll_app (dqAll_take _ R7.dat) (.cons qx .nil)) (dqAll_drop _ R7.dat)), fun t' => bent_twice (List.mem_of_getElem? hdx)⟩
      -- exchange
      refine ⟨_, rfl, rfl, _, rfl, ite2 (fun _ => ?_) (fun _ => ?_)⟩
      · refine ⟨_, rfl, _, rfl, r, ys, x, yx, rfl, rfl, SqL.of R7.at_, at_nat x0 hyx, _, rfl, _, rfl, r, ys, u, yu, rfl, rfl, SqL.of R7.at_, at_nat u0 hyu, (by show 2 ≤ sizeLine; decide), fun q nq => ⟨q, _, rfl, SqT.of upd_same, rfl, _, _, rfl, ?_⟩⟩
        have s8 := same_upd (H := H7) (o := .tup [yx, yu]) nq
        have R8 := R7.go (R7.bag.same s8) (But.of_same s8)
        have R9 := R8.put (dqAll_set u.toNat R8.dat (dq_same (offs_same s8) qx))
        have hlen : (ys.set u.toNat yx).length = ys.length := List.length_set
        refine ⟨_, rfl, _, rfl, r, ys, u, u.toNat, rfl, rfl, R8.at_, ixN_nat u0 u1, _, _, rfl, _, rfl, _, rfl, r, _, x, x.toNat, rfl, rfl, R9.at_, ixN_nat x0 (by rw [hlen]; exact x1), rfl, rfl, _, _,
          R9.put (dqAll_set x.toNat R9.dat (dq_same (offs_put List.mem_cons_self) (dq_same (offs_same s8) qu))), fun t' => bent_swap hdu hdx⟩
      -- insert any
      refine ⟨_, rfl, rfl, _, rfl, ite2 (fun _ => ?_) (fun _ => ?_)⟩
      · refine ⟨_, rfl, .inl ⟨rfl, _, SqL.of R7.at_⟩, _, rfl, _, rfl, r, ys, rfl, .inl (SqL.of R7.at_), _, _, rfl, rfl, b, c, _, rfl, R7.bag, by omega, small_log (by omega) (by omega), fun z H8 z0 z1 B8 k8 => ?_⟩
        have R8 := R7.go B8 k8
        refine ⟨_, rfl, b, c, r :: L, rfl, B8, R8.inR, R8.liv.add R8.at_, fun o vo H9 ho B9 k9 q9 => ?_⟩
        have R9 := R8.go B9 k9
        exact ⟨r, ys, z, vo, rfl, rfl, R9.at_, by rw [sizeLine_eq]; omega, z0, by omega, rfl, _, _, R9.put (dqAll_app (dqAll_app (dqAll_take _ R9.dat) (.cons q9 .nil)) (dqAll_drop _ R9.dat)), fun t' => bent_odd ho⟩
      -- one of them bent
      have hdm := List.mem_of_getElem? hdu
      have hd1 := depthAll_mem hdm
      have hw1 := wqs_mem hdm
      rw [mk_depth] at hdp
      rw [mk_wq] at hwq
      match n, hdp with
      | n + 1, hdp =>
        refine ⟨_, rfl, _, rfl, _, rfl, r, ys, u, yu, rfl, rfl, SqL.of R7.at_, at_nat u0 hyu, b, c, r :: L, yu, du, rfl, R7.bag, R7.inR, R7.liv.add R7.at_, qu, by omega, by omega, fun d' v' H8 hb' B8 k8 q8 => ?_⟩
        have R8 := R7.go B8 k8
        exact ⟨_, rfl, _, rfl, r, ys, u, u.toNat, rfl, rfl, R8.at_, ixN_nat u0 u1, rfl, _, _, R8.put (dqAll_set u.toNat R8.dat q8), fun t' => bent_at hdu hb'⟩
    · rintro σ' H8 ⟨rfl, zs, ds, R8, hb⟩
      refine to_ret (isT _ H8 rfl R8.but H8 (Evl.Ex.refl _) _ fun H9 e9 => ⟨_, rfl, ?_⟩)
      have R9 := R8.go (R8.bag.same e9) (But.of_same e9)
      exact ite2 (fun _ => RT _ H9 zs ds rfl R9 hb) (fun _ => RL _ H9 zs ds rfl R9 hb)
theorem ok_bent (T : Txt K mg A) (G_law_is_int : FnOk P w K mg base CX0 1 A.a_law_is_int A.d_law_is_int ["_law_thing", "_law_low", "_law_high"] (spB K 3 fInR)) (G_law_take : FnOk P w K mg base CX0 1 A.a_law_take A.d_law_take ["_law_bag_here", "_law_upto"] spTake) (G_law_some : FnOk P w K mg base CX0 2 A.a_law_some A.d_law_some ["_law_bag_here", "_law_things"] (spSome K)) (G_law_odd : FnOk P w K mg base CX0 3 A.a_law_odd A.d_law_odd ["_law_bag_here"] (spOdd K)) :
    ∀ n, FnOk P w K mg base CX0 (4 + n) A.a_law_bent A.d_law_bent ["_law_bag_here", "_law_thing"] (spBent K n)
  | 0 => ok_bent0 T
  | n + 1 => ok_bentS T G_law_is_int G_law_take G_law_some G_law_odd n (ok_bent T G_law_is_int G_law_take G_law_some G_law_odd n)
end
end K11

namespace K11
open PySem PySem.Spec PyProof.Rows L2 On L11
/-! ### data of the law -/
structure PlaceD (d : PyData) : Prop where
  ok : placeOk d = true
  tp : tup d = true
  pl : plainQ d = true
  dp : d.depth ≤ 5
  wd : wq d ≤ 1000
  two : ∃ x y, d = .tuple [x, y]
theorem wq_small {i : Int} (h : i.natAbs < 1000000) : wq (.int i) = 8 := by rw [wq, if_pos h]
theorem placeD_of {m : Nat} {ps : List (Int × Int)} (h : placeOk (placeD m ps) = true) (hl : ps.length ≤ 30) : PlaceD (placeD m ps) := by
  have h' : ((decide ((2 : Int) ≤ m) && decide ((m : Int) ≤ 6)) && ((ps.map prD).all (moveOk (m : Int)) && asc (ps.map prD))) = true := h
  simp only [Bool.and_eq_true, decide_eq_true_eq] at h'
  obtain ⟨⟨h1, h2⟩, h3, _⟩ := h'
  have hp : ∀ p ∈ ps, (0 ≤ p.1 ∧ p.1 < m) ∧ (0 ≤ p.2 ∧ p.2 < m) := fun p hp => by
    have z : ((decide (0 ≤ p.1) && decide (p.1 < (m : Int))) && ((decide (0 ≤ p.2) && decide (p.2 < (m : Int))) && !decide (p.1 = p.2))) = true := List.all_eq_true.mp h3 (prD p) (List.mem_map_of_mem hp)
    simp only [Bool.and_eq_true, decide_eq_true_eq] at z
    exact ⟨z.1, z.2.1⟩
  refine ⟨h, ?_, ?_, ?_, ?_, _, _, rfl⟩
  · have := pairD_tup ps
    simp [placeD, tup, tups, this]
  · have e : plainQs (ps.map prD) = true := plainQs_iff.mpr fun d hd => by
      obtain ⟨p, q, rfl⟩ := List.mem_map.mp hd
      obtain ⟨⟨a1, a2⟩, a3, a4⟩ := hp p q
      have e1 : p.1.natAbs < 10 ^ 50 := Nat.lt_trans (show p.1.natAbs < 10 by omega) (by decide)
      have e2 : p.2.natAbs < 10 ^ 50 := Nat.lt_trans (show p.2.natAbs < 10 by omega) (by decide)
      show plainQ (.tuple [.int p.1, .int p.2]) = true
      rw [plainQ, plainQs, plainQs, plainQs, plainQ, plainQ, decide_eq_true e1, decide_eq_true e2] <;> rfl
    have e0 : (m : Int).natAbs < 10 ^ 50 := Nat.lt_trans (show (m : Int).natAbs < 10 by omega) (by decide)
    show plainQ (.tuple [.int (m : Int), .tuple (ps.map prD)]) = true
    rw [plainQ, plainQs, plainQs, plainQs, plainQ, plainQ, e, decide_eq_true e0] <;> rfl
  · have e : PyData.depthAll (ps.map prD) ≤ 2 := depthAll_le fun d hd => by
      obtain ⟨p, q, rfl⟩ := List.mem_map.mp hd
      simp [On.pairD, PyData.depth, PyData.depthAll]
    show (PyData.tuple [.int (m : Int), .tuple (ps.map prD)]).depth ≤ 5
    simp only [PyData.depth, PyData.depthAll]
    omega
  · have e : wqs (ps.map prD) ≤ (ps.map prD).length * (24 + 2) := wqs_le fun d hd => by
      obtain ⟨p, q, rfl⟩ := List.mem_map.mp hd
      obtain ⟨⟨a1, a2⟩, a3, a4⟩ := hp p q
      show wq (.tuple [.int p.1, .int p.2]) ≤ 24
      rw [wq, wqs, wqs, wqs, wq_small (by omega), wq_small (by omega)]
      omega
    rw [List.length_map] at e
    show wq (.tuple [.int (m : Int), .tuple (ps.map prD)]) ≤ 1000
    rw [wq, wqs, wqs, wqs, wq_small (by omega), wq]
    omega
/-- tuple data lies apart from lists -/
theorem tup_offs {K : PySem.W.Frag} {H : Hp} {L : List Addr} {v : V} {d : PyData} (hL : ∀ a ∈ L, ∃ xs, H a = some (.lst xs)) (h : Dq K H v d) (ht : tup d = true) : Dq K (offs L H) v d :=
  dq_keep (fun a xs e => by
    rw [offs_ne fun z => ?_]
    · exact e
    · obtain ⟨ys, e2⟩ := hL a z
      rw [e2] at e
      cases e) h ht
/-- a part of a datum -/
structure PartD (d : PyData) : Prop where
  pl : plainQ d = true
  dp : d.depth ≤ 62
  wd : wq d ≤ 2000
theorem PlaceD.part {d : PyData} (h : PlaceD d) : PartD d := ⟨h.pl, by have := h.dp; omega, by have := h.wd; omega⟩
theorem show_mk {t : Bool} {ds : List PyData} (h : ∀ d ∈ ds, PartD d) (hl : ds.length ≤ 20) : Show (mk t ds) := by
  refine ⟨?_, ?_, ?_⟩
  · rw [mk_plain]
    exact plainQs_iff.mpr fun d hd => (h d hd).pl
  · rw [mk_depth]
    have := depthAll_le fun d hd => (h d hd).dp
    omega
  · rw [mk_wq]
    have e := wqs_le fun d hd => (h d hd).wd
    have : ds.length * (2000 + 2) ≤ 20 * (2000 + 2) := Nat.mul_le_mul_right _ hl
    omega
/-- data that can be bent twice -/
structure SmallD (d : PyData) : Prop where
  pl : plainQ d = true
  dp : d.depth ≤ 6
  wd : wq d ≤ 6000
theorem PlaceD.small {d : PyData} (h : PlaceD d) : SmallD d := ⟨h.pl, by have := h.dp; omega, by have := h.wd; omega⟩
theorem small_mk {t : Bool} {ds : List PyData} (h : ∀ d ∈ ds, PlaceD d) (hl : ds.length ≤ 5) : SmallD (mk t ds) := by
  refine ⟨?_, ?_, ?_⟩
  · rw [mk_plain]
    exact plainQs_iff.mpr fun d hd => (h d hd).pl
  · rw [mk_depth]
    have := depthAll_le fun d hd => (h d hd).dp
    omega
  · rw [mk_wq]
    have e := wqs_le fun d hd => (h d hd).wd
    have : ds.length * (1000 + 2) ≤ 5 * (1000 + 2) := Nat.mul_le_mul_right _ hl
    omega
theorem SmallD.shw {d : PyData} (h : SmallD d) : Show d := ⟨h.pl, by have := h.dp; omega, by have := h.wd; omega⟩
theorem OddD.shw {d : PyData} (h : OddD d) : Show d := ⟨h.1, by have := h.2.1; omega, by have := h.2.2; omega⟩
theorem bench_ok {ds : List PyData} (h : ∀ d ∈ ds, PlaceD d) (hn : ds ≠ []) : benchOk (.tuple ds) = true := by
  show (decide (0 < ds.length) && ds.all placeOk) = true
  rw [decide_eq_true (List.length_pos_iff.mpr hn), List.all_eq_true.mpr fun d hd => (h d hd).ok] <;> rfl
/-- () in one more, and one more .. -/
def deepD : Nat → PyData
  | 0 => .tuple []
  | n + 1 => .tuple [deepD n]
theorem deep_pl : ∀ n, plainQ (deepD n) = true
  | 0 => by rw [deepD, plainQ, plainQs]
  | n + 1 => by rw [deepD, plainQ, plainQs, plainQs, deep_pl n] <;> rfl
theorem deep_dp : ∀ n, (deepD n).depth = n + 1
  | 0 => by simp [deepD, PyData.depth, PyData.depthAll]
  | n + 1 => by
    have := deep_dp n
    simp only [deepD, PyData.depth, PyData.depthAll]
    omega
theorem deep_wq : ∀ n, wq (deepD n) = 6 * n + 4
  | 0 => by simp [deepD, wq, wqs]
  | n + 1 => by
    have := deep_wq n
    rw [deepD, wq, wqs, wqs]
    omega
theorem deep_part {n : Nat} (h : n ≤ 61) : PartD (deepD n) := ⟨deep_pl n, by rw [deep_dp]; omega, by rw [deep_wq]; omega⟩
/-! ### what the law holds -/
structure BA (K : PySem.W.Frag) (G : Hp) (lp tb : Addr) (vs : List V) (pds : List PyData) : Prop where
  lpAt : G lp = some (.lst vs)
  lpS : lp ≠ sysModules
  tbAt : G tb = some (.tup vs)
  dat : DqAll K G vs pds
  ne : pds ≠ []
  len : pds.length ≤ 5
  ok : ∀ d ∈ pds, PlaceD d
theorem BA.go {K : PySem.W.Frag} {G G' : Hp} {lp tb : Addr} {vs : List V} {pds : List PyData} (h : BA K G lp tb vs pds) (k : Same G G') : BA K G' lp tb vs pds :=
  ⟨k _ _ h.lpAt, h.lpS, k _ _ h.tbAt, dqAll_same k h.dat, h.ne, h.len, h.ok⟩
theorem BA.bench {K : PySem.W.Frag} {G : Hp} {lp tb : Addr} {vs : List V} {pds : List PyData} (h : BA K G lp tb vs pds) : Dq K G (.ref tb) (K11.mk true pds) := .tup h.tbAt h.dat
theorem BA.list {K : PySem.W.Frag} {G : Hp} {lp tb : Addr} {vs : List V} {pds : List PyData} (h : BA K G lp tb vs pds) : Dq K G (.ref lp) (K11.mk false pds) := .lst h.lpAt h.lpS h.dat
theorem BA.at {K : PySem.W.Frag} {G : Hp} {lp tb : Addr} {vs : List V} {pds : List PyData} (h : BA K G lp tb vs pds) {i : Nat} (hi : i < pds.length) : ∃ v d, vs[i]? = some v ∧ PlaceD d ∧ Dq K G v d := by
  obtain ⟨v, e, q⟩ := dqAll_at h.dat (List.getElem?_eq_getElem hi)
  exact ⟨v, _, e, h.ok _ (List.getElem_mem hi), q⟩
theorem BA.vlen {K : PySem.W.Frag} {G : Hp} {lp tb : Addr} {vs : List V} {pds : List PyData} (h : BA K G lp tb vs pds) : vs.length = pds.length := dqAll_len h.dat
structure Wd (K : PySem.W.Frag) (L : List Addr) (b c lp tb : Addr) (vs : List V) (pds : List PyData) (dv : V) (dd : PyData) (H : Hp) : Prop where
  bag : Bag H b c
  inL : b ∈ L
  liv : Live L H
  ba : BA K (offs L H) lp tb vs pds
  dp : Dq K (offs L H) dv dd
section
variable {K : PySem.W.Frag} {L : List Addr} {b c lp tb : Addr} {vs : List V} {pds : List PyData} {dv : V} {dd : PyData} {σ : L2.St} {te : TE} {ta : TA} {P : PyData → Prop}
theorem Wd.go {H H' : Hp} (h : Wd K L b c lp tb vs pds dv dd H) (B : Bag H' b c) (k : But b H H') : Wd K L b c lp tb vs pds dv dd H' :=
  ⟨B, h.inL, h.liv.but B k, h.ba.go (offs_but h.inL k), dq_same (offs_but h.inL k) h.dp⟩
theorem Wd.same {H H' : Hp} (h : Wd K L b c lp tb vs pds dv dd H) (k : Same H H') : Wd K L b c lp tb vs pds dv dd H' := h.go (h.bag.same k) (But.of_same k)
theorem Wd.lx {H : Hp} (h : Wd K L b c lp tb vs pds dv dd H) : LiveX L H := ⟨h.liv, h.bag.sys⟩
def EvW (K : PySem.W.Frag) (L : List Addr) (b c lp tb : Addr) (vs : List V) (pds : List PyData) (dv : V) (dd : PyData) (te : TE) (σ : L2.St) (P : PyData → Prop) : Prop :=
  ∀ H, Wd K L b c lp tb vs pds dv dd H → ∀ Q : VK, (∀ v d H1, P d → Wd K L b c lp tb vs pds dv dd H1 → But b H H1 → Dq K (offs L H1) v d → Q v H1) → te σ H Q
def EvWA (K : PySem.W.Frag) (L : List Addr) (b c lp tb : Addr) (vs : List V) (pds : List PyData) (dv : V) (dd : PyData) (P : PyData → Prop) (ta : TA) (σ : L2.St) (n : Nat) : Prop :=
  ∀ H, Wd K L b c lp tb vs pds dv dd H → ∀ Q : List V → Hp → Prop, (∀ xs ds H1, ds.length = n → (∀ d ∈ ds, P d) → Wd K L b c lp tb vs pds dv dd H1 → But b H H1 → DqAll K (offs L H1) xs ds → Q xs H1) → ta σ H Q
theorem EvW.imp {P' : PyData → Prop} (h : EvW K L b c lp tb vs pds dv dd te σ P) (i : ∀ d, P d → P' d) : EvW K L b c lp tb vs pds dv dd te σ P' := fun H W Q q => h H W Q fun v d H1 p => q v d H1 (i d p)
theorem ew_q {d : PyData} (h : EvQ K L te σ d) (p : P d) : EvW K L b c lp tb vs pds dv dd te σ P := fun H W Q q =>
  h H W.lx Q fun v H1 s1 hv => q v d H1 p (W.same s1) (But.of_same s1) hv
theorem ew_var {i : Nat} {v : V} {d : PyData} (e : σ[i]? = some (some v)) (h : ∀ H, Wd K L b c lp tb vs pds dv dd H → Dq K (offs L H) v d) (p : P d) : EvW K L b c lp tb vs pds dv dd (tVar i) σ P := fun H W Q q =>
  ⟨v, e, q v d H p W (But.refl _ _) (h H W)⟩
theorem ew_ix {i : Int} {j : Nat} {ti : TE} (e : σ[3]? = some (some (.ref lp))) (hi : ∀ H (Q : VK), Q (.int i) H → ti σ H Q) (hj : j < pds.length) (hx : ixN pds.length i = some j) (p : ∀ d, PlaceD d → P d) : EvW K L b c lp tb vs pds dv dd (tOp (rIxL K) (tVar 3) ti) σ P := fun H W Q q => by
  obtain ⟨v, d, e1, pd, qd⟩ := W.ba.at hj
  refine ⟨_, e, hi H _ ⟨lp, vs, i, v, rfl, rfl, SqL.of (offs_sub _ _ W.ba.lpAt), ?_, q v d H (p d pd) W (But.refl _ _) qd⟩⟩
  unfold atI
  rw [W.ba.vlen, hx]
  exact e1
theorem ew_odd (e : σ[1]? = some (some (.ref b))) (p : ∀ d, OddD d → P d) : EvW K L b c lp tb vs pds dv dd (tCall (spOdd K) [] E0 (tCons (tVar 1) tNil)) σ P := fun H W Q q =>
  ⟨_, e, b, c, L, rfl, W.bag, W.inL, W.liv, fun d v H' ho B' k' hv => q v d H' (p d ho) (W.go B' k') k' hv⟩
/-- bench + .. -/
theorem ew_cat (e : σ[4]? = some (some (.ref tb))) (h : EvW K L b c lp tb vs pds dv dd te σ fun d => ∃ ds, d = .tuple ds ∧ ds ≠ [] ∧ ds.length ≤ 5 ∧ ∀ x ∈ ds, PartD x) : EvW K L b c lp tb vs pds dv dd (tOp (rCatA K) (tVar 4) te) σ Show := fun H W Q q => by
  refine ⟨_, e, h H W _ fun v d H1 ⟨ds, hd, hn, hl, hp⟩ W1 k1 hv => ?_⟩
  subst hd
  obtain ⟨a, xs, rfl, ha, hxs⟩ := dq_tup hv
  have l1 := dqAll_len hxs
  have l2 := W1.ba.vlen
  have l3 := W1.ba.len
  refine ⟨tb, a, vs, xs, rfl, rfl, SqT.of (offs_sub _ _ W1.ba.tbAt), SqT.of (offs_sub _ _ ha), by rw [sizeLine_eq]; omega, fun z => ?_, fun _ z => ?_, fun _ _ p np => ?_⟩
  · rw [z] at l2
    exact absurd (List.length_eq_zero_iff.mp l2.symm) W1.ba.ne
  · rw [z] at l1
    exact absurd (List.length_eq_zero_iff.mp l1.symm) hn
  · have s1 := same_upd (o := .tup (vs ++ xs)) np
    refine q (.ref p) (mk true (pds ++ ds)) _ (show_mk (fun d hd => ?_) (by rw [List.length_append]; omega)) (W1.same s1) (k1.trans (But.of_same s1)) (.tup (offs_new (W1.liv.new np)) (dqAll_same (offs_same s1) (dqAll_app W1.ba.dat hxs)))
    rcases List.mem_append.mp hd with h | h
    · exact (W1.ba.ok d h).part
    · exact hp d h
theorem ewa_nil : EvWA K L b c lp tb vs pds dv dd P tNil σ 0 := fun H W Q q => q [] [] H rfl (fun _ h => nomatch h) W (But.refl _ _) .nil
theorem ewa_cons {n : Nat} (h : EvW K L b c lp tb vs pds dv dd te σ P) (h2 : EvWA K L b c lp tb vs pds dv dd P ta σ n) : EvWA K L b c lp tb vs pds dv dd P (tCons te ta) σ (n + 1) := fun H W Q q =>
  h H W _ fun v d H1 p W1 k1 hv => h2 H1 W1 _ fun xs ds H2 hn hp W2 k2 hx => q (v :: xs) (d :: ds) H2 (by rw [List.length_cons, hn]) (fun x hx => by
    rcases List.mem_cons.mp hx with rfl | h
    · exact p
    · exact hp x h) W2 (k1.trans k2) (.cons (dq_same (offs_but W.inL k2) hv) hx)
end
end K11

namespace K11
open PySem PySem.Spec PyProof.Rows L2 On L11
section
variable {P : Program} {w : World} {K : PySem.W.Frag} {mg : Str → Option Value} {base : Heap} {A : Ads}
/-- law(script) -/
def spLaw (K : PySem.W.Frag) : Sp := fun vs H Q _ => ∃ (a : Addr) (cs : List Int), vs = [.ref a] ∧ SqL K H a (cs.map V.int) ∧ cs.length ≤ 63 ∧ Sys H ∧ ∀ H', Q (.bl true) H'
theorem fine3 (x y z : Bool) : Fine (.list [.bool x, .bool y, .bool z]) := by
  refine ⟨?_, ?_, ?_⟩
  · simp [tame, tames]
  · simp [PyData.depth, PyData.depthAll]
  · simp [wide, wides]
theorem fine1 (x : Bool) : Fine (.bool x) := by
  refine ⟨?_, ?_, ?_⟩
  · simp [tame]
  · simp [PyData.depth]
  · simp [wide]
/-- the things held, at lt -/
structure Ths (K : PySem.W.Frag) (lt b : Addr) (H : Hp) (xs : List V) (ds : List PyData) (n : Nat) : Prop where
  at_ : H lt = some (.lst xs)
  dat : DqAll K (offs [lt, b] H) xs ds
  shw : ∀ d ∈ ds, Show d
  len : ds.length ≤ n
theorem Ths.go {lt b : Addr} {H H' : Hp} {xs : List V} {ds : List PyData} {n : Nat} (h : Ths K lt b H xs ds n) (n1 : lt ≠ b) (k : But b H H') : Ths K lt b H' xs ds n :=
  ⟨k _ _ n1 h.at_, dqAll_same (offs_but (by simp) k) h.dat, h.shw, h.len⟩
theorem Ths.put {lt b : Addr} {H : Hp} {xs ys : List V} {ds es : List PyData} {n m : Nat} (h : Ths K lt b H xs ds n) (h2 : DqAll K (offs [lt, b] H) ys es) (hs : ∀ d ∈ es, Show d) (hl : es.length ≤ m) : Ths K lt b (upd H lt (.lst (xs ++ ys))) (xs ++ ys) (ds ++ es) (n + m) :=
  ⟨upd_same, dqAll_same (offs_put (by simp)) (dqAll_app h.dat h2), fun d hd => by
    rcases List.mem_append.mp hd with h' | h'
    · exact h.shw d h'
    · exact hs d h', by rw [List.length_append]; have := h.len; omega⟩
theorem Wd.put {b c lt lp tb : Addr} {vs : List V} {pds : List PyData} {dv : V} {dd : PyData} {H : Hp} {xs ys : List V} (h : Wd K [lt, b] b c lp tb vs pds dv dd H) (n1 : lt ≠ b) (n2 : lt ≠ c) (e : H lt = some (.lst xs)) : Wd K [lt, b] b c lp tb vs pds dv dd (upd H lt (.lst ys)) :=
  ⟨h.bag.upd n1 n2 e, h.inL, fun a ha z => by
    by_cases y : a = lt
    · rw [y, upd_same] at z
      cases z
    · rw [upd_ne y] at z
      exact h.liv a ha z, h.ba.go (offs_put (by simp)), dq_same (offs_put (by simp)) h.dp⟩
/-- bench + place(bag, 6) -/
theorem ew_place {b c lp tb : Addr} {vs : List V} {pds : List PyData} {dv : V} {dd : PyData} {σ : L2.St} (e : σ[1]? = some (some (.ref b))) : EvW K [b] b c lp tb vs pds dv dd (tCall (spPlace K) [] E0 (tCons (tVar 1) (tCons (tC (V.int 6)) tNil))) σ fun d => ∃ ds, d = .tuple ds ∧ ds ≠ [] ∧ ds.length ≤ 5 ∧ ∀ x ∈ ds, PartD x := fun H W Q q =>
  ⟨_, e, b, c, rfl, W.bag, fun m ps v H' hok hl B' k' hv => by
    have pd := placeD_of hok hl
    obtain ⟨x, y, hxy⟩ := pd.two
    refine q v (placeD m ps) H' ⟨[x, y], hxy, by simp, by simp, fun z hz => ?_⟩ (W.go B' k') k' (tup_offs (fun a ha => ?_) hv pd.tp)
    · have p1 := pd.pl
      have p2 := pd.dp
      have p3 := pd.wd
      rw [hxy] at p1 p2 p3
      rw [plainQ] at p1
      rw [PyData.depth] at p2
      rw [wq] at p3
      have := depthAll_mem hz
      have := wqs_mem hz
      exact ⟨plainQs_iff.mp p1 z hz, by omega, by omega⟩
    · rw [List.mem_singleton] at ha
      subst ha
      obtain ⟨⟨_, _, _, _, h1, _⟩, _⟩ := B'
      exact ⟨_, h1⟩⟩
theorem ok_law (T : Txt K mg A) (G_law_bag : FnOk P w K mg base CX0 1 A.a_law_bag A.d_law_bag ["_law_script"] (spBag K)) (G_law_take : FnOk P w K mg base CX0 1 A.a_law_take A.d_law_take ["_law_bag_here", "_law_upto"] spTake) (G_law_some : FnOk P w K mg base CX0 2 A.a_law_some A.d_law_some ["_law_bag_here", "_law_things"] (spSome K)) (G_law_place : FnOk P w K mg base CX0 3 A.a_law_place A.d_law_place ["_law_bag_here", "_law_most"] (spPlace K)) (G_law_odd : FnOk P w K mg base CX0 3 A.a_law_odd A.d_law_odd ["_law_bag_here"] (spOdd K))
    (G_law_bent : FnOk P w K mg base CX0 24 A.a_law_bent A.d_law_bent ["_law_bag_here", "_law_thing"] (spBent K 20)) (Gis_integer : FnOk P w K mg base CX0 1 A.ais_integer A.dis_integer ["thing"] (spB K 1 (f1 isInt))) (Gis_place : FnG P w K mg base 2 A.ais_place A.dis_place ["thing"] (spBs K 1 (fPl placeOk))) (Gis_bench : FnG P w K mg base 3 A.ais_bench A.dis_bench ["thing"] (spBs K 1 (fPl benchOk)))
    (G_law_is_place : FnOk P w K mg base CX0 2 A.a_law_is_place A.d_law_is_place ["_law_thing"] (spB K 1 (fPl placeOk))) (G_law_is_bench : FnOk P w K mg base CX0 3 A.a_law_is_bench A.d_law_is_bench ["_law_thing"] (spB K 1 (fPl benchOk))) (G_law_alike : FnG P w K mg base 1 A.a_law_alike A.d_law_alike ["_law_found", "_law_due"] (spAlike K)) : FnG P w K mg base 25 A.alaw A.dlaw ["_law_script"] (spLaw K) := by
  refine okG T.law.F sc_law (fun vs H Q E h => ?_) (fun cdv A' outer s H vs Q E hg hr h => ?_)
  · obtain ⟨a, cs, rfl, _⟩ := h
    rfl
  · obtain ⟨a, cs, rfl, ha, hz, hS, k⟩ := h
    refine ⟨_, (pss_cons (ps_set (i := 1) sc_law.nd rfl (by first | exact Or.inl rfl | exact Or.inr rfl) (pe_call G_law_bag (hr.mono (by first | decide | omega)) rfl T._law_bag.g T._law_bag.F.kp T._law_bag.b .nil pass0 (pa_cons (pv 0) pa_nil)))
      (Evl.pss_cut (ps_for PassesOwn.never rfl (pi_range1 rfl T.nb_range (pa_cons pe_int pa_nil)) (pg_name (i := 2) sc_law.nd rfl (by first | exact Or.inl rfl | exact Or.inr rfl)) (pss_cons (ps_setLc (i := 3) (own := [("_law_k", 7)]) rfl sc_law.nd rfl rfl (sw_true rfl rfl rfl (by decide +kernel)) (pi_range1 rfl T.nb_range (pa_cons (pe_op op_add pe_int (pe_call G_law_take (hr.mono (by first | decide | omega)) rfl T._law_take.g T._law_take.F.kp T._law_take.b .nil pass0 (pa_cons (pv 1) (pa_cons pe_int pa_nil)))) pa_nil)) (blkOk_by (N := ["_law_script", "_law_bag_here", "_law_turn", "_law_places", "_law_bench", "_law_things", "_law_deep", "_law_k", "_law_thing", "_law_number", "_law_bent_here", "_law_shown", "_law_told", "_law_due"]) (sc := defScope slaw) (by decide +kernel)) (fun _ _ _ _ _ => (pg_name (i := 7) sc_law.nd rfl (by first | exact Or.inl rfl | exact Or.inr rfl))) (fun _ _ _ _ _ => pts_nil) (fun _ _ _ _ _ => (pe_call G_law_place (hr.mono (by first | decide | omega)) rfl T._law_place.g T._law_place.F.kp T._law_place.b .nil pass0 (pa_cons (pv 1) (pa_cons pe_int pa_nil)))))
      (pss_cons (ps_set (i := 4) sc_law.nd rfl (by first | exact Or.inl rfl | exact Or.inr rfl) (pe_callTy (kTuple K) (by rfl) T.nb_tuple (by decide +kernel) (pa_cons (pv 3) pa_nil)))
      (pss_cons (ps_set (i := 5) sc_law.nd rfl (by first | exact Or.inl rfl | exact Or.inr rfl) (pe_lst (pa_cons (pv 4) (pa_cons (pe_ix (kIxL K) (pv 3) pe_int (fun _ _ => rfl)) (pa_cons (pv 3) (pa_cons (pe_call G_law_odd (hr.mono (by first | decide | omega)) rfl T._law_odd.g T._law_odd.F.kp T._law_odd.b .nil pass0 (pa_cons (pv 1) pa_nil)) (pa_cons (pe_op (kCatA K) (pv 4) (pe_call G_law_place (hr.mono (by first | decide | omega)) rfl T._law_place.g T._law_place.F.kp T._law_place.b .nil pass0 (pa_cons (pv 1) (pa_cons pe_int pa_nil)))) (pa_cons (pe_tup (pa_cons pe_int (pa_cons (pe_tup pa_nil) pa_nil))) (pa_cons (pe_tup (pa_cons pe_int (pa_cons (pe_tup pa_nil) pa_nil))) (pa_cons (pe_tup (pa_cons pe_int (pa_cons (pe_tup pa_nil) pa_nil))) pa_nil))))))))))
      (pss_cons (ps_set (i := 6) sc_law.nd rfl (by first | exact Or.inl rfl | exact Or.inr rfl) (pe_tup pa_nil))
      (Evl.pss_cut (ps_for PassesOwn.never rfl (pi_range1 rfl T.nb_range (pa_cons (pe_op op_add pe_int (pe_call G_law_take (hr.mono (by first | decide | omega)) rfl T._law_take.g T._law_take.F.kp T._law_take.b .nil pass0 (pa_cons (pv 1) (pa_cons pe_int pa_nil)))) pa_nil)) (pg_name (i := 7) sc_law.nd rfl (by first | exact Or.inl rfl | exact Or.inr rfl)) (pss_one (ps_set (i := 6) sc_law.nd rfl (by first | exact Or.inl rfl | exact Or.inr rfl) (pe_tup (pa_cons (pv 6) pa_nil)))))
      (pss_cons (ps_expr (pe_bm PySem.F.plainAttrs_list PySem.F.slot_list_extend PySem.F.type_list_extend mt_extend (pv 5) (pa_cons (pe_lst (pa_cons (pe_tup (pa_cons (pe_tup (pa_cons pe_int (pa_cons (pe_tup pa_nil) pa_nil))) pa_nil)) (pa_cons (pe_op (kCatA K) (pv 4) (pe_tup (pa_cons (pe_tup (pa_cons pe_int (pa_cons (pe_tup pa_nil) pa_nil))) pa_nil))) (pa_cons (pe_op (kCatA K) (pv 4) (pe_tup (pa_cons (pe_tup (pa_cons pe_int (pa_cons (pe_tup pa_nil) pa_nil))) pa_nil))) (pa_cons (pv 6) (pa_cons (pe_op (kCatA K) (pv 4) (pv 6)) pa_nil)))))) pa_nil)))
      (Evl.pss_cut (ps_for PassesOwn.never rfl (pi_range1 rfl T.nb_range (pa_cons pe_int pa_nil)) (pg_name (i := 7) sc_law.nd rfl (by first | exact Or.inl rfl | exact Or.inr rfl)) (pss_cons (ps_set (i := 10) sc_law.nd rfl (by first | exact Or.inl rfl | exact Or.inr rfl) (pe_call G_law_bent (hr.mono (by first | decide | omega)) rfl T._law_bent.g T._law_bent.F.kp T._law_bent.b .nil pass0 (pa_cons (pv 1) (pa_cons (pe_call G_law_some (hr.mono (by first | decide | omega)) rfl T._law_some.g T._law_some.F.kp T._law_some.b .nil pass0 (pa_cons (pv 1) (pa_cons (pe_lst (pa_cons (pv 4) (pa_cons (pe_ix (kIxL K) (pv 3) pe_int (fun _ _ => rfl)) (pa_cons (pv 4) (pa_cons (pe_ix (kIxL K) (pv 3) (pe_un un_neg pe_int) (fun _ _ => rfl)) pa_nil))))) pa_nil))) pa_nil))))
      (pss_one (ps_expr (pe_bm PySem.F.plainAttrs_list PySem.F.slot_list_append PySem.F.type_list_append mt_append (pv 5) (pa_cons (pe_ifExp (pt_cmpR op_eq (pe_call G_law_take (hr.mono (by first | decide | omega)) rfl T._law_take.g T._law_take.F.kp T._law_take.b .nil pass0 (pa_cons (pv 1) (pa_cons pe_int pa_nil))) pe_int (nomark _)) (pe_call G_law_bent (hr.mono (by first | decide | omega)) rfl T._law_bent.g T._law_bent.F.kp T._law_bent.b .nil pass0 (pa_cons (pv 1) (pa_cons (pv 10) pa_nil))) (pv 10)) pa_nil))))))
      (Evl.pss_cut (ps_for PassesOwn.never rfl (kPiL K (pv 5)) (pg_name (i := 8) sc_law.nd rfl (by first | exact Or.inl rfl | exact Or.inr rfl)) (pss_cons (ps_set (i := 11) sc_law.nd rfl (by first | exact Or.inl rfl | exact Or.inr rfl) (pe_callB (kRepr K hg (un66 hr)) (by rfl) T.nb_repr (by decide +kernel) (pa_cons (pv 8) pa_nil)))
      (pss_cons (ps_set (i := 12) sc_law.nd rfl (by first | exact Or.inl rfl | exact Or.inr rfl) (pe_lst (pa_cons (pe_callG Gis_place hg (hr.mono (by first | decide | omega)) rfl T.is_place.g T.is_place.F.kp T.is_place.b (pa_cons (pv 8) pa_nil)) (pa_cons (pe_callG Gis_bench hg (hr.mono (by first | decide | omega)) rfl T.is_bench.g T.is_bench.F.kp T.is_bench.b (pa_cons (pv 8) pa_nil)) (pa_cons (pe_call Gis_integer (hr.mono (by first | decide | omega)) rfl T.is_integer.g T.is_integer.F.kp T.is_integer.b .nil pass0 (pa_cons (pv 8) pa_nil)) pa_nil)))))
      (pss_cons (ps_set (i := 13) sc_law.nd rfl (by first | exact Or.inl rfl | exact Or.inr rfl) (pe_lst (pa_cons (pe_call G_law_is_place (hr.mono (by first | decide | omega)) rfl T._law_is_place.g T._law_is_place.F.kp T._law_is_place.b .nil pass0 (pa_cons (pv 8) pa_nil)) (pa_cons (pe_call G_law_is_bench (hr.mono (by first | decide | omega)) rfl T._law_is_bench.g T._law_is_bench.F.kp T._law_is_bench.b .nil pass0 (pa_cons (pv 8) pa_nil)) (pa_cons (pe_and (pe_callB (kIsi K) (by rfl) T.nb_isinstance (by decide +kernel) (pa_cons (pv 8) (pa_cons (pe_bltn (v := .ty "int") (u := .type "int") rfl (T.nb_int) (by decide +kernel) rfl) pa_nil))) (pe_one (pe_not (pe_callB (kIsi K) (by rfl) T.nb_isinstance (by decide +kernel) (pa_cons (pv 8) (pa_cons (pe_bltn (v := .ty "bool") (u := .type "bool") rfl (T.nb_bool) (by decide +kernel) rfl) pa_nil)))))) pa_nil)))))
      (pss_one (ps_if (PW.pt (pw_or (pt_not (pt_val (pe_callG G_law_alike hg (hr.mono (by first | decide | omega)) rfl T._law_alike.g T._law_alike.F.kp T._law_alike.b (pa_cons (pv 12) (pa_cons (pv 13) pa_nil))))) (pw_or1 (pt_cmpR op_ne (pe_callB (kRepr K hg (un66 hr)) (by rfl) T.nb_repr (by decide +kernel) (pa_cons (pv 8) pa_nil)) (pv 11) (nomark _))))) (pss_one (ps_ret pe_bl)) pss_nil))))))
      (Evl.pss_cut (ps_if (PW.pt (pw_or (pt_cmpR op_notBl (pe_callG Gis_bench hg (hr.mono (by first | decide | omega)) rfl T.is_bench.g T.is_bench.F.kp T.is_bench.b (pa_cons (pv 4) pa_nil)) pe_bl (nomark _)) (pw_or1 (pt_cmpR op_notBl (pe_callG Gis_place hg (hr.mono (by first | decide | omega)) rfl T.is_place.g T.is_place.F.kp T.is_place.b (pa_cons (pe_ix (kIxL K) (pv 3) pe_int (fun _ _ => rfl)) pa_nil)) pe_bl (nomark _))))) (pss_one (ps_ret pe_bl)) pss_nil)
      (pss_cons (ps_set (i := 9) sc_law.nd rfl (by first | exact Or.inl rfl | exact Or.inr rfl) (pe_call G_law_some (hr.mono (by first | decide | omega)) rfl T._law_some.g T._law_some.F.kp T._law_some.b .nil pass0 (pa_cons (pv 1) (pa_cons (pe_lst (pa_cons pe_int (pa_cons (pe_un un_neg pe_int) (pa_cons pe_bl (pa_cons pe_bl (pa_cons (pe_op op_pow pe_int pe_int) (pa_cons (pe_call G_law_take (hr.mono (by first | decide | omega)) rfl T._law_take.g T._law_take.F.kp T._law_take.b .nil pass0 (pa_cons (pv 1) (pa_cons pe_int pa_nil))) (pa_cons pe_str (pa_cons pe_non pa_nil))))))))) pa_nil))))
      (pss_one (ps_if (pt_not (pt_val (pe_callG G_law_alike hg (hr.mono (by first | decide | omega)) rfl T._law_alike.g T._law_alike.F.kp T._law_alike.b (pa_cons (pe_call Gis_integer (hr.mono (by first | decide | omega)) rfl T.is_integer.g T.is_integer.F.kp T.is_integer.b .nil pass0 (pa_cons (pv 9) pa_nil)) (pa_cons (pe_and (pe_callB (kIsi K) (by rfl) T.nb_isinstance (by decide +kernel) (pa_cons (pv 9) (pa_cons (pe_bltn (v := .ty "int") (u := .type "int") rfl (T.nb_int) (by decide +kernel) rfl) pa_nil))) (pe_one (pe_not (pe_callB (kIsi K) (by rfl) T.nb_isinstance (by decide +kernel) (pa_cons (pv 9) (pa_cons (pe_bltn (v := .ty "bool") (u := .type "bool") rfl (T.nb_bool) (by decide +kernel) rfl) pa_nil)))))) pa_nil))))) (pss_one (ps_ret pe_bl)) pss_nil)))))))))))))
      (pss_one (ps_ret pe_bl)))), ?_⟩
    -- bag
    refine to_qasg (to_call (to_cons ⟨_, rfl, a, cs, rfl, ha, hz, hS, fun b c H1 nb B1 s1 => ?_⟩))
    refine to_nm (σ' := [some (.ref a), some (.ref b), none, none, none, none, none, none, none, none, none, none, none, none]) rfl ?_
    refine ⟨fun σ' H' => ∃ o2 o3 o4 o5 o6 o7 o8 o9 oA oB oC oD, σ' = [some (.ref a), some (.ref b), o2, o3, o4, o5, o6, o7, o8, o9, oA, oB, oC, oD] ∧ Bag H' b c, ?_, ?_⟩
    · refine ⟨4, rfl, by decide, by decide, for_range (lo := 0) (n := (4 : Int).toNat) (fun _ σ' H' => ∃ o2 o3 o4 o5 o6 o7 o8 o9 oA oB oC oD, σ' = [some (.ref a), some (.ref b), o2, o3, o4, o5, o6, o7, o8, o9, oA, oB, oC, oD] ∧ Bag H' b c)
        ⟨_, _, _, _, _, _, _, _, _, _, _, _, rfl, B1⟩ ?_ (fun σ' H' h => h)⟩
      rintro i σ' H2 hi ⟨o2, o3, o4, o5, o6, o7, o8, o9, oA, oB, oC, oD, rfl, B2⟩
      clear B1 s1
      refine to_nm (σ' := [some (.ref a), some (.ref b), some (.int (0 + (i : Int))), o3, o4, o5, o6, o7, o8, o9, oA, oB, oC, oD]) rfl ?_
      generalize (0 + (i : Int)) = ti
      refine to_qasg ?_
      refine ⟨_, rfl, b, c, 5, rfl, B2, by decide, small_log (by decide) (by decide), fun u H3 u0 u1 B3 k3 => ⟨_, _, rfl, rfl, _, rfl, by omega, by omega, fun lp nlp => ?_⟩⟩
      have lpb : lp ≠ b := B3.ne_new nlp
      have lpc : lp ≠ c := B3.ne_cells nlp
      refine lc_range (lo := 0) (n := ((1 : Int) + u).toNat) (fun n H' => Bag H' b c ∧ ∃ vs pds, H' lp = some (.lst vs) ∧ DqAll K (offs [lp, b] H') vs pds ∧ pds.length = n ∧ ∀ d ∈ pds, PlaceD d)
        ⟨B3.same (same_upd nlp), [], [], upd_same, .nil, rfl, fun _ hh => nomatch hh⟩ (fun n H4 hn p => ?_) (fun H4 p => ?_)
      · obtain ⟨B4, vs, pds, h1, h2, h3, h4⟩ := p
        refine ⟨rfl, to_yes ⟨_, rfl, b, c, rfl, B4, fun m ps v H5 hok hl B5 k5 hv => ?_⟩⟩
        have pd := placeD_of hok hl
        have h1' := k5 _ _ lpb h1
        have hl5 := dqAll_len h2
        refine ⟨vs, h1', by rw [sizeLine_eq]; omega, B5.upd lpb lpc h1', vs ++ [v], pds ++ [placeD m ps], upd_same, dqAll_same (offs_put (by simp)) (dqAll_app (dqAll_same (offs_but (by simp) k5) h2) (.cons (tup_offs (fun x hx => ?_) hv pd.tp) .nil)), by rw [List.length_append, h3]; rfl, fun d hd => ?_⟩
        · simp only [List.mem_cons, List.not_mem_nil, or_false] at hx
          rcases hx with rfl | rfl
          · exact ⟨_, h1'⟩
          · obtain ⟨⟨_, _, _, _, h, _⟩, _⟩ := B5
            exact ⟨_, h⟩
        · rcases List.mem_append.mp hd with h | h
          · exact h4 d h
          · rw [List.mem_singleton] at h
            rw [h]
            exact pd
      obtain ⟨B4, vs, pds, h1, h2, h3, h4⟩ := p
      refine to_nm (σ' := [some (.ref a), some (.ref b), some (.int ti), some (.ref lp), o4, o5, o6, o7, o8, o9, oA, oB, oC, oD]) rfl ?_
      -- bench
      refine to_qasg ⟨_, rfl, lp, vs, rfl, .inl ⟨SqL.of h1, fun tb ntb => ?_⟩⟩
      refine to_nm (σ' := [some (.ref a), some (.ref b), some (.int ti), some (.ref lp), some (.ref tb), o5, o6, o7, o8, o9, oA, oB, oC, oD]) rfl ?_
      have st := same_upd (o := .tup vs) ntb
      have B5 := B4.same st
      have tbb : tb ≠ b := B4.ne_new ntb
      have W5 : Wd K [b] b c lp tb vs pds (.ref tb) (mk true pds) (upd H4 tb (.tup vs)) := by
        have ba : BA K (offs [b] (upd H4 tb (.tup vs))) lp tb vs pds := by
          refine ⟨?_, fun z => ?_, ?_, dqAll_same (offs_same st) (dqAll_same offs_cons h2), ?_, by omega, h4⟩
          · rw [offs_ne (by simpa using lpb)]
            exact st _ _ h1
          · obtain ⟨_, φ, h4⟩ := B4
            rw [← z, h1] at h4
            cases h4
          · rw [offs_ne (by simpa using tbb)]
            exact upd_same
          · intro z
            rw [z, List.length_nil] at h3
            omega
        refine ⟨B5, by simp, fun x hx z => ?_, ba, ba.bench⟩
        rw [List.mem_singleton] at hx
        subst hx
        obtain ⟨⟨_, _, _, _, h, _⟩, _⟩ := B5
        rw [h] at z
        cases z
      generalize upd H4 tb (.tup vs) = H5 at W5
      clear st B5 B4 h1 h2 h4
      have hp0 : 0 < pds.length := List.length_pos_iff.mpr W5.ba.ne
      -- things
      refine to_qasg (to_lst ?_)
      have hx0 : ixN pds.length 0 = some 0 := ixN_nat (by decide) (by omega)
      have hxm : ixN pds.length (-1) = some (pds.length - 1) := by
        unfold ixN
        rw [if_neg (by decide), if_pos (by omega)]
        congr 1
        omega
      have eT : ∀ i : Int, i.natAbs < 10 → EvW K [b] b c lp tb vs pds (.ref tb) (mk true pds) (tTup (tCons (tC (V.int i)) (tCons (tTup tNil) tNil))) [some (.ref a), some (.ref b), some (.int ti), some (.ref lp), some (.ref tb), o5, o6, o7, o8, o9, oA, oB, oC, oD] Show := fun i hi => by
        refine ew_q (eq_tup (eqa_cons (eq_c fun _ => .int _) (eqa_cons (eq_tup eqa_nil (by decide)) eqa_nil)) (by show 2 ≤ 100; decide)) ⟨?_, ?_, ?_⟩
        · have e1 : i.natAbs < 10 ^ 50 := Nat.lt_trans hi (by decide)
          simp [plainQ, plainQs, e1]
        · simp [PyData.depth, PyData.depthAll]
        · rw [wq, wqs, wqs, wqs, wq_small (by omega), wq, wqs]
          omega
      have eTh := ewa_cons (ew_var (i := 4) (P := Show) (σ := [some (.ref a), some (.ref b), some (.int ti), some (.ref lp), some (.ref tb), o5, o6, o7, o8, o9, oA, oB, oC, oD]) rfl (fun H W => W.ba.bench) (small_mk (t := true) W5.ba.ok W5.ba.len).shw)
        (ewa_cons (ew_ix (i := 0) (ti := tC (V.int 0)) rfl (fun _ _ q => q) hp0 hx0 fun d p => p.small.shw) (ewa_cons (ew_var (i := 3) rfl (fun H W => W.ba.list) (small_mk (t := false) W5.ba.ok W5.ba.len).shw) (ewa_cons (ew_odd rfl fun d p => p.shw)
        (ewa_cons (ew_cat rfl (ew_place rfl)) (ewa_cons (eT 1 (by decide)) (ewa_cons (eT 2 (by decide)) (ewa_cons (eT 7 (by decide)) ewa_nil)))))))
      refine eTh H5 W5 _ fun xs ds H6 hl6 hs6 W6 k6 hx6 => ⟨by rw [dqAll_len hx6, hl6, sizeLine_eq]; decide, fun lt nlt => ?_⟩
      clear eTh eT
      refine to_nm (σ' := [some (.ref a), some (.ref b), some (.int ti), some (.ref lp), some (.ref tb), some (.ref lt), o6, o7, o8, o9, oA, oB, oC, oD]) rfl ?_
      have s7 := same_upd (o := .lst xs) nlt
      have ltb : lt ≠ b := W6.bag.ne_new nlt
      have ltc : lt ≠ c := W6.bag.ne_cells nlt
      have W7 : Wd K [lt, b] b c lp tb vs pds (.ref tb) (mk true pds) (upd H6 lt (.lst xs)) := ⟨W6.bag.same s7, by simp, (W6.liv.same s7).add upd_same, W6.ba.go (offs_add nlt), dq_same (offs_add nlt) W6.dp⟩
      have T7 : Ths K lt b (upd H6 lt (.lst xs)) xs ds 8 := ⟨upd_same, dqAll_same (offs_add nlt) hx6, hs6, by omega⟩
      generalize upd H6 lt (.lst xs) = H7 at W7 T7
      clear s7 W6 hx6 k6 W5
      -- deep
      refine to_qasg (to_tup (to_nil ⟨by show 0 ≤ sizeLine; decide, fun q nq => ?_⟩))
      refine to_nm (σ' := [some (.ref a), some (.ref b), some (.int ti), some (.ref lp), some (.ref tb), some (.ref lt), some (.ref q), o7, o8, o9, oA, oB, oC, oD]) rfl ?_
      have s8 := same_upd (o := .tup []) nq
      have W8a := W7.same s8
      have W8 : Wd K [lt, b] b c lp tb vs pds (.ref q) (deepD 0) (upd H7 q (.tup [])) := ⟨W8a.bag, W8a.inL, W8a.liv, W8a.ba, .tup (offs_new (W7.liv.new nq)) .nil⟩
      have T8 := T7.go ltb (But.of_same s8)
      generalize upd H7 q (.tup []) = H8 at W8 T8
      clear W8a s8 W7 T7
      refine ⟨fun σ' H' => ∃ o7 dv n, n ≤ 58 ∧ σ' = [some (.ref a), some (.ref b), some (.int ti), some (.ref lp), some (.ref tb), some (.ref lt), some dv, o7, o8, o9, oA, oB, oC, oD] ∧ Wd K [lt, b] b c lp tb vs pds dv (deepD (n + 1)) H' ∧ Ths K lt b H' xs ds 8, ?_, ?_⟩
      · refine ⟨_, rfl, b, c, 4, rfl, W8.bag, by decide, small_log (by decide) (by decide), fun u H9 u0 u1 B9 k9 => ⟨_, _, rfl, rfl, _, rfl, by omega, by omega, ?_⟩⟩
        refine for_range (lo := 0) (n := ((56 : Int) + u).toNat) (fun i σ' H' => ∃ o7 dv, σ' = [some (.ref a), some (.ref b), some (.int ti), some (.ref lp), some (.ref tb), some (.ref lt), some dv, o7, o8, o9, oA, oB, oC, oD] ∧ Wd K [lt, b] b c lp tb vs pds dv (deepD i) H' ∧ Ths K lt b H' xs ds 8)
          ⟨_, _, rfl, W8.go B9 k9, T8.go ltb k9⟩ ?_ ?_
        · rintro i σ' H' hi ⟨o7', dv, rfl, W, Th⟩
          refine to_nm (σ' := [some (.ref a), some (.ref b), some (.int ti), some (.ref lp), some (.ref tb), some (.ref lt), some dv, some (.int (0 + (i : Int))), o8, o9, oA, oB, oC, oD]) rfl ?_
          refine ⟨_, rfl, by show 1 ≤ sizeLine; decide, fun q nq => ?_⟩
          have s1 := same_upd (o := .tup [dv]) nq
          have W1 := W.same s1
          exact ⟨_, _, rfl, ⟨W1.bag, W1.inL, W1.liv, W1.ba, .tup (offs_new (W.liv.new nq)) (.cons (dq_same (offs_same s1) W.dp) .nil)⟩, Th.go ltb (But.of_same s1)⟩
        · rintro σ' H' ⟨o7', dv, rfl, W, Th⟩
          obtain ⟨n, hn⟩ : ∃ n, ((56 : Int) + u).toNat = n + 1 := ⟨((56 : Int) + u).toNat - 1, by omega⟩
          rw [hn] at W
          exact ⟨_, dv, n, by omega, rfl, W, Th⟩
      clear W8 T8
      rintro σ' H9 ⟨o7', dv, n, hn, rfl, W9, T9⟩
      -- extend
      refine ⟨_, rfl, .inl ⟨rfl, _, SqL.of T9.at_⟩, to_cons (to_lst ?_)⟩
      have eQ : ∀ (L : List Addr) (σ : L2.St) (i : Int), EvQ K L (tTup (tCons (tC (V.int i)) (tCons (tTup tNil) tNil))) σ (.tuple [.int i, .tuple []]) := fun L σ i => eq_tup (eqa_cons (eq_c fun _ => .int _) (eqa_cons (eq_tup eqa_nil (by decide)) eqa_nil)) (by show 2 ≤ 100; decide)
      have pT : ∀ i : Int, i.natAbs < 10 → PartD (.tuple [.int i, .tuple []]) := fun i hi => by
        have e1 : i.natAbs < 10 ^ 50 := Nat.lt_trans hi (by decide)
        refine ⟨?_, ?_, ?_⟩
        · simp [plainQ, plainQs, e1]
        · simp [PyData.depth, PyData.depthAll]
        · rw [wq, wqs, wqs, wqs, wq_small (by omega), wq, wqs]
          omega
      have eC : ∀ i : Int, i.natAbs < 10 → EvW K [lt, b] b c lp tb vs pds dv (deepD (n + 1)) (tOp (rCatA K) (tVar 4) (tTup (tCons (tTup (tCons (tC (V.int i)) (tCons (tTup tNil) tNil))) tNil))) [some (.ref a), some (.ref b), some (.int ti), some (.ref lp), some (.ref tb), some (.ref lt), some dv, o7', o8, o9, oA, oB, oC, oD] Show := fun i hi =>
        ew_cat rfl (ew_q (eq_tup (eqa_cons (eQ _ _ i) eqa_nil) (by show 1 ≤ 100; decide)) ⟨_, rfl, by simp, by simp, fun x hx => by
          rw [List.mem_singleton] at hx
          rw [hx]
          exact pT i hi⟩)
      have eEx := ewa_cons (ew_q (P := Show) (b := b) (c := c) (lp := lp) (tb := tb) (vs := vs) (pds := pds) (dv := dv) (dd := deepD (n + 1)) (L := [lt, b]) (σ := [some (.ref a), some (.ref b), some (.int ti), some (.ref lp), some (.ref tb), some (.ref lt), some dv, o7', o8, o9, oA, oB, oC, oD]) (eq_tup (eqa_cons (eQ _ _ 1) eqa_nil) (by show 1 ≤ 100; decide)) (show_mk (t := true) (fun x hx => by
          rw [List.mem_singleton] at hx
          rw [hx]
          exact pT 1 (by decide)) (by show 1 ≤ 20; decide)))
        (ewa_cons (eC 2 (by decide)) (ewa_cons (eC 7 (by decide)) (ewa_cons (ew_var (i := 6) rfl (fun H W => W.dp) (show_mk (t := true) (ds := [deepD n]) (fun x hx => by
          rw [List.mem_singleton] at hx
          rw [hx]
          exact deep_part (by omega)) (by show 1 ≤ 20; decide)))
        (ewa_cons (ew_cat rfl (ew_var (i := 6) rfl (fun H W => W.dp) ⟨[deepD n], rfl, by simp, by simp, fun x hx => by
          rw [List.mem_singleton] at hx
          rw [hx]
          exact deep_part (by omega)⟩)) ewa_nil))))
      refine eEx H9 W9 _ fun ys es HA hlA hsA WA kA hyA => ⟨by rw [dqAll_len hyA, hlA, sizeLine_eq]; decide, fun e ne => ?_⟩
      clear eEx eC eQ pT
      have sA := same_upd (o := .lst ys) ne
      have TB := (T9.go ltb kA).go ltb (But.of_same sA)
      have WB := WA.same sA
      have hyB := dqAll_same (offs_same sA) hyA
      have lx := dqAll_len TB.dat
      have lx2 := TB.len
      have ly := dqAll_len hyA
      refine ⟨lt, e, xs, ys, rfl, rfl, TB.at_, upd_same, by rw [sizeLine_eq]; omega, ?_⟩
      have WC := WB.put (ys := xs ++ ys) ltb ltc TB.at_
      have TC := TB.put hyB hsA (m := 5) (by omega)
      generalize upd (upd HA e (.lst ys)) lt (.lst (xs ++ ys)) = HC at WC TC
      generalize xs ++ ys = xs2 at TC
      generalize ds ++ es = ds2 at TC
      clear WB TB WA W9 T9 sA hyA hyB lx lx2 ly
      refine ⟨fun σ' H' => ∃ o7 oA xs ds, σ' = [some (.ref a), some (.ref b), some (.int ti), some (.ref lp), some (.ref tb), some (.ref lt), some dv, o7, o8, o9, oA, oB, oC, oD] ∧ Wd K [lt, b] b c lp tb vs pds dv (deepD (n + 1)) H' ∧ Ths K lt b H' xs ds 21, ?_, ?_⟩
      · refine ⟨8, rfl, by decide, by decide, for_range (lo := 0) (n := (8 : Int).toNat) (fun i σ' H' => ∃ o7 oA xs ds, σ' = [some (.ref a), some (.ref b), some (.int ti), some (.ref lp), some (.ref tb), some (.ref lt), some dv, o7, o8, o9, oA, oB, oC, oD] ∧ Wd K [lt, b] b c lp tb vs pds dv (deepD (n + 1)) H' ∧ Ths K lt b H' xs ds (13 + i))
          ⟨_, _, _, _, rfl, WC, TC⟩ ?_ (fun σ' H' h => h)⟩
        rintro i σ' H' hi ⟨o7'', oA', xs, ds, rfl, W, Th⟩
        refine to_nm (σ' := [some (.ref a), some (.ref b), some (.int ti), some (.ref lp), some (.ref tb), some (.ref lt), some dv, some (.int (0 + (i : Int))), o8, o9, oA', oB, oC, oD]) rfl ?_
        generalize (0 + (i : Int)) = ki
        refine to_qasg (to_call (to_cons ⟨_, rfl, to_cons (to_call (to_cons ⟨_, rfl, to_cons (to_lst ?_)⟩))⟩))
        have eB := ewa_cons (ew_var (K := K) (i := 4) (P := SmallD) (b := b) (c := c) (lp := lp) (tb := tb) (vs := vs) (pds := pds) (dv := dv) (dd := deepD (n + 1)) (L := [lt, b]) (σ := [some (.ref a), some (.ref b), some (.int ti), some (.ref lp), some (.ref tb), some (.ref lt), some dv, some (.int ki), o8, o9, oA', oB, oC, oD]) rfl (fun H W => W.ba.bench) (small_mk (t := true) W.ba.ok W.ba.len))
          (ewa_cons (ew_ix (i := 0) (ti := tC (V.int 0)) rfl (fun _ _ q => q) hp0 hx0 fun d p => p.small) (ewa_cons (ew_var (i := 4) rfl (fun H W => W.ba.bench) (small_mk (t := true) W.ba.ok W.ba.len))
          (ewa_cons (ew_ix (i := -1) (ti := tUn (rU fun i => V.int (-i)) (tC (V.int 1))) rfl (fun _ _ q => ⟨1, rfl, q⟩) (by omega) hxm fun d p => p.small) ewa_nil)))
        refine eB H' W _ fun zs es H1 hl1 hs1 W1 k1 hz => ⟨by rw [dqAll_len hz, hl1, sizeLine_eq]; decide, fun l nl => ?_⟩
        clear eB
        have s1 := same_upd (o := .lst zs) nl
        have hzl := dqAll_len hz
        refine ⟨b, c, l, zs, rfl, (W1.same s1).bag, upd_same, W1.bag.ne_new nl, by omega, by omega, fun v H2 hv B2 k2 => ?_⟩
        obtain ⟨j, hj⟩ := List.getElem?_of_mem hv
        obtain ⟨d, hd, qd⟩ := dqAll_vat hz hj
        have sd := hs1 d (List.mem_of_getElem? hd)
        have W2 := (W1.same s1).go B2 k2
        have k12 : But b H1 H2 := (But.of_same s1).trans k2
        have T2 := (Th.go ltb k1).go ltb k12
        have qd2 := dq_same (offs_but W1.inL k12) qd
        have sw := sd.wd
        have sp := sd.dp
        refine ⟨b, c, [lt, b], v, d, rfl, B2, by simp, W2.liv, qd2, (show d.depth < 20 by omega), by omega, fun d' v' H3 hb' B3 k3 hv' => ?_⟩
        have W3 := W2.go B3 k3
        have T3 := T2.go ltb k3
        obtain ⟨b1, b2, b3⟩ := hb'
        refine to_nm (σ' := [some (.ref a), some (.ref b), some (.int ti), some (.ref lp), some (.ref tb), some (.ref lt), some dv, some (.int ki), o8, o9, some v', oB, oC, oD]) rfl ?_
        refine ⟨_, rfl, .inl ⟨rfl, _, SqL.of T3.at_⟩, _, rfl, b, c, 3, rfl, B3, by decide, small_log (by decide) (by decide), fun z H4 z0 z1 B4 k4 => ⟨rfl, _, rfl, ?_⟩⟩
        have W4 := W3.go B4 k4
        have T4 := T3.go ltb k4
        have hv4 := dq_same (offs_but W1.inL k4) hv'
        refine ite2 (fun _ => ?_) (fun _ => ?_)
        · refine ⟨_, rfl, _, rfl, b, c, [lt, b], v', d', rfl, B4, by simp, W4.liv, hv4, (show d'.depth < 20 by omega), by omega, fun d2 v2 H5 hb2 B5 k5 hv2 => ?_⟩
          have T5 := T4.go ltb k5
          have W5 := W4.go B5 k5
          have lx := dqAll_len T5.dat
          have lx2 := T5.len
          obtain ⟨c1, c2, c3⟩ := hb2
          have pl := b1 sd.pl
          exact ⟨lt, xs, v2, rfl, rfl, T5.at_, by rw [sizeLine_eq]; omega, _, _, _, _, rfl, W5.put ltb ltc T5.at_, T5.put (.cons hv2 .nil) (es := [d2]) (fun x hx => by
            rw [List.mem_singleton] at hx
            rw [hx]
            exact ⟨c1 pl, by omega, by omega⟩) (m := 1) (by simp)⟩
        · have lx := dqAll_len T4.dat
          have lx2 := T4.len
          have pl := b1 sd.pl
          exact ⟨v', rfl, lt, xs, v', rfl, rfl, T4.at_, by rw [sizeLine_eq]; omega, _, _, _, _, rfl, W4.put ltb ltc T4.at_, T4.put (.cons hv4 .nil) (es := [d']) (fun x hx => by
            rw [List.mem_singleton] at hx
            rw [hx]
            exact ⟨pl, by omega, by omega⟩) (m := 1) (by simp)⟩
      clear WC TC
      rintro σ' HD ⟨o7'', oA', xs, ds, rfl, WD, TD⟩
      refine ⟨fun σ' H' => ∃ o8 oB oC oD, σ' = [some (.ref a), some (.ref b), some (.int ti), some (.ref lp), some (.ref tb), some (.ref lt), some dv, o7'', o8, o9, oA', oB, oC, oD] ∧ Wd K [lt, b] b c lp tb vs pds dv (deepD (n + 1)) H', ?_, ?_⟩
      · refine ⟨_, rfl, lt, rfl, ⟨_, SqL.of TD.at_⟩, for_list (K := K) (a := lt) (xs := xs) (fun i σ' H' => ∃ o8 oB oC oD, σ' = [some (.ref a), some (.ref b), some (.int ti), some (.ref lp), some (.ref tb), some (.ref lt), some dv, o7'', o8, o9, oA', oB, oC, oD] ∧ Wd K [lt, b] b c lp tb vs pds dv (deepD (n + 1)) H' ∧ Ths K lt b H' xs ds 21)
          ⟨_, _, _, _, rfl, WD, TD⟩ (fun i σ' H' _ ⟨_, _, _, _, _, _, Th⟩ => SqL.of Th.at_) ?_ (fun σ' H' ⟨_, _, _, _, e, W, _⟩ => ⟨_, _, _, _, e, W⟩)⟩
        rintro i x σ' H' hx ⟨o8', oB', oC', oD', rfl, W, Th⟩
        obtain ⟨d, hd, qd⟩ := dqAll_vat Th.dat hx
        have sd := Th.shw d (List.mem_of_getElem? hd)
        refine to_nm (σ' := [some (.ref a), some (.ref b), some (.int ti), some (.ref lp), some (.ref tb), some (.ref lt), some dv, o7'', some x, o9, oA', oB', oC', oD']) rfl ?_
        have qd' := dq_same offs_sub qd
        refine to_qasg ⟨_, rfl, x, d, rfl, qd', sd.sh, sd.dp, sd.len, ?_⟩
        refine to_nm (σ' := [some (.ref a), some (.ref b), some (.int ti), some (.ref lp), some (.ref tb), some (.ref lt), some dv, o7'', some x, o9, oA', some (.str d.shown), oC', oD']) rfl ?_
        have fP : ∀ f : PyData → Bool, fPl f [d] = some (f d) := fun f => by
          show (if wq d ≤ 60000 then some (f d) else Option.none) = _
          rw [if_pos sd.wd]
        have eP : ∀ (σ' : L2.St) H1 (f : PyData → Bool), σ'[8]? = some (some x) → Same H' H1 → Evl.Ev (tCall (spB K 1 (fPl f)) [] E0 (tCons (tVar 8) tNil)) σ' H1 (.bl (f d)) := fun σ' H1 f e s =>
          Evl.ev_call (Evl.ea_cons (Evl.ev_var e) Evl.ea_nil) (spv_B (.cons (dq_same s qd') .nil) rfl (fP f))
        have eS : ∀ (σ' : L2.St) H1 (f : PyData → Bool), σ'[8]? = some (some x) → Same H' H1 → Evl.Ev (tCall (spBs K 1 (fPl f)) [] E0 (tCons (tVar 8) tNil)) σ' H1 (.bl (f d)) := fun σ' H1 f e s =>
          Evl.ev_call (Evl.ea_cons (Evl.ev_var e) Evl.ea_nil) (spv_Bs (W.same s).bag.sys (.cons (dq_same s qd') .nil) rfl (fP f))
        have eI : ∀ (σ' : L2.St) H1, σ'[8]? = some (some x) → Same H' H1 → Evl.Ev (tCall (spB K 1 (f1 On.isInt)) [] E0 (tCons (tVar 8) tNil)) σ' H1 (.bl (On.isInt d)) := fun σ' H1 e s =>
          Evl.ev_call (Evl.ea_cons (Evl.ev_var e) Evl.ea_nil) (spv_B (.cons (dq_same s qd') .nil) rfl rfl)
        refine to_qasg (Evl.el_lst (Evl.ea_cons (eS _ _ placeOk rfl (Evl.Ex.refl _)) (Evl.ea_cons (eS _ _ benchOk rfl (Evl.Ex.refl _)) (Evl.ea_cons (eI _ _ rfl (Evl.Ex.refl _)) Evl.ea_nil))) (by show 3 ≤ 100000; decide) H' (Evl.Ex.refl _) _ fun p H1 np s1 hp => ?_)
        refine to_nm (σ' := [some (.ref a), some (.ref b), some (.int ti), some (.ref lp), some (.ref tb), some (.ref lt), some dv, o7'', some x, o9, oA', some (.str d.shown), some (.ref p), oD']) rfl ?_
        refine to_qasg (Evl.el_lst (Evl.ea_cons (eP _ _ placeOk rfl s1) (Evl.ea_cons (eP _ _ benchOk rfl s1) (Evl.ea_cons (ev_isInt (fun H1 _ => Evl.ev_var rfl) (dq_same s1 qd')) Evl.ea_nil))) (by show 3 ≤ 100000; decide) H1 (Evl.Ex.refl _) _ fun q H2 nq s2 hq => ?_)
        refine to_nm (σ' := [some (.ref a), some (.ref b), some (.int ti), some (.ref lp), some (.ref tb), some (.ref lt), some dv, o7'', some x, o9, oA', some (.str d.shown), some (.ref p), some (.ref q)]) rfl ?_
        have W1 := W.same s1
        have W2 := W1.same s2
        have T2 := (Th.go ltb (But.of_same s1)).go ltb (But.of_same s2)
        refine ⟨_, rfl, _, rfl, .ref p, .ref q, .list [.bool (placeOk d), .bool (benchOk d), .bool (On.isInt d)], rfl, .lst (s2 _ _ hp) (W.bag.ne_sys np) (.cons (.bl _) (.cons (.bl _) (.cons (.bl _) .nil))), .lst hq (W1.bag.ne_sys nq) (.cons (.bl _) (.cons (.bl _) (.cons (.bl _) .nil))), ?_, _, rfl, iteF ?_⟩
        · exact fine3 _ _ _
        refine ⟨_, rfl, x, d, rfl, dq_same (s1.trans s2) qd', sd.sh, sd.dp, sd.len, _, rfl, rfl, _, rfl, ?_⟩
        rw [decide_eq_true rfl]
        exact ⟨_, _, _, _, rfl, W2, T2⟩
      clear WD TD
      rintro σ' HE ⟨o8', oB', oC', oD', rfl, WE⟩
      refine ⟨fun σ' H' => σ' = [some (.ref a), some (.ref b), some (.int ti), some (.ref lp), some (.ref tb), some (.ref lt), some dv, o7'', o8', o9, oA', oB', oC', oD'] ∧ Wd K [lt, b] b c lp tb vs pds dv (deepD (n + 1)) H', ?_, ?_⟩
      · have sB := (small_mk (t := true) WE.ba.ok WE.ba.len).shw
        have f1' : fPl benchOk [mk true pds] = some true := by
          show (if wq (mk true pds) ≤ 60000 then some (benchOk (mk true pds)) else Option.none) = _
          rw [if_pos sB.wd]
          exact congrArg some (bench_ok WE.ba.ok WE.ba.ne)
        refine ⟨_, rfl, WE.bag.sys, [mk true pds], true, .cons (dq_same offs_sub WE.ba.bench) .nil, rfl, f1', fun H1 s1 => ⟨true, true, rfl, rfl, _, rfl, iteF ?_⟩⟩
        have W1 := WE.same s1
        obtain ⟨v, d, e1, pd, qd⟩ := W1.ba.at hp0
        have f2' : fPl placeOk [d] = some true := by
          show (if wq d ≤ 60000 then some (placeOk d) else Option.none) = _
          rw [if_pos (by have := pd.wd; omega)]
          exact congrArg some pd.ok
        have e0 : atI vs 0 = some v := by
          unfold atI
          rw [W1.ba.vlen, hx0]
          exact e1
        refine ⟨_, rfl, lp, vs, 0, v, rfl, rfl, SqL.of (offs_sub _ _ W1.ba.lpAt), e0, W1.bag.sys, [d], true, .cons (dq_same offs_sub qd) .nil, rfl, f2', fun H2 s2 => ⟨true, true, rfl, rfl, _, rfl, iteF ⟨rfl, W1.same s2⟩⟩⟩
      clear WE
      rintro σ' HE ⟨rfl, WE⟩
      -- number
      refine to_qasg (to_call (to_cons ⟨_, rfl, to_cons (to_lst ?_)⟩))
      have eN := ewa_cons (ew_q (K := K) (P := fun _ => True) (b := b) (c := c) (lp := lp) (tb := tb) (vs := vs) (pds := pds) (dv := dv) (dd := deepD (n + 1)) (L := [lt, b]) (σ := [some (.ref a), some (.ref b), some (.int ti), some (.ref lp), some (.ref tb), some (.ref lt), some dv, o7'', o8', o9, oA', oB', oC', oD']) (eq_c (v := V.int 0) fun _ => .int _) trivial)
        (ewa_cons (ew_q (eq_neg (i := 1)) trivial) (ewa_cons (ew_q (eq_c (v := V.bl true) fun _ => .bl _) trivial) (ewa_cons (ew_q (eq_c (v := V.bl false) fun _ => .bl _) trivial) (ewa_cons (te := tOp (rI CPow fun i j => V.int (i ^ j.toNat)) (tC (V.int 10)) (tC (V.int 39))) (fun H W Q q => ⟨10, 39, rfl, rfl, ⟨by decide, by decide, by decide⟩, q _ _ H trivial W (But.refl _ _) (.int _)⟩)
        (ewa_cons (te := tCall spTake [] E0 (tCons (tVar 1) (tCons (tC (V.int 99)) tNil))) (fun H W Q q => ⟨_, rfl, b, c, 99, rfl, W.bag, by decide, small_log (by decide) (by decide), fun u H1 u0 u1 B1 k1 => q _ _ H1 trivial (W.go B1 k1) k1 (.int _)⟩)
        (ewa_cons (ew_q (eq_c (v := V.str (Str.ofString "1")) fun _ => .str _) trivial) (ewa_cons (ew_q (eq_c (v := V.non) fun _ => .non) trivial) ewa_nil)))))))
      refine eN HE WE _ fun zs es H1 hl1 _ W1 k1 hz => ⟨by rw [dqAll_len hz, hl1, sizeLine_eq]; decide, fun l nl => ?_⟩
      clear eN
      have s1 := same_upd (o := .lst zs) nl
      have hzl := dqAll_len hz
      refine ⟨b, c, l, zs, rfl, (W1.same s1).bag, upd_same, W1.bag.ne_new nl, by omega, by omega, fun v H2 hv B2 k2 => ?_⟩
      obtain ⟨j, hj⟩ := List.getElem?_of_mem hv
      obtain ⟨d, hd, qd⟩ := dqAll_vat hz hj
      have qd2 : Dq K H2 v d := dq_same offs_sub (dq_same (offs_but W1.inL ((But.of_same s1).trans k2)) qd)
      refine to_nm (σ' := [some (.ref a), some (.ref b), some (.int ti), some (.ref lp), some (.ref tb), some (.ref lt), some dv, o7'', o8', some v, oA', oB', oC', oD']) rfl ?_
      refine ⟨_, rfl, [d], On.isInt d, .cons qd2 .nil, rfl, rfl, fun H3 s3 => ?_⟩
      refine ev_isInt (fun H1 _ => Evl.ev_var rfl) (dq_same s3 qd2) H3 (Evl.Ex.refl _) _ fun H4 s4 => ⟨.bl _, .bl _, .bool (On.isInt d), rfl, .bl _, .bl _, fine1 _, _, rfl, iteF ?_⟩
      exact ⟨_, _, _, _, _, _, _, _, _, _, _, _, rfl, (B2.same s3).same s4⟩
    · rintro σ' H2 ⟨o2, o3, o4, o5, o6, o7, o8, o9, oA, oB, oC, oD, rfl, B2⟩
      exact k H2
end
end K11

namespace On
open PySem PySem.Spec PyProof.Rows L2
/-- the call of the law, nothing but given things tracked -/
theorem call_core {P : Program} {w : World} {K : PySem.W.Frag} {mg mb : Str → Option Value} {k : Nat} {fa a : Addr} {fd : FuncData} {x : Str} {sp : Sp} {s₁ : Shared} {H : Hp}
    (KX : K.In s₁.heap) (hns : s₁.heap.Ns mainGlobals mg) (hb : s₁.heap.Ns builtinsNs mb) (hbb : ∀ x : Str, x ≠ "__name__" → mb x = bootBuiltins x) (hlim : s₁.heap.NoLimit) (hg : s₁.gens = #[]) (hr : Room k callerA)
    (F : ∀ base : Heap, K.In base → base.Ns mainGlobals mg → FnG P w K mg base k fa fd [x] sp) (hbind : ∀ (s : Shared) (u : Value), BindsTo s fd ⟨[u], []⟩ [(x, u)])
    (hok : HOk P w H s₁.heap) (h2 : ∀ b u, H b = some u → ∃ ob v, u = .frz ob v) (h3 : ∀ b u, H b = some u → K.lookup b = Option.none) (n1 : H mainGlobals = Option.none) (n2 : H builtinsNs = Option.none) (n3 : H cStatics = Option.none)
    (hsp : sp [.ref a] H (fun v _ => v = .bl true) fun _ _ _ => False) :
    codeAny (model P w) callerA (.call (.ref fa) ⟨[.ref a], []⟩) (fun r s' => r = .ok (.ret (.bool true)) ∧ OldK s₁.heap s'.heap ∧ s'.os = s₁.os ∧ AllBare s'.gens) s₁ := by
  have ns : ∀ {b : Addr} {m : Str → Option Value}, H b = Option.none → s₁.heap.Ns b m → (hidT s₁.heap H).Ns b m := fun n ⟨o, es, ep, e, r⟩ => ⟨o, es, ep, hidT_get e n, r⟩
  have kin : K.In (hidT s₁.heap H) := fun b o e => hidT_get (KX b o e) (by
    cases q : H b with
    | none => rfl
    | some u =>
      rw [h3 b u q] at e
      cases e)
  obtain ⟨mc, c1, c2⟩ := hlim
  have M : Mod K mg (hidT s₁.heap H) := ⟨kin, ns n1 hns, ⟨mb, ns n2 hb, hbb⟩, ⟨mc, ns n3 c1, c2⟩⟩
  have e0 : Env0 P w K mg (hidT s₁.heap H) callerA [] s₁ H := ⟨rfl, M, fun b o e => of_hidT e, Nat.le_of_eq (hidT_size _ _), trivial, fun b hb => absurd (show b ∈ ([] : List Addr) from hb) (by simp), hok, .of_eq hg⟩
  refine codeAny_mono ((F _ kin (ns n1 hns)).go callerA [] s₁ H ⟨[.ref a], []⟩ [.ref a] [.ref a] _ _ rfl hr e0 (hbind s₁ (.ref a)) (.cons rfl .nil) hsp) fun r s' h => ?_
  cases r with
  | error e => exact False.elim h
  | ok fl =>
    cases fl with
    | next => exact False.elim h
    | brk => exact False.elim h
    | cont => exact False.elim h
    | ret u =>
      obtain ⟨v, H', os, bare, un, hok', r', q⟩ := h
      obtain rfl : v = .bl true := q
      obtain rfl : u = Value.bool true := r'
      refine ⟨rfl, OldK.of_keep fun b o e => ?_, os, bare⟩
      cases q : H b with
      | none => exact un.keep b o e q (by intro z; exact absurd (show b ∈ ([] : List Addr) from z) (by simp)) (by simp)
      | some u =>
        obtain ⟨ob, y, rfl⟩ := h2 b u q
        obtain ⟨e1, _⟩ := hok b _ q
        obtain ⟨e2, _⟩ := hok' b _ (un.frzs b ob _ q)
        rw [e] at e1
        cases e1
        exact e2
def sysH (o : Obj) : Hp := fun b => if b = sysModules then some (HO.frz o (.ext fun _ => True)) else Option.none
theorem sysH_at {o : Obj} : sysH o sysModules = some (HO.frz o (.ext fun _ => True)) := if_pos rfl
theorem sysH_ne {o : Obj} {b : Addr} (h : b ≠ sysModules) : sysH o b = Option.none := if_neg h
theorem sysH_some {o : Obj} {b : Addr} {u : HO} (h : sysH o b = some u) : b = sysModules ∧ u = HO.frz o (.ext fun _ => True) := by
  by_cases e : b = sysModules
  · subst e
    rw [sysH_at] at h
    cases h
    exact ⟨rfl, rfl⟩
  · rw [sysH_ne e] at h
    cases h
theorem walk_G {l : PySem.W.OpenLaw} {n k : Nat} {q : Program} {loose : List Str} {XP : (Str → Option Value) → Heap → Prop} {YP : World → Heap → Prop} {d : DefRec} {K : Params → PySem.W.Frag} {sp : PySem.W.Frag → Sp} {x : Str}
    (hn : l.most = some n) (hn2 : n ≤ sizeLine) (hdf : d.params.defaults = []) (hr : Room k callerA) (hi : importsNone q = true)
    (hY : ∀ (w : World) (h : Heap), YP w h → (K w.params).In h)
    (F : ∀ (w : World) (mg : Str → Option Value) (fa : Addr) (h : Heap), (K w.params).In h → h.Ns mainGlobals mg → mg d.name = some (.ref fa) →
      (K w.params).lookup sysModules = Option.none ∧ ∃ fd : FuncData, (∀ (s : Shared) (u : Value), BindsTo s fd ⟨[u], []⟩ [(x, u)]) ∧
        ∀ base : Heap, (K w.params).In base → base.Ns mainGlobals mg → FnG l.prog w (K w.params) mg base k fa fd [x] (sp (K w.params)))
    (hsp : ∀ (K : PySem.W.Frag) (H : Hp) (a : Addr) (ns : List Int), ns.length ≤ n → Sys H → SqL K H a (ns.map V.int) → sp K [.ref a] H (fun v _ => v = .bl true) fun _ _ _ => False) :
    PySem.W.WalkO q loose XP YP l.row.toRowW d [] (fun f vs => PySem.call f vs) := by
  refine Att.attach_call hn hdf fun w s₀ s₁ mg mb fa o pm cd doc a vs ns G Y ho hd hcd hmg hobj hints hlen hg => ?_
  have KX := hY w _ Y
  obtain ⟨hs, fd, hb, hF⟩ := F w mg fa _ KX G.T.g hmg
  obtain ⟨_, ⟨o2, _, _, ho2, _⟩, _⟩ := (G.T.seer hi).mods
  have hl := hints.length
  have na : ∀ {b : Addr} {m : Str → Option Value}, s₁.heap.Ns b m → b ≠ a := fun ⟨o, es, ep, e, d, _⟩ z => by
    rw [z, hobj] at e
    cases e
    cases d
  obtain ⟨mc, c1, c2⟩ := id G.T.nolimit
  have hx : ∀ H, ObjOk l.prog w H s₁.heap sysModules (HO.frz o2 (.ext fun _ => True)) := fun H => ⟨ho2, trivial, ⟨o2, ho2⟩, fun _ _ _ _ => trivial⟩
  have s1 : mainGlobals ≠ sysModules := by decide
  have s2 : builtinsNs ≠ sysModules := by decide
  have s3 : cStatics ≠ sysModules := by decide
  cases hk : (K w.params).lookup a with
  | some oa =>
    have e := KX a oa hk
    rw [hobj] at e
    cases e
    refine call_core (H := sysH o2) KX G.T.g G.T.b G.T.builtins G.T.nolimit hg hr hF hb (fun b u z => ?_) (fun b u z => ?_) (fun b u z => ?_) (sysH_ne s1) (sysH_ne s2) (sysH_ne s3)
      (hsp _ _ a ns hlen ⟨(o2, _), sysH_at⟩ (.inr ⟨_, vs.toArray, _, hk, rfl, rfl, rfl, by rw [List.size_toArray, hl]; exact Nat.le_trans hlen hn2, by simpa using vals_ints hints⟩))
    · obtain ⟨rfl, rfl⟩ := sysH_some z
      exact hx _
    · obtain ⟨rfl, rfl⟩ := sysH_some z
      exact ⟨_, _, rfl⟩
    · obtain ⟨rfl, rfl⟩ := sysH_some z
      exact hs
  | none =>
    have ne : ∀ {b : Addr}, b ≠ a → b ≠ sysModules → upd (sysH o2) a (.frz { cls := .type "list", data := .seq vs.toArray } (.lst (ns.map V.int))) b = Option.none := fun h1 h2 => by
      rw [upd_ne h1]
      exact sysH_ne h2
    have sm : ∀ {b : Addr} {u : HO}, upd (sysH o2) a (.frz { cls := .type "list", data := .seq vs.toArray } (.lst (ns.map V.int))) b = some u → (b = a ∧ u = .frz { cls := .type "list", data := .seq vs.toArray } (.lst (ns.map V.int))) ∨ (b = sysModules ∧ u = HO.frz o2 (.ext fun _ => True)) := fun {b u} z => by
      by_cases e : b = a
      · subst e
        rw [upd_same] at z
        cases z
        exact .inl ⟨rfl, rfl⟩
      · rw [upd_ne e] at z
        exact .inr (sysH_some z)
    have hSys : Sys (upd (sysH o2) a (.frz { cls := .type "list", data := .seq vs.toArray } (.lst (ns.map V.int)))) := by
      by_cases e : sysModules = a
      · exact ⟨(_, _), by rw [← e]; exact upd_same⟩
      · exact ⟨(o2, _), by rw [upd_ne e]; exact sysH_at⟩
    refine call_core (H := upd (sysH o2) a (.frz { cls := .type "list", data := .seq vs.toArray } (.lst (ns.map V.int)))) KX G.T.g G.T.b G.T.builtins G.T.nolimit hg hr hF hb (fun b u z => ?_) (fun b u z => ?_) (fun b u z => ?_) (ne (na G.T.g) s1) (ne (na G.T.b) s2) (ne (na c1) s3)
      (hsp _ _ a ns hlen hSys (.inl (.inr ⟨_, upd_same⟩)))
    · rcases sm z with ⟨rfl, rfl⟩ | ⟨rfl, rfl⟩
      · exact ⟨hobj, by rw [List.length_map]; exact Nat.le_trans hlen hn2, vs, _, vals_ints hints, hobj⟩
      · exact hx _
    · rcases sm z with ⟨rfl, rfl⟩ | ⟨rfl, rfl⟩ <;> exact ⟨_, _, rfl⟩
    · rcases sm z with ⟨rfl, rfl⟩ | ⟨rfl, rfl⟩
      · exact hk
      · exact hs
end On

namespace K11
open PySem PySem.Spec PyProof.Rows L2 On L11
theorem df_mk {K : PySem.W.Frag} {h : Heap} {mg : Str → Option Value} {x : Str} {st : Stmt} {ps : List Str} {f : Addr} {oc : Value} {od an : Option Addr} {osl : Array (Option Value)} {kV doc pm cdv ct : Value} (X : K.In h) (G : h.Ns mainGlobals mg)
    (a : PySem.W.nsIn K mainGlobals x = some (some (.ref f))) (l : K.lookup f = some ⟨oc, od, .func (PySem.W.fnOf x x (defArgs st) (defBody st) (defScope st) .none kV doc pm an cdv ct), osl⟩) (c : PySem.W.codeIn K cdv x = true) (k : PySem.W.keepIn K (.ref f) = true)
    (b : ∀ F : Fun K x x st f (PySem.W.fnOf x x (defArgs st) (defBody st) (defScope st) .none kV doc pm an cdv ct), Binds K (PySem.W.fnOf x x (defArgs st) (defBody st) (defScope st) .none kV doc pm an cdv ct) ps []) : Df K mg x st ps f (PySem.W.fnOf x x (defArgs st) (defBody st) (defScope st) .none kV doc pm an cdv ct) :=
  ⟨fun_mk l c k, PySem.W.mg_of X G a, b (fun_mk l c k)⟩
theorem all_mk {l : PySem.W.OpenLaw} {w : World} {K : PySem.W.Frag} {h : Heap} {mg : Str → Option Value} {fa ff f0 f1 f2 f3 f4 f5 f6 f7 f8 f9 f10 f11 f12 f13 f14 f15 f16 f17 f18 : Addr} (X : K.In h) (G : h.Ns mainGlobals mg) (hfa : mg "law" = some (.ref fa))
    {od0 an0 od1 an1 od2 an2 od3 an3 od4 an4 od5 an5 od6 an6 od7 an7 od8 an8 od9 an9 od10 an10 od11 an11 od12 an12 od13 an13 od14 an14 od15 an15 od16 an16 od17 an17 od18 an18 : Option Addr} {sl0 sl1 sl2 sl3 sl4 sl5 sl6 sl7 sl8 sl9 sl10 sl11 sl12 sl13 sl14 sl15 sl16 sl17 sl18 : Array (Option Value)} {oc0 kV0 dc0 pm0 cd0 ct0 oc1 kV1 dc1 pm1 cd1 ct1 oc2 kV2 dc2 pm2 cd2 ct2 oc3 kV3 dc3 pm3 cd3 ct3 oc4 kV4 dc4 pm4 cd4 ct4 oc5 kV5 dc5 pm5 cd5 ct5 oc6 kV6 dc6 pm6 cd6 ct6 oc7 kV7 dc7 pm7 cd7 ct7 oc8 kV8 dc8 pm8 cd8 ct8 oc9 kV9 dc9 pm9 cd9 ct9 oc10 kV10 dc10 pm10 cd10 ct10 oc11 kV11 dc11 pm11 cd11 ct11 oc12 kV12 dc12 pm12 cd12 ct12 oc13 kV13 dc13 pm13 cd13 ct13 oc14 kV14 dc14 pm14 cd14 ct14 oc15 kV15 dc15 pm15 cd15 ct15 oc16 kV16 dc16 pm16 cd16 ct16 oc17 kV17 dc17 pm17 cd17 ct17 oc18 kV18 dc18 pm18 cd18 ct18 : Value} (sm : PySem.W.typeIn K (.ref 1) = none)
    (fm : PySem.W.nsIn K mainGlobals "FREE_MOVES" = some (some (.ref ff))) (fr : freeAt K ff = true)
    (a0 : PySem.W.nsIn K mainGlobals "is_integer" = some (some (.ref f0))) (l0 : K.lookup f0 = some ⟨oc0, od0, .func (PySem.W.fnOf "is_integer" "is_integer" (defArgs sis_integer) (defBody sis_integer) (defScope sis_integer) .none kV0 dc0 pm0 an0 cd0 ct0), sl0⟩) (c0 : PySem.W.codeIn K cd0 "is_integer" = true) (k0 : PySem.W.keepIn K (.ref f0) = true)
    (a1 : PySem.W.nsIn K mainGlobals "_is_tuple_of" = some (some (.ref f1))) (l1 : K.lookup f1 = some ⟨oc1, od1, .func (PySem.W.fnOf "_is_tuple_of" "_is_tuple_of" (defArgs s_is_tuple_of) (defBody s_is_tuple_of) (defScope s_is_tuple_of) .none kV1 dc1 pm1 an1 cd1 ct1), sl1⟩) (c1 : PySem.W.codeIn K cd1 "_is_tuple_of" = true) (k1 : PySem.W.keepIn K (.ref f1) = true)
    (a2 : PySem.W.nsIn K mainGlobals "ascends" = some (some (.ref f2))) (l2 : K.lookup f2 = some ⟨oc2, od2, .func (PySem.W.fnOf "ascends" "ascends" (defArgs sascends) (defBody sascends) (defScope sascends) .none kV2 dc2 pm2 an2 cd2 ct2), sl2⟩) (c2 : PySem.W.codeIn K cd2 "ascends" = true) (k2 : PySem.W.keepIn K (.ref f2) = true)
    (a3 : PySem.W.nsIn K mainGlobals "is_place" = some (some (.ref f3))) (l3 : K.lookup f3 = some ⟨oc3, od3, .func (PySem.W.fnOf "is_place" "is_place" (defArgs sis_place) (defBody sis_place) (defScope sis_place) .none kV3 dc3 pm3 an3 cd3 ct3), sl3⟩) (c3 : PySem.W.codeIn K cd3 "is_place" = true) (k3 : PySem.W.keepIn K (.ref f3) = true)
    (a4 : PySem.W.nsIn K mainGlobals "is_bench" = some (some (.ref f4))) (l4 : K.lookup f4 = some ⟨oc4, od4, .func (PySem.W.fnOf "is_bench" "is_bench" (defArgs sis_bench) (defBody sis_bench) (defScope sis_bench) .none kV4 dc4 pm4 an4 cd4 ct4), sl4⟩) (c4 : PySem.W.codeIn K cd4 "is_bench" = true) (k4 : PySem.W.keepIn K (.ref f4) = true)
    (a5 : PySem.W.nsIn K mainGlobals "_law_bag" = some (some (.ref f5))) (l5 : K.lookup f5 = some ⟨oc5, od5, .func (PySem.W.fnOf "_law_bag" "_law_bag" (defArgs s_law_bag) (defBody s_law_bag) (defScope s_law_bag) .none kV5 dc5 pm5 an5 cd5 ct5), sl5⟩) (c5 : PySem.W.codeIn K cd5 "_law_bag" = true) (k5 : PySem.W.keepIn K (.ref f5) = true)
    (a6 : PySem.W.nsIn K mainGlobals "_law_take" = some (some (.ref f6))) (l6 : K.lookup f6 = some ⟨oc6, od6, .func (PySem.W.fnOf "_law_take" "_law_take" (defArgs s_law_take) (defBody s_law_take) (defScope s_law_take) .none kV6 dc6 pm6 an6 cd6 ct6), sl6⟩) (c6 : PySem.W.codeIn K cd6 "_law_take" = true) (k6 : PySem.W.keepIn K (.ref f6) = true)
    (a7 : PySem.W.nsIn K mainGlobals "_law_some" = some (some (.ref f7))) (l7 : K.lookup f7 = some ⟨oc7, od7, .func (PySem.W.fnOf "_law_some" "_law_some" (defArgs s_law_some) (defBody s_law_some) (defScope s_law_some) .none kV7 dc7 pm7 an7 cd7 ct7), sl7⟩) (c7 : PySem.W.codeIn K cd7 "_law_some" = true) (k7 : PySem.W.keepIn K (.ref f7) = true)
    (a8 : PySem.W.nsIn K mainGlobals "_law_alike" = some (some (.ref f8))) (l8 : K.lookup f8 = some ⟨oc8, od8, .func (PySem.W.fnOf "_law_alike" "_law_alike" (defArgs s_law_alike) (defBody s_law_alike) (defScope s_law_alike) .none kV8 dc8 pm8 an8 cd8 ct8), sl8⟩) (c8 : PySem.W.codeIn K cd8 "_law_alike" = true) (k8 : PySem.W.keepIn K (.ref f8) = true)
    (a9 : PySem.W.nsIn K mainGlobals "_law_mixed" = some (some (.ref f9))) (l9 : K.lookup f9 = some ⟨oc9, od9, .func (PySem.W.fnOf "_law_mixed" "_law_mixed" (defArgs s_law_mixed) (defBody s_law_mixed) (defScope s_law_mixed) .none kV9 dc9 pm9 an9 cd9 ct9), sl9⟩) (c9 : PySem.W.codeIn K cd9 "_law_mixed" = true) (k9 : PySem.W.keepIn K (.ref f9) = true)
    (a10 : PySem.W.nsIn K mainGlobals "_law_place" = some (some (.ref f10))) (l10 : K.lookup f10 = some ⟨oc10, od10, .func (PySem.W.fnOf "_law_place" "_law_place" (defArgs s_law_place) (defBody s_law_place) (defScope s_law_place) .none kV10 dc10 pm10 an10 cd10 ct10), sl10⟩) (c10 : PySem.W.codeIn K cd10 "_law_place" = true) (k10 : PySem.W.keepIn K (.ref f10) = true)
    (a11 : PySem.W.nsIn K mainGlobals "_law_is_int" = some (some (.ref f11))) (l11 : K.lookup f11 = some ⟨oc11, od11, .func (PySem.W.fnOf "_law_is_int" "_law_is_int" (defArgs s_law_is_int) (defBody s_law_is_int) (defScope s_law_is_int) .none kV11 dc11 pm11 an11 cd11 ct11), sl11⟩) (c11 : PySem.W.codeIn K cd11 "_law_is_int" = true) (k11 : PySem.W.keepIn K (.ref f11) = true)
    (a12 : PySem.W.nsIn K mainGlobals "_law_rises" = some (some (.ref f12))) (l12 : K.lookup f12 = some ⟨oc12, od12, .func (PySem.W.fnOf "_law_rises" "_law_rises" (defArgs s_law_rises) (defBody s_law_rises) (defScope s_law_rises) .none kV12 dc12 pm12 an12 cd12 ct12), sl12⟩) (c12 : PySem.W.codeIn K cd12 "_law_rises" = true) (k12 : PySem.W.keepIn K (.ref f12) = true)
    (a13 : PySem.W.nsIn K mainGlobals "_law_is_place" = some (some (.ref f13))) (l13 : K.lookup f13 = some ⟨oc13, od13, .func (PySem.W.fnOf "_law_is_place" "_law_is_place" (defArgs s_law_is_place) (defBody s_law_is_place) (defScope s_law_is_place) .none kV13 dc13 pm13 an13 cd13 ct13), sl13⟩) (c13 : PySem.W.codeIn K cd13 "_law_is_place" = true) (k13 : PySem.W.keepIn K (.ref f13) = true)
    (a14 : PySem.W.nsIn K mainGlobals "_law_is_bench" = some (some (.ref f14))) (l14 : K.lookup f14 = some ⟨oc14, od14, .func (PySem.W.fnOf "_law_is_bench" "_law_is_bench" (defArgs s_law_is_bench) (defBody s_law_is_bench) (defScope s_law_is_bench) .none kV14 dc14 pm14 an14 cd14 ct14), sl14⟩) (c14 : PySem.W.codeIn K cd14 "_law_is_bench" = true) (k14 : PySem.W.keepIn K (.ref f14) = true)
    (a15 : PySem.W.nsIn K mainGlobals "_law_odd" = some (some (.ref f15))) (l15 : K.lookup f15 = some ⟨oc15, od15, .func (PySem.W.fnOf "_law_odd" "_law_odd" (defArgs s_law_odd) (defBody s_law_odd) (defScope s_law_odd) .none kV15 dc15 pm15 an15 cd15 ct15), sl15⟩) (c15 : PySem.W.codeIn K cd15 "_law_odd" = true) (k15 : PySem.W.keepIn K (.ref f15) = true)
    (a16 : PySem.W.nsIn K mainGlobals "_law_bent" = some (some (.ref f16))) (l16 : K.lookup f16 = some ⟨oc16, od16, .func (PySem.W.fnOf "_law_bent" "_law_bent" (defArgs s_law_bent) (defBody s_law_bent) (defScope s_law_bent) .none kV16 dc16 pm16 an16 cd16 ct16), sl16⟩) (c16 : PySem.W.codeIn K cd16 "_law_bent" = true) (k16 : PySem.W.keepIn K (.ref f16) = true)
    (a17 : PySem.W.nsIn K mainGlobals "_law_flat" = some (some (.ref f17))) (l17 : K.lookup f17 = some ⟨oc17, od17, .func (PySem.W.fnOf "_law_flat" "_law_flat" (defArgs s_law_flat) (defBody s_law_flat) (defScope s_law_flat) .none kV17 dc17 pm17 an17 cd17 ct17), sl17⟩) (c17 : PySem.W.codeIn K cd17 "_law_flat" = true) (k17 : PySem.W.keepIn K (.ref f17) = true)
    (a18 : PySem.W.nsIn K mainGlobals "law" = some (some (.ref f18))) (l18 : K.lookup f18 = some ⟨oc18, od18, .func (PySem.W.fnOf "law" "law" (defArgs slaw) (defBody slaw) (defScope slaw) .none kV18 dc18 pm18 an18 cd18 ct18), sl18⟩) (c18 : PySem.W.codeIn K cd18 "law" = true) (k18 : PySem.W.keepIn K (.ref f18) = true)
    (n_abs : PySem.W.nsIn K mainGlobals "abs" = some none)
    (n_all : PySem.W.nsIn K mainGlobals "all" = some none)
    (n_bool : PySem.W.nsIn K mainGlobals "bool" = some none)
    (n_int : PySem.W.nsIn K mainGlobals "int" = some none)
    (n_isinstance : PySem.W.nsIn K mainGlobals "isinstance" = some none)
    (n_len : PySem.W.nsIn K mainGlobals "len" = some none)
    (n_list : PySem.W.nsIn K mainGlobals "list" = some none)
    (n_range : PySem.W.nsIn K mainGlobals "range" = some none)
    (n_repr : PySem.W.nsIn K mainGlobals "repr" = some none)
    (n_sorted : PySem.W.nsIn K mainGlobals "sorted" = some none)
    (n_tuple : PySem.W.nsIn K mainGlobals "tuple" = some none) :
    K.lookup sysModules = none ∧ ∃ fd : FuncData, (∀ (s : Shared) (v : Value), BindsTo s fd ⟨[v], []⟩ [("_law_script", v)]) ∧ ∀ base : Heap, K.In base → base.Ns mainGlobals mg → FnG l.prog w K mg base 25 fa fd ["_law_script"] (spLaw K) := by
  have e := hfa.symm.trans (PySem.W.mg_of X G a18)
  cases e
  let A : Ads := ⟨f0, PySem.W.fnOf "is_integer" "is_integer" (defArgs sis_integer) (defBody sis_integer) (defScope sis_integer) .none kV0 dc0 pm0 an0 cd0 ct0, f1, PySem.W.fnOf "_is_tuple_of" "_is_tuple_of" (defArgs s_is_tuple_of) (defBody s_is_tuple_of) (defScope s_is_tuple_of) .none kV1 dc1 pm1 an1 cd1 ct1, f2, PySem.W.fnOf "ascends" "ascends" (defArgs sascends) (defBody sascends) (defScope sascends) .none kV2 dc2 pm2 an2 cd2 ct2, f3, PySem.W.fnOf "is_place" "is_place" (defArgs sis_place) (defBody sis_place) (defScope sis_place) .none kV3 dc3 pm3 an3 cd3 ct3, f4, PySem.W.fnOf "is_bench" "is_bench" (defArgs sis_bench) (defBody sis_bench) (defScope sis_bench) .none kV4 dc4 pm4 an4 cd4 ct4, f5, PySem.W.fnOf "_law_bag" "_law_bag" (defArgs s_law_bag) (defBody s_law_bag) (defScope s_law_bag) .none kV5 dc5 pm5 an5 cd5 ct5, f6, PySem.W.fnOf "_law_take" "_law_take" (defArgs s_law_take) (defBody s_law_take) (defScope s_law_take) .none kV6 dc6 pm6 an6 cd6 ct6, f7, PySem.W.fnOf "_law_some" "_law_some" (defArgs s_law_some) (defBody s_law_some) (defScope s_law_some) .none kV7 dc7 pm7 an7 cd7 ct7, f8, PySem.W.fnOf "_law_alike" "_law_alike" (defArgs s_law_alike) (defBody s_law_alike) (defScope s_law_alike) .none kV8 dc8 pm8 an8 cd8 ct8, f9, PySem.W.fnOf "_law_mixed" "_law_mixed" (defArgs s_law_mixed) (defBody s_law_mixed) (defScope s_law_mixed) .none kV9 dc9 pm9 an9 cd9 ct9, f10, PySem.W.fnOf "_law_place" "_law_place" (defArgs s_law_place) (defBody s_law_place) (defScope s_law_place) .none kV10 dc10 pm10 an10 cd10 ct10, f11, PySem.W.fnOf "_law_is_int" "_law_is_int" (defArgs s_law_is_int) (defBody s_law_is_int) (defScope s_law_is_int) .none kV11 dc11 pm11 an11 cd11 ct11, f12, PySem.W.fnOf "_law_rises" "_law_rises" (defArgs s_law_rises) (defBody s_law_rises) (defScope s_law_rises) .none kV12 dc12 pm12 an12 cd12 ct12, f13, PySem.W.fnOf "_law_is_place" "_law_is_place" (defArgs s_law_is_place) (defBody s_law_is_place) (defScope s_law_is_place) .none kV13 dc13 pm13 an13 cd13 ct13, f14, PySem.W.fnOf "_law_is_bench" "_law_is_bench" (defArgs s_law_is_bench) (defBody s_law_is_bench) (defScope s_law_is_bench) .none kV14 dc14 pm14 an14 cd14 ct14, f15, PySem.W.fnOf "_law_odd" "_law_odd" (defArgs s_law_odd) (defBody s_law_odd) (defScope s_law_odd) .none kV15 dc15 pm15 an15 cd15 ct15, f16, PySem.W.fnOf "_law_bent" "_law_bent" (defArgs s_law_bent) (defBody s_law_bent) (defScope s_law_bent) .none kV16 dc16 pm16 an16 cd16 ct16, f17, PySem.W.fnOf "_law_flat" "_law_flat" (defArgs s_law_flat) (defBody s_law_flat) (defScope s_law_flat) .none kV17 dc17 pm17 an17 cd17 ct17, fa, PySem.W.fnOf "law" "law" (defArgs slaw) (defBody slaw) (defScope slaw) .none kV18 dc18 pm18 an18 cd18 ct18⟩
  have D0 := df_mk (st := sis_integer) (ps := ["thing"]) X G a0 l0 c0 k0 (fun F => F.binds (ps := ["thing"]) fun _ _ _ _ _ _ us hl => match us, hl with | [_], _ => rfl)
  have D1 := df_mk (st := s_is_tuple_of) (ps := ["thing", "many"]) X G a1 l1 c1 k1 (fun F => F.binds (ps := ["thing", "many"]) fun _ _ _ _ _ _ us hl => match us, hl with | [_, _], _ => rfl)
  have D2 := df_mk (st := sascends) (ps := ["items"]) X G a2 l2 c2 k2 (fun F => F.binds (ps := ["items"]) fun _ _ _ _ _ _ us hl => match us, hl with | [_], _ => rfl)
  have D3 := df_mk (st := sis_place) (ps := ["thing"]) X G a3 l3 c3 k3 (fun F => F.binds (ps := ["thing"]) fun _ _ _ _ _ _ us hl => match us, hl with | [_], _ => rfl)
  have D4 := df_mk (st := sis_bench) (ps := ["thing"]) X G a4 l4 c4 k4 (fun F => F.binds (ps := ["thing"]) fun _ _ _ _ _ _ us hl => match us, hl with | [_], _ => rfl)
  have D5 := df_mk (st := s_law_bag) (ps := ["_law_script"]) X G a5 l5 c5 k5 (fun F => F.binds (ps := ["_law_script"]) fun _ _ _ _ _ _ us hl => match us, hl with | [_], _ => rfl)
  have D6 := df_mk (st := s_law_take) (ps := ["_law_bag_here", "_law_upto"]) X G a6 l6 c6 k6 (fun F => F.binds (ps := ["_law_bag_here", "_law_upto"]) fun _ _ _ _ _ _ us hl => match us, hl with | [_, _], _ => rfl)
  have D7 := df_mk (st := s_law_some) (ps := ["_law_bag_here", "_law_things"]) X G a7 l7 c7 k7 (fun F => F.binds (ps := ["_law_bag_here", "_law_things"]) fun _ _ _ _ _ _ us hl => match us, hl with | [_, _], _ => rfl)
  have D8 := df_mk (st := s_law_alike) (ps := ["_law_found", "_law_due"]) X G a8 l8 c8 k8 (fun F => F.binds (ps := ["_law_found", "_law_due"]) fun _ _ _ _ _ _ us hl => match us, hl with | [_, _], _ => rfl)
  have D9 := df_mk (st := s_law_mixed) (ps := ["_law_bag_here", "_law_things"]) X G a9 l9 c9 k9 (fun F => F.binds (ps := ["_law_bag_here", "_law_things"]) fun _ _ _ _ _ _ us hl => match us, hl with | [_, _], _ => rfl)
  have D10 := df_mk (st := s_law_place) (ps := ["_law_bag_here", "_law_most"]) X G a10 l10 c10 k10 (fun F => F.binds (ps := ["_law_bag_here", "_law_most"]) fun _ _ _ _ _ _ us hl => match us, hl with | [_, _], _ => rfl)
  have D11 := df_mk (st := s_law_is_int) (ps := ["_law_thing", "_law_low", "_law_high"]) X G a11 l11 c11 k11 (fun F => F.binds (ps := ["_law_thing", "_law_low", "_law_high"]) fun _ _ _ _ _ _ us hl => match us, hl with | [_, _, _], _ => rfl)
  have D12 := df_mk (st := s_law_rises) (ps := ["_law_things"]) X G a12 l12 c12 k12 (fun F => F.binds (ps := ["_law_things"]) fun _ _ _ _ _ _ us hl => match us, hl with | [_], _ => rfl)
  have D13 := df_mk (st := s_law_is_place) (ps := ["_law_thing"]) X G a13 l13 c13 k13 (fun F => F.binds (ps := ["_law_thing"]) fun _ _ _ _ _ _ us hl => match us, hl with | [_], _ => rfl)
  have D14 := df_mk (st := s_law_is_bench) (ps := ["_law_thing"]) X G a14 l14 c14 k14 (fun F => F.binds (ps := ["_law_thing"]) fun _ _ _ _ _ _ us hl => match us, hl with | [_], _ => rfl)
  have D15 := df_mk (st := s_law_odd) (ps := ["_law_bag_here"]) X G a15 l15 c15 k15 (fun F => F.binds (ps := ["_law_bag_here"]) fun _ _ _ _ _ _ us hl => match us, hl with | [_], _ => rfl)
  have D16 := df_mk (st := s_law_bent) (ps := ["_law_bag_here", "_law_thing"]) X G a16 l16 c16 k16 (fun F => F.binds (ps := ["_law_bag_here", "_law_thing"]) fun _ _ _ _ _ _ us hl => match us, hl with | [_, _], _ => rfl)
  have D17 := df_mk (st := s_law_flat) (ps := ["_law_rows"]) X G a17 l17 c17 k17 (fun F => F.binds (ps := ["_law_rows"]) fun _ _ _ _ _ _ us hl => match us, hl with | [_], _ => rfl)
  have D18 := df_mk (st := slaw) (ps := ["_law_script"]) X G a18 l18 c18 k18 (fun F => F.binds (ps := ["_law_script"]) fun _ _ _ _ _ _ us hl => match us, hl with | [_], _ => rfl)
  have T : Txt K mg A := ⟨⟨PySem.W.mg_none_of X G n_abs, PySem.W.mg_none_of X G n_all, PySem.W.mg_none_of X G n_bool, PySem.W.mg_none_of X G n_int, PySem.W.mg_none_of X G n_isinstance, PySem.W.mg_none_of X G n_len, PySem.W.mg_none_of X G n_list, PySem.W.mg_none_of X G n_range, PySem.W.mg_none_of X G n_repr, PySem.W.mg_none_of X G n_sorted, PySem.W.mg_none_of X G n_tuple⟩, D0, D1, D2, D3, D4, D5, D6, D7, D8, D9, D10, D11, D12, D13, D14, D15, D16, D17, D18⟩
  refine ⟨Option.map_eq_none_iff.mp sm, PySem.W.fnOf "law" "law" (defArgs slaw) (defBody slaw) (defScope slaw) .none kV18 dc18 pm18 an18 cd18 ct18, fun s v => .of_eq rfl, fun base _ _ => ?_⟩
  have g_int := ok_is_integer (P := l.prog) (w := w) (base := base) T
  have g_intD := L11.ok_is_integer (P := l.prog) (w := w) (base := base) T
  have g_tup := L11.ok_tup (P := l.prog) (w := w) (base := base) T
  have g_asc := L11.ok_asc (P := l.prog) (w := w) (base := base) T
  have g_placeD := L11.ok_place (P := l.prog) (w := w) (base := base) T ⟨ff, PySem.W.mg_of X G fm, kint_of fr⟩ g_intD g_tup g_asc
  have g_place := bs_of (f := fPl placeOk) place_hg g_placeD
  have g_bench := bs_of (f := fPl benchOk) bench_hg (L11.ok_bench (P := l.prog) (w := w) (base := base) T g_placeD)
  have g_lint := ok_law_is_int (P := l.prog) (w := w) (base := base) T
  have g_rises := ok_rises (P := l.prog) (w := w) (base := base) T
  have g_lplace := ok_law_place (P := l.prog) (w := w) (base := base) T g_lint g_rises
  have g_lbench := ok_law_bench (P := l.prog) (w := w) (base := base) T g_lplace
  have g_bag := ok_bag (P := l.prog) (w := w) (base := base) T
  have g_take := ok_take (P := l.prog) (w := w) (base := base) T
  have g_some := ok_some (P := l.prog) (w := w) (base := base) T g_take
  have g_alike := ok_alike (P := l.prog) (w := w) (base := base) T
  have g_flat := ok_flat (P := l.prog) (w := w) (base := base) T
  have g_mixed := ok_mixed (P := l.prog) (w := w) (base := base) T g_take
  have g_mk := ok_lplace (P := l.prog) (w := w) (base := base) T g_take g_some g_flat g_mixed
  have g_odd := ok_odd (P := l.prog) (w := w) (base := base) T g_some
  have g_bent := ok_bent (P := l.prog) (w := w) (base := base) T g_lint g_take g_some g_odd 20
  exact ok_law (P := l.prog) (w := w) (base := base) T g_bag g_take g_some g_mk g_odd g_bent g_int g_place g_bench g_lplace g_lbench g_alike
end K11

open PySem PySem.W PyProof.Rows
set_option maxRecDepth 100000 in
set_option maxHeartbeats 0 in
theorem PySem.Challenge.cw_onorback_k11_places_and_benches_judged_holds : PySem.Challenge.rw_onorback_k11_places_and_benches_judged.Holds := by
  w_on; o_law; k_head; (case hw => w_witness2)
  k_fill
  refine On.walk_G (l := PySem.Challenge.rw_onorback_k11_places_and_benches_judged) (n := 63) (k := 25) (x := "_law_script") (sp := fun K => K11.spLaw K) rfl (by decide) rfl ⟨rfl, by decide, by decide⟩ ?hi (fun w h Y => PySem.W.kIn_of Y) ?F (fun K H a ns hl hS hq => ⟨a, ns, rfl, hq, hl, hS, fun _ => rfl⟩)
  case hi => decide +kernel
  case F =>
    intro w mg fa h KX G hmg
    refine' K11.all_mk KX G hmg ?sm ?fm ?fr ?a0 ?l0 ?c0 ?k0 ?a1 ?l1 ?c1 ?k1 ?a2 ?l2 ?c2 ?k2 ?a3 ?l3 ?c3 ?k3 ?a4 ?l4 ?c4 ?k4 ?a5 ?l5 ?c5 ?k5 ?a6 ?l6 ?c6 ?k6 ?a7 ?l7 ?c7 ?k7 ?a8 ?l8 ?c8 ?k8 ?a9 ?l9 ?c9 ?k9 ?a10 ?l10 ?c10 ?k10 ?a11 ?l11 ?c11 ?k11 ?a12 ?l12 ?c12 ?k12 ?a13 ?l13 ?c13 ?k13 ?a14 ?l14 ?c14 ?k14 ?a15 ?l15 ?c15 ?k15 ?a16 ?l16 ?c16 ?k16 ?a17 ?l17 ?c17 ?k17 ?a18 ?l18 ?c18 ?k18 ?n_abs ?n_all ?n_bool ?n_int ?n_isinstance ?n_len ?n_list ?n_range ?n_repr ?n_sorted ?n_tuple
    (case sm => k_is)
    (case fm => k_is)
    (case fr => kernel_rfl)
    (case a0 => k_is)
    (case l0 => k_is)
    (case c0 => k_is)
    (case k0 => k_is)
    (case a1 => k_is)
    (case l1 => k_is)
    (case c1 => k_is)
    (case k1 => k_is)
    (case a2 => k_is)
    (case l2 => k_is)
    (case c2 => k_is)
    (case k2 => k_is)
    (case a3 => k_is)
    (case l3 => k_is)
    (case c3 => k_is)
    (case k3 => k_is)
    (case a4 => k_is)
    (case l4 => k_is)
    (case c4 => k_is)
    (case k4 => k_is)
    (case a5 => k_is)
    (case l5 => k_is)
    (case c5 => k_is)
    (case k5 => k_is)
    (case a6 => k_is)
    (case l6 => k_is)
    (case c6 => k_is)
    (case k6 => k_is)
    (case a7 => k_is)
    (case l7 => k_is)
    (case c7 => k_is)
    (case k7 => k_is)
    (case a8 => k_is)
    (case l8 => k_is)
    (case c8 => k_is)
    (case k8 => k_is)
    (case a9 => k_is)
    (case l9 => k_is)
    (case c9 => k_is)
    (case k9 => k_is)
    (case a10 => k_is)
    (case l10 => k_is)
    (case c10 => k_is)
    (case k10 => k_is)
    (case a11 => k_is)
    (case l11 => k_is)
    (case c11 => k_is)
    (case k11 => k_is)
    (case a12 => k_is)
    (case l12 => k_is)
    (case c12 => k_is)
    (case k12 => k_is)
    (case a13 => k_is)
    (case l13 => k_is)
    (case c13 => k_is)
    (case k13 => k_is)
    (case a14 => k_is)
    (case l14 => k_is)
    (case c14 => k_is)
    (case k14 => k_is)
    (case a15 => k_is)
    (case l15 => k_is)
    (case c15 => k_is)
    (case k15 => k_is)
    (case a16 => k_is)
    (case l16 => k_is)
    (case c16 => k_is)
    (case k16 => k_is)
    (case a17 => k_is)
    (case l17 => k_is)
    (case c17 => k_is)
    (case k17 => k_is)
    (case a18 => k_is)
    (case l18 => k_is)
    (case c18 => k_is)
    (case k18 => k_is)
    (case n_abs => k_is)
    (case n_all => k_is)
    (case n_bool => k_is)
    (case n_int => k_is)
    (case n_isinstance => k_is)
    (case n_len => k_is)
    (case n_list => k_is)
    (case n_range => k_is)
    (case n_repr => k_is)
    (case n_sorted => k_is)
    (case n_tuple => k_is)


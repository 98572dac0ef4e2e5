import PyProof.Rows.All
import Wide.All
import OpenK.AllK
import Wide.FinOn
import HandS.ForMost
import HandS.Exc
import HandS.Codes
import HandS.Wide
import HandS.WideBits
import HandS.Gcd
import HandS.IsInst
import HandS.Defaults
import HandS.Conv
import HandS.Sort
import HandS.List
import KE.KDictList
import HandS.Style
import HandS.Zip
import HandS.Iter
import HandS.Flow
import HandS.ForExc
import HandS.ExcInit
import HandS.ExcField
import HandS.ExcIs
import KE.KExcIs
import HandS.Lambda
import HandS.Small
import HandS.CallLocal
import HandS.EndTab
import PySem.Challenge.RW_wheelsky_k58_tables_continued
set_option Elab.async false
set_option linter.all false
set_option maxRecDepth 100000
set_option maxHeartbeats 4000000
namespace My
open PySem PySem.Spec PyProof.Rows L2
def topS (i : Nat) : Stmt := PySem.Challenge.pw_wheelsky_k58_tables_continued.main.body.getD i (.Pass ⟨0, 0, 0, 0⟩)
/-! ### a def of the top, and what it is known to keep -/
structure Dfn (K : PySem.W.Frag) (mg : Str → Option Value) (x : Str) (st : Stmt) (ps : List Str) : Prop where
  ex : ∃ f fd, Fun K x x st f fd ∧ mg x = some (.ref f) ∧ Binds K fd ps []
structure Kn (P : Program) (w : World) (K : PySem.W.Frag) (mg : Str → Option Value) (base : Heap) (k : Nat) (x : Str) (ps : List Str) (sp : Sp) : Prop where
  ex : ∃ f fd, mg x = some (.ref f) ∧ PySem.W.keepIn K (.ref f) = true ∧ Binds K fd ps [] ∧ FnOk P w K mg base CX0 k f fd ps sp
theorem Kn.mk' {P : Program} {w : World} {K : PySem.W.Frag} {mg : Str → Option Value} {base : Heap} {x : Str} {st : Stmt} {N ps : List Str} {k : Nat} {sp : Sp} (D : Dfn K mg x st ps) (S : FnScope N ps (defScope st)) (len : ∀ vs H Q E, sp vs H Q E → vs.length = ps.length)
    (hbody : ∀ (f : Addr) (cdv : Value) (A : Around) (outer : List Env) (s : Shared) (H : Hp) (vs : List V) (Q : VK) (E : XK), Room k (A.deeper (envOfC x (defScope st) s.heap.objs.size f cdv)) → sp vs H Q E →
      ∃ t, PSs (cxOf CX0 P w K mg base N x (defScope st) f cdv A outer s H E).nox (defBody st) t ∧ t { nx := fun _ H' => Q .non H', rt := Q } (start N vs) H) : Kn P w K mg base (k + 1) x ps sp := by
  obtain ⟨f, fd, F, m, b⟩ := D.ex
  exact ⟨f, fd, m, F.kp, b, F.ok S len (hbody f)⟩
section
variable {X : Cx}
theorem pe_kn {j k : Nat} {x : Str} {ps : List Str} {sp : Sp} {p pos : Pos} {e : Expr} {es : List Expr} {t : TA} (F : Kn X.prog X.w X.K X.mg X.base k x ps sp) (hr : Room j X.A) (hg : Gl X x) (ha : PA X (e :: es) t) (hj : k ≤ j := by omega)
    (hdb : (x == ("__debug__" : Str)) = false := by decide) (he : starEach (e :: es) X.env = (false, eval e X.env) :: starEach es X.env := by rfl) (hpl : (backTo pos (starEach es X.env)).any (·.1) = false := by rfl) :
    PE X (.Call (.Name x p) (e :: es) [] pos) (tCall sp [] E0 t) := by
  obtain ⟨f, fd, m, kp, b, G⟩ := F.ex
  exact pe_call G (hr.mono hj) hg m kp b .nil pass0 ha hdb he hpl
end
/-! ### heaps -/
/-- all but s stands -/
def Kp (s : Addr) (H H' : Hp) : Prop := (∀ b o, b ≠ s → H b = some o → H' b = some o) ∧ ∀ x r, H s = some (.lst (x :: r)) → ∃ r', H' s = some (.lst (x :: r'))
instance {s : Addr} {H H' : Hp} : CoeFun (Kp s H H') (fun _ => ∀ b o, b ≠ s → H b = some o → H' b = some o) := ⟨fun h => h.1⟩
theorem Kp.refl (s : Addr) (H : Hp) : Kp s H H := ⟨fun _ _ _ e => e, fun _ r e => ⟨r, e⟩⟩
theorem Kp.trans {s : Addr} {H H1 H2 : Hp} (a : Kp s H H1) (b : Kp s H1 H2) : Kp s H H2 := ⟨fun c o n e => b.1 c o n (a.1 c o n e), fun x r e => by
  obtain ⟨r', e'⟩ := a.2 x r e
  exact b.2 x r' e'⟩
theorem Kp.same {s : Addr} {H H1 : Hp} (a : Same H H1) : Kp s H H1 := ⟨fun b o _ e => a b o e, fun x r e => ⟨r, a _ _ e⟩⟩
theorem Same.new {H : Hp} {p : Addr} (h : H p = none) (o : HO) : Same H (upd H p o) := fun b u q => by rw [upd_ne (ne_of_none q h)]; exact q
theorem Kp.put {s : Addr} {H : Hp} {x : V} {r r' : List V} (h : H s = some (.lst (x :: r))) : Kp s H (upd H s (.lst (x :: r'))) := ⟨fun b u n e => by rw [upd_ne n]; exact e, fun y q e => by
  rw [h] at e
  cases e
  exact ⟨r', upd_same⟩⟩
/-- the store of the draws at s -/
def Sr (K : PySem.W.Frag) (H : Hp) (s : Addr) (sc : Addr) (ns : List Int) (i b c d e f : Int) : Prop :=
  H s = some (.lst [.ref sc, .int i, .int b, .int c, .int d, .int e, .int f]) ∧ H sc = some (.lst (ns.map V.int)) ∧ s ≠ sc ∧ 0 ≤ i ∧ K.lookup s = none ∧ K.lookup sc = none
def Sto (K : PySem.W.Frag) (H : Hp) (s : Addr) : Prop := ∃ sc ns i b c d e f, Sr K H s sc ns i b c d e f
theorem Sr.same {K : PySem.W.Frag} {H H1 : Hp} {s sc : Addr} {ns : List Int} {i b c d e f : Int} (h : Sr K H s sc ns i b c d e f) (a : Same H H1) : Sr K H1 s sc ns i b c d e f := ⟨a _ _ h.1, a _ _ h.2.1, h.2.2⟩
theorem Sto.same {K : PySem.W.Frag} {H H1 : Hp} {s : Addr} (h : Sto K H s) (a : Same H H1) : Sto K H1 s := by
  obtain ⟨sc, ns, i, b, c, d, e, f, h⟩ := h
  exact ⟨sc, ns, i, b, c, d, e, f, h.same a⟩
theorem Sr.put {K : PySem.W.Frag} {H : Hp} {s sc : Addr} {ns : List Int} {i b c d e f i' b' c' d' e' f' : Int} (h : Sr K H s sc ns i b c d e f) (hi : 0 ≤ i') :
    Sr K (upd H s (.lst [.ref sc, .int i', .int b', .int c', .int d', .int e', .int f'])) s sc ns i' b' c' d' e' f' :=
  ⟨upd_same, by rw [upd_ne (Ne.symm h.2.2.1)]; exact h.2.1, h.2.2.1, hi, h.2.2.2.2⟩
theorem Kp.seqT {s : Addr} {K : PySem.W.Frag} {H H' : Hp} {a : Addr} {xs ys : List V} (e : Kp s H H') (hs : H s = some (.lst ys)) (h : SqT K H a xs) : SqT K H' a xs := by
  rcases h with (h | ⟨o, h⟩) | h
  · exact .inl (.inl (e _ _ (by rintro rfl; rw [hs] at h; cases h) h))
  · exact .inl (.inr ⟨o, e _ _ (by rintro rfl; rw [hs] at h; cases h) h⟩)
  · exact .inr h
theorem Same.seqT {K : PySem.W.Frag} {H H' : Hp} {a : Addr} {xs : List V} (e : Same H H') (h : SqT K H a xs) : SqT K H' a xs := by
  rcases h with (h | ⟨o, h⟩) | h
  · exact .inl (.inl (e _ _ h))
  · exact .inl (.inr ⟨o, e _ _ h⟩)
  · exact .inr h
/-- the built-ins' names, unbound -/
structure Bt (K : PySem.W.Frag) (mg : Str → Option Value) : Prop where
  b_int : mg "int" = none
  b_len : mg "len" = none
  b_list : mg "list" = none
  b_abs : mg "abs" = none
  b_range : mg "range" = none
  b_min : mg "min" = none
  b_max : mg "max" = none
  b_isinstance : mg "isinstance" = none
  b_bool : mg "bool" = none
  b_str : mg "str" = none
  b_dict : mg "dict" = none
  b_tuple : mg "tuple" = none
end My

namespace My
open PySem PySem.Spec PyProof.Rows L2
theorem cx_K {CX : CXT} {P : Program} {w : World} {K : PySem.W.Frag} {mg : Str → Option Value} {base : Heap} {N : List Str} {qual : Str} {scope : Scope} {f : Addr} {cd : Value} {A : Around} {outer : List Env} {s : Shared} {H : Hp} {E : XK} : (cxOf CX P w K mg base N qual scope f cd A outer s H E).K = K := rfl
/-! ### what stands at an address, the written part first -/
def obK (o : Obj) : Option HO := match o.cls, o.data with
  | .type "tuple", .seq its _ => if its.size ≤ sizeLine then (its.toList.mapM absV).map HO.tup else none
  | _, _ => none
def ob (K : PySem.W.Frag) (H : Hp) (a : Addr) : Option HO := match K.lookup a with
  | some o => obK o
  | none => H a
theorem absV_rel {u : Value} {x : V} (h : absV u = some x) : RelV x u := by
  cases u <;> simp only [absV, Option.some.injEq, reduceCtorEq] at h <;> subst h
  all_goals first | exact rfl | exact ⟨_, rfl⟩
theorem absV_all : ∀ {us : List Value} {xs : List V}, us.mapM absV = some xs → Vals xs us
  | [], xs, h => by
    simp at h
    subst h
    exact .nil
  | u :: us, xs, h => by
    rw [List.mapM_cons] at h
    cases e1 : absV u with
    | none => simp [e1] at h
    | some x =>
      cases e2 : us.mapM absV with
      | none => simp [e1, e2] at h
      | some r =>
        simp [e1, e2] at h
        subst h
        exact .cons (absV_rel e1) (absV_all e2)
theorem obK_tup {o : Obj} {z : HO} (h : obK o = some z) : ∃ xs its n, z = .tup xs ∧ o.cls = .type "tuple" ∧ o.data = .seq its n ∧ its.size ≤ sizeLine ∧ Vals xs its.toList := by
  unfold obK at h
  split at h
  · rename_i its n e1 e2
    split at h
    · rename_i hz
      cases e : its.toList.mapM absV with
      | none => rw [e] at h; cases h
      | some xs =>
        rw [e] at h
        exact ⟨xs, its, n, (Option.some.inj h).symm, e1, e2, hz, absV_all e⟩
    · cases h
  · cases h
theorem ob_none {K : PySem.W.Frag} {H : Hp} {a : Addr} (h : K.lookup a = none) : ob K H a = H a := by unfold ob; rw [h]
theorem ob_tup {K : PySem.W.Frag} {H : Hp} {a : Addr} {xs : List V} (h : ob K H a = some (.tup xs)) : SqT K H a xs := by
  unfold ob at h
  split at h
  · rename_i o e
    obtain ⟨ys, its, n, z, h1, h2, h3, h4⟩ := obK_tup h
    cases z
    exact .inr ⟨o, its, n, e, h1, h2, h3, h4⟩
  · exact .inl (.inl h)
theorem ob_H {K : PySem.W.Frag} {H : Hp} {a : Addr} {z : HO} (h : ob K H a = some z) (n : ∀ xs, z ≠ .tup xs) : H a = some z ∧ K.lookup a = none := by
  unfold ob at h
  split at h
  · obtain ⟨ys, its, n', z', _⟩ := obK_tup h
    exact absurd z' (n ys)
  · rename_i e
    exact ⟨h, e⟩
theorem ob_lst {K : PySem.W.Frag} {H : Hp} {a : Addr} {xs : List V} (h : ob K H a = some (.lst xs)) : SqL K H a xs := .of (ob_H h (fun _ z => by cases z)).1
theorem ob_same {K : PySem.W.Frag} {H H' : Hp} {a : Addr} {z : HO} (e : Same H H') (h : ob K H a = some z) : ob K H' a = some z := by
  unfold ob at h ⊢
  split
  · rename_i o q
    rw [q] at h
    exact h
  · rename_i q
    rw [q] at h
    exact e _ _ h
theorem ob_kp {K : PySem.W.Frag} {H H' : Hp} {s a : Addr} {ys : List V} {z : HO} (e : Kp s H H') (hs : H s = some (.lst ys)) (n : ∀ ys, z ≠ .lst ys) (h : ob K H a = some z) : ob K H' a = some z := by
  unfold ob at h ⊢
  split
  · rename_i o q
    rw [q] at h
    exact h
  · rename_i q
    rw [q] at h
    exact e _ _ (by rintro rfl; rw [hs] at h; exact n _ (Option.some.inj h).symm) h
theorem ob_new {K : PySem.W.Frag} {H : Hp} {p : Addr} {o : HO} (k : K.lookup p = none) : ob K (upd H p o) p = some o := by rw [ob_none k, upd_same]
/-- a built-in type's name, of what stands somewhere -/
def tyO : Option HO → Option String
  | some (.tup _) => some "tuple"
  | some (.lst _) => some "list"
  | some (.dK _) => some "dict"
  | _ => none
def tyN (K : PySem.W.Frag) (H : Hp) : V → Option String
  | .non => some "NoneType"
  | .bl _ => some "bool"
  | .int _ => some "int"
  | .str _ => some "str"
  | .ref a => tyO (ob K H a)
  | _ => none
theorem tyO_tup (xs : List V) : tyO (some (.tup xs)) = some "tuple" := rfl
theorem tyO_lst (xs : List V) : tyO (some (.lst xs)) = some "list" := rfl
theorem tyO_dK (xs : List (Key × V)) : tyO (some (.dK xs)) = some "dict" := rfl
theorem tyN_non {K : PySem.W.Frag} {H : Hp} : tyN K H .non = some "NoneType" := rfl
theorem tyN_bl {K : PySem.W.Frag} {H : Hp} (b : Bool) : tyN K H (.bl b) = some "bool" := rfl
theorem tyN_int {K : PySem.W.Frag} {H : Hp} (b : Int) : tyN K H (.int b) = some "int" := rfl
theorem tyN_str {K : PySem.W.Frag} {H : Hp} (b : Str) : tyN K H (.str b) = some "str" := rfl
theorem tyN_ref {K : PySem.W.Frag} {H : Hp} (a : Addr) : tyN K H (.ref a) = tyO (ob K H a) := rfl
theorem tyN_X {K : PySem.W.Frag} {H : Hp} {x : V} {t : String} (h : tyN K H x = some t) : TyX K H x (.type t) := by
  cases x with
  | non => cases h; exact .base .non
  | bl b => cases h; exact .base (.bl b)
  | int i => cases h; exact .base (.int i)
  | str z => cases h; exact .base (.str z)
  | byt _ => cases h
  | flt _ => cases h
  | ty _ => cases h
  | ref a =>
    have h1 : tyO (ob K H a) = some t := h
    cases e : ob K H a with
    | none => rw [e] at h1; cases h1
    | some z =>
      rw [e] at h1
      cases z with
      | tup xs =>
        cases h1
        unfold ob at e
        split at e
        · rename_i o q
          obtain ⟨_, _, _, _, c, _⟩ := obK_tup e
          exact .kTuple q c
        · exact .base (.tup e)
      | lst xs => cases h1; exact .base (.lst (ob_H e (fun _ z => by cases z)).1)
      | dK kvs => cases h1; exact .base (.dK (ob_H e (fun _ z => by cases z)).1)
      | _ => cases h1
/-- isinstance(x, T) by names -/
def isB (a b : String) : Bool := a == b || (a == "bool" && b == "int")
def rIsN (K : PySem.W.Frag) : List V → Hp → VK → Prop := fun xs H Q => ∃ x n, xs = [x, .ty n] ∧ n ∈ ["int", "bool", "str", "list", "tuple", "dict"] ∧ ∃ t, tyN K H x = some t ∧ Q (.bl (isB t n)) H
theorem tyN_mem {K : PySem.W.Frag} {H : Hp} {x : V} {t : String} (h : tyN K H x = some t) : t ∈ ["NoneType", "bool", "int", "str", "tuple", "list", "dict"] := by
  cases x with
  | non => cases h; decide
  | bl b => cases h; decide
  | int i => cases h; decide
  | str z => cases h; decide
  | byt _ => cases h
  | flt _ => cases h
  | ty _ => cases h
  | ref a =>
    have h1 : tyO (ob K H a) = some t := h
    unfold tyO at h1
    split at h1 <;> first | (cases h1; decide) | cases h1
theorem kit_all : ∀ t ∈ ["NoneType", "bool", "int", "str", "tuple", "list", "dict"], ∀ n ∈ ["int", "bool", "str", "list", "tuple", "dict"], kitB t n = some (isB t n) := by decide +kernel
/-- isinstance(x, (T, ..)) -/
def tyNs : List V → Option (List String)
  | [] => some []
  | .ty n :: r => if n ∈ ["int", "bool", "str", "list", "tuple", "dict"] then (tyNs r).map (n :: ·) else none
  | _ :: _ => none
theorem tyNs_of : ∀ {cs : List V} {ns : List String}, tyNs cs = some ns → cs = ns.map V.ty ∧ ∀ n ∈ ns, n ∈ ["int", "bool", "str", "list", "tuple", "dict"]
  | [], ns, h => by cases h; exact ⟨rfl, fun _ z => absurd z (by simp)⟩
  | c :: r, ns, h => by
    cases c with
    | ty n =>
      unfold tyNs at h
      split at h
      · rename_i hn
        cases e : tyNs r with
        | none => rw [e] at h; cases h
        | some ms =>
          rw [e] at h
          cases h
          obtain ⟨h1, h2⟩ := tyNs_of e
          refine ⟨by rw [h1]; rfl, fun m hm => ?_⟩
          rcases List.mem_cons.mp hm with z | z
          · rw [z]; exact hn
          · exact h2 m z
      · cases h
    | _ => cases h
theorem tyNs_lt : tyNs [.ty "list", .ty "tuple"] = some ["list", "tuple"] := by decide
def rIsT (K : PySem.W.Frag) : List V → Hp → VK → Prop := fun xs H Q => ∃ x tp, xs = [x, .ref tp] ∧ ∃ cs, H tp = some (.tup cs) ∧ ∃ ns, tyNs cs = some ns ∧ ∃ t, tyN K H x = some t ∧ Q (.bl (ns.any (isB t))) H
section
variable {X : Cx}
theorem call_isN : CallR X (.builtin "isinstance") (rIsN X.K) := fun pins s σ H xs us Q I r h => by
  obtain ⟨x, n, rfl, hn, t, ht, q⟩ := h
  exact call_isi pins s σ H _ us Q I r ⟨x, .ty n, .type t, .type n, isB t n, rfl, .ty n, tyN_X ht, kit_ty (kit_all t (tyN_mem ht) n hn), q⟩
theorem kitAny_of {K : PySem.W.Frag} {t : String} (ht : t ∈ ["NoneType", "bool", "int", "str", "tuple", "list", "dict"]) : ∀ {ns : List String}, (∀ n ∈ ns, n ∈ ["int", "bool", "str", "list", "tuple", "dict"]) → PySem.W.kitAny K (.type t) (ns.map Value.type) = some (ns.any (isB t))
  | [], _ => rfl
  | n :: ns, h => by
    have e1 : PySem.W.kitOne K (.type t) (.type n) = some (isB t n) := kit_ty (kit_all t ht n (h n List.mem_cons_self))
    have e2 := kitAny_of (K := K) ht (ns := ns) fun m hm => h m (List.mem_cons_of_mem _ hm)
    rw [List.map_cons, List.any_cons]
    unfold PySem.W.kitAny
    rw [e1]
    cases isB t n
    · simpa using e2
    · rfl
theorem clsV_all : ∀ ns : List String, Paired ClsV (ns.map V.ty) (ns.map Value.type)
  | [] => .nil
  | n :: ns => .cons (.ty n) (clsV_all ns)
theorem call_isT : CallR X (.builtin "isinstance") (rIsT X.K) := fun pins s σ H xs us Q I r h => by
  obtain ⟨x, tp, rfl, cs, hT, ns, hns, t, ht, q⟩ := h
  obtain ⟨rfl, hn⟩ := tyNs_of hns
  exact call_isiT pins s σ H _ us Q I r ⟨x, tp, _, .type t, _, _, rfl, hT, clsV_all ns, tyN_X ht, kitAny_of (tyN_mem ht) hn, q⟩
/-- xs[i], t[i] -/
def itsO : Option HO → Option (List V)
  | some (.tup xs) => some xs
  | some (.lst xs) => some xs
  | _ => none
theorem itsO_tup (xs : List V) : itsO (some (.tup xs)) = some xs := rfl
theorem itsO_lst (xs : List V) : itsO (some (.lst xs)) = some xs := rfl
theorem itsO_or {K : PySem.W.Frag} {H : Hp} {a : Addr} {xs : List V} (h : itsO (ob K H a) = some xs) : SqL K H a xs ∨ SqT K H a xs := by
  cases e : ob K H a with
  | none => rw [e] at h; cases h
  | some z =>
    rw [e] at h
    cases z with
    | tup ys => cases h; exact .inr (ob_tup e)
    | lst ys => cases h; exact .inl (ob_lst e)
    | _ => cases h
def rIxA (K : PySem.W.Frag) : R2 := fun x y H Q => ∃ p i, x = .ref p ∧ y = .int i ∧ ∃ xs, itsO (ob K H p) = some xs ∧ ∃ v, atI xs i = some v ∧ Q v H
theorem ix_any : IxR X (rIxA X.K) := fun value slice pins s σ H x y v u Q I rx ry h hs => by
  obtain ⟨p, i, rfl, rfl, xs, hx, w, hw, q⟩ := h
  rcases itsO_or hx with z | z
  · exact ix_list value slice pins s σ H _ _ v u Q I rx ry ⟨p, xs, i, w, rfl, rfl, z, hw, q⟩ hs
  · exact ix_tup value slice pins s σ H _ _ v u Q I rx ry ⟨p, xs, i, w, rfl, rfl, z, hw, q⟩ hs
theorem call_lenA : CallR X (.builtin "len") (fun xs H Q => ∃ p, xs = [.ref p] ∧ ∃ ys, itsO (ob X.K H p) = some ys ∧ Q (.int ys.length) H) := fun pins s σ H xs us Q I r h => by
  obtain ⟨p, rfl, ys, hy, q⟩ := h
  exact call_len_seq pins s σ H _ us Q I r ⟨p, ys, rfl, itsO_or hy, q⟩
/-! new tuples and lists, away from the written part -/
variable {es : List Expr} {t : TA} {pos : Pos}
def tTp (K : PySem.W.Frag) (t : TA) : TE := fun σ H Q => t σ H fun xs H1 => xs.length ≤ sizeLine ∧ ∀ p, H1 p = none → K.lookup p = none → Q (.ref p) (upd H1 p (.tup xs))
def tLs (K : PySem.W.Frag) (t : TA) : TE := fun σ H Q => t σ H fun xs H1 => xs.length ≤ sizeLine ∧ ∀ p, H1 p = none → K.lookup p = none → Q (.ref p) (upd H1 p (.lst xs))
theorem new_K {pins : List (Addr × Obj)} {σ : L2.St} {H : Hp} {s : Shared} (I : Inv X pins σ H s) : X.K.lookup s.heap.objs.size = none := by
  cases e : X.K.lookup s.heap.objs.size with
  | none => rfl
  | some o => exact absurd (Heap.lt_size (I.kIn _ _ e)) (Nat.lt_irrefl _)
theorem pe_tp {x1} (h : PA X es t) : PE X (.Tuple es x1 pos) (tTp X.K t) := by
  refine ⟨fun pins s σ H Q I hq => ?_⟩
  refine wpAny_Tuple_spliced (thn (h.run pos pins s σ H _ I hq) fun us s1 ⟨xs, H1, I1, r, z, q⟩ => ⟨by rw [← r.length]; exact z, ?_⟩)
  have hf : H1 s1.heap.objs.size = none := I1.hok.fresh (Nat.le_refl _)
  refine ⟨.ref s1.heap.objs.size, upd H1 s1.heap.objs.size (.tup xs), I1.laid (t' := s1.toks) (fun b u e => Heap.get?_push_of_some _ e) (Nat.le_refl _) ?_, rfl, q _ hf (new_K I1)⟩
  exact ⟨z, us, r, ⟨_, Heap.get?_push_size _ rfl, rfl, _, rfl⟩⟩
theorem pe_ls (h : PA X es t) : PE X (.List es pos) (tLs X.K t) := by
  refine ⟨fun pins s σ H Q I hq => ?_⟩
  refine wpAny_List_spliced (thn (h.run pos pins s σ H _ I hq) fun us s1 ⟨xs, H1, I1, r, z, q⟩ => ⟨by rw [← r.length]; exact z, ?_⟩)
  have hf : H1 s1.heap.objs.size = none := I1.hok.fresh (Nat.le_refl _)
  refine ⟨.ref s1.heap.objs.size, upd H1 s1.heap.objs.size (.lst xs), I1.laid (t' := s1.toks) (fun b u e => Heap.get?_push_of_some _ e) (Nat.le_refl _) ?_, rfl, q _ hf (new_K I1)⟩
  exact ⟨z, us, 0, r, Heap.get?_push_size _ rfl⟩
end
/-- a, b = t -/
def gTp (K : PySem.W.Frag) (n : Nat) (t : TGs) : TG := fun v σ H Q => ∃ a, v = .ref a ∧ ∃ xs, ob K H a = some (.tup xs) ∧ xs.length = n ∧ t xs σ H Q
theorem pg_tp {X : Cx} {pos : Pos} {es : List Expr} {k : Nat} {t : TGs} (n : Nat) (hc : X.calm = true) (h : PGs X es t) (hn : (assignEach es X.env).length = n := by rfl) (hst : (assignEach es X.env).findIdx? (·.1) = none := by rfl) : PG X (.Tuple es k pos) (gTp X.K n t) :=
  ⟨fun pins s σ H v u Q I r hw => by
    obtain ⟨a, e, xs, hx, hl, q⟩ := hw
    exact (pg_tup (n := n) hc h hn hst).run pins s σ H v u Q I r ⟨a, xs, e, ob_tup hx, hl, q⟩⟩
/-- {} -/
def tDn (K : PySem.W.Frag) : TE := fun _ H Q => ∀ p, H p = none → K.lookup p = none → Q (.ref p) (upd H p (.dK []))
theorem pe_dn {X : Cx} {pos : Pos} : PE X (.Dict [] [] pos) (tDn X.K) := ⟨fun pins s σ H Q I h => by
  refine wpAny_Dict_empty ⟨.ref s.heap.objs.size, upd H s.heap.objs.size (.dK []), ?_, rfl, h _ (I.hok.fresh (Nat.le_refl _)) (new_K I)⟩
  exact I.laid (t' := s.toks) (fun _ _ e => Heap.get?_push_of_some _ e) (Nat.le_refl _) (dk_empty s.heap I.big)⟩
/-! ### loops -/
def ForI (J : It) (g : TG) (tb : TS) (D : Ends) (σ : L2.St) (H : Hp) : Prop := ∃ W : Nat → Nat → L2.St → Hp → Prop, (∃ m, W 0 m σ H) ∧ ∀ i m σ H, W i m σ H →
  (J.stop i H ∧ D.nx σ H) ∨ (J.go i H ∧ ∃ N : L2.St → Hp → Prop, (∀ σ' H', N σ' H' → ∃ m', m' < m ∧ W (i + 1) m' σ' H') ∧ ∀ x H', J.yld i H x H' → g x σ H' fun σ2 H2 => tb { D with nx := N, ct := N, bk := D.nx } σ2 H2)
theorem tFor_eq (wi : TI) (g : TG) (tb : TS) (D : Ends) (σ : L2.St) (H : Hp) : tFor wi g tb D σ H = wi σ H fun J H1 => ForI J g tb D σ H1 := rfl
section
variable {g : TG} {tb : TS} {D : Ends} {σ : L2.St} {H : Hp}
theorem forI_range {lo : Int} {n : Nat} (Pv : Nat → L2.St → Hp → Prop) (h0 : Pv 0 σ H)
    (hs : ∀ i σ H, i < n → Pv i σ H → g (.int (lo + i)) σ H fun σ2 H2 => tb { D with nx := Pv (i + 1), ct := Pv (i + 1), bk := D.nx } σ2 H2) (hd : ∀ σ H, Pv n σ H → D.nx σ H) : ForI (Itr lo n) g tb D σ H := for_range Pv h0 hs hd
theorem forI_list {K : PySem.W.Frag} {a : Addr} {xs : List V} (Pv : Nat → L2.St → Hp → Prop) (h0 : Pv 0 σ H) (hl : ∀ i σ H, i ≤ xs.length → Pv i σ H → SqL K H a xs)
    (hs : ∀ i x σ H, xs[i]? = some x → Pv i σ H → g x σ H fun σ2 H2 => tb { D with nx := Pv (i + 1), ct := Pv (i + 1), bk := D.nx } σ2 H2) (hd : ∀ σ H, Pv xs.length σ H → D.nx σ H) : ForI (Itl K a) g tb D σ H := for_list Pv h0 hl hs hd
theorem forI_tup {K : PySem.W.Frag} {a : Addr} {xs : List V} (Pv : Nat → L2.St → Hp → Prop) (h0 : Pv 0 σ H) (hl : ∀ i σ H, i ≤ xs.length → Pv i σ H → SqT K H a xs)
    (hs : ∀ i x σ H, xs[i]? = some x → Pv i σ H → g x σ H fun σ2 H2 => tb { D with nx := Pv (i + 1), ct := Pv (i + 1), bk := D.nx } σ2 H2) (hd : ∀ σ H, Pv xs.length σ H → D.nx σ H) : ForI (Itt K a) g tb D σ H := for_tup Pv h0 hl hs hd
end
theorem ca_0 : ((0 : Nat) : Int) = 0 := rfl
theorem ca_1 : ((1 : Nat) : Int) = 1 := rfl
theorem ca_2 : ((2 : Nat) : Int) = 2 := rfl
theorem ca_3 : ((3 : Nat) : Int) = 3 := rfl
theorem ca_4 : ((4 : Nat) : Int) = 4 := rfl
theorem ca_5 : ((5 : Nat) : Int) = 5 := rfl
theorem ca_6 : ((6 : Nat) : Int) = 6 := rfl
theorem ca_7 : ((7 : Nat) : Int) = 7 := rfl
theorem ca_8 : ((8 : Nat) : Int) = 8 := rfl
theorem ca_9 : ((9 : Nat) : Int) = 9 := rfl
theorem ca_10 : ((10 : Nat) : Int) = 10 := rfl
theorem ca_11 : ((11 : Nat) : Int) = 11 := rfl
theorem ca_12 : ((12 : Nat) : Int) = 12 := rfl
theorem ca_13 : ((13 : Nat) : Int) = 13 := rfl
theorem ca_14 : ((14 : Nat) : Int) = 14 := rfl
theorem ca_15 : ((15 : Nat) : Int) = 15 := rfl
theorem ca_16 : ((16 : Nat) : Int) = 16 := rfl
theorem ca_17 : ((17 : Nat) : Int) = 17 := rfl
theorem ca_18 : ((18 : Nat) : Int) = 18 := rfl
theorem ca_19 : ((19 : Nat) : Int) = 19 := rfl
theorem ca_20 : ((20 : Nat) : Int) = 20 := rfl
theorem ca_21 : ((21 : Nat) : Int) = 21 := rfl
theorem ca_22 : ((22 : Nat) : Int) = 22 := rfl
theorem ca_23 : ((23 : Nat) : Int) = 23 := rfl
theorem ca_24 : ((24 : Nat) : Int) = 24 := rfl
theorem ca_25 : ((25 : Nat) : Int) = 25 := rfl
theorem ca_26 : ((26 : Nat) : Int) = 26 := rfl
theorem ca_27 : ((27 : Nat) : Int) = 27 := rfl
theorem ca_28 : ((28 : Nat) : Int) = 28 := rfl
theorem ca_29 : ((29 : Nat) : Int) = 29 := rfl
theorem ca_30 : ((30 : Nat) : Int) = 30 := rfl
theorem nat10 : (10 : Int).natAbs = 10 := rfl
/-- list(xs), away from the written part -/
theorem call_listK {X : Cx} : CallR X (.type "list") (fun xs H Q => ∃ p, xs = [.ref p] ∧ ∃ ys, (SqL X.K H p ys ∨ SqT X.K H p ys) ∧ ∀ l, H l = none → X.K.lookup l = none → Q (.ref l) (upd H l (.lst ys))) := fun pins s σ H xs us Q I r h => by
  obtain ⟨p, e0, ys, hy, k⟩ := h
  subst e0
  obtain ⟨u, e1, ru⟩ := vals1 r
  subst e1
  cases ru
  have laid (its : List Value) (rv : Vals ys its) (hz : ys.length ≤ sizeLine) (hh : Heap) (cap : Nat) (kp : ∀ b o, s.heap.get? b = some o → hh.get? b = some o)
      (e : hh.get? s.heap.objs.size = some { cls := .type "list", dict := none, data := .seq its.toArray cap, slots := #[] }) : EP X pins σ Q (.ref s.heap.objs.size) { s with heap := hh } := by
    have ok : ObjOk X.prog X.w (upd H s.heap.objs.size (.lst ys)) hh s.heap.objs.size (.lst ys) := ⟨hz, its, cap, rv, e⟩
    exact ⟨.ref s.heap.objs.size, _, I.laid (t' := s.toks) kp (Nat.le_refl _) ok, rfl, k _ (I.hok.fresh (Nat.le_refl _)) (new_K I)⟩
  cases hy with
  | inl hy =>
    obtain ⟨its, rv, pl, hz⟩ := I.list hy
    obtain ⟨o, ho, hc, n, hd⟩ := pl.isList
    have hl := rv.length
    exact call_list_seq p (.inl rfl) ho hc hd (laid its rv hz) (by simp only [List.size_toArray]; omega)
  | inr hy =>
    obtain ⟨its, rv, pl, hz⟩ := I.tuple hy
    obtain ⟨o, ho, hc, n, hd⟩ := pl
    have hl := rv.length
    exact call_list_seq p (.inr rfl) ho hc hd (laid its rv hz) (by simp only [List.size_toArray]; omega)
/-- xs[i] = v -/
def setI (xs : List V) (i : Int) (v : V) : Option (List V) := (ixN xs.length i).map fun j => xs.set j v
theorem setI_nat {xs ys : List V} {j : Nat} {v : V} (h : j < xs.length) (e : xs.set j v = ys) : setI xs (j : Int) v = some ys := by
  have e1 : ixN xs.length (j : Int) = some j := by
    unfold ixN
    rw [if_pos (by omega), if_pos (by omega)]
    simp
  unfold setI
  rw [e1, ← e]
  rfl
def rSetA : V → V → V → Hp → (Hp → Prop) → Prop := fun o i v H Q => ∃ p k, o = .ref p ∧ i = .int k ∧ ∃ xs, H p = some (.lst xs) ∧ ∃ ys, setI xs k v = some ys ∧ Q (upd H p (.lst ys))
section
variable {X : Cx}
theorem set_any : PSet X rSetA := by
  intro pins s σ H o i v uo ui uv Q I ro ri rv h
  obtain ⟨p, k, rfl, rfl, xs, hx, ys, hy, q⟩ := h
  unfold setI at hy
  cases e : ixN xs.length k with
  | none => rw [e] at hy; cases hy
  | some j =>
    rw [e] at hy
    cases hy
    exact set_list pins s σ H _ _ _ uo ui uv Q I ro ri rv ⟨p, xs, k, j, rfl, rfl, hx, e, q⟩
end
theorem atI_0 {α : Type} (x0 : α) (l : List α) : atI (x0 :: l) 0 = some x0 := atI_nat (j := 0) rfl
theorem setI_0 (x0 v : V) (l : List V) : setI (x0 :: l) 0 v = some (v :: l) := setI_nat (j := 0) (by simp) (by rfl)
theorem atI_1 {α : Type} (x0 x1 : α) (l : List α) : atI (x0 :: x1 :: l) 1 = some x1 := atI_nat (j := 1) rfl
theorem setI_1 (x0 x1 v : V) (l : List V) : setI (x0 :: x1 :: l) 1 v = some (x0 :: v :: l) := setI_nat (j := 1) (by simp) (by rfl)
theorem atI_2 {α : Type} (x0 x1 x2 : α) (l : List α) : atI (x0 :: x1 :: x2 :: l) 2 = some x2 := atI_nat (j := 2) rfl
theorem setI_2 (x0 x1 x2 v : V) (l : List V) : setI (x0 :: x1 :: x2 :: l) 2 v = some (x0 :: x1 :: v :: l) := setI_nat (j := 2) (by simp) (by rfl)
theorem atI_3 {α : Type} (x0 x1 x2 x3 : α) (l : List α) : atI (x0 :: x1 :: x2 :: x3 :: l) 3 = some x3 := atI_nat (j := 3) rfl
theorem setI_3 (x0 x1 x2 x3 v : V) (l : List V) : setI (x0 :: x1 :: x2 :: x3 :: l) 3 v = some (x0 :: x1 :: x2 :: v :: l) := setI_nat (j := 3) (by simp) (by rfl)
theorem atI_4 {α : Type} (x0 x1 x2 x3 x4 : α) (l : List α) : atI (x0 :: x1 :: x2 :: x3 :: x4 :: l) 4 = some x4 := atI_nat (j := 4) rfl
theorem setI_4 (x0 x1 x2 x3 x4 v : V) (l : List V) : setI (x0 :: x1 :: x2 :: x3 :: x4 :: l) 4 v = some (x0 :: x1 :: x2 :: x3 :: v :: l) := setI_nat (j := 4) (by simp) (by rfl)
theorem atI_5 {α : Type} (x0 x1 x2 x3 x4 x5 : α) (l : List α) : atI (x0 :: x1 :: x2 :: x3 :: x4 :: x5 :: l) 5 = some x5 := atI_nat (j := 5) rfl
theorem setI_5 (x0 x1 x2 x3 x4 x5 v : V) (l : List V) : setI (x0 :: x1 :: x2 :: x3 :: x4 :: x5 :: l) 5 v = some (x0 :: x1 :: x2 :: x3 :: x4 :: v :: l) := setI_nat (j := 5) (by simp) (by rfl)
theorem atI_6 {α : Type} (x0 x1 x2 x3 x4 x5 x6 : α) (l : List α) : atI (x0 :: x1 :: x2 :: x3 :: x4 :: x5 :: x6 :: l) 6 = some x6 := atI_nat (j := 6) rfl
theorem setI_6 (x0 x1 x2 x3 x4 x5 x6 v : V) (l : List V) : setI (x0 :: x1 :: x2 :: x3 :: x4 :: x5 :: x6 :: l) 6 v = some (x0 :: x1 :: x2 :: x3 :: x4 :: x5 :: v :: l) := setI_nat (j := 6) (by simp) (by rfl)
end My

namespace My
open PySem PySem.Spec PyProof.Rows L2
section
variable {X : Cx}
/-- any(xs), a list of ints -/
def rAnyI (K : PySem.W.Frag) : List V → Hp → VK → Prop := fun vs H Q => ∃ (a : Addr) (ns : List Int), vs = [V.ref a] ∧ SqL K H a (ns.map V.int) ∧ Q (.bl (ns.any fun n => decide (n ≠ 0))) H
theorem vals_int_at : ∀ {ns : List Int} {us : List Value} {i : Nat} {v : Value}, Vals (ns.map V.int) us → us[i]? = some v → ∃ (n : Int) (t : Tok), ns[i]? = some n ∧ v = .int n t
  | [], us, i, v, h, e => by
    cases h
    cases e
  | n :: ns, us, i, v, h, e => by
    cases h with
    | cons a b =>
      cases i with
      | zero =>
        cases e
        obtain ⟨t, et⟩ := a
        exact ⟨n, t, rfl, et⟩
      | succ i => exact vals_int_at (ns := ns) (i := i) b e
theorem any_rangeI : ∀ ns : List Int, (List.range ns.length).any (fun i => decide (ns.getD i 0 ≠ 0)) = ns.any fun n => decide (n ≠ 0)
  | [] => rfl
  | n :: ns => by
    rw [List.length_cons, List.range_succ_eq_map, List.any_cons, List.any_map, List.any_cons, ← any_rangeI ns]
    all_goals rfl
theorem cr_anyI (hc : X.calm = true) : CallR X (.builtin "any") (rAnyI X.K) := by
  intro pins s σ H vs us Q I r h
  obtain ⟨a, ns, rfl, hs, q⟩ := h
  obtain ⟨its, rv, hl, _⟩ := I.list hs
  rw [Vals.ref1 r]
  have hlen := rv.length
  rw [List.length_map] at hlen
  refine call_any_walk (iter_any hl.isList fun s₂ e2 st hne => ?_)
  subst e2
  refine ⟨_, _, _, _, _, _, _, rfl, Walks.list (A := X.A.in1) (I.ok.hd hc) _ a hne its.toArray, st, (fun i v s Q E hv hq => ?_ : TruthOf X.prog X.w X.A.in1 (fun i v => its.toArray[i]? = some v) (fun i => decide (ns.getD i 0 ≠ 0))), fun h' tk hk => ?_⟩
  · have hv' : its[i]? = some v := by simpa using hv
    obtain ⟨n, t, hn, rfl⟩ := vals_int_at rv hv'
    have hg : ns.getD i 0 = n := by rw [List.getD_eq_getElem?_getD, hn] <;> rfl
    have hq' : Q (decide (ns.getD i 0 ≠ 0)) s := hq
    rw [hg, show decide (n ≠ 0) = (n != 0) from by by_cases h : n = 0 <;> simp [h]] at hq'
    exact PySem.P.truthy_int hq'
  · refine ⟨.bl _, H, I.kept fun b o eo => hk b o (fun hmem => ?_) (Heap.get?_push_of_some _ eo), ?_, q⟩
    · rcases List.mem_cons.mp hmem with e1 | hmem
      · exact absurd (e1 ▸ Heap.lt_size eo) (Nat.lt_irrefl _)
      · cases hmem
    · show Value.bool _ = Value.bool _
      rw [← any_rangeI, List.size_toArray, ← hlen]
/-- list(o.values()) -/
def tListVals (K : PySem.W.Frag) (td : TE) : TE := fun σ H Q => td σ H fun x H1 => ∃ a kvs, x = V.ref a ∧ H1 a = some (.dK kvs) ∧ ∀ p, H1 p = none → K.lookup p = none → Q (.ref p) (upd H1 p (.lst (kvs.map (·.2))))
variable {o : Expr} {p pos apos mpos : Pos} {td : TE}
theorem pe_listVals (hc : X.calm = true) (hg : Gl X "list") (hm : X.mg "list" = none) (hd : PE X o td) (hbase : attributeBase o "values" X.env (eval o X.env) = eval o X.env := by rfl) (hline : (apos.endLine == mpos.line) = true := by rfl)
    (hse : starEach [Expr.Call (.Attribute o "values" apos) [] [] mpos] X.env = [(false, eval (Expr.Call (.Attribute o "values" apos) [] [] mpos) X.env)] := by rfl) :
    PE X (.Call (.Name "list" p) [.Call (.Attribute o "values" apos) [] [] mpos] [] pos) (tListVals X.K td) := by
  refine ⟨fun pins s σ H Q I h => ?_⟩
  refine wpAny_Call_Name_kw (ld_blt I hg hm (u := .type "list") (by first | rfl | decide +kernel) ?_ (by first | decide +kernel | decide) (by first | decide +kernel | decide))
  rw [hse]
  refine PySem.callWith_type1 (wpAny_Call_method0_late hbase hline (thn (hd.run pins s σ H _ I h) fun v s1 ⟨x, H1, I1, r1, a, kvs, ex, ha, q⟩ => ?_))
  subst ex
  obtain rfl : v = Value.ref a := r1
  obtain ⟨_, hsys, vs, rel, dof⟩ := dk_of I1.hok ha
  obtain ⟨z, _, _, _, _⟩ := (show ObjOk X.prog X.w H1 s1.heap a (.dK kvs) from I1.hok a _ ha)
  obtain ⟨ep, dat⟩ := dof.dictAt
  have dat' := dat
  obtain ⟨ob, es, ho, ex, hdat, hko, hpr, hnd⟩ := dat'
  refine ⟨"dict", "dict.values", F.plainAttrs_dict, F.slot_dict_values, F.type_dict_values, ⟨ob, ho, ex.1⟩, fun b e => ?_, Calls.callWith_builtin rfl (PySem.evalArgs_none ?_)⟩
  · cases e
    exact ⟨ob, ho, ex.2.1⟩
  refine call_meetsIn F.slot_dict_values ⟨ob, ho, ex.1⟩ F.entry_dict_values (F.args_dict_values_1 _) (meets_dict_values (mixKind X.prog X.w) a hsys) ⟨⟨vs, dof⟩, ?_⟩
  have k1 : ∀ b u, s1.heap.get? b = some u → (s1.heap.push { cls := .type "dict_values", data := .fields #[.ref a] }).get? b = some u := fun b u e => Heap.get?_push_of_some _ e
  have dat1 : (s1.heap.push { cls := .type "dict_values", data := .fields #[.ref a] }).DictAt (mixKind X.prog X.w) a vs ep := dat.keep k1
  have hl : kvs.length = vs.length := Paired.length rel
  have I2 : Inv X pins σ H1 { s1 with heap := s1.heap.push { cls := .type "dict_values", data := .fields #[.ref a] } } := I1.kept (t' := s1.toks) fun b u e => Heap.get?_push_of_some _ e
  refine PySem.W.kdl_call (PySem.W.kdl_values (knd := mixKind X.prog X.w) (kvs := vs) (ep := ep) (r := s1.heap.objs.size) (d := a)) (I.ok.hd hc) ⟨⟨_, Heap.get?_push_size _ rfl, rfl, rfl⟩, dat1⟩ (by rw [← hl]; exact z) fun h' tk acc' c' hkeep hS hacc => ?_
  have hsz : (s1.heap.push { cls := .type "dict_values", data := .fields #[.ref a] }).objs.size = s1.heap.objs.size + 1 := Heap.size_push _ _
  have fr := I2.hok.fresh (a := (s1.heap.push { cls := .type "dict_values", data := .fields #[.ref a] }).objs.size) (Nat.le_refl _)
  refine ⟨.ref (s1.heap.push { cls := .type "dict_values", data := .fields #[.ref a] }).objs.size, upd H1 (s1.heap.push { cls := .type "dict_values", data := .fields #[.ref a] }).objs.size (.lst (kvs.map (·.2))), I2.laid hkeep (Nat.le_refl _) (show ObjOk X.prog X.w _ _ _ (.lst (kvs.map (·.2))) from ⟨by rw [List.length_map]; exact z, acc'.toList, c', ?_, ?_⟩), rfl, q _ fr (new_K I2)⟩
  · have el : acc'.toList.length = acc'.size := by simp
    refine vals_of_at (by rw [List.length_map, el, hacc.1, hl]) fun j x w h1 h2 => ?_
    obtain ⟨k, hky⟩ := hacc.2 j w (by rw [← Array.getElem?_toList]; exact h2)
    obtain ⟨y, e1, e2⟩ := KV.at' rel hky
    rw [List.getElem?_map, e1] at h1
    cases h1
    exact e2
  · exact hS
end
section
variable {X : Cx}
/-- what is tracked is none of the written part's -/
def tFr (K : PySem.W.Frag) (t : TE) : TE := fun σ H Q => t σ H fun v H' => (∀ a, H' a ≠ none → K.lookup a = none) → Q v H'
theorem pe_fr {e : Expr} {t : TE} (h : PE X e t) : PE X e (tFr X.K t) := ⟨fun pins s σ H Q I hw => thn (h.run pins s σ H _ I hw) fun u s1 ⟨v, H1, I1, r, q⟩ => ⟨v, H1, I1, r, q fun a ha => by
  cases z : X.K.lookup a with
  | none => rfl
  | some o => exact absurd (I1.bs a o (I1.ok.mod.kin a o z)).2 ha⟩⟩
end
/-- name = [..] on one line; what is tracked is none of the written part's -/
theorem ps_setLcF {X : Cx} {i : Nat} {y : Str} {py : Pos} {elt tg iter : Expr} {ifs : List Expr} {scope : Scope} {own : List (Str × Nat)} {pos spos : Pos} {wi : TI} {g : TG} {tt : TT} {te : TE} (hc : X.calm = true) (hN : X.N.Nodup) (hy : X.N[i]? = some y) (hyl : X.env.scope.names.lookup y = some .local)
    (hsw : swapsWith (.ListComp elt [⟨tg, iter, ifs, 0⟩] scope pos) (some (.Name y py)) spos.line X.env = pure true) (hi : PI X tg iter wi) (ok : BlkOk X.N X.env.scope scope own)
    (hg : ∀ (s : Shared) (H : Hp) (C : Addr) (cl : List (Str × Addr)) (fp : List Addr), PG (X.blk s H scope (compEnvC scope cl C X.env) fp) tg g) (ht : ∀ (s : Shared) (H : Hp) (C : Addr) (cl : List (Str × Addr)) (fp : List Addr), PTs (X.blk s H scope (compEnvC scope cl C X.env) fp) ifs tt)
    (he : ∀ (s : Shared) (H : Hp) (C : Addr) (cl : List (Str × Addr)) (fp : List Addr), PE (X.blk s H scope (compEnvC scope cl C X.env) fp) elt te) (hs : ∀ x, foldedSetIterable iter X.env x = pure x := by intro _; rfl) :
    PS X (.Assign [.Name y py] (.ListComp elt [⟨tg, iter, ifs, 0⟩] scope pos) spos) (tAsg (tFr X.K (tLc wi g tt te (own.map (·.2)))) (gName i)) := by
  refine ⟨fun pins s σ H D I h => ?_⟩
  rw [exec_Assign_Name_used _ _ _ _ hsw]
  refine wpAny_bind (wpAny_standAt (wpAny_bind ?_))
  show wpAny _ X.A (do let _ ← comprehension (.ListComp elt [⟨tg, iter, ifs, 0⟩] scope pos) scope X.env (firstIterPos [⟨tg, iter, ifs, 0⟩] pos) (newList []) false (eval iter X.env) (some (assign (.Name y py) X.env))) _ _ s
  have h : tLc wi g tt te (own.map (·.2)) σ H (fun x H1 => (∀ a, H1 a ≠ none → X.K.lookup a = none) → gName i x σ H1 D.nx) := h
  refine wpAny_bind (thn (lc_core (Qf := fun _ s' => SP X pins D .next s') hc hN I hi ok hg ht he hs h fun L C s' m H' I' q hn f => ?_) fun _ s' hq => wpAny_pure (wpAny_pure hq))
  have fr : ∀ a, H' a ≠ none → X.K.lookup a = none := fun a ha => by
    cases z : X.K.lookup a with
    | none => rfl
    | some o => exact absurd (I'.bs a o (I'.ok.mod.kin a o z)).2 ha
  show wpAny _ _ (assign (.Name y py) X.env (.ref L)) _ _ _
  refine wpAny_assign_Name (store_ok2 (v := V.ref L) I' hN hy (.inl hyl) rfl (fun s2 I2 ⟨a, sb, ha⟩ => ?_) (.inr hyl))
  obtain ⟨f0, f1, f2, f3, f4, f5⟩ := f
  have haC : C ≠ a := by
    rcases ha with z | z
    · rw [z]; exact f1
    · exact fun e => f4 y a z e.symm
  refine ⟨m, hn.sameBut sb haC, fun h3 sb3 => ?_⟩
  exact ⟨_, H', I2.turned (t' := s2.toks) (fun b o hb e => (sb3.2 b hb).trans e) f0 f1 f3 f4 f5, q fr⟩
theorem cut_to (xs : List V) (j : Nat) (hj : j ≤ xs.length) : cutV xs none (some (j : Int)) = xs.take j := by
  have e := HT.sIx_nat xs.length xs.length j
  unfold cutV
  rw [e, HT.sIx_none, List.drop_zero, Nat.sub_zero, Nat.min_eq_left hj]
theorem cut_from (xs : List V) (j : Nat) (hj : j ≤ xs.length) : cutV xs (some (j : Int)) none = xs.drop j := by
  have e := HT.sIx_nat xs.length 0 j
  unfold cutV
  rw [e, HT.sIx_none, Nat.min_eq_left hj, List.take_of_length_le (by rw [List.length_drop]; omega)]
end My

namespace My
open PySem PySem.Spec PyProof.Rows L2
/-! ### xs[j::-1] -/
theorem rf_bounds (n j : Nat) (h : j < n) : sliceBounds (some (j : Int)) none (some (-1)) n = ((j : Int), -1, -1) := by
  unfold sliceBounds
  simp only [Option.getD_some, show ¬ ((-1 : Int) > 0) by decide, if_false, show ¬ ((j : Int) < 0) by omega]
  refine Prod.ext ?_ rfl
  show max (-1) (min (j : Int) ((n : Int) - 1)) = (j : Int)
  omega
theorem rf_range (n : Nat) : (List.range (n + 1)).map (fun k => n - k) = (List.range (n + 1)).reverse := by
  have := PySem.W.krv_range (n + 1)
  rw [← this]
  exact List.map_congr_left fun k hk => by
    have := List.mem_range.mp hk
    omega
theorem rf_sliceRange (j : Nat) : sliceRange (j : Int) (-1) (-1) = (List.range (j + 1)).map fun k => j - k := by
  have := PySem.W.krv_sliceRange (j + 1)
  rw [show (((j + 1 : Nat) : Int)) - 1 = (j : Int) by omega] at this
  rw [this]
  exact List.map_congr_left fun k hk => by
    have := List.mem_range.mp hk
    omega
theorem fm_congr {α β : Type} {f g : α → Option β} : ∀ {l : List α}, (∀ x ∈ l, f x = g x) → l.filterMap f = l.filterMap g
  | [], _ => rfl
  | x :: l, h => by
    rw [List.filterMap_cons, List.filterMap_cons, h x List.mem_cons_self, fm_congr (l := l) fun y hy => h y (List.mem_cons_of_mem _ hy)]
theorem rf_some (items : Array Value) (m : Nat) (h : m ≤ items.size) : (List.range m).filterMap (items[·]?) = items.toList.take m := by
  have e : ((items.toList.take m).toArray).size = m := by
    rw [List.size_toArray, List.length_take, Array.length_toList]
    omega
  have k := PySem.W.krv_all ((items.toList.take m).toArray)
  rw [e] at k
  refine Eq.trans ?_ k
  refine fm_congr fun i hi => ?_
  have il := List.mem_range.mp hi
  rw [show ((items.toList.take m).toArray)[i]? = (items.toList.take m)[i]? from (Array.getElem?_toList (xs := (items.toList.take m).toArray)).symm, List.getElem?_take_of_lt il, Array.getElem?_toList]
theorem rf_pick (items : Array Value) (j : Nat) (h : j < items.size) : slicePick items (some (j : Int)) none (some (-1)) = ((items.toList.take (j + 1)).reverse).toArray := by
  unfold slicePick
  rw [rf_bounds _ _ h]
  show ((sliceRange (j : Int) (-1) (-1)).filterMap (items[·]?)).toArray = _
  rw [rf_sliceRange, rf_range, List.filterMap_reverse, rf_some _ _ h]
section
variable {X : Cx}
def tRevF (K : PySem.W.Frag) (te : TE) (tl : TO) : TE := fun σ H Q => te σ H fun x H1 => tl σ H1 fun l H2 => ∃ a xs, ∃ j : Nat, x = .ref a ∧ l = some (j : Int) ∧ SqL K H2 a xs ∧ j < xs.length ∧ ∀ p, H2 p = none → Q (.ref p) (upd H2 p (.lst (xs.take (j + 1)).reverse))
theorem pe_revF {e lo : Expr} {te : TE} {tl : TO} {k : Nat} {p1 p2 p3 pos : Pos} (he : PE X e te) (hl : PO X (some lo) tl) : PE X (.Subscript e (.Slice (some lo) none (some (.UnaryOp .USub (.Constant (.int 1) k p1) p2)) p3) pos) (tRevF X.K te tl) := by
  refine ⟨fun pins s σ H Q I h => ?_⟩
  refine Subscript_ (thn (he.run pins s σ H _ I h) fun v s1 ⟨x, H1, I1, r1, q1⟩ => ?_)
  have hst : PO X (some (.UnaryOp .USub (.Constant (.int 1) k p1) p2)) (tPart (tUn (rU fun i => .int (-i)) (tC (.int 1)))) := po_some (pe_un un_neg pe_int)
  refine wpAny_Slice (thn (hl.run pins s1 σ H1 _ I1 q1) fun vl s2 ⟨l, H2, I2, pl, q2⟩ => ?_)
  obtain ⟨a, xs, j, ex, el, hx, hj, q⟩ := q2
  subst ex
  subst el
  cases r1
  refine thn (po_none.run pins s2 σ H2 (fun o H3 => o = none ∧ H3 = H2) I2 ⟨rfl, rfl⟩) fun vu s3 ⟨u, H3, I3, pu, eu, e3⟩ => ?_
  subst eu e3
  refine thn (hst.run pins s3 σ H3 (fun o H4 => o = some (-1) ∧ H4 = H3) I3 ⟨1, rfl, -1, rfl, rfl, rfl⟩) fun vs s4 ⟨o, H4, I4, ps, eo, e4⟩ => ?_
  subst eo e4
  have I5 : Inv X pins σ H4 { s4 with heap := s4.heap.push { cls := .type "slice", data := .fields #[vl, vu, vs] } } := I4.kept (t' := s4.toks) fun b ob q => Heap.get?_push_of_some _ q
  obtain ⟨its, r, ht, hz⟩ := I5.list hx
  have hlen := r.length
  show wpAny (model X.prog X.w) X.A (subscriptTail e (.Slice (some lo) none (some (.UnaryOp .USub (.Constant (.int 1) k p1) p2)) p3) (.ref a) (.ref s4.heap.objs.size)) (EP X pins σ Q) X.xe { s4 with heap := s4.heap.push { cls := .type "slice", data := .fields #[vl, vu, vs] } }
  refine tail_any (ops := [.ref a, .ref s4.heap.objs.size]) ht.isList.typeIs (PySem.slot_list_getitem.lookup) ?_ (by with_unfolding_all rfl)
  refine wpAny_getItem_list_slice ht.isList (Heap.IsSliceOf.new _ vl vu vs) pl pu ps (by decide) ?_ (by rw [List.size_toArray]; omega)
  rw [rf_pick _ j (by rw [List.size_toArray]; omega)]
  refine ⟨.ref _, _, I5.laid (t' := s4.toks) (o := .lst (xs.take (j + 1)).reverse) (fun b ob q => Heap.get?_push_of_some _ q) (Nat.le_refl _) ?_, rfl, q _ (I5.hok.fresh (Nat.le_refl _))⟩
  exact ⟨by rw [List.length_reverse, List.length_take]; omega, _, 0, (r.take (j + 1)).reverse, Heap.get?_push_size _ rfl⟩
end
end My

namespace My
open PySem PySem.Spec PyProof.Rows L2
/-! ### numbers: fractions in lowest terms -/
abbrev Qt := Int × Int
def Nf (q : Qt) : Prop := 1 ≤ q.2 ∧ Int.gcd q.1 q.2 = 1
/-- q is t / b in lowest terms -/
def Is (q : Qt) (t b : Int) : Prop := Nf q ∧ q.1 * b = t * q.2
def Sz (k : Nat) (q : Qt) : Prop := q.1.natAbs < 2 ^ k ∧ q.2.natAbs < 2 ^ k
theorem nf_cop {q : Qt} (h : Nf q) : Nat.Coprime q.1.natAbs q.2.natAbs := h.2
theorem nf_unique {p q : Qt} (hp : Nf p) (hq : Nf q) (h : p.1 * q.2 = q.1 * p.2) : p = q := by
  have h1 : p.1.natAbs * q.2.natAbs = q.1.natAbs * p.2.natAbs := by rw [← Int.natAbs_mul, ← Int.natAbs_mul, h]
  have d1 : p.2.natAbs ∣ q.2.natAbs := (nf_cop hp).symm.dvd_of_dvd_mul_left (n := q.2.natAbs) (m := p.1.natAbs) (by rw [h1]; exact Nat.dvd_mul_left _ _)
  have d2 : q.2.natAbs ∣ p.2.natAbs := (nf_cop hq).symm.dvd_of_dvd_mul_left (n := p.2.natAbs) (m := q.1.natAbs) (by rw [← h1]; exact Nat.dvd_mul_left _ _)
  have e := Nat.dvd_antisymm d1 d2
  have a1 := hp.1
  have a2 := hq.1
  have e2 : p.2 = q.2 := by omega
  rw [e2] at h
  have e1 : p.1 = q.1 := Int.eq_of_mul_eq_mul_right (show q.2 ≠ 0 by omega) h
  exact Prod.ext e1 e2
theorem is_unique {p q : Qt} {t b : Int} (hb : b ≠ 0) (hp : Is p t b) (hq : Is q t b) : p = q := by
  refine nf_unique hp.1 hq.1 ?_
  have h1 := hp.2
  have h2 := hq.2
  have h3 : b * (p.1 * q.2) = b * (q.1 * p.2) := by
    have e1 : b * (p.1 * q.2) = (p.1 * b) * q.2 := by rw [Int.mul_comm p.1 b, Int.mul_assoc]
    have e2 : b * (q.1 * p.2) = (q.1 * b) * p.2 := by rw [Int.mul_comm q.1 b, Int.mul_assoc]
    rw [e1, e2, h1, h2, Int.mul_assoc, Int.mul_assoc, Int.mul_comm p.2 q.2]
  exact Int.eq_of_mul_eq_mul_left hb h3
theorem is_le {q : Qt} {t b : Int} (hb : b ≠ 0) (h : Is q t b) : q.1.natAbs ≤ t.natAbs ∧ q.2.natAbs ≤ b.natAbs := by
  have h1 : q.1.natAbs * b.natAbs = t.natAbs * q.2.natAbs := by rw [← Int.natAbs_mul, ← Int.natAbs_mul, h.2]
  have d : q.2.natAbs ∣ b.natAbs := (nf_cop h.1).symm.dvd_of_dvd_mul_left (n := b.natAbs) (m := q.1.natAbs) (by rw [h1]; exact Nat.dvd_mul_left _ _)
  have hb' : 0 < b.natAbs := by omega
  have le2 := Nat.le_of_dvd hb' d
  refine ⟨?_, le2⟩
  have q2 : 0 < q.2.natAbs := by have := h.1.1; omega
  have h2 : q.1.natAbs * q.2.natAbs ≤ t.natAbs * q.2.natAbs := by rw [← h1]; exact Nat.mul_le_mul_left _ le2
  exact Nat.le_of_mul_le_mul_right h2 q2
theorem is_sz {q : Qt} {t b : Int} {k : Nat} (hb : b ≠ 0) (h : Is q t b) (ht : t.natAbs < 2 ^ k) (hk : b.natAbs < 2 ^ k) : Sz k q :=
  ⟨Nat.lt_of_le_of_lt (is_le hb h).1 ht, Nat.lt_of_le_of_lt (is_le hb h).2 hk⟩
/-- exact division by the greatest common divisor -/
theorem gcd_pos {t b : Int} (hb : b ≠ 0) : 0 < Int.gcd t b := Nat.gcd_pos_of_pos_right _ (by omega)
theorem gcd_le {t b : Int} (hb : b ≠ 0) : Int.gcd t b ≤ b.natAbs := Nat.le_of_dvd (by omega) (Nat.gcd_dvd_right _ _)
theorem is_div {t b : Int} (hb : 0 < b) : Is (t / (Int.gcd t b : Nat), b / (Int.gcd t b : Nat)) t b := by
  have hg := gcd_pos (t := t) (b := b) (by omega)
  obtain ⟨x, hx⟩ := Int.gcd_dvd_left (a := t) (b := b)
  obtain ⟨y, hy⟩ := Int.gcd_dvd_right (a := t) (b := b)
  have hg' : ((Int.gcd t b : Nat) : Int) ≠ 0 := by omega
  have e1 : t / (Int.gcd t b : Nat) = x := by conv => lhs; lhs; rw [hx]
                                              exact Int.mul_ediv_cancel_left _ hg'
  have e2 : b / (Int.gcd t b : Nat) = y := by conv => lhs; lhs; rw [hy]
                                              exact Int.mul_ediv_cancel_left _ hg'
  rw [e1, e2]
  have hy0 : 0 < y := by
    rcases Int.lt_trichotomy y 0 with z | z | z
    · have := Int.mul_neg_of_pos_of_neg (show (0 : Int) < (Int.gcd t b : Nat) by omega) z
      omega
    · rw [z, Int.mul_zero] at hy
      omega
    · exact z
  refine ⟨⟨by show 1 ≤ y; omega, ?_⟩, ?_⟩
  · show Int.gcd x y = 1
    have h : Int.gcd t b = Int.gcd t b * Int.gcd x y := by
      have k : Int.gcd (((Int.gcd t b : Nat) : Int) * x) (((Int.gcd t b : Nat) : Int) * y) = Int.gcd t b * Int.gcd x y := by rw [Int.gcd_mul_left, Int.natAbs_natCast]
      rwa [← hx, ← hy] at k
    exact Nat.eq_of_mul_eq_mul_left hg (by rw [← h, Nat.mul_one])
  · show x * b = t * y
    conv => lhs; rw [hy]
    conv => rhs; rw [hx]
    rw [← Int.mul_assoc, Int.mul_comm x]
theorem is_neg {q : Qt} {t b : Int} (h : Is q (-t) (-b)) : Is q t b := ⟨h.1, by have := h.2; rw [Int.mul_neg, Int.neg_mul] at this; omega⟩
theorem gcd_neg2 (t b : Int) : Int.gcd (-t) (-b) = Int.gcd t b := by rw [Int.gcd_neg, Int.neg_gcd]
/-- what fraction hands back -/
theorem is_fdiv {t b : Int} (hb : b ≠ 0) : Is (t.fdiv (if b < 0 then -((Int.gcd t b : Nat) : Int) else (Int.gcd t b : Nat)), b.fdiv (if b < 0 then -((Int.gcd t b : Nat) : Int) else (Int.gcd t b : Nat))) t b := by
  by_cases h : b < 0
  · rw [if_pos h]
    have e := is_div (t := -t) (b := -b) (by omega)
    rw [gcd_neg2] at e
    have k : ∀ x : Int, x.fdiv (-((Int.gcd t b : Nat) : Int)) = (-x) / ((Int.gcd t b : Nat) : Int) := fun x => by
      rw [← Int.fdiv_eq_ediv_of_nonneg _ (by omega), ← Int.neg_fdiv_neg (-x), Int.neg_neg]
    rw [k, k]
    exact is_neg e
  · rw [if_neg h, Int.fdiv_eq_ediv_of_nonneg _ (by omega), Int.fdiv_eq_ediv_of_nonneg _ (by omega)]
    exact is_div (by omega)
theorem mulW {i j : Int} {a b : Nat} (ha : i.natAbs < 2 ^ a) (hb : j.natAbs < 2 ^ b) (h : a + b ≤ 900000) : CMulW i j := by
  refine wide_mul (a := a + 1) (b := b + 1) (Nat.lt_of_lt_of_le ha (Nat.pow_le_pow_right (by omega) (by omega))) (Nat.lt_of_lt_of_le hb (Nat.pow_le_pow_right (by omega) (by omega))) (by omega) (by omega) (by omega)
theorem szMul {i j : Int} {a b : Nat} (ha : i.natAbs < 2 ^ a) (hb : j.natAbs < 2 ^ b) : (i * j).natAbs < 2 ^ (a + b) := wide_lt ha hb
theorem szAdd {i j : Int} {a b c : Nat} (ha : i.natAbs < 2 ^ a) (hb : j.natAbs < 2 ^ b) (h1 : a + 1 ≤ c) (h2 : b + 1 ≤ c) : (i + j).natAbs < 2 ^ c := by
  have e1 : 2 ^ (a + 1) ≤ 2 ^ c := Nat.pow_le_pow_right (by omega) h1
  have e2 : 2 ^ (b + 1) ≤ 2 ^ c := Nat.pow_le_pow_right (by omega) h2
  rw [Nat.pow_succ] at e1 e2
  have := Int.natAbs_add_le i j
  omega
theorem szSub {i j : Int} {a b c : Nat} (ha : i.natAbs < 2 ^ a) (hb : j.natAbs < 2 ^ b) (h1 : a + 1 ≤ c) (h2 : b + 1 ≤ c) : (i - j).natAbs < 2 ^ c := by
  rw [Int.sub_eq_add_neg]
  exact szAdd ha (by rw [Int.natAbs_neg]; exact hb) h1 h2
theorem szMono {i : Int} {a b : Nat} (ha : i.natAbs < 2 ^ a) (h : a ≤ b) : i.natAbs < 2 ^ b := Nat.lt_of_lt_of_le ha (Nat.pow_le_pow_right (by omega) h)
theorem Sz.mono {q : Qt} {a b : Nat} (ha : Sz a q) (h : a ≤ b) : Sz b q := ⟨szMono ha.1 h, szMono ha.2 h⟩
/-- // by any number of a bounded size -/
def CDivX (_ j : Int) : Prop := j ≠ 0 ∧ j.natAbs < 2 ^ 8999
theorem op_fdivX {X : Cx} : OpR X (binaryOp .FloorDiv) (rI CDivX fun i j => .int (i.fdiv j)) := by
  intro pins s σ H x y v u Q I rx ry h
  obtain ⟨i, j, rfl, rfl, hc, q⟩ := h
  obtain ⟨t, rfl⟩ := rx
  obtain ⟨t', rfl⟩ := ry
  exact floordiv_int hc.1 ⟨.int _, H, I.tok _, ⟨_, rfl⟩, q⟩ (.inl (PyProof.noPylong_of_log2 (Nat.lt_of_lt_of_le (PySem.Flt.log2_lt_of (by omega) hc.2) (by omega))))
/-! ### fractions as values -/
def frt (q : Qt) : HO := .tup [.int q.1, .int q.2]
end My

namespace My
open PySem PySem.Spec PyProof.Rows L2
section
variable {P : Program} {w : World} {K : PySem.W.Frag} {mg : Str → Option Value} {base : Heap}
def spMixed : Sp := fun vs H Q _ => ∃ a b : Int, vs = [.int a, .int b] ∧ ∀ r : Int, Q (.int r) H
theorem mulW_mod {i : Int} {n : Int} (h0 : 0 < n) (h : n < 2 ^ 64) : CMulW (i % n) (i % n) := by
  have h1 := Int.emod_nonneg i (show n ≠ 0 by omega)
  have h2 := Int.emod_lt_of_pos i h0
  exact wide_mul (a := 64) (b := 64) (by omega) (by omega) (by omega) (by omega) (by omega)
abbrev sMixed : Stmt := topS 33
theorem scMixed : FnScope ["_law_number", "_law_turn", "_law_value"] ["_law_number", "_law_turn"] (defScope sMixed) := ⟨rfl, rfl, rfl, by decide +kernel, rfl, by decide +kernel, by decide +kernel⟩
theorem k_Mixed (T : Bt K mg) (D : Dfn K mg "_law_mixed" sMixed ["_law_number", "_law_turn"]) : Kn P w K mg base 1 "_law_mixed" ["_law_number", "_law_turn"] spMixed := by
  refine Kn.mk' D scMixed (fun vs H Q E h => ?_) (fun f cdv A outer s H vs Q E hr h => ?_)
  · obtain ⟨a, b, rfl, _⟩ := h
    rfl
  obtain ⟨a, b, rfl, q⟩ := h
  refine ⟨_, (pss_cons (ps_set (i := 2) scMixed.nd rfl (.inl rfl) (pe_op op_mod (pe_op op_add (pe_op op_add (pe_op op_mul (pe_op op_mod (pe_callTy call_int1 (by rfl) T.b_int (by decide +kernel) (pa_cons (pv 0) pa_nil)) pe_int) pe_int) (pe_op op_mul (pv 1) pe_int)) pe_int) pe_int))
      (pss_cons (ps_set (i := 2) scMixed.nd rfl (.inl rfl) (pe_op op_mod (pe_op op_add (pe_op op_add (pe_op op_add (pe_op op_mulW (pv 2) (pv 2)) (pe_op op_mul (pv 2) pe_int)) (pe_op op_mul (pv 1) pe_int)) pe_int) pe_int))
      (pss_cons (ps_set (i := 2) scMixed.nd rfl (.inl rfl) (pe_op op_mod (pe_op op_add (pe_op op_add (pe_op op_mul (pv 2) pe_int) (pe_op op_fdiv (pv 2) pe_int)) pe_int) pe_int))
      (pss_cons (ps_set (i := 2) scMixed.nd rfl (.inl rfl) (pe_op op_mod (pe_op op_add (pe_op op_mulW (pv 2) (pv 2)) (pv 1)) pe_int))
      (pss_one (ps_ret (pe_op op_fdiv (pv 2) pe_int))))))), ?_⟩
  simp only [cx_K, decide_true, decide_false, reduceCtorEq, gTp, gCons, gNil, ca_0, ca_1, ca_2, ca_3, ca_4, ca_5, ca_6, ca_7, ca_8, ca_9, ca_10, ca_11, ca_12, ca_13, ca_14, ca_15, ca_16, ca_17, ca_18, ca_19, ca_20, ca_21, ca_22, ca_23, ca_24, ca_25, ca_26, ca_27, ca_28, ca_29, ca_30, not_true_eq_false, not_false_eq_true, Int.reduceEq, Nat.reduceEqDiff, Nat.reduceLeDiff, rGcd, V.ty.injEq, eq_self, List.not_mem_nil, beq_self_eq_true, HO.lst.injEq, HO.tup.injEq, tFor_eq, iRng1, iList, iTup, nat10, tSeq, rIxA, rSetA, rIsN, rIsT, tTp, tLs, itsO_tup, itsO_lst, tyO_tup, tyO_lst, tyO_dK, tyN_non, tyN_bl, tyN_int, tyN_str, tyN_ref, tyNs_lt, isB, upd_same, upd_upd, sizeLine_eq, List.mem_cons, String.reduceBEq, String.reduceEq, Bool.or_false, Bool.or_true, Bool.and_false, Bool.false_or, Bool.and_self, Bool.false_and, Bool.not_false, Bool.not_true, List.any_cons, List.any_nil, atI_0, setI_0, atI_1, setI_1, atI_2, setI_2, atI_3, setI_3, atI_4, setI_4, atI_5, setI_5, atI_6, setI_6, tAsg, gName, tOp, tUn, tVar, tC, tCons, L2.tNil, tRet, tIfS, tTest, tCB, tCall, rI, rI0, rU, tNext, tB, tAnd, tOr, tNot, tAndV, tOrV, tNotV, tDrop, tIf, tPar, gSub, rIxL, rIxT, rEq, rNe, rSetL, tBits,
    L2.start, List.map_cons, List.map_nil, List.cons_append, List.nil_append, List.append_nil, List.length_cons, List.length_nil, List.replicate, Nat.reduceAdd, Nat.reduceSub, Nat.zero_add, List.getElem?_cons_zero, List.getElem?_cons_succ, List.set_cons_zero, List.set_cons_succ,
    Option.some.injEq, exists_eq_left', exists_eq_left, V.int.injEq, V.bl.injEq, V.ref.injEq, V.str.injEq, List.cons.injEq, reduceCtorEq, and_true, true_and, false_and, and_false, exists_false, or_false, false_or, or_true, true_or, exists_const, CMul, CDiv, CPow, and_assoc, exists_and_left, exists_and_right, Int.reducePow, Int.reduceNeg, Int.reduceLT, Int.reduceLE, Nat.reducePow, Nat.reduceLT, Int.reduceToNat, gt_iff_lt, ge_iff_le, decide_eq_true_eq, Bool.not_eq_true', decide_eq_false_iff_not, scal, ↓reduceIte, Bool.false_eq_true]
  exact ⟨mulW_mod (by omega) (by omega), mulW_mod (by omega) (by omega), q _⟩
theorem at_ints {ns : List Int} {i : Int} (h0 : 0 ≤ i) (h : i < (ns.length : Int)) : ∃ z, atI (ns.map V.int) i = some (.int z) := by
  have hk : i.toNat < ns.length := by omega
  have q : atI (ns.map V.int) ((i.toNat : Nat) : Int) = some (.int ns[i.toNat]) := atI_nat (by rw [List.getElem?_map, List.getElem?_eq_getElem hk] <;> rfl)
  rw [show ((i.toNat : Nat) : Int) = i by omega] at q
  exact ⟨_, q⟩
theorem bits_le {m : Int} (h : m.natAbs < 2 ^ 200) : Builtin.Int.intBits m ≤ 200 := by
  unfold Builtin.Int.intBits
  split
  · omega
  · have := PySem.Flt.log2_lt_of (show 0 < 200 by omega) h
    omega
def TakeA (K : PySem.W.Frag) (s : Addr) (m : Int) (H : Hp) (σ' : L2.St) (H' : Hp) : Prop := ∃ x, σ' = [some (.ref s), some (.int m), x, none, none, none, none] ∧ Kp s H H' ∧ Sto K H' s
def TakeB (K : PySem.W.Frag) (s : Addr) (m : Int) (H : Hp) (σ' : L2.St) (H' : Hp) : Prop := ∃ x n, σ' = [some (.ref s), some (.int m), x, none, some (.int n), none, none] ∧ Kp s H H' ∧ Sto K H' s
def TakeC (s : Addr) (m : Int) (x : Option V) (n : Int) (H3 : Hp) (k : Nat) (σ : L2.St) (H' : Hp) : Prop := ∃ v y, σ = [some (.ref s), some (.int m), x, none, some (.int n), some (.int v), y] ∧ H' = H3
def spTake (K : PySem.W.Frag) : Sp := fun vs H Q _ => ∃ (s : Addr) (m : Int), vs = [.ref s, .int m] ∧ Sto K H s ∧ m < 2 ^ 200 ∧ ∀ r H', 0 ≤ r → (r < m ∨ r = 0) → Kp s H H' → Sto K H' s → Q (.int r) H'
abbrev sTake : Stmt := topS 35
theorem scTake : FnScope ["_law_store_here", "_law_many", "_law_cell", "_law_digit", "_law_number", "_law_value", "_law_k"] ["_law_store_here", "_law_many"] (defScope sTake) := ⟨rfl, rfl, rfl, by decide +kernel, rfl, by decide +kernel, by decide +kernel⟩
theorem k_Take (T : Bt K mg) (D : Dfn K mg "_law_take" sTake ["_law_store_here", "_law_many"]) (d__law_mixed : Kn P w K mg base 1 "_law_mixed" ["_law_number", "_law_turn"] spMixed) : Kn P w K mg base 2 "_law_take" ["_law_store_here", "_law_many"] (spTake K) := by
  refine Kn.mk' D scTake (fun vs H Q E h => ?_) (fun f cdv A outer s H vs Q E hr h => ?_)
  · obtain ⟨a, m, rfl, _⟩ := h
    rfl
  obtain ⟨s, m, rfl, hS, hm, q⟩ := h
  refine ⟨_, (pss_cons (ps_if (pt_cmpR op_lt (pv 1) pe_int (nomark _)) (pss_one (ps_ret pe_int)) pss_nil)
      (pss_cons (ps_asg (pe_op op_add (pe_ix ix_any (pv 0) pe_int (fun _ _ => rfl)) pe_int) (pg_sub (pv 0) pe_int set_any))
      (C8.pss_cut (ps_if (PW.pt (pw_and (pt_cmpR op_lt (pe_ix ix_any (pv 0) pe_int (fun _ _ => rfl)) pe_int (nomark _)) (pw_and (pt_cmpR op_lt (pe_ix ix_any (pv 0) pe_int (fun _ _ => rfl)) pe_int (nomark _)) (pw_and1 (pt_cmpR op_lt (pe_ix ix_any (pv 0) pe_int (fun _ _ => rfl)) (pe_callB call_lenA (by rfl) T.b_len PySem.boot_len (pa_cons (pe_ix ix_any (pv 0) pe_int (fun _ _ => rfl)) pa_nil)) (nomark _)))))) (pss_cons (ps_set (i := 2) scTake.nd rfl (.inl rfl) (pe_callTy call_int1 (by rfl) T.b_int (by decide +kernel) (pa_cons (pe_ix ix_any (pe_ix ix_any (pv 0) pe_int (fun _ _ => rfl)) (pe_ix ix_any (pv 0) pe_int (fun _ _ => rfl)) (fun _ _ => rfl)) pa_nil)))
      (pss_cons (ps_asg (pe_op op_add (pe_ix ix_any (pv 0) pe_int (fun _ _ => rfl)) pe_int) (pg_sub (pv 0) pe_int set_any))
      (pss_one (ps_if (pt_cmpR op_lt (pe_callB call_abs (by rfl) T.b_abs (by decide +kernel) (pa_cons (pv 2) pa_nil)) (pe_op op_pow pe_int pe_int) (nomark _)) (pss_cons (ps_asg pe_int (pg_sub (pv 0) pe_int set_any))
      (pss_one (ps_asg (pv 2) (pg_sub (pv 0) pe_int set_any)))) (pss_one (ps_asg (pe_callB call_abs (by rfl) T.b_abs (by decide +kernel) (pa_cons (pv 2) pa_nil)) (pg_sub (pv 0) pe_int set_any))))))) pss_nil)
      (pss_cons (ps_if (pt_cmpR op_gt (pe_ix ix_any (pv 0) pe_int (fun _ _ => rfl)) pe_int (nomark _)) (pss_cons (ps_set (i := 3) scTake.nd rfl (.inl rfl) (pe_op op_modN (pe_callTy call_int1 (by rfl) T.b_int (by decide +kernel) (pa_cons (pe_ix ix_any (pv 0) pe_int (fun _ _ => rfl)) pa_nil)) (pv 1)))
      (pss_cons (ps_asg (pe_op op_fdivW (pe_ix ix_any (pv 0) pe_int (fun _ _ => rfl)) (pv 1)) (pg_sub (pv 0) pe_int set_any))
      (pss_one (ps_ret (pv 3))))) pss_nil)
      (pss_cons (ps_set (i := 4) scTake.nd rfl (.inl rfl) (pe_ix ix_any (pv 0) pe_int (fun _ _ => rfl)))
      (C8.pss_cut (ps_if (pt_cmpR op_gt (pe_ix ix_any (pv 0) pe_int (fun _ _ => rfl)) pe_int (nomark _)) (pss_cons (ps_asg (pe_op op_sub (pe_ix ix_any (pv 0) pe_int (fun _ _ => rfl)) pe_int) (pg_sub (pv 0) pe_int set_any))
      (pss_one (ps_set (i := 4) scTake.nd rfl (.inl rfl) (pe_ix ix_any (pv 0) pe_int (fun _ _ => rfl))))) pss_nil)
      (pss_cons (ps_set (i := 5) scTake.nd rfl (.inl rfl) pe_int)
      (pss_cons (ps_for PassesOwn.never rfl (pi_range1 (by rfl) T.b_range (pa_cons (pe_op op_add pe_int (pe_op op_fdiv (pe_bits (pv 1)) pe_int)) pa_nil)) (pg_name (i := 6) scTake.nd rfl (.inl rfl)) (pss_one (ps_set (i := 5) scTake.nd rfl (.inl rfl) (pe_op op_add (pe_op op_mul (pv 5) pe_int) (pe_kn d__law_mixed hr (by rfl) (pa_cons (pv 4) (pa_cons (pe_op op_add (pe_op op_mul (pe_ix ix_any (pv 0) pe_int (fun _ _ => rfl)) pe_int) (pv 6)) pa_nil)))))))
      (pss_one (ps_ret (pe_op op_modN (pv 5) (pv 1)))))))))))), ?_⟩
  obtain ⟨sc, ns, i, b, c, d, e, f, hs, hsc, hne, hi, ks, ksc⟩ := hS
  have o1 := (ob_none ks).trans hs
  simp only [o1, hs, cx_K, decide_true, decide_false, reduceCtorEq, gTp, gCons, gNil, ca_0, ca_1, ca_2, ca_3, ca_4, ca_5, ca_6, ca_7, ca_8, ca_9, ca_10, ca_11, ca_12, ca_13, ca_14, ca_15, ca_16, ca_17, ca_18, ca_19, ca_20, ca_21, ca_22, ca_23, ca_24, ca_25, ca_26, ca_27, ca_28, ca_29, ca_30, not_true_eq_false, not_false_eq_true, Int.reduceEq, Nat.reduceEqDiff, Nat.reduceLeDiff, rGcd, V.ty.injEq, eq_self, List.not_mem_nil, beq_self_eq_true, HO.lst.injEq, HO.tup.injEq, tFor_eq, iRng1, iList, iTup, nat10, tSeq, rIxA, rSetA, rIsN, rIsT, tTp, tLs, itsO_tup, itsO_lst, tyO_tup, tyO_lst, tyO_dK, tyN_non, tyN_bl, tyN_int, tyN_str, tyN_ref, tyNs_lt, isB, upd_same, upd_upd, sizeLine_eq, List.mem_cons, String.reduceBEq, String.reduceEq, Bool.or_false, Bool.or_true, Bool.and_false, Bool.false_or, Bool.and_self, Bool.false_and, Bool.not_false, Bool.not_true, List.any_cons, List.any_nil, atI_0, setI_0, atI_1, setI_1, atI_2, setI_2, atI_3, setI_3, atI_4, setI_4, atI_5, setI_5, atI_6, setI_6, tAsg, gName, tOp, tUn, tVar, tC, tCons, L2.tNil, tRet, tIfS, tTest, tCB, tCall, rI, rI0, rU, tNext, tB, tAnd, tOr, tNot, tAndV, tOrV, tNotV, tDrop, tIf, tPar, gSub, rIxL, rIxT, rEq, rNe, rSetL, tBits,
    L2.start, List.map_cons, List.map_nil, List.cons_append, List.nil_append, List.append_nil, List.length_cons, List.length_nil, List.replicate, Nat.reduceAdd, Nat.reduceSub, Nat.zero_add, List.getElem?_cons_zero, List.getElem?_cons_succ, List.set_cons_zero, List.set_cons_succ,
    Option.some.injEq, exists_eq_left', exists_eq_left, V.int.injEq, V.bl.injEq, V.ref.injEq, V.str.injEq, List.cons.injEq, reduceCtorEq, and_true, true_and, false_and, and_false, exists_false, or_false, false_or, or_true, true_or, exists_const, CMul, CDiv, CPow, and_assoc, exists_and_left, exists_and_right, Int.reducePow, Int.reduceNeg, Int.reduceLT, Int.reduceLE, Nat.reducePow, Nat.reduceLT, Int.reduceToNat, gt_iff_lt, ge_iff_le, decide_eq_true_eq, Bool.not_eq_true', decide_eq_false_iff_not, scal, ↓reduceIte, Bool.false_eq_true]
  refine ite2 (fun h2 => ?_) (fun h2 => ?_)
  · exact q 0 H (Int.le_refl 0) (.inr rfl) (Kp.refl _ _) ⟨sc, ns, i, b, c, d, e, f, hs, hsc, hne, hi, ks, ksc⟩
  have S1 := Sr.put (i' := i) (b' := b) (c' := c + 1) (d' := d) (e' := e) (f' := f) (⟨hs, hsc, hne, hi, ks, ksc⟩ : Sr K H s sc ns i b c d e f) hi
  have kp1 : Kp s H (upd H s (.lst [.ref sc, .int i, .int b, .int (c + 1), .int d, .int e, .int f])) := Kp.put hs
  generalize upd H s (.lst [.ref sc, .int i, .int b, .int (c + 1), .int d, .int e, .int f]) = H1 at S1 kp1 ⊢
  refine ⟨TakeA K s m H, ?_, ?_⟩
  · obtain ⟨hs, hsc, hne, hi, ks, ksc⟩ := id S1
    have o1 := (ob_none ks).trans hs
    have o2 := (ob_none ksc).trans hsc
    have no : TakeA K s m H [some (.ref s), some (.int m), none, none, none, none, none] H1 := ⟨none, rfl, kp1, _, _, _, _, _, _, _, _, S1⟩
    simp only [o1, o2, hs, List.length_map, cx_K, decide_true, decide_false, reduceCtorEq, gTp, gCons, gNil, ca_0, ca_1, ca_2, ca_3, ca_4, ca_5, ca_6, ca_7, ca_8, ca_9, ca_10, ca_11, ca_12, ca_13, ca_14, ca_15, ca_16, ca_17, ca_18, ca_19, ca_20, ca_21, ca_22, ca_23, ca_24, ca_25, ca_26, ca_27, ca_28, ca_29, ca_30, not_true_eq_false, not_false_eq_true, Int.reduceEq, Nat.reduceEqDiff, Nat.reduceLeDiff, rGcd, V.ty.injEq, eq_self, List.not_mem_nil, beq_self_eq_true, HO.lst.injEq, HO.tup.injEq, tFor_eq, iRng1, iList, iTup, nat10, tSeq, rIxA, rSetA, rIsN, rIsT, tTp, tLs, itsO_tup, itsO_lst, tyO_tup, tyO_lst, tyO_dK, tyN_non, tyN_bl, tyN_int, tyN_str, tyN_ref, tyNs_lt, isB, upd_same, upd_upd, sizeLine_eq, List.mem_cons, String.reduceBEq, String.reduceEq, Bool.or_false, Bool.or_true, Bool.and_false, Bool.false_or, Bool.and_self, Bool.false_and, Bool.not_false, Bool.not_true, List.any_cons, List.any_nil, atI_0, setI_0, atI_1, setI_1, atI_2, setI_2, atI_3, setI_3, atI_4, setI_4, atI_5, setI_5, atI_6, setI_6, tAsg, gName, tOp, tUn, tVar, tC, tCons, L2.tNil, tRet, tIfS, tTest, tCB, tCall, rI, rI0, rU, tNext, tB, tAnd, tOr, tNot, tAndV, tOrV, tNotV, tDrop, tIf, tPar, gSub, rIxL, rIxT, rEq, rNe, rSetL, tBits,
    L2.start, List.map_cons, List.map_nil, List.cons_append, List.nil_append, List.append_nil, List.length_cons, List.length_nil, List.replicate, Nat.reduceAdd, Nat.reduceSub, Nat.zero_add, List.getElem?_cons_zero, List.getElem?_cons_succ, List.set_cons_zero, List.set_cons_succ,
    Option.some.injEq, exists_eq_left', exists_eq_left, V.int.injEq, V.bl.injEq, V.ref.injEq, V.str.injEq, List.cons.injEq, reduceCtorEq, and_true, true_and, false_and, and_false, exists_false, or_false, false_or, or_true, true_or, exists_const, CMul, CDiv, CPow, and_assoc, exists_and_left, exists_and_right, Int.reducePow, Int.reduceNeg, Int.reduceLT, Int.reduceLE, Nat.reducePow, Nat.reduceLT, Int.reduceToNat, gt_iff_lt, ge_iff_le, decide_eq_true_eq, Bool.not_eq_true', decide_eq_false_iff_not, scal, ↓reduceIte, Bool.false_eq_true]
    refine ite2 (fun _ => ?_) (fun _ => no)
    refine ite2 (fun _ => ?_) (fun _ => no)
    refine ite2 (fun hlt => ?_) (fun _ => no)
    obtain ⟨z, hz⟩ := at_ints hi hlt
    simp only [hz, cx_K, decide_true, decide_false, reduceCtorEq, gTp, gCons, gNil, ca_0, ca_1, ca_2, ca_3, ca_4, ca_5, ca_6, ca_7, ca_8, ca_9, ca_10, ca_11, ca_12, ca_13, ca_14, ca_15, ca_16, ca_17, ca_18, ca_19, ca_20, ca_21, ca_22, ca_23, ca_24, ca_25, ca_26, ca_27, ca_28, ca_29, ca_30, not_true_eq_false, not_false_eq_true, Int.reduceEq, Nat.reduceEqDiff, Nat.reduceLeDiff, rGcd, V.ty.injEq, eq_self, List.not_mem_nil, beq_self_eq_true, HO.lst.injEq, HO.tup.injEq, tFor_eq, iRng1, iList, iTup, nat10, tSeq, rIxA, rSetA, rIsN, rIsT, tTp, tLs, itsO_tup, itsO_lst, tyO_tup, tyO_lst, tyO_dK, tyN_non, tyN_bl, tyN_int, tyN_str, tyN_ref, tyNs_lt, isB, upd_same, upd_upd, sizeLine_eq, List.mem_cons, String.reduceBEq, String.reduceEq, Bool.or_false, Bool.or_true, Bool.and_false, Bool.false_or, Bool.and_self, Bool.false_and, Bool.not_false, Bool.not_true, List.any_cons, List.any_nil, atI_0, setI_0, atI_1, setI_1, atI_2, setI_2, atI_3, setI_3, atI_4, setI_4, atI_5, setI_5, atI_6, setI_6, tAsg, gName, tOp, tUn, tVar, tC, tCons, L2.tNil, tRet, tIfS, tTest, tCB, tCall, rI, rI0, rU, tNext, tB, tAnd, tOr, tNot, tAndV, tOrV, tNotV, tDrop, tIf, tPar, gSub, rIxL, rIxT, rEq, rNe, rSetL, tBits,
    L2.start, List.map_cons, List.map_nil, List.cons_append, List.nil_append, List.append_nil, List.length_cons, List.length_nil, List.replicate, Nat.reduceAdd, Nat.reduceSub, Nat.zero_add, List.getElem?_cons_zero, List.getElem?_cons_succ, List.set_cons_zero, List.set_cons_succ,
    Option.some.injEq, exists_eq_left', exists_eq_left, V.int.injEq, V.bl.injEq, V.ref.injEq, V.str.injEq, List.cons.injEq, reduceCtorEq, and_true, true_and, false_and, and_false, exists_false, or_false, false_or, or_true, true_or, exists_const, CMul, CDiv, CPow, and_assoc, exists_and_left, exists_and_right, Int.reducePow, Int.reduceNeg, Int.reduceLT, Int.reduceLE, Nat.reducePow, Nat.reduceLT, Int.reduceToNat, gt_iff_lt, ge_iff_le, decide_eq_true_eq, Bool.not_eq_true', decide_eq_false_iff_not, scal, ↓reduceIte, Bool.false_eq_true]
    refine ite2 (fun _ => ?_) (fun _ => ?_)
    · have S2 := S1.put (i' := i + 1) (b' := b) (c' := c + 1) (d' := d) (e' := 2) (f' := z) (by omega)
      exact ⟨_, rfl, kp1.trans (Kp.put hs), _, _, _, _, _, _, _, _, S2⟩
    · have S2 := S1.put (i' := i + 1) (b' := if z < 0 then -z else z) (c' := c + 1) (d' := d) (e' := e) (f' := f) (by omega)
      exact ⟨_, rfl, kp1.trans (Kp.put hs), _, _, _, _, _, _, _, _, S2⟩
  rintro σ' H2 ⟨x, rfl, kp2, sc, ns, i, b, c, d, e, f, S2⟩
  obtain ⟨hs, hsc, hne, hi, ks, ksc⟩ := id S2
  have o1 := (ob_none ks).trans hs
  simp only [o1, hs, cx_K, decide_true, decide_false, reduceCtorEq, gTp, gCons, gNil, ca_0, ca_1, ca_2, ca_3, ca_4, ca_5, ca_6, ca_7, ca_8, ca_9, ca_10, ca_11, ca_12, ca_13, ca_14, ca_15, ca_16, ca_17, ca_18, ca_19, ca_20, ca_21, ca_22, ca_23, ca_24, ca_25, ca_26, ca_27, ca_28, ca_29, ca_30, not_true_eq_false, not_false_eq_true, Int.reduceEq, Nat.reduceEqDiff, Nat.reduceLeDiff, rGcd, V.ty.injEq, eq_self, List.not_mem_nil, beq_self_eq_true, HO.lst.injEq, HO.tup.injEq, tFor_eq, iRng1, iList, iTup, nat10, tSeq, rIxA, rSetA, rIsN, rIsT, tTp, tLs, itsO_tup, itsO_lst, tyO_tup, tyO_lst, tyO_dK, tyN_non, tyN_bl, tyN_int, tyN_str, tyN_ref, tyNs_lt, isB, upd_same, upd_upd, sizeLine_eq, List.mem_cons, String.reduceBEq, String.reduceEq, Bool.or_false, Bool.or_true, Bool.and_false, Bool.false_or, Bool.and_self, Bool.false_and, Bool.not_false, Bool.not_true, List.any_cons, List.any_nil, atI_0, setI_0, atI_1, setI_1, atI_2, setI_2, atI_3, setI_3, atI_4, setI_4, atI_5, setI_5, atI_6, setI_6, tAsg, gName, tOp, tUn, tVar, tC, tCons, L2.tNil, tRet, tIfS, tTest, tCB, tCall, rI, rI0, rU, tNext, tB, tAnd, tOr, tNot, tAndV, tOrV, tNotV, tDrop, tIf, tPar, gSub, rIxL, rIxT, rEq, rNe, rSetL, tBits,
    L2.start, List.map_cons, List.map_nil, List.cons_append, List.nil_append, List.append_nil, List.length_cons, List.length_nil, List.replicate, Nat.reduceAdd, Nat.reduceSub, Nat.zero_add, List.getElem?_cons_zero, List.getElem?_cons_succ, List.set_cons_zero, List.set_cons_succ,
    Option.some.injEq, exists_eq_left', exists_eq_left, V.int.injEq, V.bl.injEq, V.ref.injEq, V.str.injEq, List.cons.injEq, reduceCtorEq, and_true, true_and, false_and, and_false, exists_false, or_false, false_or, or_true, true_or, exists_const, CMul, CDiv, CPow, and_assoc, exists_and_left, exists_and_right, Int.reducePow, Int.reduceNeg, Int.reduceLT, Int.reduceLE, Nat.reducePow, Nat.reduceLT, Int.reduceToNat, gt_iff_lt, ge_iff_le, decide_eq_true_eq, Bool.not_eq_true', decide_eq_false_iff_not, scal, ↓reduceIte, Bool.false_eq_true]
  have hm0 : m ≠ 0 := by omega
  refine ite2 (fun hb => ?_) (fun hb => ?_)
  · have S3 := S2.put (i' := i) (b' := b / m) (c' := c) (d' := d) (e' := e) (f' := f) hi
    refine ⟨hm0, wide_div (b := 200) (by omega) (by omega) (by omega) (by omega), q _ _ ?_ (.inl ?_) (kp2.trans (Kp.put hs)) ⟨_, _, _, _, _, _, _, _, S3⟩⟩
    · rw [Int.fmod_eq_emod_of_nonneg b (by omega)]
      exact Int.emod_nonneg _ hm0
    · rw [Int.fmod_eq_emod_of_nonneg b (by omega)]
      exact Int.emod_lt_of_pos _ (by omega)
  refine ⟨TakeB K s m H, ?_, ?_⟩
  · simp only [o1, hs, cx_K, decide_true, decide_false, reduceCtorEq, gTp, gCons, gNil, ca_0, ca_1, ca_2, ca_3, ca_4, ca_5, ca_6, ca_7, ca_8, ca_9, ca_10, ca_11, ca_12, ca_13, ca_14, ca_15, ca_16, ca_17, ca_18, ca_19, ca_20, ca_21, ca_22, ca_23, ca_24, ca_25, ca_26, ca_27, ca_28, ca_29, ca_30, not_true_eq_false, not_false_eq_true, Int.reduceEq, Nat.reduceEqDiff, Nat.reduceLeDiff, rGcd, V.ty.injEq, eq_self, List.not_mem_nil, beq_self_eq_true, HO.lst.injEq, HO.tup.injEq, tFor_eq, iRng1, iList, iTup, nat10, tSeq, rIxA, rSetA, rIsN, rIsT, tTp, tLs, itsO_tup, itsO_lst, tyO_tup, tyO_lst, tyO_dK, tyN_non, tyN_bl, tyN_int, tyN_str, tyN_ref, tyNs_lt, isB, upd_same, upd_upd, sizeLine_eq, List.mem_cons, String.reduceBEq, String.reduceEq, Bool.or_false, Bool.or_true, Bool.and_false, Bool.false_or, Bool.and_self, Bool.false_and, Bool.not_false, Bool.not_true, List.any_cons, List.any_nil, atI_0, setI_0, atI_1, setI_1, atI_2, setI_2, atI_3, setI_3, atI_4, setI_4, atI_5, setI_5, atI_6, setI_6, tAsg, gName, tOp, tUn, tVar, tC, tCons, L2.tNil, tRet, tIfS, tTest, tCB, tCall, rI, rI0, rU, tNext, tB, tAnd, tOr, tNot, tAndV, tOrV, tNotV, tDrop, tIf, tPar, gSub, rIxL, rIxT, rEq, rNe, rSetL, tBits,
    L2.start, List.map_cons, List.map_nil, List.cons_append, List.nil_append, List.append_nil, List.length_cons, List.length_nil, List.replicate, Nat.reduceAdd, Nat.reduceSub, Nat.zero_add, List.getElem?_cons_zero, List.getElem?_cons_succ, List.set_cons_zero, List.set_cons_succ,
    Option.some.injEq, exists_eq_left', exists_eq_left, V.int.injEq, V.bl.injEq, V.ref.injEq, V.str.injEq, List.cons.injEq, reduceCtorEq, and_true, true_and, false_and, and_false, exists_false, or_false, false_or, or_true, true_or, exists_const, CMul, CDiv, CPow, and_assoc, exists_and_left, exists_and_right, Int.reducePow, Int.reduceNeg, Int.reduceLT, Int.reduceLE, Nat.reducePow, Nat.reduceLT, Int.reduceToNat, gt_iff_lt, ge_iff_le, decide_eq_true_eq, Bool.not_eq_true', decide_eq_false_iff_not, scal, ↓reduceIte, Bool.false_eq_true]
    refine ite2 (fun he => ?_) (fun he => ?_)
    · have S3 := S2.put (i' := i) (b' := b) (c' := c) (d' := d) (e' := e - 1) (f' := f) hi
      have o3 := (ob_none ks).trans S3.1
      simp only [o3, cx_K, decide_true, decide_false, reduceCtorEq, gTp, gCons, gNil, ca_0, ca_1, ca_2, ca_3, ca_4, ca_5, ca_6, ca_7, ca_8, ca_9, ca_10, ca_11, ca_12, ca_13, ca_14, ca_15, ca_16, ca_17, ca_18, ca_19, ca_20, ca_21, ca_22, ca_23, ca_24, ca_25, ca_26, ca_27, ca_28, ca_29, ca_30, not_true_eq_false, not_false_eq_true, Int.reduceEq, Nat.reduceEqDiff, Nat.reduceLeDiff, rGcd, V.ty.injEq, eq_self, List.not_mem_nil, beq_self_eq_true, HO.lst.injEq, HO.tup.injEq, tFor_eq, iRng1, iList, iTup, nat10, tSeq, rIxA, rSetA, rIsN, rIsT, tTp, tLs, itsO_tup, itsO_lst, tyO_tup, tyO_lst, tyO_dK, tyN_non, tyN_bl, tyN_int, tyN_str, tyN_ref, tyNs_lt, isB, upd_same, upd_upd, sizeLine_eq, List.mem_cons, String.reduceBEq, String.reduceEq, Bool.or_false, Bool.or_true, Bool.and_false, Bool.false_or, Bool.and_self, Bool.false_and, Bool.not_false, Bool.not_true, List.any_cons, List.any_nil, atI_0, setI_0, atI_1, setI_1, atI_2, setI_2, atI_3, setI_3, atI_4, setI_4, atI_5, setI_5, atI_6, setI_6, tAsg, gName, tOp, tUn, tVar, tC, tCons, L2.tNil, tRet, tIfS, tTest, tCB, tCall, rI, rI0, rU, tNext, tB, tAnd, tOr, tNot, tAndV, tOrV, tNotV, tDrop, tIf, tPar, gSub, rIxL, rIxT, rEq, rNe, rSetL, tBits,
    L2.start, List.map_cons, List.map_nil, List.cons_append, List.nil_append, List.append_nil, List.length_cons, List.length_nil, List.replicate, Nat.reduceAdd, Nat.reduceSub, Nat.zero_add, List.getElem?_cons_zero, List.getElem?_cons_succ, List.set_cons_zero, List.set_cons_succ,
    Option.some.injEq, exists_eq_left', exists_eq_left, V.int.injEq, V.bl.injEq, V.ref.injEq, V.str.injEq, List.cons.injEq, reduceCtorEq, and_true, true_and, false_and, and_false, exists_false, or_false, false_or, or_true, true_or, exists_const, CMul, CDiv, CPow, and_assoc, exists_and_left, exists_and_right, Int.reducePow, Int.reduceNeg, Int.reduceLT, Int.reduceLE, Nat.reducePow, Nat.reduceLT, Int.reduceToNat, gt_iff_lt, ge_iff_le, decide_eq_true_eq, Bool.not_eq_true', decide_eq_false_iff_not, scal, ↓reduceIte, Bool.false_eq_true]
      exact ⟨_, _, rfl, kp2.trans (Kp.put hs), _, _, _, _, _, _, _, _, S3⟩
    · exact ⟨_, _, rfl, kp2, _, _, _, _, _, _, _, _, S2⟩
  rintro σ' H3 ⟨x, n, rfl, kp3, sc, ns, i, b, c, d, e, f, S3⟩
  obtain ⟨hs, hsc, hne, hi, ks, ksc⟩ := id S3
  have o1 := (ob_none ks).trans hs
  simp only [o1, hs, cx_K, decide_true, decide_false, reduceCtorEq, gTp, gCons, gNil, ca_0, ca_1, ca_2, ca_3, ca_4, ca_5, ca_6, ca_7, ca_8, ca_9, ca_10, ca_11, ca_12, ca_13, ca_14, ca_15, ca_16, ca_17, ca_18, ca_19, ca_20, ca_21, ca_22, ca_23, ca_24, ca_25, ca_26, ca_27, ca_28, ca_29, ca_30, not_true_eq_false, not_false_eq_true, Int.reduceEq, Nat.reduceEqDiff, Nat.reduceLeDiff, rGcd, V.ty.injEq, eq_self, List.not_mem_nil, beq_self_eq_true, HO.lst.injEq, HO.tup.injEq, tFor_eq, iRng1, iList, iTup, nat10, tSeq, rIxA, rSetA, rIsN, rIsT, tTp, tLs, itsO_tup, itsO_lst, tyO_tup, tyO_lst, tyO_dK, tyN_non, tyN_bl, tyN_int, tyN_str, tyN_ref, tyNs_lt, isB, upd_same, upd_upd, sizeLine_eq, List.mem_cons, String.reduceBEq, String.reduceEq, Bool.or_false, Bool.or_true, Bool.and_false, Bool.false_or, Bool.and_self, Bool.false_and, Bool.not_false, Bool.not_true, List.any_cons, List.any_nil, atI_0, setI_0, atI_1, setI_1, atI_2, setI_2, atI_3, setI_3, atI_4, setI_4, atI_5, setI_5, atI_6, setI_6, tAsg, gName, tOp, tUn, tVar, tC, tCons, L2.tNil, tRet, tIfS, tTest, tCB, tCall, rI, rI0, rU, tNext, tB, tAnd, tOr, tNot, tAndV, tOrV, tNotV, tDrop, tIf, tPar, gSub, rIxL, rIxT, rEq, rNe, rSetL, tBits,
    L2.start, List.map_cons, List.map_nil, List.cons_append, List.nil_append, List.append_nil, List.length_cons, List.length_nil, List.replicate, Nat.reduceAdd, Nat.reduceSub, Nat.zero_add, List.getElem?_cons_zero, List.getElem?_cons_succ, List.set_cons_zero, List.set_cons_succ,
    Option.some.injEq, exists_eq_left', exists_eq_left, V.int.injEq, V.bl.injEq, V.ref.injEq, V.str.injEq, List.cons.injEq, reduceCtorEq, and_true, true_and, false_and, and_false, exists_false, or_false, false_or, or_true, true_or, exists_const, CMul, CDiv, CPow, and_assoc, exists_and_left, exists_and_right, Int.reducePow, Int.reduceNeg, Int.reduceLT, Int.reduceLE, Nat.reducePow, Nat.reduceLT, Int.reduceToNat, gt_iff_lt, ge_iff_le, decide_eq_true_eq, Bool.not_eq_true', decide_eq_false_iff_not, scal, ↓reduceIte, Bool.false_eq_true]
  have hbits : Builtin.Int.intBits m ≤ 200 := bits_le (by omega)
  refine ⟨by omega, by omega, forI_range (TakeC s m x n H3) ⟨0, none, rfl, rfl⟩ ?_ ?_⟩
  · rintro k σ H' hk ⟨v, y, rfl, rfl⟩
    simp only [o1, hs, cx_K, decide_true, decide_false, reduceCtorEq, gTp, gCons, gNil, ca_0, ca_1, ca_2, ca_3, ca_4, ca_5, ca_6, ca_7, ca_8, ca_9, ca_10, ca_11, ca_12, ca_13, ca_14, ca_15, ca_16, ca_17, ca_18, ca_19, ca_20, ca_21, ca_22, ca_23, ca_24, ca_25, ca_26, ca_27, ca_28, ca_29, ca_30, not_true_eq_false, not_false_eq_true, Int.reduceEq, Nat.reduceEqDiff, Nat.reduceLeDiff, rGcd, V.ty.injEq, eq_self, List.not_mem_nil, beq_self_eq_true, HO.lst.injEq, HO.tup.injEq, tFor_eq, iRng1, iList, iTup, nat10, tSeq, rIxA, rSetA, rIsN, rIsT, tTp, tLs, itsO_tup, itsO_lst, tyO_tup, tyO_lst, tyO_dK, tyN_non, tyN_bl, tyN_int, tyN_str, tyN_ref, tyNs_lt, isB, upd_same, upd_upd, sizeLine_eq, List.mem_cons, String.reduceBEq, String.reduceEq, Bool.or_false, Bool.or_true, Bool.and_false, Bool.false_or, Bool.and_self, Bool.false_and, Bool.not_false, Bool.not_true, List.any_cons, List.any_nil, atI_0, setI_0, atI_1, setI_1, atI_2, setI_2, atI_3, setI_3, atI_4, setI_4, atI_5, setI_5, atI_6, setI_6, tAsg, gName, tOp, tUn, tVar, tC, tCons, L2.tNil, tRet, tIfS, tTest, tCB, tCall, rI, rI0, rU, tNext, tB, tAnd, tOr, tNot, tAndV, tOrV, tNotV, tDrop, tIf, tPar, gSub, rIxL, rIxT, rEq, rNe, rSetL, tBits,
    L2.start, List.map_cons, List.map_nil, List.cons_append, List.nil_append, List.append_nil, List.length_cons, List.length_nil, List.replicate, Nat.reduceAdd, Nat.reduceSub, Nat.zero_add, List.getElem?_cons_zero, List.getElem?_cons_succ, List.set_cons_zero, List.set_cons_succ,
    Option.some.injEq, exists_eq_left', exists_eq_left, V.int.injEq, V.bl.injEq, V.ref.injEq, V.str.injEq, List.cons.injEq, reduceCtorEq, and_true, true_and, false_and, and_false, exists_false, or_false, false_or, or_true, true_or, exists_const, CMul, CDiv, CPow, and_assoc, exists_and_left, exists_and_right, Int.reducePow, Int.reduceNeg, Int.reduceLT, Int.reduceLE, Nat.reducePow, Nat.reduceLT, Int.reduceToNat, gt_iff_lt, ge_iff_le, decide_eq_true_eq, Bool.not_eq_true', decide_eq_false_iff_not, scal, ↓reduceIte, Bool.false_eq_true]
    refine ⟨_, _, rfl, fun r => ?_⟩
    simp only [cx_K, decide_true, decide_false, reduceCtorEq, gTp, gCons, gNil, ca_0, ca_1, ca_2, ca_3, ca_4, ca_5, ca_6, ca_7, ca_8, ca_9, ca_10, ca_11, ca_12, ca_13, ca_14, ca_15, ca_16, ca_17, ca_18, ca_19, ca_20, ca_21, ca_22, ca_23, ca_24, ca_25, ca_26, ca_27, ca_28, ca_29, ca_30, not_true_eq_false, not_false_eq_true, Int.reduceEq, Nat.reduceEqDiff, Nat.reduceLeDiff, rGcd, V.ty.injEq, eq_self, List.not_mem_nil, beq_self_eq_true, HO.lst.injEq, HO.tup.injEq, tFor_eq, iRng1, iList, iTup, nat10, tSeq, rIxA, rSetA, rIsN, rIsT, tTp, tLs, itsO_tup, itsO_lst, tyO_tup, tyO_lst, tyO_dK, tyN_non, tyN_bl, tyN_int, tyN_str, tyN_ref, tyNs_lt, isB, upd_same, upd_upd, sizeLine_eq, List.mem_cons, String.reduceBEq, String.reduceEq, Bool.or_false, Bool.or_true, Bool.and_false, Bool.false_or, Bool.and_self, Bool.false_and, Bool.not_false, Bool.not_true, List.any_cons, List.any_nil, atI_0, setI_0, atI_1, setI_1, atI_2, setI_2, atI_3, setI_3, atI_4, setI_4, atI_5, setI_5, atI_6, setI_6, tAsg, gName, tOp, tUn, tVar, tC, tCons, L2.tNil, tRet, tIfS, tTest, tCB, tCall, rI, rI0, rU, tNext, tB, tAnd, tOr, tNot, tAndV, tOrV, tNotV, tDrop, tIf, tPar, gSub, rIxL, rIxT, rEq, rNe, rSetL, tBits,
    L2.start, List.map_cons, List.map_nil, List.cons_append, List.nil_append, List.append_nil, List.length_cons, List.length_nil, List.replicate, Nat.reduceAdd, Nat.reduceSub, Nat.zero_add, List.getElem?_cons_zero, List.getElem?_cons_succ, List.set_cons_zero, List.set_cons_succ,
    Option.some.injEq, exists_eq_left', exists_eq_left, V.int.injEq, V.bl.injEq, V.ref.injEq, V.str.injEq, List.cons.injEq, reduceCtorEq, and_true, true_and, false_and, and_false, exists_false, or_false, false_or, or_true, true_or, exists_const, CMul, CDiv, CPow, and_assoc, exists_and_left, exists_and_right, Int.reducePow, Int.reduceNeg, Int.reduceLT, Int.reduceLE, Nat.reducePow, Nat.reduceLT, Int.reduceToNat, gt_iff_lt, ge_iff_le, decide_eq_true_eq, Bool.not_eq_true', decide_eq_false_iff_not, scal, ↓reduceIte, Bool.false_eq_true]
    exact ⟨_, _, rfl, rfl⟩
  · rintro σ H' ⟨v, y, rfl, rfl⟩
    simp only [cx_K, decide_true, decide_false, reduceCtorEq, gTp, gCons, gNil, ca_0, ca_1, ca_2, ca_3, ca_4, ca_5, ca_6, ca_7, ca_8, ca_9, ca_10, ca_11, ca_12, ca_13, ca_14, ca_15, ca_16, ca_17, ca_18, ca_19, ca_20, ca_21, ca_22, ca_23, ca_24, ca_25, ca_26, ca_27, ca_28, ca_29, ca_30, not_true_eq_false, not_false_eq_true, Int.reduceEq, Nat.reduceEqDiff, Nat.reduceLeDiff, rGcd, V.ty.injEq, eq_self, List.not_mem_nil, beq_self_eq_true, HO.lst.injEq, HO.tup.injEq, tFor_eq, iRng1, iList, iTup, nat10, tSeq, rIxA, rSetA, rIsN, rIsT, tTp, tLs, itsO_tup, itsO_lst, tyO_tup, tyO_lst, tyO_dK, tyN_non, tyN_bl, tyN_int, tyN_str, tyN_ref, tyNs_lt, isB, upd_same, upd_upd, sizeLine_eq, List.mem_cons, String.reduceBEq, String.reduceEq, Bool.or_false, Bool.or_true, Bool.and_false, Bool.false_or, Bool.and_self, Bool.false_and, Bool.not_false, Bool.not_true, List.any_cons, List.any_nil, atI_0, setI_0, atI_1, setI_1, atI_2, setI_2, atI_3, setI_3, atI_4, setI_4, atI_5, setI_5, atI_6, setI_6, tAsg, gName, tOp, tUn, tVar, tC, tCons, L2.tNil, tRet, tIfS, tTest, tCB, tCall, rI, rI0, rU, tNext, tB, tAnd, tOr, tNot, tAndV, tOrV, tNotV, tDrop, tIf, tPar, gSub, rIxL, rIxT, rEq, rNe, rSetL, tBits,
    L2.start, List.map_cons, List.map_nil, List.cons_append, List.nil_append, List.append_nil, List.length_cons, List.length_nil, List.replicate, Nat.reduceAdd, Nat.reduceSub, Nat.zero_add, List.getElem?_cons_zero, List.getElem?_cons_succ, List.set_cons_zero, List.set_cons_succ,
    Option.some.injEq, exists_eq_left', exists_eq_left, V.int.injEq, V.bl.injEq, V.ref.injEq, V.str.injEq, List.cons.injEq, reduceCtorEq, and_true, true_and, false_and, and_false, exists_false, or_false, false_or, or_true, true_or, exists_const, CMul, CDiv, CPow, and_assoc, exists_and_left, exists_and_right, Int.reducePow, Int.reduceNeg, Int.reduceLT, Int.reduceLE, Nat.reducePow, Nat.reduceLT, Int.reduceToNat, gt_iff_lt, ge_iff_le, decide_eq_true_eq, Bool.not_eq_true', decide_eq_false_iff_not, scal, ↓reduceIte, Bool.false_eq_true]
    refine ⟨hm0, q _ _ ?_ (.inl ?_) kp3 ⟨_, _, _, _, _, _, _, _, S3⟩⟩
    · rw [Int.fmod_eq_emod_of_nonneg v (by omega)]
      exact Int.emod_nonneg _ hm0
    · rw [Int.fmod_eq_emod_of_nonneg v (by omega)]
      exact Int.emod_lt_of_pos _ (by omega)
end
end My

namespace My
open PySem PySem.Spec PyProof.Rows L2
section
variable {P : Program} {w : World} {K : PySem.W.Frag} {mg : Str → Option Value} {base : Heap}
theorem abs_if (n : Int) : (if n < 0 then -n else n) = (n.natAbs : Int) := by split <;> omega
def spGcd : Sp := fun vs H Q _ => ∃ a b : Int, vs = [.int a, .int b] ∧ Q (.int ((Int.gcd a b : Nat) : Int)) H
def GcdW (a b : Int) (H : Hp) (σ : L2.St) (H' : Hp) : Prop := ∃ l r : Int, σ = [some (.int l), some (.int r)] ∧ H' = H ∧ 0 ≤ l ∧ 0 ≤ r ∧ Int.gcd l r = Int.gcd a b
def GcdM (σ : L2.St) (_ : Hp) : Nat := match σ with
  | [_, some (.int r)] => r.toNat
  | _ => 0
/-- the law's own lowest terms; 0 beneath gives 0 -/
def Lw (q : Qt) (t b : Int) : Prop := (b = 0 → q = (0, 1)) ∧ (b ≠ 0 → Is q t b)
/-- hands back a fraction, all else as it was -/
def Gv (K : PySem.W.Frag) (H : Hp) (Q : VK) (q : Qt) : Prop := ∀ (p : Addr) (H' : Hp), Same H H' → ob K H' p = some (frt q) → Q (.ref p) H'
theorem Gv.new {K : PySem.W.Frag} {H : Hp} {Q : VK} {q : Qt} (h : Gv K H Q q) {p : Addr} (hp : H p = none) (kp : K.lookup p = none) : Q (.ref p) (upd H p (.tup [.int q.1, .int q.2])) := h p _ (Same.new hp _) (ob_new kp)
def spLowest (K : PySem.W.Frag) : Sp := fun vs H Q _ => ∃ t b : Int, vs = [.int t, .int b] ∧ b.natAbs < 2 ^ 8000 ∧ ∀ q, Lw q t b → Gv K H Q q
end
end My

namespace My
open PySem PySem.Spec PyProof.Rows L2
section
variable {P : Program} {w : World} {K : PySem.W.Frag} {mg : Str → Option Value} {base : Heap}
end
structure DfnD (K : PySem.W.Frag) (mg : Str → Option Value) (x : Str) (st : Stmt) (ps : List Str) : Prop where
  ex : ∃ f fd dvs, FunD K x x (defArgs st) (defBody st) (defScope st) dvs [] f fd ∧ mg x = some (.ref f) ∧ Binds K fd ps []
theorem Kn.mkD {P : Program} {w : World} {K : PySem.W.Frag} {mg : Str → Option Value} {base : Heap} {x : Str} {st : Stmt} {N ps : List Str} {k : Nat} {sp : Sp} (D : DfnD K mg x st ps) (S : FnScope N ps (defScope st)) (len : ∀ vs H Q E, sp vs H Q E → vs.length = ps.length)
    (hbody : ∀ (f : Addr) (cdv : Value) (A : Around) (outer : List Env) (s : Shared) (H : Hp) (vs : List V) (Q : VK) (E : XK), Room k (A.deeper (envOfC x (defScope st) s.heap.objs.size f cdv)) → sp vs H Q E →
      ∃ t, PSs (cxOf CX0 P w K mg base N x (defScope st) f cdv A outer s H E).nox (defBody st) t ∧ t { nx := fun _ H' => Q .non H', rt := Q } (start N vs) H) : Kn P w K mg base (k + 1) x ps sp := by
  obtain ⟨f, fd, dvs, F, m, b⟩ := D.ex
  exact ⟨f, fd, m, F.kp, b, F.ok S len fun cdv A outer s H vs Q E hr h => let ⟨t, a, c⟩ := hbody f cdv A outer s H vs Q E hr h; ⟨t, a.nox, c⟩⟩
section
variable {P : Program} {w : World} {K : PySem.W.Frag} {mg : Str → Option Value} {base : Heap}
def spRequire : Sp := fun vs H Q _ => ∃ x : V, vs = [.bl true, x] ∧ Q .non H
abbrev sRequire : Stmt := topS 14
theorem scRequire : FnScope ["well_formed", "what"] ["well_formed", "what"] (defScope sRequire) := ⟨rfl, rfl, rfl, by decide +kernel, rfl, by decide +kernel, by decide +kernel⟩
theorem k_Require (T : Bt K mg) (D : Dfn K mg "require" sRequire ["well_formed", "what"]) : Kn P w K mg base 1 "require" ["well_formed", "what"] spRequire := by
  refine Kn.mk' D scRequire (fun vs H Q E h => ?_) (fun f cdv A outer s H vs Q E hr h => ?_)
  · obtain ⟨x, rfl, _⟩ := h
    rfl
  obtain ⟨x, rfl, q⟩ := h
  refine ⟨_, (pss_one (ps_if (pt_not (pt_val (pv 0))) (pss_one ps_never) pss_nil)), ?_⟩
  simp only [cx_K, decide_true, decide_false, reduceCtorEq, gTp, gCons, gNil, ca_0, ca_1, ca_2, ca_3, ca_4, ca_5, ca_6, ca_7, ca_8, ca_9, ca_10, ca_11, ca_12, ca_13, ca_14, ca_15, ca_16, ca_17, ca_18, ca_19, ca_20, ca_21, ca_22, ca_23, ca_24, ca_25, ca_26, ca_27, ca_28, ca_29, ca_30, not_true_eq_false, not_false_eq_true, Int.reduceEq, Nat.reduceEqDiff, Nat.reduceLeDiff, rGcd, V.ty.injEq, eq_self, List.not_mem_nil, beq_self_eq_true, HO.lst.injEq, HO.tup.injEq, tFor_eq, iRng1, iList, iTup, nat10, tSeq, rIxA, rSetA, rIsN, rIsT, tTp, tLs, itsO_tup, itsO_lst, tyO_tup, tyO_lst, tyO_dK, tyN_non, tyN_bl, tyN_int, tyN_str, tyN_ref, tyNs_lt, isB, upd_same, upd_upd, sizeLine_eq, List.mem_cons, String.reduceBEq, String.reduceEq, Bool.or_false, Bool.or_true, Bool.and_false, Bool.false_or, Bool.and_self, Bool.false_and, Bool.not_false, Bool.not_true, List.any_cons, List.any_nil, atI_0, setI_0, atI_1, setI_1, atI_2, setI_2, atI_3, setI_3, atI_4, setI_4, atI_5, setI_5, atI_6, setI_6, tAsg, gName, tOp, tUn, tVar, tC, tCons, L2.tNil, tRet, tIfS, tTest, tCB, tCall, rI, rI0, rU, tNext, tB, tAnd, tOr, tNot, tAndV, tOrV, tNotV, tDrop, tIf, tPar, gSub, rIxL, rIxT, rEq, rNe, rSetL, tBits,
    L2.start, List.map_cons, List.map_nil, List.cons_append, List.nil_append, List.append_nil, List.length_cons, List.length_nil, List.replicate, Nat.reduceAdd, Nat.reduceSub, Nat.zero_add, List.getElem?_cons_zero, List.getElem?_cons_succ, List.set_cons_zero, List.set_cons_succ,
    Option.some.injEq, exists_eq_left', exists_eq_left, V.int.injEq, V.bl.injEq, V.ref.injEq, V.str.injEq, List.cons.injEq, reduceCtorEq, and_true, true_and, false_and, and_false, exists_false, or_false, false_or, or_true, true_or, exists_const, CMul, CDiv, CPow, and_assoc, exists_and_left, exists_and_right, Int.reducePow, Int.reduceNeg, Int.reduceLT, Int.reduceLE, Nat.reducePow, Nat.reduceLT, Int.reduceToNat, gt_iff_lt, ge_iff_le, decide_eq_true_eq, Bool.not_eq_true', decide_eq_false_iff_not, scal, ↓reduceIte, Bool.false_eq_true]
  exact q
def wholeV : V → Bool
  | .int _ => true
  | _ => false
theorem wholeV_ty {H : Hp} {v : V} {t : String} (h : tyN K H v = some t) : wholeV v = (t == "int") := by
  cases v with
  | ref a =>
    have h1 : tyO (ob K H a) = some t := h
    unfold tyO at h1
    split at h1 <;> first | (cases h1; rfl) | cases h1
  | _ => first | (cases h; rfl) | cases h
def spWhole (K : PySem.W.Frag) : Sp := fun vs H Q _ => ∃ v, vs = [v] ∧ (tyN K H v).isSome ∧ Q (.bl (wholeV v)) H
abbrev sWhole : Stmt := topS 15
theorem scWhole : FnScope ["value"] ["value"] (defScope sWhole) := ⟨rfl, rfl, rfl, by decide +kernel, rfl, by decide +kernel, by decide +kernel⟩
theorem k_Whole (T : Bt K mg) (D : Dfn K mg "is_whole" sWhole ["value"]) : Kn P w K mg base 1 "is_whole" ["value"] (spWhole K) := by
  refine Kn.mk' D scWhole (fun vs H Q E h => ?_) (fun f cdv A outer s H vs Q E hr h => ?_)
  · obtain ⟨v, rfl, _⟩ := h
    rfl
  obtain ⟨v, rfl, hv, q⟩ := h
  refine ⟨_, (pss_one (ps_ret (pe_and (pe_callB call_isN (by rfl) T.b_isinstance (by decide +kernel) (pa_cons (pv 0) (pa_cons (pe_bltn (v := .ty "int") (by rfl) T.b_int (by decide +kernel) rfl) pa_nil))) (pe_one (pe_not (pe_callB call_isN (by rfl) T.b_isinstance (by decide +kernel) (pa_cons (pv 0) (pa_cons (pe_bltn (v := .ty "bool") (by rfl) T.b_bool (by decide +kernel) rfl) pa_nil)))))))), ?_⟩
  obtain ⟨t, ht⟩ := Option.isSome_iff_exists.mp hv
  rw [wholeV_ty ht] at q
  have mt := tyN_mem ht
  simp only [List.mem_cons, List.not_mem_nil, or_false] at mt
  rcases mt with rfl | rfl | rfl | rfl | rfl | rfl | rfl <;> (simp only [ht, cx_K, decide_true, decide_false, reduceCtorEq, gTp, gCons, gNil, ca_0, ca_1, ca_2, ca_3, ca_4, ca_5, ca_6, ca_7, ca_8, ca_9, ca_10, ca_11, ca_12, ca_13, ca_14, ca_15, ca_16, ca_17, ca_18, ca_19, ca_20, ca_21, ca_22, ca_23, ca_24, ca_25, ca_26, ca_27, ca_28, ca_29, ca_30, not_true_eq_false, not_false_eq_true, Int.reduceEq, Nat.reduceEqDiff, Nat.reduceLeDiff, rGcd, V.ty.injEq, eq_self, List.not_mem_nil, beq_self_eq_true, HO.lst.injEq, HO.tup.injEq, tFor_eq, iRng1, iList, iTup, nat10, tSeq, rIxA, rSetA, rIsN, rIsT, tTp, tLs, itsO_tup, itsO_lst, tyO_tup, tyO_lst, tyO_dK, tyN_non, tyN_bl, tyN_int, tyN_str, tyN_ref, tyNs_lt, isB, upd_same, upd_upd, sizeLine_eq, List.mem_cons, String.reduceBEq, String.reduceEq, Bool.or_false, Bool.or_true, Bool.and_false, Bool.false_or, Bool.and_self, Bool.false_and, Bool.not_false, Bool.not_true, List.any_cons, List.any_nil, atI_0, setI_0, atI_1, setI_1, atI_2, setI_2, atI_3, setI_3, atI_4, setI_4, atI_5, setI_5, atI_6, setI_6, tAsg, gName, tOp, tUn, tVar, tC, tCons, L2.tNil, tRet, tIfS, tTest, tCB, tCall, rI, rI0, rU, tNext, tB, tAnd, tOr, tNot, tAndV, tOrV, tNotV, tDrop, tIf, tPar, gSub, rIxL, rIxT, rEq, rNe, rSetL, tBits,
    L2.start, List.map_cons, List.map_nil, List.cons_append, List.nil_append, List.append_nil, List.length_cons, List.length_nil, List.replicate, Nat.reduceAdd, Nat.reduceSub, Nat.zero_add, List.getElem?_cons_zero, List.getElem?_cons_succ, List.set_cons_zero, List.set_cons_succ,
    Option.some.injEq, exists_eq_left', exists_eq_left, V.int.injEq, V.bl.injEq, V.ref.injEq, V.str.injEq, List.cons.injEq, reduceCtorEq, and_true, true_and, false_and, and_false, exists_false, or_false, false_or, or_true, true_or, exists_const, CMul, CDiv, CPow, and_assoc, exists_and_left, exists_and_right, Int.reducePow, Int.reduceNeg, Int.reduceLT, Int.reduceLE, Nat.reducePow, Nat.reduceLT, Int.reduceToNat, gt_iff_lt, ge_iff_le, decide_eq_true_eq, Bool.not_eq_true', decide_eq_false_iff_not, scal, ↓reduceIte, Bool.false_eq_true]; simpa using q)
abbrev sLWhole : Stmt := topS 38
theorem scLWhole : FnScope ["_law_told"] ["_law_told"] (defScope sLWhole) := ⟨rfl, rfl, rfl, by decide +kernel, rfl, by decide +kernel, by decide +kernel⟩
theorem k_LWhole (T : Bt K mg) (D : Dfn K mg "_law_is_whole" sLWhole ["_law_told"]) : Kn P w K mg base 1 "_law_is_whole" ["_law_told"] (spWhole K) := by
  refine Kn.mk' D scLWhole (fun vs H Q E h => ?_) (fun f cdv A outer s H vs Q E hr h => ?_)
  · obtain ⟨v, rfl, _⟩ := h
    rfl
  obtain ⟨v, rfl, hv, q⟩ := h
  refine ⟨_, (pss_one (ps_ret (pe_and (pe_callB call_isN (by rfl) T.b_isinstance (by decide +kernel) (pa_cons (pv 0) (pa_cons (pe_bltn (v := .ty "int") (by rfl) T.b_int (by decide +kernel) rfl) pa_nil))) (pe_one (pe_not (pe_callB call_isN (by rfl) T.b_isinstance (by decide +kernel) (pa_cons (pv 0) (pa_cons (pe_bltn (v := .ty "bool") (by rfl) T.b_bool (by decide +kernel) rfl) pa_nil)))))))), ?_⟩
  obtain ⟨t, ht⟩ := Option.isSome_iff_exists.mp hv
  rw [wholeV_ty ht] at q
  have mt := tyN_mem ht
  simp only [List.mem_cons, List.not_mem_nil, or_false] at mt
  rcases mt with rfl | rfl | rfl | rfl | rfl | rfl | rfl <;> (simp only [ht, cx_K, decide_true, decide_false, reduceCtorEq, gTp, gCons, gNil, ca_0, ca_1, ca_2, ca_3, ca_4, ca_5, ca_6, ca_7, ca_8, ca_9, ca_10, ca_11, ca_12, ca_13, ca_14, ca_15, ca_16, ca_17, ca_18, ca_19, ca_20, ca_21, ca_22, ca_23, ca_24, ca_25, ca_26, ca_27, ca_28, ca_29, ca_30, not_true_eq_false, not_false_eq_true, Int.reduceEq, Nat.reduceEqDiff, Nat.reduceLeDiff, rGcd, V.ty.injEq, eq_self, List.not_mem_nil, beq_self_eq_true, HO.lst.injEq, HO.tup.injEq, tFor_eq, iRng1, iList, iTup, nat10, tSeq, rIxA, rSetA, rIsN, rIsT, tTp, tLs, itsO_tup, itsO_lst, tyO_tup, tyO_lst, tyO_dK, tyN_non, tyN_bl, tyN_int, tyN_str, tyN_ref, tyNs_lt, isB, upd_same, upd_upd, sizeLine_eq, List.mem_cons, String.reduceBEq, String.reduceEq, Bool.or_false, Bool.or_true, Bool.and_false, Bool.false_or, Bool.and_self, Bool.false_and, Bool.not_false, Bool.not_true, List.any_cons, List.any_nil, atI_0, setI_0, atI_1, setI_1, atI_2, setI_2, atI_3, setI_3, atI_4, setI_4, atI_5, setI_5, atI_6, setI_6, tAsg, gName, tOp, tUn, tVar, tC, tCons, L2.tNil, tRet, tIfS, tTest, tCB, tCall, rI, rI0, rU, tNext, tB, tAnd, tOr, tNot, tAndV, tOrV, tNotV, tDrop, tIf, tPar, gSub, rIxL, rIxT, rEq, rNe, rSetL, tBits,
    L2.start, List.map_cons, List.map_nil, List.cons_append, List.nil_append, List.append_nil, List.length_cons, List.length_nil, List.replicate, Nat.reduceAdd, Nat.reduceSub, Nat.zero_add, List.getElem?_cons_zero, List.getElem?_cons_succ, List.set_cons_zero, List.set_cons_succ,
    Option.some.injEq, exists_eq_left', exists_eq_left, V.int.injEq, V.bl.injEq, V.ref.injEq, V.str.injEq, List.cons.injEq, reduceCtorEq, and_true, true_and, false_and, and_false, exists_false, or_false, false_or, or_true, true_or, exists_const, CMul, CDiv, CPow, and_assoc, exists_and_left, exists_and_right, Int.reducePow, Int.reduceNeg, Int.reduceLT, Int.reduceLE, Nat.reducePow, Nat.reduceLT, Int.reduceToNat, gt_iff_lt, ge_iff_le, decide_eq_true_eq, Bool.not_eq_true', decide_eq_false_iff_not, scal, ↓reduceIte, Bool.false_eq_true]; simpa using q)
def spFraction (K : PySem.W.Frag) : Sp := fun vs H Q _ => ∃ n d : Int, vs = [.int n, .int d] ∧ d ≠ 0 ∧ d.natAbs < 2 ^ 8000 ∧ ∀ q, Is q n d → Gv K H Q q
theorem gcdX {n d : Int} (h0 : d ≠ 0) (hz : d.natAbs < 2 ^ 8000) (x : Int) : CDivX x (if d < 0 then -((Int.gcd n d : Nat) : Int) else (Int.gcd n d : Nat)) := by
  have g0 := gcd_pos (t := n) (b := d) h0
  have g1 := gcd_le (t := n) (b := d) h0
  have e : 2 ^ 8000 ≤ 2 ^ 8999 := Nat.pow_le_pow_right (by omega) (by omega)
  unfold CDivX
  split <;> refine ⟨by omega, by omega⟩
def frOk (K : PySem.W.Frag) (H : Hp) : V → Bool
  | .ref a => match ob K H a with
    | some (.tup [.int n, .int d]) => decide (1 ≤ d) && decide (Int.gcd n d = 1)
    | _ => false
  | _ => false
theorem frOk_fr {H : Hp} {a : Addr} {q : Qt} (h : ob K H a = some (frt q)) (hn : Nf q) : frOk K H (.ref a) = true := by
  simp only [frOk, h, frt]
  show (decide (1 ≤ q.2) && decide (Int.gcd q.1 q.2 = 1)) = true
  rw [decide_eq_true hn.1, decide_eq_true hn.2]
  rfl
/-- v and, if it is a tuple, its items are of known kinds -/
def Tyd (K : PySem.W.Frag) (H : Hp) (v : V) : Prop := (tyN K H v).isSome ∧ ∀ a xs, v = .ref a → ob K H a = some (.tup xs) → ∀ x ∈ xs, (tyN K H x).isSome
theorem Tyd.fr {H : Hp} {a : Addr} {q : Qt} (h : ob K H a = some (frt q)) : Tyd K H (.ref a) := by
  refine ⟨by rw [tyN_ref, h]; rfl, fun b xs e hx x hm => ?_⟩
  cases e
  rw [h] at hx
  cases hx
  simp only [List.mem_cons, List.not_mem_nil, or_false] at hm
  rcases hm with rfl | rfl <;> rfl
theorem tyN_tuple {H : Hp} {v : V} (h : tyN K H v = some "tuple") : ∃ a xs, v = .ref a ∧ ob K H a = some (.tup xs) := by
  cases v with
  | ref a =>
    have h1 : tyO (ob K H a) = some "tuple" := h
    unfold tyO at h1
    split at h1 <;> first | exact ⟨a, _, rfl, by assumption⟩ | (exfalso; revert h1; decide)
  | _ => exfalso; revert h; simp only [tyN]; decide
def spIsFraction (K : PySem.W.Frag) : Sp := fun vs H Q _ => ∃ v, vs = [v] ∧ Tyd K H v ∧ Q (.bl (frOk K H v)) H
end
end My

namespace My
open PySem PySem.Spec PyProof.Rows L2
section
variable {P : Program} {w : World} {K : PySem.W.Frag} {mg : Str → Option Value} {base : Heap}
theorem nf_part {q : Qt} (h : Nf q) : Nf (q.1 % q.2, q.2) := by
  refine ⟨h.1, ?_⟩
  show Int.gcd (q.1 % q.2) q.2 = 1
  have e : q.1 % q.2 = q.1 + (-(q.1 / q.2)) * q.2 := by
    have := Int.emod_add_mul_ediv q.1 q.2
    rw [Int.neg_mul, Int.mul_comm]
    omega
  rw [e, Int.gcd_add_mul_right_left]
  exact h.2
theorem nf_abs {q : Qt} (h : Nf q) : Nf ((q.1.natAbs : Int), q.2) := ⟨h.1, by
  show Int.gcd (q.1.natAbs : Int) q.2 = 1
  rw [← h.2]
  rfl⟩
theorem nf_neg {q : Qt} (h : Nf q) : Nf (-q.1, q.2) := ⟨h.1, by
  show Int.gcd (-q.1) q.2 = 1
  rw [Int.neg_gcd]
  exact h.2⟩
def off (q : Qt) : Qt := (if q.2 < 2 * (q.1 % q.2) then q.1 % q.2 - q.2 else q.1 % q.2, q.2)
theorem nf_off {q : Qt} (h : Nf q) : Nf (off q) := by
  have k := nf_part h
  unfold off
  split
  · refine ⟨h.1, ?_⟩
    show Int.gcd (q.1 % q.2 - q.2) q.2 = 1
    rw [show q.1 % q.2 - q.2 = q.1 % q.2 + (-1) * q.2 by omega, Int.gcd_add_mul_right_left]
    exact k.2
  · exact k
theorem is_self {q : Qt} (h : Nf q) : Is q q.1 q.2 := ⟨h, rfl⟩
def sum2 (p q : Qt) (z : Qt) : Prop := Is z (p.1 * q.2 + q.1 * p.2) (p.2 * q.2)
theorem Nf.ne {q : Qt} (h : Nf q) : q.2 ≠ 0 := by have := h.1; omega
theorem mul_ne {a b : Int} (h1 : 1 ≤ a) (h2 : 1 ≤ b) : a * b ≠ 0 := Int.mul_ne_zero (by omega) (by omega)
theorem szPart {q : Qt} {k : Nat} (h : Nf q) (hz : Sz k q) : Sz k (q.1 % q.2, q.2) := by
  refine ⟨?_, hz.2⟩
  have h1 := Int.emod_nonneg q.1 h.ne
  have h2 := Int.emod_lt_of_pos q.1 (show 0 < q.2 by have := h.1; omega)
  have := hz.2
  show (q.1 % q.2).natAbs < 2 ^ k
  omega
theorem szOff {q : Qt} {k : Nat} (h : Nf q) (hz : Sz k q) : Sz k (off q) := by
  have h1 := Int.emod_nonneg q.1 h.ne
  have h2 := Int.emod_lt_of_pos q.1 (show 0 < q.2 by have := h.1; omega)
  have h3 := hz.2
  have h4 := h.1
  unfold off
  refine ⟨?_, h3⟩
  show (if q.2 < 2 * (q.1 % q.2) then q.1 % q.2 - q.2 else q.1 % q.2).natAbs < 2 ^ k
  split <;> omega
/-- a fraction at a, in lowest terms, of a bounded size -/
structure Fq (K : PySem.W.Frag) (H : Hp) (k : Nat) (a : Addr) (q : Qt) : Prop where
  o : ob K H a = some (.tup [.int q.1, .int q.2])
  nf : Nf q
  sz : Sz k q
theorem Fq.same {H H' : Hp} {k : Nat} {a : Addr} {q : Qt} (h : Fq K H k a q) (s : Same H H') : Fq K H' k a q := ⟨ob_same s h.o, h.nf, h.sz⟩
theorem Fq.kp {H H' : Hp} {k : Nat} {a s : Addr} {q : Qt} {ys : List V} (h : Fq K H k a q) (e : Kp s H H') (hs : H s = some (.lst ys)) : Fq K H' k a q := ⟨ob_kp e hs (fun _ z => by cases z) h.o, h.nf, h.sz⟩
theorem Fq.mono {H : Hp} {j k : Nat} {a : Addr} {q : Qt} (h : Fq K H j a q) (l : j ≤ k) : Fq K H k a q := ⟨h.o, h.nf, h.sz.mono l⟩
def spBin (K : PySem.W.Frag) (R : Qt → Qt → Qt → Prop) : Sp := fun vs H Q _ => ∃ (a b : Addr) (p q : Qt), vs = [.ref a, .ref b] ∧ Fq K H 3000 a p ∧ Fq K H 3000 b q ∧ ∀ z, R p q z → Gv K H Q z
def spUn (K : PySem.W.Frag) (g : Qt → Qt) : Sp := fun vs H Q _ => ∃ (a : Addr) (q : Qt), vs = [.ref a] ∧ Fq K H 8000 a q ∧ Gv K H Q (g q)
def spFloor (K : PySem.W.Frag) : Sp := fun vs H Q _ => ∃ (a : Addr) (q : Qt), vs = [.ref a] ∧ Fq K H 8000 a q ∧ Q (.int (q.1 / q.2)) H
def spLFrac (K : PySem.W.Frag) : Sp := fun vs H Q _ => ∃ (a : Addr) (q : Qt), vs = [.ref a] ∧ Fq K H 8000 a q ∧ Q (.bl true) H
def dif2 (p q : Qt) (z : Qt) : Prop := Is z (p.1 * q.2 - q.1 * p.2) (p.2 * q.2)
def pro2 (p q : Qt) (z : Qt) : Prop := Is z (p.1 * q.1) (p.2 * q.2)
def quo2 (p q : Qt) (z : Qt) : Prop := Is z (p.1 * q.2) (p.2 * q.1)
def cmp2 (p q : Qt) : Int := if p.1 * q.2 = q.1 * p.2 then 0 else if p.1 * q.2 < q.1 * p.2 then -1 else 1
def spQuo (K : PySem.W.Frag) : Sp := fun vs H Q _ => ∃ (a b : Addr) (p q : Qt), vs = [.ref a, .ref b] ∧ Fq K H 3000 a p ∧ Fq K H 3000 b q ∧ q.1 ≠ 0 ∧ ∀ z, quo2 p q z → Gv K H Q z
def spCmp (K : PySem.W.Frag) : Sp := fun vs H Q _ => ∃ (a b : Addr) (p q : Qt), vs = [.ref a, .ref b] ∧ Fq K H 3000 a p ∧ Fq K H 3000 b q ∧ Q (.int (cmp2 p q)) H
def spQuot (K : PySem.W.Frag) : Sp := fun vs H Q _ => ∃ (a : Addr) (z : Qt) (t b : Int), vs = [.ref a, .int t, .int b] ∧ Fq K H 3000 a z ∧ Is z t b ∧ t.natAbs < 2 ^ 3000 ∧ b.natAbs < 2 ^ 3000 ∧ Q (.bl true) H
def spLFracs (K : PySem.W.Frag) : Sp := fun vs H Q _ => ∃ (l : Addr) (xs : List V), vs = [.ref l] ∧ H l = some (.lst xs) ∧ K.lookup l = none ∧ (∀ x ∈ xs, ∃ a q, x = .ref a ∧ Fq K H 8000 a q) ∧ Q (.bl true) H
def FracsI (l : Addr) (H : Hp) (_ : Nat) (σ : L2.St) (H' : Hp) : Prop := ∃ y, σ = [some (.ref l), y] ∧ H' = H
def spLeaves (K : PySem.W.Frag) : Sp := fun vs H Q _ => ∃ (a b : Addr) (p q : Qt), vs = [.ref a, .ref b] ∧ Fq K H 8000 a p ∧ Fq K H 8000 b q ∧ Q (.bl (decide (q.2 = p.2) && decide ((p.1 - q.1) % p.2 = 0))) H
theorem frOk_inv {H : Hp} {v : V} (h : frOk K H v = true) : ∃ a q, v = .ref a ∧ ob K H a = some (.tup [.int q.1, .int q.2]) ∧ Nf q := by
  cases v with
  | ref a =>
    simp only [frOk] at h
    split at h
    · rename_i n d hz
      simp only [Bool.and_eq_true, decide_eq_true_eq] at h
      exact ⟨_, (n, d), rfl, hz, h.1, h.2⟩
    · cases h
  | _ => cases h
/-- a place: a fraction of 0 or more, less than 1 -/
def plOk (K : PySem.W.Frag) (H : Hp) (v : V) : Bool := frOk K H v && match v with
  | .ref a => match ob K H a with
    | some (.tup [.int n, .int d]) => decide (0 ≤ n) && decide (n < d)
    | _ => false
  | _ => false
theorem plOk_no {H : Hp} {v : V} (h : frOk K H v = false) : plOk K H v = false := by unfold plOk; rw [h]; rfl
theorem plOk_fr {H : Hp} {a : Addr} {q : Qt} (h : ob K H a = some (.tup [.int q.1, .int q.2])) (hn : Nf q) : plOk K H (.ref a) = (decide (0 ≤ q.1) && decide (q.1 < q.2)) := by
  have e := frOk_fr (K := K) h hn
  unfold plOk
  rw [e]
  simp only [h, Bool.true_and]
def spIsPlace (K : PySem.W.Frag) : Sp := fun vs H Q _ => ∃ v, vs = [v] ∧ Tyd K H v ∧ Q (.bl (plOk K H v)) H
def spLPlace (K : PySem.W.Frag) : Sp := fun vs H Q _ => ∃ (a : Addr) (q : Qt), vs = [.ref a] ∧ Fq K H 8000 a q ∧ 0 ≤ q.1 ∧ q.1 < q.2 ∧ Q (.bl true) H
end
end My

namespace My
open PySem PySem.Spec PyProof.Rows L2
section
variable {P : Program} {w : World} {K : PySem.W.Frag} {mg : Str → Option Value} {base : Heap}
/-- an int that the draws gave; all but the store stands -/
def spPick (K : PySem.W.Frag) : Sp := fun vs H Q _ => ∃ (s r : Addr) (xs : List V), vs = [.ref s, .ref r] ∧ Sto K H s ∧ H r = some (.lst xs) ∧ s ≠ r ∧ 0 < xs.length ∧ xs.length < 1000 ∧ ∀ x H', x ∈ xs → Kp s H H' → Sto K H' s → Q x H'
theorem at_mem {α : Type} {xs : List α} {i : Int} (h0 : 0 ≤ i) (h : i < (xs.length : Int)) : ∃ v ∈ xs, atI xs i = some v := by
  have hk : i.toNat < xs.length := by omega
  have q : atI xs ((i.toNat : Nat) : Int) = some xs[i.toNat] := atI_nat (List.getElem?_eq_getElem hk)
  rw [show ((i.toNat : Nat) : Int) = i by omega] at q
  exact ⟨_, List.getElem_mem hk, q⟩
theorem Sto.at {H : Hp} {s : Addr} (h : Sto K H s) : ∃ ys, H s = some (.lst ys) := by
  obtain ⟨sc, ns, i, b, c, d, e, f, h⟩ := h
  exact ⟨_, h.1⟩
theorem Kp.at {s : Addr} {H H' : Hp} {r : Addr} {o : HO} (e : Kp s H H') (n : s ≠ r) (h : H r = some o) : H' r = some o := e _ _ (Ne.symm n) h
abbrev sPick : Stmt := topS 36
theorem scPick : FnScope ["_law_store_here", "_law_row"] ["_law_store_here", "_law_row"] (defScope sPick) := ⟨rfl, rfl, rfl, by decide +kernel, rfl, by decide +kernel, by decide +kernel⟩
theorem k_Pick (T : Bt K mg) (D : Dfn K mg "_law_pick" sPick ["_law_store_here", "_law_row"]) (d__law_take : Kn P w K mg base 2 "_law_take" ["_law_store_here", "_law_many"] (spTake K)) : Kn P w K mg base 3 "_law_pick" ["_law_store_here", "_law_row"] (spPick K) := by
  refine Kn.mk' D scPick (fun vs H Q E h => ?_) (fun f cdv A outer s H vs Q E hr h => ?_)
  · obtain ⟨s, r, xs, rfl, _⟩ := h
    rfl
  obtain ⟨s, r, xs, rfl, hS, hr', ne, hl0, hl1, k⟩ := h
  refine ⟨_, (pss_one (ps_ret (pe_ix ix_list (pv 1) (pe_kn d__law_take hr (by rfl) (pa_cons (pv 0) (pa_cons (pe_callB call_len_seq (by rfl) T.b_len PySem.boot_len (pa_cons (pv 1) pa_nil)) pa_nil))) (fun _ _ => rfl)))), ?_⟩
  simp only [cx_K, decide_true, decide_false, reduceCtorEq, gTp, gCons, gNil, ca_0, ca_1, ca_2, ca_3, ca_4, ca_5, ca_6, ca_7, ca_8, ca_9, ca_10, ca_11, ca_12, ca_13, ca_14, ca_15, ca_16, ca_17, ca_18, ca_19, ca_20, ca_21, ca_22, ca_23, ca_24, ca_25, ca_26, ca_27, ca_28, ca_29, ca_30, not_true_eq_false, not_false_eq_true, Int.reduceEq, Nat.reduceEqDiff, Nat.reduceLeDiff, rGcd, V.ty.injEq, eq_self, List.not_mem_nil, beq_self_eq_true, HO.lst.injEq, HO.tup.injEq, tFor_eq, iRng1, iList, iTup, nat10, tSeq, rIxA, rSetA, rIsN, rIsT, tTp, tLs, itsO_tup, itsO_lst, tyO_tup, tyO_lst, tyO_dK, tyN_non, tyN_bl, tyN_int, tyN_str, tyN_ref, tyNs_lt, isB, upd_same, upd_upd, sizeLine_eq, List.mem_cons, String.reduceBEq, String.reduceEq, Bool.or_false, Bool.or_true, Bool.and_false, Bool.false_or, Bool.and_self, Bool.false_and, Bool.not_false, Bool.not_true, List.any_cons, List.any_nil, atI_0, setI_0, atI_1, setI_1, atI_2, setI_2, atI_3, setI_3, atI_4, setI_4, atI_5, setI_5, atI_6, setI_6, tAsg, gName, tOp, tUn, tVar, tC, tCons, L2.tNil, tRet, tIfS, tTest, tCB, tCall, rI, rI0, rU, tNext, tB, tAnd, tOr, tNot, tAndV, tOrV, tNotV, tDrop, tIf, tPar, gSub, rIxL, rIxT, rEq, rNe, rSetL, tBits,
    L2.start, List.map_cons, List.map_nil, List.cons_append, List.nil_append, List.append_nil, List.length_cons, List.length_nil, List.replicate, Nat.reduceAdd, Nat.reduceSub, Nat.zero_add, List.getElem?_cons_zero, List.getElem?_cons_succ, List.set_cons_zero, List.set_cons_succ,
    Option.some.injEq, exists_eq_left', exists_eq_left, V.int.injEq, V.bl.injEq, V.ref.injEq, V.str.injEq, List.cons.injEq, reduceCtorEq, and_true, true_and, false_and, and_false, exists_false, or_false, false_or, or_true, true_or, exists_const, CMul, CDiv, CPow, and_assoc, exists_and_left, exists_and_right, Int.reducePow, Int.reduceNeg, Int.reduceLT, Int.reduceLE, Nat.reducePow, Nat.reduceLT, Int.reduceToNat, gt_iff_lt, ge_iff_le, decide_eq_true_eq, Bool.not_eq_true', decide_eq_false_iff_not, scal, ↓reduceIte, Bool.false_eq_true]
  refine ⟨xs, .inl (.of hr'), s, _, rfl, hS, by omega, fun i H' h0 h1 kp st => ?_⟩
  obtain ⟨v, hv, e⟩ := at_mem (xs := xs) (i := i) h0 (by omega)
  exact ⟨xs, i, rfl, .of (kp.at ne hr'), v, e, k v H' hv kp st⟩
def spInt (K : PySem.W.Frag) (R : Int → Prop) : Sp := fun vs H Q _ => ∃ (s : Addr), vs = [.ref s] ∧ Sto K H s ∧ ∀ n H', R n → Kp s H H' → Sto K H' s → Q (.int n) H'
def spLInt (K : PySem.W.Frag) : Sp := fun vs H Q _ => ∃ (s : Addr) (r : Int), vs = [.ref s, .int r] ∧ Sto K H s ∧ 1 ≤ r ∧ r < 2 ^ 190 ∧ ∀ n H', -r ≤ n → n ≤ r → Kp s H H' → Sto K H' s → Q (.int n) H'
theorem menu {xs : List V} {i : Int} {R : V → Prop} (h0 : 0 ≤ i) (h : i < (xs.length : Int)) (k : ∀ v ∈ xs, R v) : ∃ v, atI xs i = some v ∧ R v := by
  obtain ⟨v, hv, e⟩ := at_mem h0 h
  exact ⟨v, e, k v hv⟩
abbrev sLInt : Stmt := topS 40
theorem scLInt : FnScope ["_law_store_here", "_law_reach", "_law_spot"] ["_law_store_here", "_law_reach"] (defScope sLInt) := ⟨rfl, rfl, rfl, by decide +kernel, rfl, by decide +kernel, by decide +kernel⟩
theorem k_LInt (T : Bt K mg) (D : Dfn K mg "_law_whole" sLInt ["_law_store_here", "_law_reach"]) (d__law_take : Kn P w K mg base 2 "_law_take" ["_law_store_here", "_law_many"] (spTake K)) : Kn P w K mg base 3 "_law_whole" ["_law_store_here", "_law_reach"] (spLInt K) := by
  refine Kn.mk' D scLInt (fun vs H Q E h => ?_) (fun f cdv A outer s H vs Q E hr h => ?_)
  · obtain ⟨s, r, rfl, _⟩ := h
    rfl
  obtain ⟨s, r, rfl, hS, hr1, hr2, k⟩ := h
  refine ⟨_, (pss_cons (ps_set (i := 2) scLInt.nd rfl (.inl rfl) (pe_kn d__law_take hr (by rfl) (pa_cons (pv 0) (pa_cons pe_int pa_nil))))
      (pss_cons (ps_if (pt_cmpR op_lt (pv 2) pe_int (nomark _)) (pss_one (ps_ret (pe_ix ix_any (pe_ls (pa_cons pe_int (pa_cons (pe_callB (call_min2 rfl) (by rfl) T.b_min (by decide +kernel) (pa_cons pe_int (pa_cons (pv 1) pa_nil))) (pa_cons (pe_un un_neg (pe_callB (call_min2 rfl) (by rfl) T.b_min (by decide +kernel) (pa_cons pe_int (pa_cons (pv 1) pa_nil)))) (pa_cons (pv 1) (pa_cons (pe_un un_neg (pv 1)) pa_nil)))))) (pv 2) (fun _ _ => rfl)))) pss_nil)
      (pss_one (ps_ret (pe_op op_sub (pe_kn d__law_take hr (by rfl) (pa_cons (pv 0) (pa_cons (pe_op op_add (pe_op op_mul pe_int (pv 1)) pe_int) pa_nil))) (pv 1)))))), ?_⟩
  simp only [cx_K, decide_true, decide_false, reduceCtorEq, gTp, gCons, gNil, ca_0, ca_1, ca_2, ca_3, ca_4, ca_5, ca_6, ca_7, ca_8, ca_9, ca_10, ca_11, ca_12, ca_13, ca_14, ca_15, ca_16, ca_17, ca_18, ca_19, ca_20, ca_21, ca_22, ca_23, ca_24, ca_25, ca_26, ca_27, ca_28, ca_29, ca_30, not_true_eq_false, not_false_eq_true, Int.reduceEq, Nat.reduceEqDiff, Nat.reduceLeDiff, rGcd, V.ty.injEq, eq_self, List.not_mem_nil, beq_self_eq_true, HO.lst.injEq, HO.tup.injEq, tFor_eq, iRng1, iList, iTup, nat10, tSeq, rIxA, rSetA, rIsN, rIsT, tTp, tLs, itsO_tup, itsO_lst, tyO_tup, tyO_lst, tyO_dK, tyN_non, tyN_bl, tyN_int, tyN_str, tyN_ref, tyNs_lt, isB, upd_same, upd_upd, sizeLine_eq, List.mem_cons, String.reduceBEq, String.reduceEq, Bool.or_false, Bool.or_true, Bool.and_false, Bool.false_or, Bool.and_self, Bool.false_and, Bool.not_false, Bool.not_true, List.any_cons, List.any_nil, atI_0, setI_0, atI_1, setI_1, atI_2, setI_2, atI_3, setI_3, atI_4, setI_4, atI_5, setI_5, atI_6, setI_6, tAsg, gName, tOp, tUn, tVar, tC, tCons, L2.tNil, tRet, tIfS, tTest, tCB, tCall, rI, rI0, rU, tNext, tB, tAnd, tOr, tNot, tAndV, tOrV, tNotV, tDrop, tIf, tPar, gSub, rIxL, rIxT, rEq, rNe, rSetL, tBits,
    L2.start, List.map_cons, List.map_nil, List.cons_append, List.nil_append, List.append_nil, List.length_cons, List.length_nil, List.replicate, Nat.reduceAdd, Nat.reduceSub, Nat.zero_add, List.getElem?_cons_zero, List.getElem?_cons_succ, List.set_cons_zero, List.set_cons_succ,
    Option.some.injEq, exists_eq_left', exists_eq_left, V.int.injEq, V.bl.injEq, V.ref.injEq, V.str.injEq, List.cons.injEq, reduceCtorEq, and_true, true_and, false_and, and_false, exists_false, or_false, false_or, or_true, true_or, exists_const, CMul, CDiv, CPow, and_assoc, exists_and_left, exists_and_right, Int.reducePow, Int.reduceNeg, Int.reduceLT, Int.reduceLE, Nat.reducePow, Nat.reduceLT, Int.reduceToNat, gt_iff_lt, ge_iff_le, decide_eq_true_eq, Bool.not_eq_true', decide_eq_false_iff_not, scal, ↓reduceIte, Bool.false_eq_true]
  refine ⟨s, 12, rfl, hS, by omega, fun i H1 h0 h1 kp st => ?_⟩
  simp only [cx_K, decide_true, decide_false, reduceCtorEq, gTp, gCons, gNil, ca_0, ca_1, ca_2, ca_3, ca_4, ca_5, ca_6, ca_7, ca_8, ca_9, ca_10, ca_11, ca_12, ca_13, ca_14, ca_15, ca_16, ca_17, ca_18, ca_19, ca_20, ca_21, ca_22, ca_23, ca_24, ca_25, ca_26, ca_27, ca_28, ca_29, ca_30, not_true_eq_false, not_false_eq_true, Int.reduceEq, Nat.reduceEqDiff, Nat.reduceLeDiff, rGcd, V.ty.injEq, eq_self, List.not_mem_nil, beq_self_eq_true, HO.lst.injEq, HO.tup.injEq, tFor_eq, iRng1, iList, iTup, nat10, tSeq, rIxA, rSetA, rIsN, rIsT, tTp, tLs, itsO_tup, itsO_lst, tyO_tup, tyO_lst, tyO_dK, tyN_non, tyN_bl, tyN_int, tyN_str, tyN_ref, tyNs_lt, isB, upd_same, upd_upd, sizeLine_eq, List.mem_cons, String.reduceBEq, String.reduceEq, Bool.or_false, Bool.or_true, Bool.and_false, Bool.false_or, Bool.and_self, Bool.false_and, Bool.not_false, Bool.not_true, List.any_cons, List.any_nil, atI_0, setI_0, atI_1, setI_1, atI_2, setI_2, atI_3, setI_3, atI_4, setI_4, atI_5, setI_5, atI_6, setI_6, tAsg, gName, tOp, tUn, tVar, tC, tCons, L2.tNil, tRet, tIfS, tTest, tCB, tCall, rI, rI0, rU, tNext, tB, tAnd, tOr, tNot, tAndV, tOrV, tNotV, tDrop, tIf, tPar, gSub, rIxL, rIxT, rEq, rNe, rSetL, tBits,
    L2.start, List.map_cons, List.map_nil, List.cons_append, List.nil_append, List.append_nil, List.length_cons, List.length_nil, List.replicate, Nat.reduceAdd, Nat.reduceSub, Nat.zero_add, List.getElem?_cons_zero, List.getElem?_cons_succ, List.set_cons_zero, List.set_cons_succ,
    Option.some.injEq, exists_eq_left', exists_eq_left, V.int.injEq, V.bl.injEq, V.ref.injEq, V.str.injEq, List.cons.injEq, reduceCtorEq, and_true, true_and, false_and, and_false, exists_false, or_false, false_or, or_true, true_or, exists_const, CMul, CDiv, CPow, and_assoc, exists_and_left, exists_and_right, Int.reducePow, Int.reduceNeg, Int.reduceLT, Int.reduceLE, Nat.reducePow, Nat.reduceLT, Int.reduceToNat, gt_iff_lt, ge_iff_le, decide_eq_true_eq, Bool.not_eq_true', decide_eq_false_iff_not, scal, ↓reduceIte, Bool.false_eq_true]
  refine ite2 (fun h => ?_) (fun h => ?_)
  · intro p hp kp'
    rw [ob_new kp']
    simp only [cx_K, decide_true, decide_false, reduceCtorEq, gTp, gCons, gNil, ca_0, ca_1, ca_2, ca_3, ca_4, ca_5, ca_6, ca_7, ca_8, ca_9, ca_10, ca_11, ca_12, ca_13, ca_14, ca_15, ca_16, ca_17, ca_18, ca_19, ca_20, ca_21, ca_22, ca_23, ca_24, ca_25, ca_26, ca_27, ca_28, ca_29, ca_30, not_true_eq_false, not_false_eq_true, Int.reduceEq, Nat.reduceEqDiff, Nat.reduceLeDiff, rGcd, V.ty.injEq, eq_self, List.not_mem_nil, beq_self_eq_true, HO.lst.injEq, HO.tup.injEq, tFor_eq, iRng1, iList, iTup, nat10, tSeq, rIxA, rSetA, rIsN, rIsT, tTp, tLs, itsO_tup, itsO_lst, tyO_tup, tyO_lst, tyO_dK, tyN_non, tyN_bl, tyN_int, tyN_str, tyN_ref, tyNs_lt, isB, upd_same, upd_upd, sizeLine_eq, List.mem_cons, String.reduceBEq, String.reduceEq, Bool.or_false, Bool.or_true, Bool.and_false, Bool.false_or, Bool.and_self, Bool.false_and, Bool.not_false, Bool.not_true, List.any_cons, List.any_nil, atI_0, setI_0, atI_1, setI_1, atI_2, setI_2, atI_3, setI_3, atI_4, setI_4, atI_5, setI_5, atI_6, setI_6, tAsg, gName, tOp, tUn, tVar, tC, tCons, L2.tNil, tRet, tIfS, tTest, tCB, tCall, rI, rI0, rU, tNext, tB, tAnd, tOr, tNot, tAndV, tOrV, tNotV, tDrop, tIf, tPar, gSub, rIxL, rIxT, rEq, rNe, rSetL, tBits,
    L2.start, List.map_cons, List.map_nil, List.cons_append, List.nil_append, List.append_nil, List.length_cons, List.length_nil, List.replicate, Nat.reduceAdd, Nat.reduceSub, Nat.zero_add, List.getElem?_cons_zero, List.getElem?_cons_succ, List.set_cons_zero, List.set_cons_succ,
    Option.some.injEq, exists_eq_left', exists_eq_left, V.int.injEq, V.bl.injEq, V.ref.injEq, V.str.injEq, List.cons.injEq, reduceCtorEq, and_true, true_and, false_and, and_false, exists_false, or_false, false_or, or_true, true_or, exists_const, CMul, CDiv, CPow, and_assoc, exists_and_left, exists_and_right, Int.reducePow, Int.reduceNeg, Int.reduceLT, Int.reduceLE, Nat.reducePow, Nat.reduceLT, Int.reduceToNat, gt_iff_lt, ge_iff_le, decide_eq_true_eq, Bool.not_eq_true', decide_eq_false_iff_not, scal, ↓reduceIte, Bool.false_eq_true]
    refine menu h0 (by simpa using h) fun v hv => ?_
    rw [if_neg (show ¬ r < 1 by omega)] at hv ⊢
    simp only [List.mem_cons, List.not_mem_nil, or_false] at hv
    rcases hv with rfl | rfl | rfl | rfl | rfl <;> exact k _ _ (by omega) (by omega) (kp.trans (Kp.same (Same.new hp _))) (st.same (Same.new hp _))
  · refine ⟨s, _, rfl, st, by omega, fun j H2 h0' h1' kp2 st2 => ?_⟩
    simp only [cx_K, decide_true, decide_false, reduceCtorEq, gTp, gCons, gNil, ca_0, ca_1, ca_2, ca_3, ca_4, ca_5, ca_6, ca_7, ca_8, ca_9, ca_10, ca_11, ca_12, ca_13, ca_14, ca_15, ca_16, ca_17, ca_18, ca_19, ca_20, ca_21, ca_22, ca_23, ca_24, ca_25, ca_26, ca_27, ca_28, ca_29, ca_30, not_true_eq_false, not_false_eq_true, Int.reduceEq, Nat.reduceEqDiff, Nat.reduceLeDiff, rGcd, V.ty.injEq, eq_self, List.not_mem_nil, beq_self_eq_true, HO.lst.injEq, HO.tup.injEq, tFor_eq, iRng1, iList, iTup, nat10, tSeq, rIxA, rSetA, rIsN, rIsT, tTp, tLs, itsO_tup, itsO_lst, tyO_tup, tyO_lst, tyO_dK, tyN_non, tyN_bl, tyN_int, tyN_str, tyN_ref, tyNs_lt, isB, upd_same, upd_upd, sizeLine_eq, List.mem_cons, String.reduceBEq, String.reduceEq, Bool.or_false, Bool.or_true, Bool.and_false, Bool.false_or, Bool.and_self, Bool.false_and, Bool.not_false, Bool.not_true, List.any_cons, List.any_nil, atI_0, setI_0, atI_1, setI_1, atI_2, setI_2, atI_3, setI_3, atI_4, setI_4, atI_5, setI_5, atI_6, setI_6, tAsg, gName, tOp, tUn, tVar, tC, tCons, L2.tNil, tRet, tIfS, tTest, tCB, tCall, rI, rI0, rU, tNext, tB, tAnd, tOr, tNot, tAndV, tOrV, tNotV, tDrop, tIf, tPar, gSub, rIxL, rIxT, rEq, rNe, rSetL, tBits,
    L2.start, List.map_cons, List.map_nil, List.cons_append, List.nil_append, List.append_nil, List.length_cons, List.length_nil, List.replicate, Nat.reduceAdd, Nat.reduceSub, Nat.zero_add, List.getElem?_cons_zero, List.getElem?_cons_succ, List.set_cons_zero, List.set_cons_succ,
    Option.some.injEq, exists_eq_left', exists_eq_left, V.int.injEq, V.bl.injEq, V.ref.injEq, V.str.injEq, List.cons.injEq, reduceCtorEq, and_true, true_and, false_and, and_false, exists_false, or_false, false_or, or_true, true_or, exists_const, CMul, CDiv, CPow, and_assoc, exists_and_left, exists_and_right, Int.reducePow, Int.reduceNeg, Int.reduceLT, Int.reduceLE, Nat.reducePow, Nat.reduceLT, Int.reduceToNat, gt_iff_lt, ge_iff_le, decide_eq_true_eq, Bool.not_eq_true', decide_eq_false_iff_not, scal, ↓reduceIte, Bool.false_eq_true]
    exact k _ _ (by omega) (by omega) (kp.trans kp2) st2
def GreatI (s : Addr) (spot : Int) (H1 : Hp) (_ : Nat) (σ : L2.St) (H' : Hp) : Prop := ∃ v y, σ = [some (.ref s), some (.int spot), some (.int v), y] ∧ H' = H1 ∧ 0 ≤ v ∧ v < 2 ^ 133
abbrev sGreat : Stmt := topS 41
theorem scGreat : FnScope ["_law_store_here", "_law_spot", "_law_value", "_law_k"] ["_law_store_here"] (defScope sGreat) := ⟨rfl, rfl, rfl, by decide +kernel, rfl, by decide +kernel, by decide +kernel⟩
theorem k_Great (T : Bt K mg) (D : Dfn K mg "_law_great" sGreat ["_law_store_here"]) (d__law_take : Kn P w K mg base 2 "_law_take" ["_law_store_here", "_law_many"] (spTake K)) : Kn P w K mg base 3 "_law_great" ["_law_store_here"] (spInt K fun n => n.natAbs < 2 ^ 133) := by
  refine Kn.mk' D scGreat (fun vs H Q E h => ?_) (fun f cdv A outer s H vs Q E hr h => ?_)
  · obtain ⟨s, rfl, _⟩ := h
    rfl
  obtain ⟨s, rfl, hS, k⟩ := h
  refine ⟨_, (pss_cons (ps_set (i := 1) scGreat.nd rfl (.inl rfl) (pe_kn d__law_take hr (by rfl) (pa_cons (pv 0) (pa_cons pe_int pa_nil))))
      (pss_cons (ps_if (pt_cmpR op_lt (pv 1) pe_int (nomark _)) (pss_one (ps_ret (pe_ix ix_any (pe_ls (pa_cons (pe_op op_sub (pe_op op_pow pe_int pe_int) pe_int) (pa_cons (pe_op op_sub pe_int (pe_op op_pow pe_int pe_int)) (pa_cons (pe_op op_pow pe_int pe_int) (pa_cons pe_int pa_nil))))) (pv 1) (fun _ _ => rfl)))) pss_nil)
      (pss_cons (ps_set (i := 2) scGreat.nd rfl (.inl rfl) (pe_kn d__law_take hr (by rfl) (pa_cons (pv 0) (pa_cons (pe_op op_pow pe_int pe_int) pa_nil))))
      (pss_cons (ps_for PassesOwn.never rfl (pi_range1 (by rfl) T.b_range (pa_cons (pe_kn d__law_take hr (by rfl) (pa_cons (pv 0) (pa_cons pe_int pa_nil))) pa_nil)) (pg_name (i := 3) scGreat.nd rfl (.inl rfl)) (pss_one (ps_set (i := 2) scGreat.nd rfl (.inl rfl) (pe_op op_fdiv (pv 2) pe_int))))
      (pss_cons (ps_if (pt_cmpR op_eq (pe_op op_mod (pv 1) pe_int) pe_int (nomark _)) (pss_one (ps_ret (pe_un un_neg (pv 2)))) pss_nil)
      (pss_one (ps_ret (pv 2)))))))), ?_⟩
  simp only [cx_K, decide_true, decide_false, reduceCtorEq, gTp, gCons, gNil, ca_0, ca_1, ca_2, ca_3, ca_4, ca_5, ca_6, ca_7, ca_8, ca_9, ca_10, ca_11, ca_12, ca_13, ca_14, ca_15, ca_16, ca_17, ca_18, ca_19, ca_20, ca_21, ca_22, ca_23, ca_24, ca_25, ca_26, ca_27, ca_28, ca_29, ca_30, not_true_eq_false, not_false_eq_true, Int.reduceEq, Nat.reduceEqDiff, Nat.reduceLeDiff, rGcd, V.ty.injEq, eq_self, List.not_mem_nil, beq_self_eq_true, HO.lst.injEq, HO.tup.injEq, tFor_eq, iRng1, iList, iTup, nat10, tSeq, rIxA, rSetA, rIsN, rIsT, tTp, tLs, itsO_tup, itsO_lst, tyO_tup, tyO_lst, tyO_dK, tyN_non, tyN_bl, tyN_int, tyN_str, tyN_ref, tyNs_lt, isB, upd_same, upd_upd, sizeLine_eq, List.mem_cons, String.reduceBEq, String.reduceEq, Bool.or_false, Bool.or_true, Bool.and_false, Bool.false_or, Bool.and_self, Bool.false_and, Bool.not_false, Bool.not_true, List.any_cons, List.any_nil, atI_0, setI_0, atI_1, setI_1, atI_2, setI_2, atI_3, setI_3, atI_4, setI_4, atI_5, setI_5, atI_6, setI_6, tAsg, gName, tOp, tUn, tVar, tC, tCons, L2.tNil, tRet, tIfS, tTest, tCB, tCall, rI, rI0, rU, tNext, tB, tAnd, tOr, tNot, tAndV, tOrV, tNotV, tDrop, tIf, tPar, gSub, rIxL, rIxT, rEq, rNe, rSetL, tBits,
    L2.start, List.map_cons, List.map_nil, List.cons_append, List.nil_append, List.append_nil, List.length_cons, List.length_nil, List.replicate, Nat.reduceAdd, Nat.reduceSub, Nat.zero_add, List.getElem?_cons_zero, List.getElem?_cons_succ, List.set_cons_zero, List.set_cons_succ,
    Option.some.injEq, exists_eq_left', exists_eq_left, V.int.injEq, V.bl.injEq, V.ref.injEq, V.str.injEq, List.cons.injEq, reduceCtorEq, and_true, true_and, false_and, and_false, exists_false, or_false, false_or, or_true, true_or, exists_const, CMul, CDiv, CPow, and_assoc, exists_and_left, exists_and_right, Int.reducePow, Int.reduceNeg, Int.reduceLT, Int.reduceLE, Nat.reducePow, Nat.reduceLT, Int.reduceToNat, gt_iff_lt, ge_iff_le, decide_eq_true_eq, Bool.not_eq_true', decide_eq_false_iff_not, scal, ↓reduceIte, Bool.false_eq_true]
  refine ⟨s, 12, rfl, hS, by omega, fun i H1 h0 h1 kp st => ?_⟩
  simp only [cx_K, decide_true, decide_false, reduceCtorEq, gTp, gCons, gNil, ca_0, ca_1, ca_2, ca_3, ca_4, ca_5, ca_6, ca_7, ca_8, ca_9, ca_10, ca_11, ca_12, ca_13, ca_14, ca_15, ca_16, ca_17, ca_18, ca_19, ca_20, ca_21, ca_22, ca_23, ca_24, ca_25, ca_26, ca_27, ca_28, ca_29, ca_30, not_true_eq_false, not_false_eq_true, Int.reduceEq, Nat.reduceEqDiff, Nat.reduceLeDiff, rGcd, V.ty.injEq, eq_self, List.not_mem_nil, beq_self_eq_true, HO.lst.injEq, HO.tup.injEq, tFor_eq, iRng1, iList, iTup, nat10, tSeq, rIxA, rSetA, rIsN, rIsT, tTp, tLs, itsO_tup, itsO_lst, tyO_tup, tyO_lst, tyO_dK, tyN_non, tyN_bl, tyN_int, tyN_str, tyN_ref, tyNs_lt, isB, upd_same, upd_upd, sizeLine_eq, List.mem_cons, String.reduceBEq, String.reduceEq, Bool.or_false, Bool.or_true, Bool.and_false, Bool.false_or, Bool.and_self, Bool.false_and, Bool.not_false, Bool.not_true, List.any_cons, List.any_nil, atI_0, setI_0, atI_1, setI_1, atI_2, setI_2, atI_3, setI_3, atI_4, setI_4, atI_5, setI_5, atI_6, setI_6, tAsg, gName, tOp, tUn, tVar, tC, tCons, L2.tNil, tRet, tIfS, tTest, tCB, tCall, rI, rI0, rU, tNext, tB, tAnd, tOr, tNot, tAndV, tOrV, tNotV, tDrop, tIf, tPar, gSub, rIxL, rIxT, rEq, rNe, rSetL, tBits,
    L2.start, List.map_cons, List.map_nil, List.cons_append, List.nil_append, List.append_nil, List.length_cons, List.length_nil, List.replicate, Nat.reduceAdd, Nat.reduceSub, Nat.zero_add, List.getElem?_cons_zero, List.getElem?_cons_succ, List.set_cons_zero, List.set_cons_succ,
    Option.some.injEq, exists_eq_left', exists_eq_left, V.int.injEq, V.bl.injEq, V.ref.injEq, V.str.injEq, List.cons.injEq, reduceCtorEq, and_true, true_and, false_and, and_false, exists_false, or_false, false_or, or_true, true_or, exists_const, CMul, CDiv, CPow, and_assoc, exists_and_left, exists_and_right, Int.reducePow, Int.reduceNeg, Int.reduceLT, Int.reduceLE, Nat.reducePow, Nat.reduceLT, Int.reduceToNat, gt_iff_lt, ge_iff_le, decide_eq_true_eq, Bool.not_eq_true', decide_eq_false_iff_not, scal, ↓reduceIte, Bool.false_eq_true]
  refine ite2 (fun h => ?_) (fun h => ?_)
  · intro p hp kp'
    rw [ob_new kp']
    simp only [cx_K, decide_true, decide_false, reduceCtorEq, gTp, gCons, gNil, ca_0, ca_1, ca_2, ca_3, ca_4, ca_5, ca_6, ca_7, ca_8, ca_9, ca_10, ca_11, ca_12, ca_13, ca_14, ca_15, ca_16, ca_17, ca_18, ca_19, ca_20, ca_21, ca_22, ca_23, ca_24, ca_25, ca_26, ca_27, ca_28, ca_29, ca_30, not_true_eq_false, not_false_eq_true, Int.reduceEq, Nat.reduceEqDiff, Nat.reduceLeDiff, rGcd, V.ty.injEq, eq_self, List.not_mem_nil, beq_self_eq_true, HO.lst.injEq, HO.tup.injEq, tFor_eq, iRng1, iList, iTup, nat10, tSeq, rIxA, rSetA, rIsN, rIsT, tTp, tLs, itsO_tup, itsO_lst, tyO_tup, tyO_lst, tyO_dK, tyN_non, tyN_bl, tyN_int, tyN_str, tyN_ref, tyNs_lt, isB, upd_same, upd_upd, sizeLine_eq, List.mem_cons, String.reduceBEq, String.reduceEq, Bool.or_false, Bool.or_true, Bool.and_false, Bool.false_or, Bool.and_self, Bool.false_and, Bool.not_false, Bool.not_true, List.any_cons, List.any_nil, atI_0, setI_0, atI_1, setI_1, atI_2, setI_2, atI_3, setI_3, atI_4, setI_4, atI_5, setI_5, atI_6, setI_6, tAsg, gName, tOp, tUn, tVar, tC, tCons, L2.tNil, tRet, tIfS, tTest, tCB, tCall, rI, rI0, rU, tNext, tB, tAnd, tOr, tNot, tAndV, tOrV, tNotV, tDrop, tIf, tPar, gSub, rIxL, rIxT, rEq, rNe, rSetL, tBits,
    L2.start, List.map_cons, List.map_nil, List.cons_append, List.nil_append, List.append_nil, List.length_cons, List.length_nil, List.replicate, Nat.reduceAdd, Nat.reduceSub, Nat.zero_add, List.getElem?_cons_zero, List.getElem?_cons_succ, List.set_cons_zero, List.set_cons_succ,
    Option.some.injEq, exists_eq_left', exists_eq_left, V.int.injEq, V.bl.injEq, V.ref.injEq, V.str.injEq, List.cons.injEq, reduceCtorEq, and_true, true_and, false_and, and_false, exists_false, or_false, false_or, or_true, true_or, exists_const, CMul, CDiv, CPow, and_assoc, exists_and_left, exists_and_right, Int.reducePow, Int.reduceNeg, Int.reduceLT, Int.reduceLE, Nat.reducePow, Nat.reduceLT, Int.reduceToNat, gt_iff_lt, ge_iff_le, decide_eq_true_eq, Bool.not_eq_true', decide_eq_false_iff_not, scal, ↓reduceIte, Bool.false_eq_true]
    refine menu h0 (by simpa using h) fun v hv => ?_
    simp only [List.mem_cons, List.not_mem_nil, or_false] at hv
    rcases hv with rfl | rfl | rfl | rfl <;> exact k _ _ (by show Int.natAbs _ < _; omega) (kp.trans (Kp.same (Same.new hp _))) (st.same (Same.new hp _))
  · refine ⟨s, _, rfl, st, by omega, fun j H2 j0 j1 kp2 st2 => ⟨s, 40, rfl, st2, by omega, fun m H3 m0 m1 kp3 st3 => ?_⟩⟩
    simp only [cx_K, decide_true, decide_false, reduceCtorEq, gTp, gCons, gNil, ca_0, ca_1, ca_2, ca_3, ca_4, ca_5, ca_6, ca_7, ca_8, ca_9, ca_10, ca_11, ca_12, ca_13, ca_14, ca_15, ca_16, ca_17, ca_18, ca_19, ca_20, ca_21, ca_22, ca_23, ca_24, ca_25, ca_26, ca_27, ca_28, ca_29, ca_30, not_true_eq_false, not_false_eq_true, Int.reduceEq, Nat.reduceEqDiff, Nat.reduceLeDiff, rGcd, V.ty.injEq, eq_self, List.not_mem_nil, beq_self_eq_true, HO.lst.injEq, HO.tup.injEq, tFor_eq, iRng1, iList, iTup, nat10, tSeq, rIxA, rSetA, rIsN, rIsT, tTp, tLs, itsO_tup, itsO_lst, tyO_tup, tyO_lst, tyO_dK, tyN_non, tyN_bl, tyN_int, tyN_str, tyN_ref, tyNs_lt, isB, upd_same, upd_upd, sizeLine_eq, List.mem_cons, String.reduceBEq, String.reduceEq, Bool.or_false, Bool.or_true, Bool.and_false, Bool.false_or, Bool.and_self, Bool.false_and, Bool.not_false, Bool.not_true, List.any_cons, List.any_nil, atI_0, setI_0, atI_1, setI_1, atI_2, setI_2, atI_3, setI_3, atI_4, setI_4, atI_5, setI_5, atI_6, setI_6, tAsg, gName, tOp, tUn, tVar, tC, tCons, L2.tNil, tRet, tIfS, tTest, tCB, tCall, rI, rI0, rU, tNext, tB, tAnd, tOr, tNot, tAndV, tOrV, tNotV, tDrop, tIf, tPar, gSub, rIxL, rIxT, rEq, rNe, rSetL, tBits,
    L2.start, List.map_cons, List.map_nil, List.cons_append, List.nil_append, List.append_nil, List.length_cons, List.length_nil, List.replicate, Nat.reduceAdd, Nat.reduceSub, Nat.zero_add, List.getElem?_cons_zero, List.getElem?_cons_succ, List.set_cons_zero, List.set_cons_succ,
    Option.some.injEq, exists_eq_left', exists_eq_left, V.int.injEq, V.bl.injEq, V.ref.injEq, V.str.injEq, List.cons.injEq, reduceCtorEq, and_true, true_and, false_and, and_false, exists_false, or_false, false_or, or_true, true_or, exists_const, CMul, CDiv, CPow, and_assoc, exists_and_left, exists_and_right, Int.reducePow, Int.reduceNeg, Int.reduceLT, Int.reduceLE, Nat.reducePow, Nat.reduceLT, Int.reduceToNat, gt_iff_lt, ge_iff_le, decide_eq_true_eq, Bool.not_eq_true', decide_eq_false_iff_not, scal, ↓reduceIte, Bool.false_eq_true]
    refine ⟨by omega, by omega, forI_range (GreatI s i H3) ⟨j, none, rfl, rfl, j0, by omega⟩ ?_ ?_⟩
    · rintro t σ H' _ ⟨v, y, rfl, rfl, v0, v1⟩
      simp only [cx_K, decide_true, decide_false, reduceCtorEq, gTp, gCons, gNil, ca_0, ca_1, ca_2, ca_3, ca_4, ca_5, ca_6, ca_7, ca_8, ca_9, ca_10, ca_11, ca_12, ca_13, ca_14, ca_15, ca_16, ca_17, ca_18, ca_19, ca_20, ca_21, ca_22, ca_23, ca_24, ca_25, ca_26, ca_27, ca_28, ca_29, ca_30, not_true_eq_false, not_false_eq_true, Int.reduceEq, Nat.reduceEqDiff, Nat.reduceLeDiff, rGcd, V.ty.injEq, eq_self, List.not_mem_nil, beq_self_eq_true, HO.lst.injEq, HO.tup.injEq, tFor_eq, iRng1, iList, iTup, nat10, tSeq, rIxA, rSetA, rIsN, rIsT, tTp, tLs, itsO_tup, itsO_lst, tyO_tup, tyO_lst, tyO_dK, tyN_non, tyN_bl, tyN_int, tyN_str, tyN_ref, tyNs_lt, isB, upd_same, upd_upd, sizeLine_eq, List.mem_cons, String.reduceBEq, String.reduceEq, Bool.or_false, Bool.or_true, Bool.and_false, Bool.false_or, Bool.and_self, Bool.false_and, Bool.not_false, Bool.not_true, List.any_cons, List.any_nil, atI_0, setI_0, atI_1, setI_1, atI_2, setI_2, atI_3, setI_3, atI_4, setI_4, atI_5, setI_5, atI_6, setI_6, tAsg, gName, tOp, tUn, tVar, tC, tCons, L2.tNil, tRet, tIfS, tTest, tCB, tCall, rI, rI0, rU, tNext, tB, tAnd, tOr, tNot, tAndV, tOrV, tNotV, tDrop, tIf, tPar, gSub, rIxL, rIxT, rEq, rNe, rSetL, tBits,
    L2.start, List.map_cons, List.map_nil, List.cons_append, List.nil_append, List.append_nil, List.length_cons, List.length_nil, List.replicate, Nat.reduceAdd, Nat.reduceSub, Nat.zero_add, List.getElem?_cons_zero, List.getElem?_cons_succ, List.set_cons_zero, List.set_cons_succ,
    Option.some.injEq, exists_eq_left', exists_eq_left, V.int.injEq, V.bl.injEq, V.ref.injEq, V.str.injEq, List.cons.injEq, reduceCtorEq, and_true, true_and, false_and, and_false, exists_false, or_false, false_or, or_true, true_or, exists_const, CMul, CDiv, CPow, and_assoc, exists_and_left, exists_and_right, Int.reducePow, Int.reduceNeg, Int.reduceLT, Int.reduceLE, Nat.reducePow, Nat.reduceLT, Int.reduceToNat, gt_iff_lt, ge_iff_le, decide_eq_true_eq, Bool.not_eq_true', decide_eq_false_iff_not, scal, ↓reduceIte, Bool.false_eq_true]
      exact ⟨_, _, rfl, rfl, by omega, by omega⟩
    · rintro σ H' ⟨v, y, rfl, rfl, v0, v1⟩
      simp only [cx_K, decide_true, decide_false, reduceCtorEq, gTp, gCons, gNil, ca_0, ca_1, ca_2, ca_3, ca_4, ca_5, ca_6, ca_7, ca_8, ca_9, ca_10, ca_11, ca_12, ca_13, ca_14, ca_15, ca_16, ca_17, ca_18, ca_19, ca_20, ca_21, ca_22, ca_23, ca_24, ca_25, ca_26, ca_27, ca_28, ca_29, ca_30, not_true_eq_false, not_false_eq_true, Int.reduceEq, Nat.reduceEqDiff, Nat.reduceLeDiff, rGcd, V.ty.injEq, eq_self, List.not_mem_nil, beq_self_eq_true, HO.lst.injEq, HO.tup.injEq, tFor_eq, iRng1, iList, iTup, nat10, tSeq, rIxA, rSetA, rIsN, rIsT, tTp, tLs, itsO_tup, itsO_lst, tyO_tup, tyO_lst, tyO_dK, tyN_non, tyN_bl, tyN_int, tyN_str, tyN_ref, tyNs_lt, isB, upd_same, upd_upd, sizeLine_eq, List.mem_cons, String.reduceBEq, String.reduceEq, Bool.or_false, Bool.or_true, Bool.and_false, Bool.false_or, Bool.and_self, Bool.false_and, Bool.not_false, Bool.not_true, List.any_cons, List.any_nil, atI_0, setI_0, atI_1, setI_1, atI_2, setI_2, atI_3, setI_3, atI_4, setI_4, atI_5, setI_5, atI_6, setI_6, tAsg, gName, tOp, tUn, tVar, tC, tCons, L2.tNil, tRet, tIfS, tTest, tCB, tCall, rI, rI0, rU, tNext, tB, tAnd, tOr, tNot, tAndV, tOrV, tNotV, tDrop, tIf, tPar, gSub, rIxL, rIxT, rEq, rNe, rSetL, tBits,
    L2.start, List.map_cons, List.map_nil, List.cons_append, List.nil_append, List.append_nil, List.length_cons, List.length_nil, List.replicate, Nat.reduceAdd, Nat.reduceSub, Nat.zero_add, List.getElem?_cons_zero, List.getElem?_cons_succ, List.set_cons_zero, List.set_cons_succ,
    Option.some.injEq, exists_eq_left', exists_eq_left, V.int.injEq, V.bl.injEq, V.ref.injEq, V.str.injEq, List.cons.injEq, reduceCtorEq, and_true, true_and, false_and, and_false, exists_false, or_false, false_or, or_true, true_or, exists_const, CMul, CDiv, CPow, and_assoc, exists_and_left, exists_and_right, Int.reducePow, Int.reduceNeg, Int.reduceLT, Int.reduceLE, Nat.reducePow, Nat.reduceLT, Int.reduceToNat, gt_iff_lt, ge_iff_le, decide_eq_true_eq, Bool.not_eq_true', decide_eq_false_iff_not, scal, ↓reduceIte, Bool.false_eq_true]
      have kk := (kp.trans kp2).trans kp3
      exact ite2 (fun _ => k _ _ (by show Int.natAbs _ < _; omega) kk st3) (fun _ => k _ _ (by show Int.natAbs _ < _; omega) kk st3)
def spDFrac (K : PySem.W.Frag) (n : Nat) : Sp := fun vs H Q _ => ∃ (s : Addr), vs = [.ref s] ∧ Sto K H s ∧ ∀ a q H', Fq K H' n a q → Kp s H H' → Sto K H' s → Q (.ref a) H'
theorem nf01 : Nf (0, 1) := ⟨by decide, by decide⟩
theorem nf11 : Nf (1, 1) := ⟨by decide, by decide⟩
theorem nfm1 : Nf (-1, 1) := ⟨by decide, by decide⟩
theorem nf12 : Nf (1, 2) := ⟨by decide, by decide⟩
theorem nfm2 : Nf (-1, 2) := ⟨by decide, by decide⟩
theorem sz10 {x y : Int} (h1 : x.natAbs < 1024) (h2 : y.natAbs < 1024) : Sz 10 (x, y) := ⟨by show x.natAbs < _; omega, by show y.natAbs < _; omega⟩
/-- the script, read alone -/
def spStore (K : PySem.W.Frag) : Sp := fun vs H Q _ => ∃ (a : Addr) (ns : List Int), vs = [.ref a] ∧ SqL K H a (ns.map V.int) ∧ ∀ s H', Same H H' → Sto K H' s → Q (.ref s) H'
def StoreI (a : Addr) (H : Hp) (_ : Nat) (σ : L2.St) (H' : Hp) : Prop := ∃ (v : Int) (y : Option V), σ = [some (.ref a), some (.int v), y] ∧ H' = H
abbrev sStore : Stmt := topS 34
theorem scStore : FnScope ["_law_script", "_law_seed", "_law_cell"] ["_law_script"] (defScope sStore) := ⟨rfl, rfl, rfl, by decide +kernel, rfl, by decide +kernel, by decide +kernel⟩
theorem k_Store (T : Bt K mg) (D : Dfn K mg "_law_store" sStore ["_law_script"]) : Kn P w K mg base 1 "_law_store" ["_law_script"] (spStore K) := by
  refine Kn.mk' D scStore (fun vs H Q E h => ?_) (fun f cdv A outer s H vs Q E hr h => ?_)
  · obtain ⟨a, ns, rfl, _⟩ := h
    rfl
  obtain ⟨a, ns, rfl, hS, k⟩ := h
  refine ⟨_, (pss_cons (ps_set (i := 1) scStore.nd rfl (.inl rfl) (pe_op op_add (pe_callB call_len_seq (by rfl) T.b_len PySem.boot_len (pa_cons (pv 0) pa_nil)) pe_int))
      (pss_cons (ps_for PassesOwn.never rfl (pi_list (pv 0)) (pg_name (i := 2) scStore.nd rfl (.inl rfl)) (pss_one (ps_set (i := 1) scStore.nd rfl (.inl rfl) (pe_op op_mod (pe_op op_add (pe_op op_add (pe_op op_mul (pv 1) pe_int) (pe_op op_mod (pe_callTy call_int1 (by rfl) T.b_int (by decide +kernel) (pa_cons (pv 2) pa_nil)) pe_int)) pe_int) pe_int))))
      (pss_one (ps_ret (pe_ls (pa_cons (pe_callTy call_listK (by rfl) T.b_list (by decide +kernel) (pa_cons (pv 0) pa_nil)) (pa_cons pe_int (pa_cons pe_int (pa_cons pe_int (pa_cons (pv 1) (pa_cons pe_int (pa_cons pe_int pa_nil)))))))))))), ?_⟩
  simp only [cx_K, decide_true, decide_false, reduceCtorEq, gTp, gCons, gNil, ca_0, ca_1, ca_2, ca_3, ca_4, ca_5, ca_6, ca_7, ca_8, ca_9, ca_10, ca_11, ca_12, ca_13, ca_14, ca_15, ca_16, ca_17, ca_18, ca_19, ca_20, ca_21, ca_22, ca_23, ca_24, ca_25, ca_26, ca_27, ca_28, ca_29, ca_30, not_true_eq_false, not_false_eq_true, Int.reduceEq, Nat.reduceEqDiff, Nat.reduceLeDiff, rGcd, V.ty.injEq, eq_self, List.not_mem_nil, beq_self_eq_true, HO.lst.injEq, HO.tup.injEq, tFor_eq, iRng1, iList, iTup, nat10, tSeq, rIxA, rSetA, rIsN, rIsT, tTp, tLs, itsO_tup, itsO_lst, tyO_tup, tyO_lst, tyO_dK, tyN_non, tyN_bl, tyN_int, tyN_str, tyN_ref, tyNs_lt, isB, upd_same, upd_upd, sizeLine_eq, List.mem_cons, String.reduceBEq, String.reduceEq, Bool.or_false, Bool.or_true, Bool.and_false, Bool.false_or, Bool.and_self, Bool.false_and, Bool.not_false, Bool.not_true, List.any_cons, List.any_nil, atI_0, setI_0, atI_1, setI_1, atI_2, setI_2, atI_3, setI_3, atI_4, setI_4, atI_5, setI_5, atI_6, setI_6, tAsg, gName, tOp, tUn, tVar, tC, tCons, L2.tNil, tRet, tIfS, tTest, tCB, tCall, rI, rI0, rU, tNext, tB, tAnd, tOr, tNot, tAndV, tOrV, tNotV, tDrop, tIf, tPar, gSub, rIxL, rIxT, rEq, rNe, rSetL, tBits,
    L2.start, List.map_cons, List.map_nil, List.cons_append, List.nil_append, List.append_nil, List.length_cons, List.length_nil, List.replicate, Nat.reduceAdd, Nat.reduceSub, Nat.zero_add, List.getElem?_cons_zero, List.getElem?_cons_succ, List.set_cons_zero, List.set_cons_succ,
    Option.some.injEq, exists_eq_left', exists_eq_left, V.int.injEq, V.bl.injEq, V.ref.injEq, V.str.injEq, List.cons.injEq, reduceCtorEq, and_true, true_and, false_and, and_false, exists_false, or_false, false_or, or_true, true_or, exists_const, CMul, CDiv, CPow, and_assoc, exists_and_left, exists_and_right, Int.reducePow, Int.reduceNeg, Int.reduceLT, Int.reduceLE, Nat.reducePow, Nat.reduceLT, Int.reduceToNat, gt_iff_lt, ge_iff_le, decide_eq_true_eq, Bool.not_eq_true', decide_eq_false_iff_not, scal, ↓reduceIte, Bool.false_eq_true]
  refine ⟨_, .inl hS, ⟨_, hS⟩, forI_list (xs := ns.map V.int) (StoreI a H) ⟨_, none, rfl, rfl⟩ ?_ ?_ ?_⟩
  · rintro i σ H' _ ⟨v, y, rfl, rfl⟩
    exact hS
  · rintro i x σ H' hi ⟨v, y, rfl, rfl⟩
    obtain ⟨z, rfl⟩ : ∃ z, x = V.int z := by
      rw [List.getElem?_map] at hi
      cases e : ns[i]? with
      | none => rw [e] at hi; cases hi
      | some z => rw [e] at hi; exact ⟨z, (Option.some.inj hi).symm⟩
    simp only [cx_K, decide_true, decide_false, reduceCtorEq, gTp, gCons, gNil, ca_0, ca_1, ca_2, ca_3, ca_4, ca_5, ca_6, ca_7, ca_8, ca_9, ca_10, ca_11, ca_12, ca_13, ca_14, ca_15, ca_16, ca_17, ca_18, ca_19, ca_20, ca_21, ca_22, ca_23, ca_24, ca_25, ca_26, ca_27, ca_28, ca_29, ca_30, not_true_eq_false, not_false_eq_true, Int.reduceEq, Nat.reduceEqDiff, Nat.reduceLeDiff, rGcd, V.ty.injEq, eq_self, List.not_mem_nil, beq_self_eq_true, HO.lst.injEq, HO.tup.injEq, tFor_eq, iRng1, iList, iTup, nat10, tSeq, rIxA, rSetA, rIsN, rIsT, tTp, tLs, itsO_tup, itsO_lst, tyO_tup, tyO_lst, tyO_dK, tyN_non, tyN_bl, tyN_int, tyN_str, tyN_ref, tyNs_lt, isB, upd_same, upd_upd, sizeLine_eq, List.mem_cons, String.reduceBEq, String.reduceEq, Bool.or_false, Bool.or_true, Bool.and_false, Bool.false_or, Bool.and_self, Bool.false_and, Bool.not_false, Bool.not_true, List.any_cons, List.any_nil, atI_0, setI_0, atI_1, setI_1, atI_2, setI_2, atI_3, setI_3, atI_4, setI_4, atI_5, setI_5, atI_6, setI_6, tAsg, gName, tOp, tUn, tVar, tC, tCons, L2.tNil, tRet, tIfS, tTest, tCB, tCall, rI, rI0, rU, tNext, tB, tAnd, tOr, tNot, tAndV, tOrV, tNotV, tDrop, tIf, tPar, gSub, rIxL, rIxT, rEq, rNe, rSetL, tBits,
    L2.start, List.map_cons, List.map_nil, List.cons_append, List.nil_append, List.append_nil, List.length_cons, List.length_nil, List.replicate, Nat.reduceAdd, Nat.reduceSub, Nat.zero_add, List.getElem?_cons_zero, List.getElem?_cons_succ, List.set_cons_zero, List.set_cons_succ,
    Option.some.injEq, exists_eq_left', exists_eq_left, V.int.injEq, V.bl.injEq, V.ref.injEq, V.str.injEq, List.cons.injEq, reduceCtorEq, and_true, true_and, false_and, and_false, exists_false, or_false, false_or, or_true, true_or, exists_const, CMul, CDiv, CPow, and_assoc, exists_and_left, exists_and_right, Int.reducePow, Int.reduceNeg, Int.reduceLT, Int.reduceLE, Nat.reducePow, Nat.reduceLT, Int.reduceToNat, gt_iff_lt, ge_iff_le, decide_eq_true_eq, Bool.not_eq_true', decide_eq_false_iff_not, scal, ↓reduceIte, Bool.false_eq_true]
    exact ⟨_, _, rfl, rfl⟩
  · rintro σ H' ⟨v, y, rfl, rfl⟩
    simp only [cx_K, decide_true, decide_false, reduceCtorEq, gTp, gCons, gNil, ca_0, ca_1, ca_2, ca_3, ca_4, ca_5, ca_6, ca_7, ca_8, ca_9, ca_10, ca_11, ca_12, ca_13, ca_14, ca_15, ca_16, ca_17, ca_18, ca_19, ca_20, ca_21, ca_22, ca_23, ca_24, ca_25, ca_26, ca_27, ca_28, ca_29, ca_30, not_true_eq_false, not_false_eq_true, Int.reduceEq, Nat.reduceEqDiff, Nat.reduceLeDiff, rGcd, V.ty.injEq, eq_self, List.not_mem_nil, beq_self_eq_true, HO.lst.injEq, HO.tup.injEq, tFor_eq, iRng1, iList, iTup, nat10, tSeq, rIxA, rSetA, rIsN, rIsT, tTp, tLs, itsO_tup, itsO_lst, tyO_tup, tyO_lst, tyO_dK, tyN_non, tyN_bl, tyN_int, tyN_str, tyN_ref, tyNs_lt, isB, upd_same, upd_upd, sizeLine_eq, List.mem_cons, String.reduceBEq, String.reduceEq, Bool.or_false, Bool.or_true, Bool.and_false, Bool.false_or, Bool.and_self, Bool.false_and, Bool.not_false, Bool.not_true, List.any_cons, List.any_nil, atI_0, setI_0, atI_1, setI_1, atI_2, setI_2, atI_3, setI_3, atI_4, setI_4, atI_5, setI_5, atI_6, setI_6, tAsg, gName, tOp, tUn, tVar, tC, tCons, L2.tNil, tRet, tIfS, tTest, tCB, tCall, rI, rI0, rU, tNext, tB, tAnd, tOr, tNot, tAndV, tOrV, tNotV, tDrop, tIf, tPar, gSub, rIxL, rIxT, rEq, rNe, rSetL, tBits,
    L2.start, List.map_cons, List.map_nil, List.cons_append, List.nil_append, List.append_nil, List.length_cons, List.length_nil, List.replicate, Nat.reduceAdd, Nat.reduceSub, Nat.zero_add, List.getElem?_cons_zero, List.getElem?_cons_succ, List.set_cons_zero, List.set_cons_succ,
    Option.some.injEq, exists_eq_left', exists_eq_left, V.int.injEq, V.bl.injEq, V.ref.injEq, V.str.injEq, List.cons.injEq, reduceCtorEq, and_true, true_and, false_and, and_false, exists_false, or_false, false_or, or_true, true_or, exists_const, CMul, CDiv, CPow, and_assoc, exists_and_left, exists_and_right, Int.reducePow, Int.reduceNeg, Int.reduceLT, Int.reduceLE, Nat.reducePow, Nat.reduceLT, Int.reduceToNat, gt_iff_lt, ge_iff_le, decide_eq_true_eq, Bool.not_eq_true', decide_eq_false_iff_not, scal, ↓reduceIte, Bool.false_eq_true]
    refine ⟨_, .inl hS, fun l hl kl => ?_⟩
    intro s hs ks
    have s1 := Same.new hl (.lst (ns.map V.int))
    have e1 : upd H' l (.lst (ns.map V.int)) l = some (.lst (ns.map V.int)) := upd_same
    have n1 : s ≠ l := by rintro rfl; rw [upd_same] at hs; cases hs
    exact k s _ (s1.trans (Same.new hs _)) ⟨l, ns, 0, 0, 0, v, 0, 0, upd_same, by rw [upd_ne (Ne.symm n1)]; exact e1, n1, Int.le_refl 0, ks, kl⟩
end
end My

namespace My
open PySem PySem.Spec PyProof.Rows L2
section
variable {P : Program} {w : World} {K : PySem.W.Frag} {mg : Str → Option Value} {base : Heap}
/-- the same data, n levels deep at most -/
def scv : V → Bool
  | .non => true
  | .bl _ => true
  | .int _ => true
  | .str _ => true
  | _ => false
def Eqv (K : PySem.W.Frag) (H : Hp) : Nat → V → V → Prop
  | 0, x, y => x = y ∧ scv x = true
  | n + 1, x, y => (x = y ∧ scv x = true) ∨ (∃ (a b : Addr) (xs ys : List V), x = .ref a ∧ y = .ref b ∧ ((ob K H a = some (.tup xs) ∧ ob K H b = some (.tup ys)) ∨ (ob K H a = some (.lst xs) ∧ ob K H b = some (.lst ys))) ∧ xs.length = ys.length ∧ ys.length ≤ 1000 ∧
      ∀ (i : Nat) x y, xs[i]? = some x → ys[i]? = some y → Eqv K H n x y) ∨ (1 ≤ n ∧ ∃ a b : Addr, x = .ref a ∧ y = .ref b ∧ ob K H a = some (.dK []) ∧ ob K H b = some (.dK []))
theorem Eqv.same {H H' : Hp} (e : Same H H') : ∀ {n : Nat} {x y : V}, Eqv K H n x y → Eqv K H' n x y
  | 0, _, _, h => h
  | n + 1, x, y, .inl h => .inl h
  | n + 1, x, y, .inr (.inl ⟨a, b, xs, ys, h1, h2, h3, h4, h5, h6⟩) =>
    .inr (.inl ⟨a, b, xs, ys, h1, h2, h3.imp (fun z => ⟨ob_same e z.1, ob_same e z.2⟩) (fun z => ⟨ob_same e z.1, ob_same e z.2⟩), h4, h5, fun i x y hx hy => (h6 i x y hx hy).same e⟩)
  | n + 1, x, y, .inr (.inr ⟨l, a, b, h1, h2, h3, h4⟩) => .inr (.inr ⟨l, a, b, h1, h2, ob_same e h3, ob_same e h4⟩)
theorem Eqv.up {H : Hp} : ∀ {n : Nat} {x y : V}, Eqv K H n x y → Eqv K H (n + 1) x y
  | 0, _, _, h => .inl h
  | n + 1, x, y, .inl h => .inl h
  | n + 1, x, y, .inr (.inl ⟨a, b, xs, ys, h1, h2, h3, h4, h5, h6⟩) => .inr (.inl ⟨a, b, xs, ys, h1, h2, h3, h4, h5, fun i x y hx hy => (h6 i x y hx hy).up⟩)
  | n + 1, x, y, .inr (.inr ⟨l, a, b, h1, h2, h3, h4⟩) => .inr (.inr ⟨Nat.le_succ_of_le l, a, b, h1, h2, h3, h4⟩)
def spSame (K : PySem.W.Frag) : Nat → Sp
  | 0 => fun _ _ _ _ => False
  | n + 1 => fun vs H Q _ => ∃ x y, vs = [x, y] ∧ Eqv K H n x y ∧ ∀ H', Same H H' → Q (.bl true) H'
theorem Eqv.split {H : Hp} {n : Nat} {x y : V} (h : Eqv K H n x y) : (x = y ∧ scv x = true) ∨ (∃ m, n = m + 1 ∧ ∃ (a b : Addr) (xs ys : List V), x = .ref a ∧ y = .ref b ∧ ((ob K H a = some (.tup xs) ∧ ob K H b = some (.tup ys)) ∨ (ob K H a = some (.lst xs) ∧ ob K H b = some (.lst ys))) ∧ xs.length = ys.length ∧ ys.length ≤ 1000 ∧
    ∀ (i : Nat) x y, xs[i]? = some x → ys[i]? = some y → Eqv K H m x y) ∨ (∃ m, n = m + 2 ∧ ∃ a b : Addr, x = .ref a ∧ y = .ref b ∧ ob K H a = some (.dK []) ∧ ob K H b = some (.dK [])) := by
  cases n with
  | zero => exact .inl h
  | succ m =>
    rcases h with h | h | ⟨l, h⟩
    · exact .inl h
    · exact .inr (.inl ⟨m, rfl, h⟩)
    · exact .inr (.inr ⟨m - 1, by omega, h⟩)
def SameI (H : Hp) (a b : Addr) (_ : Nat) (σ : L2.St) (H' : Hp) : Prop := ∃ z, σ = [some (.ref a), some (.ref b), z] ∧ Same H H'
theorem Kn.none {x : Str} {ps : List Str} {st : Stmt} (D : Dfn K mg x st ps) : Kn P w K mg base 0 x ps (fun _ _ _ _ => False) := by
  obtain ⟨f, fd, F, m, b⟩ := D.ex
  exact ⟨f, fd, m, F.kp, b, ⟨fun vs H Q E h => h.elim, fun A outer s H args us vs Q E _ _ _ _ h => h.elim⟩⟩
abbrev sSame : Stmt := topS 39
theorem scSame : FnScope ["_law_told", "_law_due", "_law_k"] ["_law_told", "_law_due"] (defScope sSame) := ⟨rfl, rfl, rfl, by decide +kernel, rfl, by decide +kernel, by decide +kernel⟩
theorem k_Same (n : Nat) (T : Bt K mg) (D : Dfn K mg "_law_same" sSame ["_law_told", "_law_due"]) (d__law_is_whole : Kn P w K mg base 1 "_law_is_whole" ["_law_told"] (spWhole K)) (d__law_same : Kn P w K mg base (n + 1) "_law_same" ["_law_told", "_law_due"] (spSame K n)) : Kn P w K mg base (n + 2) "_law_same" ["_law_told", "_law_due"] (spSame K (n + 1)) := by
  refine Kn.mk' D scSame (fun vs H Q E h => ?_) (fun f cdv A outer s H vs Q E hr h => ?_)
  · obtain ⟨x, y, rfl, _⟩ := h
    rfl
  obtain ⟨x, y, rfl, he, k⟩ := h
  refine ⟨_, (pss_cons (ps_if (pt_cmpR op_isN (pv 1) pe_non (nomark _)) (pss_one (ps_ret (pe_cmpR op_isN (pv 0) pe_non (nomark _)))) pss_nil)
      (pss_cons (ps_if (pt_val (pe_callB call_isN (by rfl) T.b_isinstance (by decide +kernel) (pa_cons (pv 1) (pa_cons (pe_bltn (v := .ty "bool") (by rfl) T.b_bool (by decide +kernel) rfl) pa_nil)))) (pss_one (ps_ret (pe_and (pe_callB call_isN (by rfl) T.b_isinstance (by decide +kernel) (pa_cons (pv 0) (pa_cons (pe_bltn (v := .ty "bool") (by rfl) T.b_bool (by decide +kernel) rfl) pa_nil))) (pe_one (pe_cmpR op_eq (pv 0) (pv 1) (nomark _)))))) pss_nil)
      (pss_cons (ps_if (pt_val (pe_callB call_isN (by rfl) T.b_isinstance (by decide +kernel) (pa_cons (pv 1) (pa_cons (pe_bltn (v := .ty "int") (by rfl) T.b_int (by decide +kernel) rfl) pa_nil)))) (pss_one (ps_ret (pe_and (pe_kn d__law_is_whole hr (by rfl) (pa_cons (pv 0) pa_nil)) (pe_one (pe_cmpR op_eq (pv 0) (pv 1) (nomark _)))))) pss_nil)
      (pss_cons (ps_if (pt_val (pe_callB call_isN (by rfl) T.b_isinstance (by decide +kernel) (pa_cons (pv 1) (pa_cons (pe_bltn (v := .ty "str") (by rfl) T.b_str (by decide +kernel) rfl) pa_nil)))) (pss_one (ps_ret (pe_and (pe_callB call_isN (by rfl) T.b_isinstance (by decide +kernel) (pa_cons (pv 0) (pa_cons (pe_bltn (v := .ty "str") (by rfl) T.b_str (by decide +kernel) rfl) pa_nil))) (pe_one (pe_cmpR op_eq (pv 0) (pv 1) (nomark _)))))) pss_nil)
      (pss_cons (ps_if (pt_val (pe_callB call_isN (by rfl) T.b_isinstance (by decide +kernel) (pa_cons (pv 1) (pa_cons (pe_bltn (v := .ty "dict") (by rfl) T.b_dict (by decide +kernel) rfl) pa_nil)))) (pss_cons (ps_if (PW.pt (pw_or (pt_not (pt_val (pe_callB call_isN (by rfl) T.b_isinstance (by decide +kernel) (pa_cons (pv 0) (pa_cons (pe_bltn (v := .ty "dict") (by rfl) T.b_dict (by decide +kernel) rfl) pa_nil))))) (pw_or1 (pt_not (pt_val (pe_kn d__law_same hr (by rfl) (pa_cons (pe_fr (pe_callTy (call_list_dK rfl) (by rfl) T.b_list (by decide +kernel) (pa_cons (pv 0) pa_nil))) (pa_cons (pe_fr (pe_callTy (call_list_dK rfl) (by rfl) T.b_list (by decide +kernel) (pa_cons (pv 1) pa_nil))) pa_nil)))))))) (pss_one (ps_ret pe_bl)) pss_nil)
      (pss_one (ps_ret (pe_kn d__law_same hr (by rfl) (pa_cons (pe_listVals rfl (by rfl) T.b_list (pv 0)) (pa_cons (pe_listVals rfl (by rfl) T.b_list (pv 1)) pa_nil)))))) pss_nil)
      (pss_cons (ps_if (PW.pt (pw_and (pt_val (pe_callB call_isN (by rfl) T.b_isinstance (by decide +kernel) (pa_cons (pv 1) (pa_cons (pe_bltn (v := .ty "list") (by rfl) T.b_list (by decide +kernel) rfl) pa_nil)))) (pw_and1 (pt_not (pt_val (pe_callB call_isN (by rfl) T.b_isinstance (by decide +kernel) (pa_cons (pv 0) (pa_cons (pe_bltn (v := .ty "list") (by rfl) T.b_list (by decide +kernel) rfl) pa_nil)))))))) (pss_one (ps_ret pe_bl)) pss_nil)
      (pss_cons (ps_if (PW.pt (pw_and (pt_val (pe_callB call_isN (by rfl) T.b_isinstance (by decide +kernel) (pa_cons (pv 1) (pa_cons (pe_bltn (v := .ty "tuple") (by rfl) T.b_tuple (by decide +kernel) rfl) pa_nil)))) (pw_and1 (pt_not (pt_val (pe_callB call_isN (by rfl) T.b_isinstance (by decide +kernel) (pa_cons (pv 0) (pa_cons (pe_bltn (v := .ty "tuple") (by rfl) T.b_tuple (by decide +kernel) rfl) pa_nil)))))))) (pss_one (ps_ret pe_bl)) pss_nil)
      (pss_cons (ps_if (PW.pt (pw_or (pt_not (pt_val (pe_callB call_isT (by rfl) T.b_isinstance (by decide +kernel) (pa_cons (pv 1) (pa_cons (pe_tp (pa_cons (pe_bltn (v := .ty "list") (by rfl) T.b_list (by decide +kernel) rfl) (pa_cons (pe_bltn (v := .ty "tuple") (by rfl) T.b_tuple (by decide +kernel) rfl) pa_nil))) pa_nil))))) (pw_or1 (pt_cmpR op_ne (pe_callB call_lenA (by rfl) T.b_len PySem.boot_len (pa_cons (pv 0) pa_nil)) (pe_callB call_lenA (by rfl) T.b_len PySem.boot_len (pa_cons (pv 1) pa_nil)) (nomark _))))) (pss_one (ps_ret pe_bl)) pss_nil)
      (pss_cons (ps_for PassesOwn.never rfl (pi_range1 (by rfl) T.b_range (pa_cons (pe_callB call_lenA (by rfl) T.b_len PySem.boot_len (pa_cons (pv 1) pa_nil)) pa_nil)) (pg_name (i := 2) scSame.nd rfl (.inl rfl)) (pss_one (ps_if (pt_not (pt_val (pe_kn d__law_same hr (by rfl) (pa_cons (pe_ix ix_any (pv 0) (pv 2) (fun _ _ => rfl)) (pa_cons (pe_ix ix_any (pv 1) (pv 2) (fun _ _ => rfl)) pa_nil))))) (pss_one (ps_ret pe_bl)) pss_nil)))
      (pss_one (ps_ret pe_bl))))))))))), ?_⟩
  rcases he.split with ⟨rfl, hsc⟩ | ⟨m, rfl, a, b, xs, ys, rfl, rfl, ho, hl, h1000, hi⟩ | ⟨m, rfl, a, b, rfl, rfl, oa, oc⟩
  · cases x with
    | non =>
      simp only [cx_K, decide_true, decide_false, reduceCtorEq, gTp, gCons, gNil, ca_0, ca_1, ca_2, ca_3, ca_4, ca_5, ca_6, ca_7, ca_8, ca_9, ca_10, ca_11, ca_12, ca_13, ca_14, ca_15, ca_16, ca_17, ca_18, ca_19, ca_20, ca_21, ca_22, ca_23, ca_24, ca_25, ca_26, ca_27, ca_28, ca_29, ca_30, not_true_eq_false, not_false_eq_true, Int.reduceEq, Nat.reduceEqDiff, Nat.reduceLeDiff, rGcd, V.ty.injEq, eq_self, List.not_mem_nil, beq_self_eq_true, HO.lst.injEq, HO.tup.injEq, tFor_eq, iRng1, iList, iTup, nat10, tSeq, rIxA, rSetA, rIsN, rIsT, tTp, tLs, itsO_tup, itsO_lst, tyO_tup, tyO_lst, tyO_dK, tyN_non, tyN_bl, tyN_int, tyN_str, tyN_ref, tyNs_lt, isB, upd_same, upd_upd, sizeLine_eq, List.mem_cons, String.reduceBEq, String.reduceEq, Bool.or_false, Bool.or_true, Bool.and_false, Bool.false_or, Bool.and_self, Bool.false_and, Bool.not_false, Bool.not_true, List.any_cons, List.any_nil, atI_0, setI_0, atI_1, setI_1, atI_2, setI_2, atI_3, setI_3, atI_4, setI_4, atI_5, setI_5, atI_6, setI_6, tAsg, gName, tOp, tUn, tVar, tC, tCons, L2.tNil, tRet, tIfS, tTest, tCB, tCall, rI, rI0, rU, tNext, tB, tAnd, tOr, tNot, tAndV, tOrV, tNotV, tDrop, tIf, tPar, gSub, rIxL, rIxT, rEq, rNe, rSetL, tBits,
    L2.start, List.map_cons, List.map_nil, List.cons_append, List.nil_append, List.append_nil, List.length_cons, List.length_nil, List.replicate, Nat.reduceAdd, Nat.reduceSub, Nat.zero_add, List.getElem?_cons_zero, List.getElem?_cons_succ, List.set_cons_zero, List.set_cons_succ,
    Option.some.injEq, exists_eq_left', exists_eq_left, V.int.injEq, V.bl.injEq, V.ref.injEq, V.str.injEq, List.cons.injEq, reduceCtorEq, and_true, true_and, false_and, and_false, exists_false, or_false, false_or, or_true, true_or, exists_const, CMul, CDiv, CPow, and_assoc, exists_and_left, exists_and_right, Int.reducePow, Int.reduceNeg, Int.reduceLT, Int.reduceLE, Nat.reducePow, Nat.reduceLT, Int.reduceToNat, gt_iff_lt, ge_iff_le, decide_eq_true_eq, Bool.not_eq_true', decide_eq_false_iff_not, scal, ↓reduceIte, Bool.false_eq_true]
      exact k H (Same.refl H)
    | bl b =>
      simp only [cx_K, decide_true, decide_false, reduceCtorEq, gTp, gCons, gNil, ca_0, ca_1, ca_2, ca_3, ca_4, ca_5, ca_6, ca_7, ca_8, ca_9, ca_10, ca_11, ca_12, ca_13, ca_14, ca_15, ca_16, ca_17, ca_18, ca_19, ca_20, ca_21, ca_22, ca_23, ca_24, ca_25, ca_26, ca_27, ca_28, ca_29, ca_30, not_true_eq_false, not_false_eq_true, Int.reduceEq, Nat.reduceEqDiff, Nat.reduceLeDiff, rGcd, V.ty.injEq, eq_self, List.not_mem_nil, beq_self_eq_true, HO.lst.injEq, HO.tup.injEq, tFor_eq, iRng1, iList, iTup, nat10, tSeq, rIxA, rSetA, rIsN, rIsT, tTp, tLs, itsO_tup, itsO_lst, tyO_tup, tyO_lst, tyO_dK, tyN_non, tyN_bl, tyN_int, tyN_str, tyN_ref, tyNs_lt, isB, upd_same, upd_upd, sizeLine_eq, List.mem_cons, String.reduceBEq, String.reduceEq, Bool.or_false, Bool.or_true, Bool.and_false, Bool.false_or, Bool.and_self, Bool.false_and, Bool.not_false, Bool.not_true, List.any_cons, List.any_nil, atI_0, setI_0, atI_1, setI_1, atI_2, setI_2, atI_3, setI_3, atI_4, setI_4, atI_5, setI_5, atI_6, setI_6, tAsg, gName, tOp, tUn, tVar, tC, tCons, L2.tNil, tRet, tIfS, tTest, tCB, tCall, rI, rI0, rU, tNext, tB, tAnd, tOr, tNot, tAndV, tOrV, tNotV, tDrop, tIf, tPar, gSub, rIxL, rIxT, rEq, rNe, rSetL, tBits,
    L2.start, List.map_cons, List.map_nil, List.cons_append, List.nil_append, List.append_nil, List.length_cons, List.length_nil, List.replicate, Nat.reduceAdd, Nat.reduceSub, Nat.zero_add, List.getElem?_cons_zero, List.getElem?_cons_succ, List.set_cons_zero, List.set_cons_succ,
    Option.some.injEq, exists_eq_left', exists_eq_left, V.int.injEq, V.bl.injEq, V.ref.injEq, V.str.injEq, List.cons.injEq, reduceCtorEq, and_true, true_and, false_and, and_false, exists_false, or_false, false_or, or_true, true_or, exists_const, CMul, CDiv, CPow, and_assoc, exists_and_left, exists_and_right, Int.reducePow, Int.reduceNeg, Int.reduceLT, Int.reduceLE, Nat.reducePow, Nat.reduceLT, Int.reduceToNat, gt_iff_lt, ge_iff_le, decide_eq_true_eq, Bool.not_eq_true', decide_eq_false_iff_not, scal, ↓reduceIte, Bool.false_eq_true]
      exact k H (Same.refl H)
    | int i =>
      simp only [cx_K, decide_true, decide_false, reduceCtorEq, gTp, gCons, gNil, ca_0, ca_1, ca_2, ca_3, ca_4, ca_5, ca_6, ca_7, ca_8, ca_9, ca_10, ca_11, ca_12, ca_13, ca_14, ca_15, ca_16, ca_17, ca_18, ca_19, ca_20, ca_21, ca_22, ca_23, ca_24, ca_25, ca_26, ca_27, ca_28, ca_29, ca_30, not_true_eq_false, not_false_eq_true, Int.reduceEq, Nat.reduceEqDiff, Nat.reduceLeDiff, rGcd, V.ty.injEq, eq_self, List.not_mem_nil, beq_self_eq_true, HO.lst.injEq, HO.tup.injEq, tFor_eq, iRng1, iList, iTup, nat10, tSeq, rIxA, rSetA, rIsN, rIsT, tTp, tLs, itsO_tup, itsO_lst, tyO_tup, tyO_lst, tyO_dK, tyN_non, tyN_bl, tyN_int, tyN_str, tyN_ref, tyNs_lt, isB, upd_same, upd_upd, sizeLine_eq, List.mem_cons, String.reduceBEq, String.reduceEq, Bool.or_false, Bool.or_true, Bool.and_false, Bool.false_or, Bool.and_self, Bool.false_and, Bool.not_false, Bool.not_true, List.any_cons, List.any_nil, atI_0, setI_0, atI_1, setI_1, atI_2, setI_2, atI_3, setI_3, atI_4, setI_4, atI_5, setI_5, atI_6, setI_6, tAsg, gName, tOp, tUn, tVar, tC, tCons, L2.tNil, tRet, tIfS, tTest, tCB, tCall, rI, rI0, rU, tNext, tB, tAnd, tOr, tNot, tAndV, tOrV, tNotV, tDrop, tIf, tPar, gSub, rIxL, rIxT, rEq, rNe, rSetL, tBits,
    L2.start, List.map_cons, List.map_nil, List.cons_append, List.nil_append, List.append_nil, List.length_cons, List.length_nil, List.replicate, Nat.reduceAdd, Nat.reduceSub, Nat.zero_add, List.getElem?_cons_zero, List.getElem?_cons_succ, List.set_cons_zero, List.set_cons_succ,
    Option.some.injEq, exists_eq_left', exists_eq_left, V.int.injEq, V.bl.injEq, V.ref.injEq, V.str.injEq, List.cons.injEq, reduceCtorEq, and_true, true_and, false_and, and_false, exists_false, or_false, false_or, or_true, true_or, exists_const, CMul, CDiv, CPow, and_assoc, exists_and_left, exists_and_right, Int.reducePow, Int.reduceNeg, Int.reduceLT, Int.reduceLE, Nat.reducePow, Nat.reduceLT, Int.reduceToNat, gt_iff_lt, ge_iff_le, decide_eq_true_eq, Bool.not_eq_true', decide_eq_false_iff_not, scal, ↓reduceIte, Bool.false_eq_true]
      exact ⟨_, rfl, rfl, true, rfl, k H (Same.refl H)⟩
    | str z =>
      simp only [cx_K, decide_true, decide_false, reduceCtorEq, gTp, gCons, gNil, ca_0, ca_1, ca_2, ca_3, ca_4, ca_5, ca_6, ca_7, ca_8, ca_9, ca_10, ca_11, ca_12, ca_13, ca_14, ca_15, ca_16, ca_17, ca_18, ca_19, ca_20, ca_21, ca_22, ca_23, ca_24, ca_25, ca_26, ca_27, ca_28, ca_29, ca_30, not_true_eq_false, not_false_eq_true, Int.reduceEq, Nat.reduceEqDiff, Nat.reduceLeDiff, rGcd, V.ty.injEq, eq_self, List.not_mem_nil, beq_self_eq_true, HO.lst.injEq, HO.tup.injEq, tFor_eq, iRng1, iList, iTup, nat10, tSeq, rIxA, rSetA, rIsN, rIsT, tTp, tLs, itsO_tup, itsO_lst, tyO_tup, tyO_lst, tyO_dK, tyN_non, tyN_bl, tyN_int, tyN_str, tyN_ref, tyNs_lt, isB, upd_same, upd_upd, sizeLine_eq, List.mem_cons, String.reduceBEq, String.reduceEq, Bool.or_false, Bool.or_true, Bool.and_false, Bool.false_or, Bool.and_self, Bool.false_and, Bool.not_false, Bool.not_true, List.any_cons, List.any_nil, atI_0, setI_0, atI_1, setI_1, atI_2, setI_2, atI_3, setI_3, atI_4, setI_4, atI_5, setI_5, atI_6, setI_6, tAsg, gName, tOp, tUn, tVar, tC, tCons, L2.tNil, tRet, tIfS, tTest, tCB, tCall, rI, rI0, rU, tNext, tB, tAnd, tOr, tNot, tAndV, tOrV, tNotV, tDrop, tIf, tPar, gSub, rIxL, rIxT, rEq, rNe, rSetL, tBits,
    L2.start, List.map_cons, List.map_nil, List.cons_append, List.nil_append, List.append_nil, List.length_cons, List.length_nil, List.replicate, Nat.reduceAdd, Nat.reduceSub, Nat.zero_add, List.getElem?_cons_zero, List.getElem?_cons_succ, List.set_cons_zero, List.set_cons_succ,
    Option.some.injEq, exists_eq_left', exists_eq_left, V.int.injEq, V.bl.injEq, V.ref.injEq, V.str.injEq, List.cons.injEq, reduceCtorEq, and_true, true_and, false_and, and_false, exists_false, or_false, false_or, or_true, true_or, exists_const, CMul, CDiv, CPow, and_assoc, exists_and_left, exists_and_right, Int.reducePow, Int.reduceNeg, Int.reduceLT, Int.reduceLE, Nat.reducePow, Nat.reduceLT, Int.reduceToNat, gt_iff_lt, ge_iff_le, decide_eq_true_eq, Bool.not_eq_true', decide_eq_false_iff_not, scal, ↓reduceIte, Bool.false_eq_true]
      exact k H (Same.refl H)
    | _ => cases hsc
  rcases ho with ⟨oa, oc⟩ | ⟨oa, oc⟩
  · simp only [oa, oc, cx_K, decide_true, decide_false, reduceCtorEq, gTp, gCons, gNil, ca_0, ca_1, ca_2, ca_3, ca_4, ca_5, ca_6, ca_7, ca_8, ca_9, ca_10, ca_11, ca_12, ca_13, ca_14, ca_15, ca_16, ca_17, ca_18, ca_19, ca_20, ca_21, ca_22, ca_23, ca_24, ca_25, ca_26, ca_27, ca_28, ca_29, ca_30, not_true_eq_false, not_false_eq_true, Int.reduceEq, Nat.reduceEqDiff, Nat.reduceLeDiff, rGcd, V.ty.injEq, eq_self, List.not_mem_nil, beq_self_eq_true, HO.lst.injEq, HO.tup.injEq, tFor_eq, iRng1, iList, iTup, nat10, tSeq, rIxA, rSetA, rIsN, rIsT, tTp, tLs, itsO_tup, itsO_lst, tyO_tup, tyO_lst, tyO_dK, tyN_non, tyN_bl, tyN_int, tyN_str, tyN_ref, tyNs_lt, isB, upd_same, upd_upd, sizeLine_eq, List.mem_cons, String.reduceBEq, String.reduceEq, Bool.or_false, Bool.or_true, Bool.and_false, Bool.false_or, Bool.and_self, Bool.false_and, Bool.not_false, Bool.not_true, List.any_cons, List.any_nil, atI_0, setI_0, atI_1, setI_1, atI_2, setI_2, atI_3, setI_3, atI_4, setI_4, atI_5, setI_5, atI_6, setI_6, tAsg, gName, tOp, tUn, tVar, tC, tCons, L2.tNil, tRet, tIfS, tTest, tCB, tCall, rI, rI0, rU, tNext, tB, tAnd, tOr, tNot, tAndV, tOrV, tNotV, tDrop, tIf, tPar, gSub, rIxL, rIxT, rEq, rNe, rSetL, tBits,
    L2.start, List.map_cons, List.map_nil, List.cons_append, List.nil_append, List.append_nil, List.length_cons, List.length_nil, List.replicate, Nat.reduceAdd, Nat.reduceSub, Nat.zero_add, List.getElem?_cons_zero, List.getElem?_cons_succ, List.set_cons_zero, List.set_cons_succ,
    Option.some.injEq, exists_eq_left', exists_eq_left, V.int.injEq, V.bl.injEq, V.ref.injEq, V.str.injEq, List.cons.injEq, reduceCtorEq, and_true, true_and, false_and, and_false, exists_false, or_false, false_or, or_true, true_or, exists_const, CMul, CDiv, CPow, and_assoc, exists_and_left, exists_and_right, Int.reducePow, Int.reduceNeg, Int.reduceLT, Int.reduceLE, Nat.reducePow, Nat.reduceLT, Int.reduceToNat, gt_iff_lt, ge_iff_le, decide_eq_true_eq, Bool.not_eq_true', decide_eq_false_iff_not, scal, ↓reduceIte, Bool.false_eq_true]
    intro p hp kp
    have s1 := Same.new hp (.tup [V.ty "list", V.ty "tuple"])
    generalize upd H p (.tup [V.ty "list", V.ty "tuple"]) = H1 at s1 ⊢
    have oa1 := ob_same s1 oa
    have oc1 := ob_same s1 oc
    simp only [oa1, oc1, cx_K, decide_true, decide_false, reduceCtorEq, gTp, gCons, gNil, ca_0, ca_1, ca_2, ca_3, ca_4, ca_5, ca_6, ca_7, ca_8, ca_9, ca_10, ca_11, ca_12, ca_13, ca_14, ca_15, ca_16, ca_17, ca_18, ca_19, ca_20, ca_21, ca_22, ca_23, ca_24, ca_25, ca_26, ca_27, ca_28, ca_29, ca_30, not_true_eq_false, not_false_eq_true, Int.reduceEq, Nat.reduceEqDiff, Nat.reduceLeDiff, rGcd, V.ty.injEq, eq_self, List.not_mem_nil, beq_self_eq_true, HO.lst.injEq, HO.tup.injEq, tFor_eq, iRng1, iList, iTup, nat10, tSeq, rIxA, rSetA, rIsN, rIsT, tTp, tLs, itsO_tup, itsO_lst, tyO_tup, tyO_lst, tyO_dK, tyN_non, tyN_bl, tyN_int, tyN_str, tyN_ref, tyNs_lt, isB, upd_same, upd_upd, sizeLine_eq, List.mem_cons, String.reduceBEq, String.reduceEq, Bool.or_false, Bool.or_true, Bool.and_false, Bool.false_or, Bool.and_self, Bool.false_and, Bool.not_false, Bool.not_true, List.any_cons, List.any_nil, atI_0, setI_0, atI_1, setI_1, atI_2, setI_2, atI_3, setI_3, atI_4, setI_4, atI_5, setI_5, atI_6, setI_6, tAsg, gName, tOp, tUn, tVar, tC, tCons, L2.tNil, tRet, tIfS, tTest, tCB, tCall, rI, rI0, rU, tNext, tB, tAnd, tOr, tNot, tAndV, tOrV, tNotV, tDrop, tIf, tPar, gSub, rIxL, rIxT, rEq, rNe, rSetL, tBits,
    L2.start, List.map_cons, List.map_nil, List.cons_append, List.nil_append, List.append_nil, List.length_cons, List.length_nil, List.replicate, Nat.reduceAdd, Nat.reduceSub, Nat.zero_add, List.getElem?_cons_zero, List.getElem?_cons_succ, List.set_cons_zero, List.set_cons_succ,
    Option.some.injEq, exists_eq_left', exists_eq_left, V.int.injEq, V.bl.injEq, V.ref.injEq, V.str.injEq, List.cons.injEq, reduceCtorEq, and_true, true_and, false_and, and_false, exists_false, or_false, false_or, or_true, true_or, exists_const, CMul, CDiv, CPow, and_assoc, exists_and_left, exists_and_right, Int.reducePow, Int.reduceNeg, Int.reduceLT, Int.reduceLE, Nat.reducePow, Nat.reduceLT, Int.reduceToNat, gt_iff_lt, ge_iff_le, decide_eq_true_eq, Bool.not_eq_true', decide_eq_false_iff_not, scal, ↓reduceIte, Bool.false_eq_true]
    rw [if_neg (show ¬ ¬ ((xs.length : Int) = (ys.length : Int)) by omega)]
    refine ⟨by omega, by omega, forI_range (SameI H a b) ⟨none, rfl, s1⟩ ?_ ?_⟩
    · rintro i σ H' hlt ⟨z, rfl, s2⟩
      have hx : i < xs.length := by omega
      have hy : i < ys.length := by omega
      have oa2 := ob_same s2 oa
      have oc2 := ob_same s2 oc
      have ex : atI xs (0 + (i : Int)) = some xs[i] := by rw [Int.zero_add]; exact atI_nat (List.getElem?_eq_getElem hx)
      have ey : atI ys (0 + (i : Int)) = some ys[i] := by rw [Int.zero_add]; exact atI_nat (List.getElem?_eq_getElem hy)
      simp only [oa2, oc2, ex, ey, cx_K, decide_true, decide_false, reduceCtorEq, gTp, gCons, gNil, ca_0, ca_1, ca_2, ca_3, ca_4, ca_5, ca_6, ca_7, ca_8, ca_9, ca_10, ca_11, ca_12, ca_13, ca_14, ca_15, ca_16, ca_17, ca_18, ca_19, ca_20, ca_21, ca_22, ca_23, ca_24, ca_25, ca_26, ca_27, ca_28, ca_29, ca_30, not_true_eq_false, not_false_eq_true, Int.reduceEq, Nat.reduceEqDiff, Nat.reduceLeDiff, rGcd, V.ty.injEq, eq_self, List.not_mem_nil, beq_self_eq_true, HO.lst.injEq, HO.tup.injEq, tFor_eq, iRng1, iList, iTup, nat10, tSeq, rIxA, rSetA, rIsN, rIsT, tTp, tLs, itsO_tup, itsO_lst, tyO_tup, tyO_lst, tyO_dK, tyN_non, tyN_bl, tyN_int, tyN_str, tyN_ref, tyNs_lt, isB, upd_same, upd_upd, sizeLine_eq, List.mem_cons, String.reduceBEq, String.reduceEq, Bool.or_false, Bool.or_true, Bool.and_false, Bool.false_or, Bool.and_self, Bool.false_and, Bool.not_false, Bool.not_true, List.any_cons, List.any_nil, atI_0, setI_0, atI_1, setI_1, atI_2, setI_2, atI_3, setI_3, atI_4, setI_4, atI_5, setI_5, atI_6, setI_6, tAsg, gName, tOp, tUn, tVar, tC, tCons, L2.tNil, tRet, tIfS, tTest, tCB, tCall, rI, rI0, rU, tNext, tB, tAnd, tOr, tNot, tAndV, tOrV, tNotV, tDrop, tIf, tPar, gSub, rIxL, rIxT, rEq, rNe, rSetL, tBits,
    L2.start, List.map_cons, List.map_nil, List.cons_append, List.nil_append, List.append_nil, List.length_cons, List.length_nil, List.replicate, Nat.reduceAdd, Nat.reduceSub, Nat.zero_add, List.getElem?_cons_zero, List.getElem?_cons_succ, List.set_cons_zero, List.set_cons_succ,
    Option.some.injEq, exists_eq_left', exists_eq_left, V.int.injEq, V.bl.injEq, V.ref.injEq, V.str.injEq, List.cons.injEq, reduceCtorEq, and_true, true_and, false_and, and_false, exists_false, or_false, false_or, or_true, true_or, exists_const, CMul, CDiv, CPow, and_assoc, exists_and_left, exists_and_right, Int.reducePow, Int.reduceNeg, Int.reduceLT, Int.reduceLE, Nat.reducePow, Nat.reduceLT, Int.reduceToNat, gt_iff_lt, ge_iff_le, decide_eq_true_eq, Bool.not_eq_true', decide_eq_false_iff_not, scal, ↓reduceIte, Bool.false_eq_true]
      refine ⟨_, _, rfl, (hi i _ _ (List.getElem?_eq_getElem hx) (List.getElem?_eq_getElem hy)).same s2, fun H2 s3 => ⟨true, rfl, ?_⟩⟩
      rw [if_neg Bool.noConfusion]
      exact ⟨_, rfl, s2.trans s3⟩
    · rintro σ H' ⟨z, rfl, s2⟩
      simp only [cx_K, decide_true, decide_false, reduceCtorEq, gTp, gCons, gNil, ca_0, ca_1, ca_2, ca_3, ca_4, ca_5, ca_6, ca_7, ca_8, ca_9, ca_10, ca_11, ca_12, ca_13, ca_14, ca_15, ca_16, ca_17, ca_18, ca_19, ca_20, ca_21, ca_22, ca_23, ca_24, ca_25, ca_26, ca_27, ca_28, ca_29, ca_30, not_true_eq_false, not_false_eq_true, Int.reduceEq, Nat.reduceEqDiff, Nat.reduceLeDiff, rGcd, V.ty.injEq, eq_self, List.not_mem_nil, beq_self_eq_true, HO.lst.injEq, HO.tup.injEq, tFor_eq, iRng1, iList, iTup, nat10, tSeq, rIxA, rSetA, rIsN, rIsT, tTp, tLs, itsO_tup, itsO_lst, tyO_tup, tyO_lst, tyO_dK, tyN_non, tyN_bl, tyN_int, tyN_str, tyN_ref, tyNs_lt, isB, upd_same, upd_upd, sizeLine_eq, List.mem_cons, String.reduceBEq, String.reduceEq, Bool.or_false, Bool.or_true, Bool.and_false, Bool.false_or, Bool.and_self, Bool.false_and, Bool.not_false, Bool.not_true, List.any_cons, List.any_nil, atI_0, setI_0, atI_1, setI_1, atI_2, setI_2, atI_3, setI_3, atI_4, setI_4, atI_5, setI_5, atI_6, setI_6, tAsg, gName, tOp, tUn, tVar, tC, tCons, L2.tNil, tRet, tIfS, tTest, tCB, tCall, rI, rI0, rU, tNext, tB, tAnd, tOr, tNot, tAndV, tOrV, tNotV, tDrop, tIf, tPar, gSub, rIxL, rIxT, rEq, rNe, rSetL, tBits,
    L2.start, List.map_cons, List.map_nil, List.cons_append, List.nil_append, List.append_nil, List.length_cons, List.length_nil, List.replicate, Nat.reduceAdd, Nat.reduceSub, Nat.zero_add, List.getElem?_cons_zero, List.getElem?_cons_succ, List.set_cons_zero, List.set_cons_succ,
    Option.some.injEq, exists_eq_left', exists_eq_left, V.int.injEq, V.bl.injEq, V.ref.injEq, V.str.injEq, List.cons.injEq, reduceCtorEq, and_true, true_and, false_and, and_false, exists_false, or_false, false_or, or_true, true_or, exists_const, CMul, CDiv, CPow, and_assoc, exists_and_left, exists_and_right, Int.reducePow, Int.reduceNeg, Int.reduceLT, Int.reduceLE, Nat.reducePow, Nat.reduceLT, Int.reduceToNat, gt_iff_lt, ge_iff_le, decide_eq_true_eq, Bool.not_eq_true', decide_eq_false_iff_not, scal, ↓reduceIte, Bool.false_eq_true]
      exact k H' s2
  · simp only [oa, oc, cx_K, decide_true, decide_false, reduceCtorEq, gTp, gCons, gNil, ca_0, ca_1, ca_2, ca_3, ca_4, ca_5, ca_6, ca_7, ca_8, ca_9, ca_10, ca_11, ca_12, ca_13, ca_14, ca_15, ca_16, ca_17, ca_18, ca_19, ca_20, ca_21, ca_22, ca_23, ca_24, ca_25, ca_26, ca_27, ca_28, ca_29, ca_30, not_true_eq_false, not_false_eq_true, Int.reduceEq, Nat.reduceEqDiff, Nat.reduceLeDiff, rGcd, V.ty.injEq, eq_self, List.not_mem_nil, beq_self_eq_true, HO.lst.injEq, HO.tup.injEq, tFor_eq, iRng1, iList, iTup, nat10, tSeq, rIxA, rSetA, rIsN, rIsT, tTp, tLs, itsO_tup, itsO_lst, tyO_tup, tyO_lst, tyO_dK, tyN_non, tyN_bl, tyN_int, tyN_str, tyN_ref, tyNs_lt, isB, upd_same, upd_upd, sizeLine_eq, List.mem_cons, String.reduceBEq, String.reduceEq, Bool.or_false, Bool.or_true, Bool.and_false, Bool.false_or, Bool.and_self, Bool.false_and, Bool.not_false, Bool.not_true, List.any_cons, List.any_nil, atI_0, setI_0, atI_1, setI_1, atI_2, setI_2, atI_3, setI_3, atI_4, setI_4, atI_5, setI_5, atI_6, setI_6, tAsg, gName, tOp, tUn, tVar, tC, tCons, L2.tNil, tRet, tIfS, tTest, tCB, tCall, rI, rI0, rU, tNext, tB, tAnd, tOr, tNot, tAndV, tOrV, tNotV, tDrop, tIf, tPar, gSub, rIxL, rIxT, rEq, rNe, rSetL, tBits,
    L2.start, List.map_cons, List.map_nil, List.cons_append, List.nil_append, List.append_nil, List.length_cons, List.length_nil, List.replicate, Nat.reduceAdd, Nat.reduceSub, Nat.zero_add, List.getElem?_cons_zero, List.getElem?_cons_succ, List.set_cons_zero, List.set_cons_succ,
    Option.some.injEq, exists_eq_left', exists_eq_left, V.int.injEq, V.bl.injEq, V.ref.injEq, V.str.injEq, List.cons.injEq, reduceCtorEq, and_true, true_and, false_and, and_false, exists_false, or_false, false_or, or_true, true_or, exists_const, CMul, CDiv, CPow, and_assoc, exists_and_left, exists_and_right, Int.reducePow, Int.reduceNeg, Int.reduceLT, Int.reduceLE, Nat.reducePow, Nat.reduceLT, Int.reduceToNat, gt_iff_lt, ge_iff_le, decide_eq_true_eq, Bool.not_eq_true', decide_eq_false_iff_not, scal, ↓reduceIte, Bool.false_eq_true]
    intro p hp kp
    have s1 := Same.new hp (.tup [V.ty "list", V.ty "tuple"])
    generalize upd H p (.tup [V.ty "list", V.ty "tuple"]) = H1 at s1 ⊢
    have oa1 := ob_same s1 oa
    have oc1 := ob_same s1 oc
    simp only [oa1, oc1, cx_K, decide_true, decide_false, reduceCtorEq, gTp, gCons, gNil, ca_0, ca_1, ca_2, ca_3, ca_4, ca_5, ca_6, ca_7, ca_8, ca_9, ca_10, ca_11, ca_12, ca_13, ca_14, ca_15, ca_16, ca_17, ca_18, ca_19, ca_20, ca_21, ca_22, ca_23, ca_24, ca_25, ca_26, ca_27, ca_28, ca_29, ca_30, not_true_eq_false, not_false_eq_true, Int.reduceEq, Nat.reduceEqDiff, Nat.reduceLeDiff, rGcd, V.ty.injEq, eq_self, List.not_mem_nil, beq_self_eq_true, HO.lst.injEq, HO.tup.injEq, tFor_eq, iRng1, iList, iTup, nat10, tSeq, rIxA, rSetA, rIsN, rIsT, tTp, tLs, itsO_tup, itsO_lst, tyO_tup, tyO_lst, tyO_dK, tyN_non, tyN_bl, tyN_int, tyN_str, tyN_ref, tyNs_lt, isB, upd_same, upd_upd, sizeLine_eq, List.mem_cons, String.reduceBEq, String.reduceEq, Bool.or_false, Bool.or_true, Bool.and_false, Bool.false_or, Bool.and_self, Bool.false_and, Bool.not_false, Bool.not_true, List.any_cons, List.any_nil, atI_0, setI_0, atI_1, setI_1, atI_2, setI_2, atI_3, setI_3, atI_4, setI_4, atI_5, setI_5, atI_6, setI_6, tAsg, gName, tOp, tUn, tVar, tC, tCons, L2.tNil, tRet, tIfS, tTest, tCB, tCall, rI, rI0, rU, tNext, tB, tAnd, tOr, tNot, tAndV, tOrV, tNotV, tDrop, tIf, tPar, gSub, rIxL, rIxT, rEq, rNe, rSetL, tBits,
    L2.start, List.map_cons, List.map_nil, List.cons_append, List.nil_append, List.append_nil, List.length_cons, List.length_nil, List.replicate, Nat.reduceAdd, Nat.reduceSub, Nat.zero_add, List.getElem?_cons_zero, List.getElem?_cons_succ, List.set_cons_zero, List.set_cons_succ,
    Option.some.injEq, exists_eq_left', exists_eq_left, V.int.injEq, V.bl.injEq, V.ref.injEq, V.str.injEq, List.cons.injEq, reduceCtorEq, and_true, true_and, false_and, and_false, exists_false, or_false, false_or, or_true, true_or, exists_const, CMul, CDiv, CPow, and_assoc, exists_and_left, exists_and_right, Int.reducePow, Int.reduceNeg, Int.reduceLT, Int.reduceLE, Nat.reducePow, Nat.reduceLT, Int.reduceToNat, gt_iff_lt, ge_iff_le, decide_eq_true_eq, Bool.not_eq_true', decide_eq_false_iff_not, scal, ↓reduceIte, Bool.false_eq_true]
    rw [if_neg (show ¬ ¬ ((xs.length : Int) = (ys.length : Int)) by omega)]
    refine ⟨by omega, by omega, forI_range (SameI H a b) ⟨none, rfl, s1⟩ ?_ ?_⟩
    · rintro i σ H' hlt ⟨z, rfl, s2⟩
      have hx : i < xs.length := by omega
      have hy : i < ys.length := by omega
      have oa2 := ob_same s2 oa
      have oc2 := ob_same s2 oc
      have ex : atI xs (0 + (i : Int)) = some xs[i] := by rw [Int.zero_add]; exact atI_nat (List.getElem?_eq_getElem hx)
      have ey : atI ys (0 + (i : Int)) = some ys[i] := by rw [Int.zero_add]; exact atI_nat (List.getElem?_eq_getElem hy)
      simp only [oa2, oc2, ex, ey, cx_K, decide_true, decide_false, reduceCtorEq, gTp, gCons, gNil, ca_0, ca_1, ca_2, ca_3, ca_4, ca_5, ca_6, ca_7, ca_8, ca_9, ca_10, ca_11, ca_12, ca_13, ca_14, ca_15, ca_16, ca_17, ca_18, ca_19, ca_20, ca_21, ca_22, ca_23, ca_24, ca_25, ca_26, ca_27, ca_28, ca_29, ca_30, not_true_eq_false, not_false_eq_true, Int.reduceEq, Nat.reduceEqDiff, Nat.reduceLeDiff, rGcd, V.ty.injEq, eq_self, List.not_mem_nil, beq_self_eq_true, HO.lst.injEq, HO.tup.injEq, tFor_eq, iRng1, iList, iTup, nat10, tSeq, rIxA, rSetA, rIsN, rIsT, tTp, tLs, itsO_tup, itsO_lst, tyO_tup, tyO_lst, tyO_dK, tyN_non, tyN_bl, tyN_int, tyN_str, tyN_ref, tyNs_lt, isB, upd_same, upd_upd, sizeLine_eq, List.mem_cons, String.reduceBEq, String.reduceEq, Bool.or_false, Bool.or_true, Bool.and_false, Bool.false_or, Bool.and_self, Bool.false_and, Bool.not_false, Bool.not_true, List.any_cons, List.any_nil, atI_0, setI_0, atI_1, setI_1, atI_2, setI_2, atI_3, setI_3, atI_4, setI_4, atI_5, setI_5, atI_6, setI_6, tAsg, gName, tOp, tUn, tVar, tC, tCons, L2.tNil, tRet, tIfS, tTest, tCB, tCall, rI, rI0, rU, tNext, tB, tAnd, tOr, tNot, tAndV, tOrV, tNotV, tDrop, tIf, tPar, gSub, rIxL, rIxT, rEq, rNe, rSetL, tBits,
    L2.start, List.map_cons, List.map_nil, List.cons_append, List.nil_append, List.append_nil, List.length_cons, List.length_nil, List.replicate, Nat.reduceAdd, Nat.reduceSub, Nat.zero_add, List.getElem?_cons_zero, List.getElem?_cons_succ, List.set_cons_zero, List.set_cons_succ,
    Option.some.injEq, exists_eq_left', exists_eq_left, V.int.injEq, V.bl.injEq, V.ref.injEq, V.str.injEq, List.cons.injEq, reduceCtorEq, and_true, true_and, false_and, and_false, exists_false, or_false, false_or, or_true, true_or, exists_const, CMul, CDiv, CPow, and_assoc, exists_and_left, exists_and_right, Int.reducePow, Int.reduceNeg, Int.reduceLT, Int.reduceLE, Nat.reducePow, Nat.reduceLT, Int.reduceToNat, gt_iff_lt, ge_iff_le, decide_eq_true_eq, Bool.not_eq_true', decide_eq_false_iff_not, scal, ↓reduceIte, Bool.false_eq_true]
      refine ⟨_, _, rfl, (hi i _ _ (List.getElem?_eq_getElem hx) (List.getElem?_eq_getElem hy)).same s2, fun H2 s3 => ⟨true, rfl, ?_⟩⟩
      rw [if_neg Bool.noConfusion]
      exact ⟨_, rfl, s2.trans s3⟩
    · rintro σ H' ⟨z, rfl, s2⟩
      simp only [cx_K, decide_true, decide_false, reduceCtorEq, gTp, gCons, gNil, ca_0, ca_1, ca_2, ca_3, ca_4, ca_5, ca_6, ca_7, ca_8, ca_9, ca_10, ca_11, ca_12, ca_13, ca_14, ca_15, ca_16, ca_17, ca_18, ca_19, ca_20, ca_21, ca_22, ca_23, ca_24, ca_25, ca_26, ca_27, ca_28, ca_29, ca_30, not_true_eq_false, not_false_eq_true, Int.reduceEq, Nat.reduceEqDiff, Nat.reduceLeDiff, rGcd, V.ty.injEq, eq_self, List.not_mem_nil, beq_self_eq_true, HO.lst.injEq, HO.tup.injEq, tFor_eq, iRng1, iList, iTup, nat10, tSeq, rIxA, rSetA, rIsN, rIsT, tTp, tLs, itsO_tup, itsO_lst, tyO_tup, tyO_lst, tyO_dK, tyN_non, tyN_bl, tyN_int, tyN_str, tyN_ref, tyNs_lt, isB, upd_same, upd_upd, sizeLine_eq, List.mem_cons, String.reduceBEq, String.reduceEq, Bool.or_false, Bool.or_true, Bool.and_false, Bool.false_or, Bool.and_self, Bool.false_and, Bool.not_false, Bool.not_true, List.any_cons, List.any_nil, atI_0, setI_0, atI_1, setI_1, atI_2, setI_2, atI_3, setI_3, atI_4, setI_4, atI_5, setI_5, atI_6, setI_6, tAsg, gName, tOp, tUn, tVar, tC, tCons, L2.tNil, tRet, tIfS, tTest, tCB, tCall, rI, rI0, rU, tNext, tB, tAnd, tOr, tNot, tAndV, tOrV, tNotV, tDrop, tIf, tPar, gSub, rIxL, rIxT, rEq, rNe, rSetL, tBits,
    L2.start, List.map_cons, List.map_nil, List.cons_append, List.nil_append, List.append_nil, List.length_cons, List.length_nil, List.replicate, Nat.reduceAdd, Nat.reduceSub, Nat.zero_add, List.getElem?_cons_zero, List.getElem?_cons_succ, List.set_cons_zero, List.set_cons_succ,
    Option.some.injEq, exists_eq_left', exists_eq_left, V.int.injEq, V.bl.injEq, V.ref.injEq, V.str.injEq, List.cons.injEq, reduceCtorEq, and_true, true_and, false_and, and_false, exists_false, or_false, false_or, or_true, true_or, exists_const, CMul, CDiv, CPow, and_assoc, exists_and_left, exists_and_right, Int.reducePow, Int.reduceNeg, Int.reduceLT, Int.reduceLE, Nat.reducePow, Nat.reduceLT, Int.reduceToNat, gt_iff_lt, ge_iff_le, decide_eq_true_eq, Bool.not_eq_true', decide_eq_false_iff_not, scal, ↓reduceIte, Bool.false_eq_true]
      exact k H' s2
  · simp only [oa, oc, cx_K, decide_true, decide_false, reduceCtorEq, gTp, gCons, gNil, ca_0, ca_1, ca_2, ca_3, ca_4, ca_5, ca_6, ca_7, ca_8, ca_9, ca_10, ca_11, ca_12, ca_13, ca_14, ca_15, ca_16, ca_17, ca_18, ca_19, ca_20, ca_21, ca_22, ca_23, ca_24, ca_25, ca_26, ca_27, ca_28, ca_29, ca_30, not_true_eq_false, not_false_eq_true, Int.reduceEq, Nat.reduceEqDiff, Nat.reduceLeDiff, rGcd, V.ty.injEq, eq_self, List.not_mem_nil, beq_self_eq_true, HO.lst.injEq, HO.tup.injEq, tFor_eq, iRng1, iList, iTup, nat10, tSeq, rIxA, rSetA, rIsN, rIsT, tTp, tLs, itsO_tup, itsO_lst, tyO_tup, tyO_lst, tyO_dK, tyN_non, tyN_bl, tyN_int, tyN_str, tyN_ref, tyNs_lt, isB, upd_same, upd_upd, sizeLine_eq, List.mem_cons, String.reduceBEq, String.reduceEq, Bool.or_false, Bool.or_true, Bool.and_false, Bool.false_or, Bool.and_self, Bool.false_and, Bool.not_false, Bool.not_true, List.any_cons, List.any_nil, atI_0, setI_0, atI_1, setI_1, atI_2, setI_2, atI_3, setI_3, atI_4, setI_4, atI_5, setI_5, atI_6, setI_6, tAsg, gName, tOp, tUn, tVar, tC, tCons, L2.tNil, tRet, tIfS, tTest, tCB, tCall, rI, rI0, rU, tNext, tB, tAnd, tOr, tNot, tAndV, tOrV, tNotV, tDrop, tIf, tPar, gSub, rIxL, rIxT, rEq, rNe, rSetL, tBits,
    L2.start, List.map_cons, List.map_nil, List.cons_append, List.nil_append, List.append_nil, List.length_cons, List.length_nil, List.replicate, Nat.reduceAdd, Nat.reduceSub, Nat.zero_add, List.getElem?_cons_zero, List.getElem?_cons_succ, List.set_cons_zero, List.set_cons_succ,
    Option.some.injEq, exists_eq_left', exists_eq_left, V.int.injEq, V.bl.injEq, V.ref.injEq, V.str.injEq, List.cons.injEq, reduceCtorEq, and_true, true_and, false_and, and_false, exists_false, or_false, false_or, or_true, true_or, exists_const, CMul, CDiv, CPow, and_assoc, exists_and_left, exists_and_right, Int.reducePow, Int.reduceNeg, Int.reduceLT, Int.reduceLE, Nat.reducePow, Nat.reduceLT, Int.reduceToNat, gt_iff_lt, ge_iff_le, decide_eq_true_eq, Bool.not_eq_true', decide_eq_false_iff_not, scal, ↓reduceIte, Bool.false_eq_true]
    refine ⟨_, rfl, a, [], rfl, (ob_H oa fun _ z => by cases z).1, fun l1 hl1 fr1 => ?_⟩
    have s1 := Same.new hl1 (.lst [])
    have o1 := ob_new (H := H) (o := .lst []) (fr1 l1 (by rw [upd_same]; simp))
    have hb1 := s1 _ _ (ob_H oc fun _ z => by cases z).1
    have oa1 := ob_same s1 oa
    have oc1 := ob_same s1 oc
    refine ⟨_, rfl, b, [], rfl, hb1, fun l2 hl2 fr2 => ?_⟩
    have s2 : Same (upd H l1 (.lst [])) (upd (upd H l1 (.lst [])) l2 (.lst [])) := Same.new hl2 (.lst [])
    have o2 := ob_new (H := upd H l1 (.lst [])) (o := .lst []) (fr2 l2 (by rw [upd_same]; simp))
    have e1 : Eqv K (upd (upd H l1 (.lst [])) l2 (.lst [])) (m + 1) (.ref l1) (.ref l2) := .inr (.inl ⟨l1, l2, [], [], rfl, rfl, .inr ⟨ob_same s2 o1, o2⟩, rfl, by show 0 ≤ 1000; omega, fun i x y hx _ => by simp at hx⟩)
    refine ⟨_, _, rfl, e1, fun H3 s3 => ⟨true, rfl, ?_⟩⟩
    rw [if_neg Bool.noConfusion]
    have s13 := s2.trans s3
    have oa3 := ob_same s13 oa1
    have oc3 := ob_same s13 oc1
    refine ⟨_, rfl, a, [], rfl, (ob_H oa3 fun _ z => by cases z).1, fun l3 hl3 kl3 => ?_⟩
    have s4 := Same.new hl3 (.lst [])
    have o3 := ob_new (H := H3) (o := .lst []) kl3
    refine ⟨_, rfl, b, [], rfl, s4 _ _ (ob_H oc3 fun _ z => by cases z).1, fun l4 hl4 kl4 => ?_⟩
    have s5 := Same.new hl4 (.lst [])
    have o4 := ob_new (H := upd H3 l3 (.lst [])) (o := .lst []) kl4
    have e2 : Eqv K (upd (upd H3 l3 (.lst [])) l4 (.lst [])) (m + 1) (.ref l3) (.ref l4) := .inr (.inl ⟨l3, l4, [], [], rfl, rfl, .inr ⟨ob_same s5 o3, o4⟩, rfl, by show 0 ≤ 1000; omega, fun i x y hx _ => by simp at hx⟩)
    exact ⟨_, _, rfl, e2, fun H5 s6 => k H5 (s1.trans (s13.trans (s4.trans (s5.trans s6))))⟩
theorem k_same (T : Bt K mg) (D : Dfn K mg "_law_same" sSame ["_law_told", "_law_due"]) (d : Kn P w K mg base 1 "_law_is_whole" ["_law_told"] (spWhole K)) : ∀ n : Nat, Kn P w K mg base (n + 1) "_law_same" ["_law_told", "_law_due"] (spSame K n)
  | 0 => by
    obtain ⟨f, fd, m, kp, b, G⟩ := (Kn.none (P := P) (w := w) (base := base) D).ex
    exact ⟨f, fd, m, kp, b, (G.mono (Nat.zero_le _)).imp fun vs H Q E h => h.elim⟩
  | n + 1 => k_Same n T D d (k_same T D d n)
end
end My

namespace My
open PySem PySem.Spec PyProof.Rows L2
section
variable {P : Program} {w : World} {K : PySem.W.Frag} {mg : Str → Option Value} {base : Heap}
/-! ### what is no fraction -/
def fr2 : List V → Bool
  | [.int n, .int d] => decide (1 ≤ d) && decide (Int.gcd n d = 1)
  | _ => false
theorem frOk_tup {H : Hp} {a : Addr} {xs : List V} (o : ob K H a = some (.tup xs)) : frOk K H (.ref a) = fr2 xs := by
  simp only [frOk, o]
  unfold fr2
  split <;> simp_all
theorem tyN_same {H H' : Hp} {v : V} {t : String} (e : Same H H') (h : tyN K H v = some t) : tyN K H' v = some t := by
  cases v with
  | ref a =>
    have h1 : tyO (ob K H a) = some t := h
    show tyO (ob K H' a) = some t
    cases hz : ob K H a with
    | none => rw [hz] at h1; cases h1
    | some z => rw [ob_same e hz, ← hz]; exact h1
  | _ => exact h
theorem tyS_same {H H' : Hp} {v : V} (e : Same H H') (h : (tyN K H v).isSome) : (tyN K H' v).isSome := by
  obtain ⟨t, ht⟩ := Option.isSome_iff_exists.mp h
  rw [tyN_same e ht]
  rfl
theorem ob_back {H H' : Hp} {a : Addr} {z : HO} (e : Same H H') (h : (tyN K H (.ref a)).isSome) (o : ob K H' a = some z) : ob K H a = some z := by
  cases hz : ob K H a with
  | none =>
    rw [tyN_ref, hz] at h
    cases h
  | some y =>
    rw [← o, ob_same e hz]
structure Gd (K : PySem.W.Frag) (H : Hp) (v : V) : Prop where
  ty : Tyd K H v
  no : frOk K H v = false
theorem Gd.same {H H' : Hp} {v : V} (e : Same H H') (h : Gd K H v) : Gd K H' v := by
  refine ⟨⟨tyS_same e h.ty.1, fun a xs ev o x hx => ?_⟩, ?_⟩
  · subst ev
    exact tyS_same e (h.ty.2 a xs rfl (ob_back e h.ty.1 o) x hx)
  · cases v with
    | ref a =>
      cases hz : ob K H a with
      | none =>
        have := h.ty.1
        rw [tyN_ref, hz] at this
        cases this
      | some z =>
        have e2 : frOk K H' (.ref a) = frOk K H (.ref a) := by simp only [frOk, hz, ob_same e hz]
        rw [e2]
        exact h.no
    | _ => rfl
theorem gd_sc {H : Hp} {v : V} (h : scv v = true) : Gd K H v := by
  refine ⟨⟨?_, fun a xs e => ?_⟩, ?_⟩
  · cases v <;> first | rfl | cases h
  · subst e; cases h
  · cases v <;> first | rfl | cases h
theorem gd_tup {H : Hp} {a : Addr} {xs : List V} (o : ob K H a = some (.tup xs)) (hx : ∀ x ∈ xs, (tyN K H x).isSome) (f : fr2 xs = false) : Gd K H (.ref a) := by
  refine ⟨⟨by rw [tyN_ref, o]; rfl, fun b ys e o' => ?_⟩, by rw [frOk_tup o]; exact f⟩
  cases e
  rw [o] at o'
  cases o'
  exact hx
theorem gd_lst {H : Hp} {a : Addr} {xs : List V} (o : ob K H a = some (.lst xs)) : Gd K H (.ref a) := by
  refine ⟨⟨by rw [tyN_ref, o]; rfl, fun b ys e o' => ?_⟩, by simp only [frOk, o]⟩
  cases e
  rw [o] at o'
  cases o'
theorem gd_dict {H : Hp} {a : Addr} {xs : List (Key × V)} (o : ob K H a = some (.dK xs)) : Gd K H (.ref a) := by
  refine ⟨⟨by rw [tyN_ref, o]; rfl, fun b ys e o' => ?_⟩, by simp only [frOk, o]⟩
  cases e
  rw [o] at o'
  cases o'
/-! ### displays that only make -/
def Mk (R : Hp → V → Prop) (te : TE) : Prop := ∀ σ H Q, (∀ v H', Same H H' → R H' v → Q v H') → te σ H Q
def MkL (R : Hp → V → Prop) (n : Nat) (ta : TA) : Prop := ∀ σ H Q, (∀ vs H', Same H H' → vs.length = n → (∀ v ∈ vs, R H' v) → Q vs H') → ta σ H Q
theorem mkL_nil {R : Hp → V → Prop} : MkL R 0 L2.tNil := fun σ H Q k => k [] H (Same.refl H) rfl fun _ z => absurd z (by simp)
theorem mkL_cons {R : Hp → V → Prop} {n : Nat} {te : TE} {ta : TA} (mono : ∀ (H H' : Hp) (v : V), Same H H' → R H v → R H' v) (h1 : Mk R te) (h2 : MkL R n ta) : MkL R (n + 1) (tCons te ta) := fun σ H Q k =>
  h1 σ H _ fun v H1 s1 r1 => h2 σ H1 _ fun vs H2 s2 hn hr => k (v :: vs) H2 (s1.trans s2) (by rw [List.length_cons, hn]) fun x hx => by
    rcases List.mem_cons.mp hx with e | e
    · subst e; exact mono _ _ _ s2 r1
    · exact hr x e
theorem mk_c {v : V} (h : scv v = true) : Mk (Gd K) (tC v) := fun σ H Q k => k v H (Same.refl H) (gd_sc h)
theorem mk_tc {ta : TA} (xs : List V) (e : ∀ σ H Q, Q xs H → ta σ H Q) (hs : xs.all scv = true) (hf : fr2 xs = false) (hl : xs.length ≤ 100 := by decide) : Mk (Gd K) (tTp K ta) := fun σ H Q k => by
  refine e σ H _ ⟨by rw [sizeLine_eq]; omega, fun p hp kp => k _ _ (Same.new hp _) (gd_tup (ob_new kp) (fun x hx => ?_) hf)⟩
  exact (gd_sc (K := K) (H := upd H p (.tup xs)) (List.all_eq_true.mp hs x hx)).ty.1
theorem mk_ls {ta : TA} {n : Nat} {R : Hp → V → Prop} (h : MkL R n ta) (hl : n ≤ 100 := by decide) : Mk (Gd K) (tLs K ta) := fun σ H Q k =>
  h σ H _ fun vs H1 s1 hn _ => ⟨by rw [sizeLine_eq]; omega, fun p hp kp => k _ _ (s1.trans (Same.new hp _)) (gd_lst (ob_new kp))⟩
theorem mk_dn : Mk (Gd K) (tDn K) := fun σ H Q k p hp kp => k _ _ (Same.new hp _) (gd_dict (ob_new kp))
theorem mk_any {R : Hp → V → Prop} {te : TE} (h : Mk R te) : Mk (fun _ _ => True) te := fun σ H Q k => h σ H Q fun v H' s _ => k v H' s True.intro
theorem mk_tup {ta : TA} {n : Nat} {R : Hp → V → Prop} (h : MkL R n ta) (hl : n ≤ 100 := by decide) : Mk (fun _ _ => True) (tTp K ta) := fun σ H Q k =>
  h σ H _ fun vs H1 s1 hn _ => ⟨by rw [sizeLine_eq]; omega, fun p hp kp => k _ _ (s1.trans (Same.new hp _)) True.intro⟩
/-! the same where names are read -/
def MkA (σ : L2.St) (H0 : Hp) (R : Hp → V → Prop) (te : TE) : Prop := ∀ H, Same H0 H → ∀ Q, (∀ v H', Same H H' → R H' v → Q v H') → te σ H Q
def MkAL (σ : L2.St) (H0 : Hp) (R : Hp → V → Prop) (n : Nat) (ta : TA) : Prop := ∀ H, Same H0 H → ∀ Q, (∀ vs H', Same H H' → vs.length = n → (∀ v ∈ vs, R H' v) → Q vs H') → ta σ H Q
theorem mkA_nil {σ : L2.St} {H0 : Hp} {R : Hp → V → Prop} : MkAL σ H0 R 0 L2.tNil := fun H _ Q k => k [] H (Same.refl H) rfl fun _ z => absurd z (by simp)
theorem mkA_cons {σ : L2.St} {H0 : Hp} {R : Hp → V → Prop} {n : Nat} {te : TE} {ta : TA} (mono : ∀ (H H' : Hp) (v : V), Same H H' → R H v → R H' v) (h1 : MkA σ H0 R te) (h2 : MkAL σ H0 R n ta) : MkAL σ H0 R (n + 1) (tCons te ta) := fun H s Q k =>
  h1 H s _ fun v H1 s1 r1 => h2 H1 (s.trans s1) _ fun vs H2 s2 hn hr => k (v :: vs) H2 (s1.trans s2) (by rw [List.length_cons, hn]) fun x hx => by
    rcases List.mem_cons.mp hx with e | e
    · subst e; exact mono _ _ _ s2 r1
    · exact hr x e
theorem mkA_tc {σ : L2.St} {H0 : Hp} {ta : TA} (xs : List V) (e : ∀ H, Same H0 H → ∀ Q, Q xs H → ta σ H Q) (hs : ∀ x ∈ xs, (tyN K H0 x).isSome) (hf : fr2 xs = false) (hl : xs.length ≤ 100) : MkA σ H0 (Gd K) (tTp K ta) := fun H s Q k => by
  refine e H s _ ⟨by rw [sizeLine_eq]; omega, fun p hp kp => k _ _ (Same.new hp _) (gd_tup (ob_new kp) (fun x hx => ?_) hf)⟩
  exact tyS_same (s.trans (Same.new hp _)) (hs x hx)
theorem mkA_lc {σ : L2.St} {H0 : Hp} {ta : TA} (xs : List V) (e : ∀ H, Same H0 H → ∀ Q, Q xs H → ta σ H Q) (hl : xs.length ≤ 100) : MkA σ H0 (Gd K) (tLs K ta) := fun H s Q k => by
  exact e H s _ ⟨by rw [sizeLine_eq]; omega, fun p hp kp => k _ _ (Same.new hp _) (gd_lst (ob_new kp))⟩
theorem lsA {ta : TA} {n : Nat} {R : Hp → V → Prop} {σ : L2.St} {H : Hp} {Q : VK} (mono : ∀ (H H' : Hp) (v : V), Same H H' → R H v → R H' v) (h : MkAL σ H R n ta) (hl : n ≤ 100)
    (k : ∀ vs p H', Same H H' → H p = none → K.lookup p = none → vs.length = n → (∀ v ∈ vs, R H' v) → H' p = some (.lst vs) → Q (.ref p) H') : tLs K ta σ H Q :=
  h H (Same.refl H) _ fun vs H1 s1 hn hr => ⟨by rw [sizeLine_eq]; omega, fun p hp kp => k vs p _ (s1.trans (Same.new hp _)) (s1.free hp) kp hn (fun v hv => mono _ _ _ (Same.new hp _) (hr v hv)) upd_same⟩
/-! what is no fraction stays so while the draws go on -/
theorem ob_kp2 {H H' : Hp} {s a : Addr} {z : HO} (e : Kp s H H') (n : a ≠ s) (h : ob K H a = some z) : ob K H' a = some z := by
  unfold ob at h ⊢
  split
  · rename_i o q
    rw [q] at h
    exact h
  · rename_i q
    rw [q] at h
    exact e _ _ n h
theorem Sto.ob {H : Hp} {s : Addr} (h : Sto K H s) : ∃ ys, My.ob K H s = some (.lst ys) := by
  obtain ⟨sc, ns, i, b, c, d, e, f, h⟩ := h
  exact ⟨_, (ob_none h.2.2.2.2.1).trans h.1⟩
theorem tyS_kp {H H' : Hp} {s : Addr} {v : V} (e : Kp s H H') (t : Sto K H' s) (h : (tyN K H v).isSome) : (tyN K H' v).isSome := by
  cases v with
  | ref a =>
    by_cases ha : a = s
    · subst ha
      obtain ⟨ys, hy⟩ := t.ob
      rw [tyN_ref, hy]
      rfl
    · cases hz : ob K H a with
      | none => rw [tyN_ref, hz] at h; cases h
      | some z =>
        rw [tyN_ref, ob_kp2 e ha hz, ← hz]
        exact h
  | _ => exact h
theorem Gd.kp {H H' : Hp} {s : Addr} {v : V} (e : Kp s H H') (t : Sto K H' s) (h : Gd K H v) : Gd K H' v := by
  cases v with
  | ref a =>
    by_cases ha : a = s
    · subst ha
      obtain ⟨ys, hy⟩ := t.ob
      exact gd_lst hy
    · cases hz : ob K H a with
      | none =>
        have := h.ty.1
        rw [tyN_ref, hz] at this
        cases this
      | some z =>
        have hz' := ob_kp2 e ha hz
        refine ⟨⟨tyS_kp e t h.ty.1, fun b xs ev o x hx => ?_⟩, ?_⟩
        · cases ev
          rw [hz'] at o
          exact tyS_kp e t (h.ty.2 a xs rfl (hz.trans o) x hx)
        · have e2 : frOk K H' (.ref a) = frOk K H (.ref a) := by simp only [frOk, hz, hz']
          rw [e2]
          exact h.no
  | _ => exact ⟨⟨h.ty.1, fun _ _ e => by cases e⟩, h.no⟩
/-- a list display of such things -/
theorem lsX {ta : TA} {n : Nat} {R : Hp → V → Prop} {σ : L2.St} {H : Hp} {Q : VK} (mono : ∀ (H H' : Hp) (v : V), Same H H' → R H v → R H' v) (h : MkL R n ta) (hl : n ≤ 100)
    (k : ∀ vs p H', Same H H' → H p = none → K.lookup p = none → vs.length = n → (∀ v ∈ vs, R H' v) → H' p = some (.lst vs) → Q (.ref p) H') : tLs K ta σ H Q :=
  h σ H _ fun vs H1 s1 hn hr => ⟨by rw [sizeLine_eq]; omega, fun p hp kp => k vs p _ (s1.trans (Same.new hp _)) (s1.free hp) kp hn (fun v hv => mono _ _ _ (Same.new hp _) (hr v hv)) upd_same⟩
end
end My

namespace My
open PySem PySem.Spec PyProof.Rows L2
/-- a comprehension over zip of two lists, the second one not the longer -/
theorem lc_zip {K : PySem.W.Frag} {a b : Addr} {xs ys : List V} {g : TG} {tt : TT} {te : TE} {vs : List Nat} {σ : L2.St} {H1 : Hp} {D : Addr} {Qd : Hp → Prop} (hle : ys.length ≤ xs.length) (Pv : Nat → Hp → Prop) (h0 : Pv 0 (upd H1 D (.lst []))) (hl : ∀ i H, i ≤ ys.length → Pv i H → SqL K H a xs ∧ SqL K H b ys)
    (hs : ∀ (i : Nat) (x y : V) (T : Addr) (H : Hp), xs[i]? = some x → ys[i]? = some y → Pv i H → H T = none → g (.ref T) (wipe σ vs) (upd H T (.tup [x, y])) fun σ2 H2 => wipe σ2 vs = wipe σ vs ∧ tt σ2 H2 fun b H3 =>
      if b = true then te σ2 H3 fun y H4 => ∃ acc, H4 D = some (.lst acc) ∧ acc.length < sizeLine ∧ Pv (i + 1) (upd H4 D (.lst (acc ++ [y]))) else Pv (i + 1) H3) (hd : ∀ H, Pv ys.length H → Qd H) :
    ∃ W : Nat → Nat → Hp → Prop, (∃ m, W 0 m (upd H1 D (.lst []))) ∧ ∀ i m H, W i m H →
      ((Itz K a b).stop i H ∧ Qd H) ∨ ((Itz K a b).go i H ∧ ∃ Nx : Hp → Prop, (∀ H', Nx H' → ∃ m', m' < m ∧ W (i + 1) m' H') ∧ ∀ x H', (Itz K a b).yld i H x H' → g x (wipe σ vs) H' fun σ2 H2 => wipe σ2 vs = wipe σ vs ∧ tt σ2 H2 fun b H3 =>
        if b = true then te σ2 H3 fun y H4 => ∃ acc, H4 D = some (.lst acc) ∧ acc.length < sizeLine ∧ Nx (upd H4 D (.lst (acc ++ [y]))) else Nx H3) := by
  refine ⟨fun i m H => m = ys.length - i ∧ i ≤ ys.length ∧ Pv i H, ⟨ys.length, by simp, Nat.zero_le _, h0⟩, ?_⟩
  rintro i m H ⟨rfl, hi, p⟩
  obtain ⟨qx, qy⟩ := hl i H hi p
  by_cases hlt : i < ys.length
  · have hx : xs[i]? = some xs[i] := List.getElem?_eq_getElem (by omega)
    have hy : ys[i]? = some ys[i] := List.getElem?_eq_getElem hlt
    refine .inr ⟨⟨xs, ys, _, _, qx, qy, hx, hy⟩, Pv (i + 1), fun H' p' => ⟨ys.length - (i + 1), by omega, rfl, hlt, p'⟩, fun v H' y => ?_⟩
    obtain ⟨T, x', y', rfl, hT, rfl, f1, f2⟩ := y
    exact hs i x' y' T H (f1 xs qx) (f2 ys qy) p hT
  · have e : i = ys.length := by omega
    subst e
    exact .inl ⟨⟨xs, ys, qx, qy, Or.inr (Nat.le_refl _)⟩, hd H p⟩
/-! ### differences -/
def dif : List Int → List Int
  | x :: y :: r => (y - x) :: dif (y :: r)
  | _ => []
theorem dif_len : ∀ ns : List Int, (dif ns).length = ns.length - 1
  | [] => rfl
  | [_] => rfl
  | x :: y :: r => by
    show (dif (y :: r)).length + 1 = r.length + 1 + 1 - 1
    rw [dif_len (y :: r), List.length_cons]
    omega
theorem dif_at : ∀ {ns : List Int} {i : Nat} {a b : Int}, ns[i]? = some a → ns[i + 1]? = some b → (dif ns)[i]? = some (b - a)
  | [], i, a, b, h, _ => by simp at h
  | [x], i, a, b, _, h => by simp at h
  | x :: y :: r, 0, a, b, h1, h2 => by
    cases h1
    cases h2
    rfl
  | x :: y :: r, i + 1, a, b, h1, h2 => by
    show (dif (y :: r))[i]? = _
    exact dif_at (ns := y :: r) (i := i) h1 h2
theorem dif_take {ns : List Int} {i : Nat} {a b : Int} (h1 : ns[i]? = some a) (h2 : ns[i + 1]? = some b) : (dif ns).take (i + 1) = (dif ns).take i ++ [b - a] := by
  rw [List.take_add_one, dif_at h1 h2]
  rfl
def itd : Nat → List Int → List Int
  | 0, ns => ns
  | k + 1, ns => dif (itd k ns)
theorem itd_len (ns : List Int) : ∀ k : Nat, (itd k ns).length = ns.length - k
  | 0 => rfl
  | k + 1 => by
    show (dif (itd k ns)).length = _
    rw [dif_len, itd_len ns k]
    omega
theorem dif_zero : ∀ {ns : List Int}, (∀ x ∈ ns, x = 0) → ∀ x ∈ dif ns, x = 0
  | [], _, x, h => by cases h
  | [_], _, x, h => by cases h
  | y :: z :: r, hz, x, h => by
    rcases List.mem_cons.mp h with h | h
    · have a := hz y List.mem_cons_self
      have b := hz z (List.mem_cons_of_mem _ List.mem_cons_self)
      omega
    · exact dif_zero (ns := z :: r) (fun w hw => hz w (List.mem_cons_of_mem _ hw)) x h
/-- a row of zeros stays so -/
def zr (ns : List Int) (k : Nat) : Prop := ∀ x ∈ itd k ns, x = 0
theorem zr_next {ns : List Int} {k : Nat} (h : zr ns k) : zr ns (k + 1) := dif_zero h
theorem zr_mono {ns : List Int} {k : Nat} (h : zr ns k) : ∀ m : Nat, k ≤ m → zr ns m
  | 0, l => by
    rw [show k = 0 by omega] at h
    exact h
  | m + 1, l => by
    rcases Nat.lt_or_ge m k with z | z
    · rw [show k = m + 1 by omega] at h
      exact h
    · exact zr_next (zr_mono h m z)
/-- not all are zero -/
def nz (ns : List Int) : Bool := ns.any fun n => decide (n ≠ 0)
theorem nz_false {ns : List Int} : nz ns = false ↔ ∀ x ∈ ns, x = 0 := by
  unfold nz
  rw [List.any_eq_false]
  constructor
  · intro h x hx
    have := h x hx
    simpa using this
  · intro h x hx
    have := h x hx
    simp [this]
/-- the degree: the rows 1, 2, .. that are not all zero, counted -/
def dgU (ns : List Int) : Nat → Nat
  | 0 => 0
  | m + 1 => dgU ns m + (if nz (itd (m + 1) ns) = true then 1 else 0)
theorem dgU_le (ns : List Int) : ∀ m, dgU ns m ≤ m
  | 0 => Nat.le_refl _
  | m + 1 => by
    have := dgU_le ns m
    show dgU ns m + (if nz (itd (m + 1) ns) = true then 1 else 0) ≤ m + 1
    split <;> omega
/-- up to the count they are not all zero, behind it they are -/
theorem dgU_spec (ns : List Int) : ∀ m, (∀ k, 1 ≤ k → k ≤ dgU ns m → nz (itd k ns) = true) ∧ ∀ k, dgU ns m < k → k ≤ m → nz (itd k ns) = false
  | 0 => ⟨fun k h1 h2 => absurd h2 (by show ¬ k ≤ 0; omega), fun k h1 h2 => absurd h1 (by show ¬ 0 < k; omega)⟩
  | m + 1 => by
    obtain ⟨a, b⟩ := dgU_spec ns m
    have le := dgU_le ns m
    by_cases h : nz (itd (m + 1) ns) = true
    · have e : dgU ns (m + 1) = dgU ns m + 1 := by
        show dgU ns m + (if _ then 1 else 0) = _
        rw [if_pos h]
      have em : dgU ns m = m := by
        rcases Nat.lt_or_ge (dgU ns m) m with z | z
        · exfalso
          have b1 := b m z (Nat.le_refl _)
          have := zr_next (ns := ns) (k := m) (nz_false.mp b1)
          have := nz_false.mpr this
          rw [h] at this
          cases this
        · omega
      rw [e, em]
      refine ⟨fun k h1 h2 => ?_, fun k h1 h2 => absurd h1 (by omega)⟩
      rcases Nat.lt_or_ge m k with z | z
      · rw [show k = m + 1 by omega]
        exact h
      · exact a k h1 (by omega)
    · have h : nz (itd (m + 1) ns) = false := by
        cases e : nz (itd (m + 1) ns) with
        | true => exact absurd e h
        | false => rfl
      have e : dgU ns (m + 1) = dgU ns m := by
        show dgU ns m + (if nz (itd (m + 1) ns) = true then 1 else 0) = _
        rw [h, if_neg Bool.noConfusion, Nat.add_zero]
      rw [e]
      refine ⟨a, fun k h1 h2 => ?_⟩
      rcases Nat.lt_or_ge m k with z | z
      · rw [show k = m + 1 by omega]
        exact h
      · exact b k h1 z
end My

namespace My
open PySem PySem.Spec PyProof.Rows L2
section
variable {P : Program} {w : World} {K : PySem.W.Frag} {mg : Str → Option Value} {base : Heap}
end
/-! ### a call that leaves the last parameter away -/
structure DfnD1 (K : PySem.W.Frag) (mg : Str → Option Value) (x : Str) (st : Stmt) (ps : List Str) (dv : V) : Prop where
  ex : ∃ f fd dvs ds, FunD K x x (defArgs st) (defBody st) (defScope st) dvs [] f fd ∧ mg x = some (.ref f) ∧ Vals [dv] ds ∧ Binds K fd ps ds
structure Kn1 (P : Program) (w : World) (K : PySem.W.Frag) (mg : Str → Option Value) (base : Heap) (k : Nat) (x : Str) (ps : List Str) (sp : Sp) (dv : V) : Prop where
  ex : ∃ f fd ds, mg x = some (.ref f) ∧ PySem.W.keepIn K (.ref f) = true ∧ Vals [dv] ds ∧ Binds K fd ps ds ∧ FnOk P w K mg base CX0 k f fd ps sp
theorem Kn1.mkD {P : Program} {w : World} {K : PySem.W.Frag} {mg : Str → Option Value} {base : Heap} {x : Str} {st : Stmt} {N ps : List Str} {k : Nat} {sp : Sp} {dv : V} (D : DfnD1 K mg x st ps dv) (S : FnScope N ps (defScope st)) (len : ∀ vs H Q E, sp vs H Q E → vs.length = ps.length)
    (hbody : ∀ (f : Addr) (cdv : Value) (A : Around) (outer : List Env) (s : Shared) (H : Hp) (vs : List V) (Q : VK) (E : XK), Room k (A.deeper (envOfC x (defScope st) s.heap.objs.size f cdv)) → sp vs H Q E →
      ∃ t, PSs (cxOf CX0 P w K mg base N x (defScope st) f cdv A outer s H E).nox (defBody st) t ∧ t { nx := fun _ H' => Q .non H', rt := Q } (start N vs) H) : Kn1 P w K mg base (k + 1) x ps sp dv := by
  obtain ⟨f, fd, dvs, ds, F, m, v, b⟩ := D.ex
  exact ⟨f, fd, ds, m, F.kp, v, b, F.ok S len fun cdv A outer s H vs Q E hr h => let ⟨t, a, c⟩ := hbody f cdv A outer s H vs Q E hr h; ⟨t, a.nox, c⟩⟩
section
variable {X : Cx}
theorem pe_kn1 {j k : Nat} {x : Str} {ps : List Str} {sp : Sp} {dv : V} {p pos : Pos} {e : Expr} {es : List Expr} {t : TA} (F : Kn1 X.prog X.w X.K X.mg X.base k x ps sp dv) (hr : Room j X.A) (hg : Gl X x) (ha : PA X (e :: es) t) (hj : k ≤ j := by omega)
    (hdb : (x == ("__debug__" : Str)) = false := by decide) (he : starEach (e :: es) X.env = (false, eval e X.env) :: starEach es X.env := by rfl) (hpl : (backTo pos (starEach es X.env)).any (·.1) = false := by rfl) :
    PE X (.Call (.Name x p) (e :: es) [] pos) (tCall sp [dv] E0 t) := by
  obtain ⟨f, fd, ds, m, kp, v, b, G⟩ := F.ex
  exact pe_call G (hr.mono hj) hg m kp b v pass0 ha hdb he hpl
end
section
variable {P : Program} {w : World} {K : PySem.W.Frag} {mg : Str → Option Value} {base : Heap}
theorem itsO_of {H : Hp} {a : Addr} {xs : List V} (h : ob K H a = some (.tup xs)) : itsO (ob K H a) = some xs := by rw [h]; rfl
theorem itsO_ofL {H : Hp} {a : Addr} {xs : List V} (h : ob K H a = some (.lst xs)) : itsO (ob K H a) = some xs := by rw [h]; rfl
theorem sz2 {n : Nat} (h : n ≤ 100) : n ≤ sizeLine := by rw [sizeLine_eq]; omega
theorem if_no {c : Bool} {A B : Prop} (e : c = false) (h : B) : if c = true then A else B := by
  rw [e, if_neg Bool.noConfusion]
  exact h
theorem if_yes {c : Bool} {A B : Prop} (e : c = true) (h : A) : if c = true then A else B := by
  rw [e, if_pos rfl]
  exact h
/-! ### data of some depth, and copies of it -/
def Shp (K : PySem.W.Frag) (s : Addr) (H : Hp) : Nat → V → Prop
  | 0, v => scv v = true
  | n + 1, v => scv v = true ∨ (∃ (a : Addr) (xs : List V), v = .ref a ∧ a ≠ s ∧ (ob K H a = some (.tup xs) ∨ ob K H a = some (.lst xs)) ∧ xs.length ≤ 1000 ∧ ∀ x ∈ xs, Shp K s H n x) ∨ (1 ≤ n ∧ ∃ a : Addr, v = .ref a ∧ a ≠ s ∧ ob K H a = some (.dK []))
def Cpy (K : PySem.W.Frag) (F : Addr → Prop) (H0 H : Hp) : Nat → V → V → Prop
  | 0, v, w => v = w ∧ scv v = true
  | n + 1, v, w => (v = w ∧ scv v = true) ∨ (∃ (a b : Addr) (xs ys : List V), v = .ref a ∧ w = .ref b ∧ F b ∧ K.lookup b = none ∧ ((ob K H0 a = some (.tup xs) ∧ H b = some (.tup ys)) ∨ (ob K H0 a = some (.lst xs) ∧ H b = some (.lst ys))) ∧ xs.length = ys.length ∧ ys.length ≤ 1000 ∧ ∀ (i : Nat) x y, xs[i]? = some x → ys[i]? = some y → Cpy K F H0 H n x y) ∨ (1 ≤ n ∧ ∃ a b : Addr, v = .ref a ∧ w = .ref b ∧ F b ∧ K.lookup b = none ∧ ob K H0 a = some (.dK []) ∧ H b = some (.dK []))
theorem Shp.up {s : Addr} {H : Hp} : ∀ {n : Nat} {v : V}, Shp K s H n v → Shp K s H (n + 1) v
  | 0, _, h => .inl h
  | n + 1, _, .inl h => .inl h
  | n + 1, _, .inr (.inl ⟨a, xs, h1, h2, h3, h4, h5⟩) => .inr (.inl ⟨a, xs, h1, h2, h3, h4, fun x hx => (h5 x hx).up⟩)
  | n + 1, _, .inr (.inr ⟨l, h⟩) => .inr (.inr ⟨Nat.le_succ_of_le l, h⟩)
theorem Shp.same {s : Addr} {H H' : Hp} (e : Same H H') : ∀ {n : Nat} {v : V}, Shp K s H n v → Shp K s H' n v
  | 0, _, h => h
  | n + 1, _, .inl h => .inl h
  | n + 1, _, .inr (.inl ⟨a, xs, h1, h2, h3, h4, h5⟩) => .inr (.inl ⟨a, xs, h1, h2, h3.imp (ob_same e) (ob_same e), h4, fun x hx => (h5 x hx).same e⟩)
  | n + 1, _, .inr (.inr ⟨l, a, h1, h2, h3⟩) => .inr (.inr ⟨l, a, h1, h2, ob_same e h3⟩)
theorem Shp.kp {s : Addr} {H H' : Hp} (e : Kp s H H') : ∀ {n : Nat} {v : V}, Shp K s H n v → Shp K s H' n v
  | 0, _, h => h
  | n + 1, _, .inl h => .inl h
  | n + 1, _, .inr (.inl ⟨a, xs, h1, h2, h3, h4, h5⟩) => .inr (.inl ⟨a, xs, h1, h2, h3.imp (ob_kp2 e h2) (ob_kp2 e h2), h4, fun x hx => (h5 x hx).kp e⟩)
  | n + 1, _, .inr (.inr ⟨l, a, h1, h2, h3⟩) => .inr (.inr ⟨l, a, h1, h2, ob_kp2 e h2 h3⟩)
theorem ob_back2 {H H' : Hp} {a : Addr} {z z' : HO} (e : Same H H') (h : ob K H a = some z) (o : ob K H' a = some z') : z = z' := by
  rw [ob_same e h] at o
  exact Option.some.inj o
theorem Cpy.back {s : Addr} {F : Addr → Prop} {H H' H2 : Hp} (e : Same H H') : ∀ {n : Nat} {v w : V}, Shp K s H n v → Cpy K F H' H2 n v w → Cpy K F H H2 n v w
  | 0, _, _, _, h => h
  | n + 1, v, w, sh, .inl h => .inl h
  | n + 1, v, w, sh, .inr (.inl ⟨a, b, xs, ys, h1, h2, h3, h4, h5, h6, h7, h8⟩) => by
    subst h1
    rcases sh with sh | ⟨a', xs', e1, _, o, _, hs⟩ | ⟨_, a', e1, _, o⟩
    · cases sh
    · cases e1
      rcases h5 with ⟨z1, z2⟩ | ⟨z1, z2⟩
      · rcases o with o | o
        · cases ob_back2 e o z1
          exact .inr (.inl ⟨a, b, xs, ys, rfl, h2, h3, h4, .inl ⟨o, z2⟩, h6, h7, fun i x y hx hy => Cpy.back e (hs x (List.mem_of_getElem? hx)) (h8 i x y hx hy)⟩)
        · cases ob_back2 e o z1
      · rcases o with o | o
        · cases ob_back2 e o z1
        · cases ob_back2 e o z1
          exact .inr (.inl ⟨a, b, xs, ys, rfl, h2, h3, h4, .inr ⟨o, z2⟩, h6, h7, fun i x y hx hy => Cpy.back e (hs x (List.mem_of_getElem? hx)) (h8 i x y hx hy)⟩)
    · cases e1
      rcases h5 with ⟨z1, _⟩ | ⟨z1, _⟩ <;> cases ob_back2 e o z1
  | n + 1, v, w, sh, .inr (.inr ⟨l, a, b, h1, h2, h3, h4, h5, h6⟩) => by
    subst h1
    rcases sh with sh | ⟨a', xs', e1, _, o, _, hs⟩ | ⟨_, a', e1, _, o⟩
    · cases sh
    · cases e1
      rcases o with o | o <;> cases ob_back2 e o h5
    · cases e1
      exact .inr (.inr ⟨l, a, b, rfl, h2, h3, h4, o, h6⟩)
/-- the copy's own objects stay -/
theorem Cpy.imp {F F' : Addr → Prop} {H0 H H' : Hp} (f : ∀ b, F b → F' b) (e : ∀ b o, F b → H b = some o → H' b = some o) : ∀ {n : Nat} {v w : V}, Cpy K F H0 H n v w → Cpy K F' H0 H' n v w
  | 0, _, _, h => h
  | n + 1, _, _, .inl h => .inl h
  | n + 1, _, _, .inr (.inl ⟨a, b, xs, ys, h1, h2, h3, h4, h5, h6, h7, h8⟩) => .inr (.inl ⟨a, b, xs, ys, h1, h2, f b h3, h4, h5.imp (fun z => ⟨z.1, e _ _ h3 z.2⟩) (fun z => ⟨z.1, e _ _ h3 z.2⟩), h6, h7, fun i x y hx hy => (h8 i x y hx hy).imp f e⟩)
  | n + 1, _, _, .inr (.inr ⟨l, a, b, h1, h2, h3, h4, h5, h6⟩) => .inr (.inr ⟨l, a, b, h1, h2, f b h3, h4, h5, e _ _ h3 h6⟩)
theorem Cpy.eqv {F : Addr → Prop} {H0 H : Hp} (e : Same H0 H) : ∀ {n : Nat} {v w : V}, Cpy K F H0 H n v w → Eqv K H n v w
  | 0, _, _, h => h
  | n + 1, _, _, .inl h => .inl h
  | n + 1, _, _, .inr (.inl ⟨a, b, xs, ys, h1, h2, h3, h4, h5, h6, h7, h8⟩) => .inr (.inl ⟨a, b, xs, ys, h1, h2, h5.imp (fun z => ⟨ob_same e z.1, (ob_none h4).trans z.2⟩) (fun z => ⟨ob_same e z.1, (ob_none h4).trans z.2⟩), h6, h7, fun i x y hx hy => (h8 i x y hx hy).eqv e⟩)
  | n + 1, _, _, .inr (.inr ⟨l, a, b, h1, h2, h3, h4, h5, h6⟩) => .inr (.inr ⟨l, a, b, h1, h2, ob_same e h5, (ob_none h4).trans h6⟩)
end
end My

namespace My
open PySem PySem.Spec PyProof.Rows L2
section
variable {P : Program} {w : World} {K : PySem.W.Frag} {mg : Str → Option Value} {base : Heap}
theorem atI_m1 {α : Type} {xs : List α} (h : xs ≠ []) : atI xs (-1) = xs[xs.length - 1]? := by
  have hl : 0 < xs.length := by
    cases xs with
    | nil => exact absurd rfl h
    | cons a r => simp
  unfold atI ixN
  rw [if_neg (by omega), if_pos (by omega)]
  show xs[((-1 : Int) + (xs.length : Int)).toNat]? = _
  rw [show ((-1 : Int) + (xs.length : Int)).toNat = xs.length - 1 by omega]
theorem at_last (xs : List V) (x : V) : atI (xs ++ [x]) (-1) = some x := by
  rw [atI_m1 (by simp), List.length_append, List.length_singleton, Nat.add_sub_cancel, List.getElem?_append_right (Nat.le_refl _), Nat.sub_self]
  rfl
theorem Kn.weak {k : Nat} {x : Str} {ps : List Str} {sp sp' : Sp} (h : Kn P w K mg base k x ps sp) (wk : ∀ vs H Q E, sp' vs H Q E → sp vs H Q E) : Kn P w K mg base k x ps sp' := by
  obtain ⟨f, fd, m, kp, b, F⟩ := h.ex
  exact ⟨f, fd, m, kp, b, ⟨fun vs H Q E q => F.len vs H Q E (wk vs H Q E q), fun A outer s H args us vs Q E hr e hb r q => F.run A outer s H args us vs Q E hr e hb r (wk vs H Q E q)⟩⟩
def spListA (K : PySem.W.Frag) : Sp := fun vs H Q _ => ∃ (v : V) (lo hi : Int), vs = [v, .int lo, .int hi] ∧ ((∃ (a : Addr) (xs : List V), v = .ref a ∧ ob K H a = some (.lst xs) ∧ Q (.bl (decide (lo ≤ (xs.length : Int)) && decide ((xs.length : Int) ≤ hi))) H) ∨ ∃ t, tyN K H v = some t ∧ t ≠ "list" ∧ Q (.bl false) H)
abbrev sListA : Stmt := topS 17
theorem scListA : FnScope ["value", "least", "most"] ["value", "least", "most"] (defScope sListA) := ⟨rfl, rfl, rfl, by decide +kernel, rfl, by decide +kernel, by decide +kernel⟩
theorem k_ListA (T : Bt K mg) (D : Dfn K mg "is_list_within" sListA ["value", "least", "most"]) : Kn P w K mg base 1 "is_list_within" ["value", "least", "most"] (spListA K) := by
  refine Kn.mk' D scListA (fun vs H Q E h => ?_) (fun f cdv A outer s H vs Q E hr h => ?_)
  · obtain ⟨v, lo, hi, rfl, _⟩ := h
    rfl
  obtain ⟨v, lo, hi, rfl, h⟩ := h
  refine ⟨_, (pss_one (ps_ret (pe_and (pe_callB call_isN (by rfl) T.b_isinstance (by decide +kernel) (pa_cons (pv 0) (pa_cons (pe_bltn (v := .ty "list") (by rfl) T.b_list (by decide +kernel) rfl) pa_nil))) (pe_one (pe_chain op_le op_le (pv 1) (pe_callB call_lenA (by rfl) T.b_len PySem.boot_len (pa_cons (pv 0) pa_nil)) (pv 2)))))), ?_⟩
  rcases h with ⟨a, xs, rfl, o, k⟩ | ⟨t, ht, nt, k⟩
  · have ty : tyN K H (.ref a) = some "list" := by rw [tyN_ref, o]; rfl
    have oi := itsO_ofL o
    refine ⟨_, rfl, _, _, rfl, by decide, _, ty, _, rfl, if_yes rfl ?_⟩
    simp only [tChain, oi, cx_K, decide_true, decide_false, reduceCtorEq, gTp, gCons, gNil, ca_0, ca_1, ca_2, ca_3, ca_4, ca_5, ca_6, ca_7, ca_8, ca_9, ca_10, ca_11, ca_12, ca_13, ca_14, ca_15, ca_16, ca_17, ca_18, ca_19, ca_20, ca_21, ca_22, ca_23, ca_24, ca_25, ca_26, ca_27, ca_28, ca_29, ca_30, not_true_eq_false, not_false_eq_true, Int.reduceEq, Nat.reduceEqDiff, Nat.reduceLeDiff, rGcd, V.ty.injEq, eq_self, List.not_mem_nil, beq_self_eq_true, HO.lst.injEq, HO.tup.injEq, tFor_eq, iRng1, iList, iTup, nat10, tSeq, rIxA, rSetA, rIsN, rIsT, tTp, tLs, itsO_tup, itsO_lst, tyO_tup, tyO_lst, tyO_dK, tyN_non, tyN_bl, tyN_int, tyN_str, tyN_ref, tyNs_lt, isB, upd_same, upd_upd, sizeLine_eq, List.mem_cons, String.reduceBEq, String.reduceEq, Bool.or_false, Bool.or_true, Bool.and_false, Bool.false_or, Bool.and_self, Bool.false_and, Bool.not_false, Bool.not_true, List.any_cons, List.any_nil, atI_0, setI_0, atI_1, setI_1, atI_2, setI_2, atI_3, setI_3, atI_4, setI_4, atI_5, setI_5, atI_6, setI_6, tAsg, gName, tOp, tUn, tVar, tC, tCons, L2.tNil, tRet, tIfS, tTest, tCB, tCall, rI, rI0, rU, tNext, tB, tAnd, tOr, tNot, tAndV, tOrV, tNotV, tDrop, tIf, tPar, gSub, rIxL, rIxT, rEq, rNe, rSetL, tBits,
    L2.start, List.map_cons, List.map_nil, List.cons_append, List.nil_append, List.append_nil, List.length_cons, List.length_nil, List.replicate, Nat.reduceAdd, Nat.reduceSub, Nat.zero_add, List.getElem?_cons_zero, List.getElem?_cons_succ, List.set_cons_zero, List.set_cons_succ,
    Option.some.injEq, exists_eq_left', exists_eq_left, V.int.injEq, V.bl.injEq, V.ref.injEq, V.str.injEq, List.cons.injEq, reduceCtorEq, and_true, true_and, false_and, and_false, exists_false, or_false, false_or, or_true, true_or, exists_const, CMul, CDiv, CPow, and_assoc, exists_and_left, exists_and_right, Int.reducePow, Int.reduceNeg, Int.reduceLT, Int.reduceLE, Nat.reducePow, Nat.reduceLT, Int.reduceToNat, gt_iff_lt, ge_iff_le, decide_eq_true_eq, Bool.not_eq_true', decide_eq_false_iff_not, scal, ↓reduceIte, Bool.false_eq_true]
    refine ite2 (fun h => ?_) (fun h => ?_)
    · rw [decide_eq_true h, Bool.true_and] at k
      exact k
    · rw [decide_eq_false h, Bool.false_and] at k
      exact k
  · refine ⟨_, rfl, _, _, rfl, by decide, _, ht, _, rfl, if_no ?_ k⟩
    have mt := tyN_mem ht
    simp only [List.mem_cons, List.not_mem_nil, or_false] at mt
    rcases mt with rfl | rfl | rfl | rfl | rfl | rfl | rfl <;> first | rfl | exact absurd rfl nt
def TbA (K : PySem.W.Frag) (H : Hp) (v : V) (Q : VK) : Prop := (∃ t, tyN K H v = some t ∧ t ≠ "list" ∧ Q (.bl false) H) ∨ ∃ (a : Addr) (xs : List V), v = .ref a ∧ ob K H a = some (.lst xs) ∧ (((xs.length = 0 ∨ 60 < xs.length) ∧ Q (.bl false) H) ∨ (1 ≤ xs.length ∧ xs.length ≤ 60 ∧ (∀ x ∈ xs, (tyN K H x).isSome) ∧ ∀ H', Same H H' → Q (.bl (xs.all wholeV)) H'))
def spTb (K : PySem.W.Frag) : Sp := fun vs H Q _ => ∃ v, vs = [v] ∧ TbA K H v Q
def TbI (D : Addr) (xs : List V) (H0 : Hp) (i : Nat) (H' : Hp) : Prop := H' D = some (.lst (((xs.take i).map wholeV).map V.bl)) ∧ Same H0 H'
abbrev sTb : Stmt := topS 23
theorem scTb : FnScope ["value", "row"] ["value"] (defScope sTb) := ⟨rfl, rfl, rfl, by decide +kernel, rfl, by decide +kernel, by decide +kernel⟩
theorem blk_scTb_0 : BlkOk ["value", "row"] (defScope sTb) { kind := .function, names := [(".0", .local), ("row", .local), ("is_whole", .globalImplicit)], isGenerator := false, isCoroutine := false, more := [] } [("row", 1)] := ⟨rfl, by decide +kernel, by decide +kernel, by decide +kernel, by decide +kernel⟩
theorem k_Tb {tkM : Tok} (zA : mg "all" = none) (gMR : mg "MOST_ROWS" = some (.int 60 tkM)) (T : Bt K mg) (D : Dfn K mg "is_table" sTb ["value"]) (d_is_list_within : Kn P w K mg base 1 "is_list_within" ["value", "least", "most"] (spListA K)) (d_is_whole : Kn P w K mg base 1 "is_whole" ["value"] (spWhole K)) : Kn P w K mg base 2 "is_table" ["value"] (spTb K) := by
  refine Kn.mk' D scTb (fun vs H Q E h => ?_) (fun f cdv A outer s H vs Q E hr h => ?_)
  · obtain ⟨v, rfl, _⟩ := h
    rfl
  obtain ⟨v, rfl, h⟩ := h
  refine ⟨_, (pss_one (ps_ret (pe_and (pe_kn d_is_list_within hr (by rfl) (pa_cons (pv 0) (pa_cons pe_int (pa_cons (pe_glob (v := .int 60) (by rfl) gMR ⟨_, rfl⟩) pa_nil)))) (pe_one (pe_callB (cr_all rfl) (by rfl) zA (by decide +kernel) (pa_cons (pe_fr (pe_lc (own := [("row", 1)]) (g := gName 1) (te := (tCall (spWhole K) [] E0 (tCons (tVar 1) L2.tNil))) rfl scTb.nd (pi_list (pv 0)) blk_scTb_0 (fun _ _ _ _ _ => by exact pg_name (i := 1) scTb.nd rfl (.inl rfl)) (fun _ _ _ _ _ => pts_nil) (fun _ _ _ _ _ => by exact (pe_kn d_is_whole hr (by rfl) (pa_cons (pv 1) pa_nil))))) pa_nil)))))), ?_⟩
  rcases h with ⟨t, ht, nt, k⟩ | ⟨a, xs, rfl, o, h⟩
  · exact ⟨_, rfl, v, _, _, rfl, .inr ⟨t, ht, nt, _, rfl, if_no rfl k⟩⟩
  obtain ⟨ha, ka⟩ := ob_H o (fun _ z => by cases z)
  rcases h with ⟨hx, k⟩ | ⟨h1, h2, ty, k⟩
  · refine ⟨_, rfl, _, _, _, rfl, .inl ⟨a, xs, rfl, o, _, rfl, if_no ?_ k⟩⟩
    rcases hx with hx | hx
    · rw [decide_eq_false (show ¬ (1 : Int) ≤ (xs.length : Int) by omega)]
      rfl
    · rw [decide_eq_false (show ¬ ((xs.length : Int) ≤ 60) by omega), Bool.and_false]
  refine ⟨_, rfl, _, _, _, rfl, .inl ⟨a, xs, rfl, o, _, rfl, if_yes (by rw [decide_eq_true (show (1 : Int) ≤ (xs.length : Int) by omega), decide_eq_true (show ((xs.length : Int) ≤ 60) by omega)]; rfl) ?_⟩⟩
  refine ⟨_, rfl, a, rfl, ⟨xs, .of ha⟩, fun D hD => lc_list (xs := xs) (TbI D xs H) ⟨upd_same, Same.new hD _⟩ (fun i H' _ h => .of (h.2 _ _ ha)) ?_ ?_⟩
  · rintro i x H' hi ⟨h, s2⟩
    refine ⟨rfl, ?_⟩
    simp only [tYes, if_true]
    have tx := ty x (List.mem_of_getElem? hi)
    refine ⟨_, rfl, x, rfl, tyS_same s2 tx, ?_⟩
    refine ⟨_, h, by rw [List.length_map, List.length_map, List.length_take, sizeLine_eq]; omega, ?_, fun c o e => ?_⟩
    · rw [upd_same, List.take_add_one, hi, List.map_append, List.map_append]
      rfl
    · rw [upd_ne (ne_of_none e hD)]
      exact s2 _ _ e
  · rintro H' ⟨h, s2⟩ fr
    rw [List.take_length] at h
    refine ⟨D, xs.map wholeV, rfl, .of h, ?_⟩
    have e : (xs.map wholeV).all id = xs.all wholeV := by rw [List.all_map]; rfl
    rw [e]
    exact k H' s2

/-- a list of rows of ints -/
def LR (K : PySem.W.Frag) (F : Addr → Prop) (H : Hp) (xs : List V) (f : Nat → List Int) (m : Nat) : Prop := xs.length = m ∧ ∀ (i : Nat) x, xs[i]? = some x → ∃ a, x = .ref a ∧ F a ∧ K.lookup a = none ∧ H a = some (.lst ((f i).map V.int))
theorem LR.imp {F F' : Addr → Prop} {H H' : Hp} {xs : List V} {f : Nat → List Int} {m : Nat} (h : LR K F H xs f m) (g : ∀ a, F a → F' a) (e : ∀ a o, F a → H a = some o → H' a = some o) : LR K F' H' xs f m := ⟨h.1, fun i x hx => by
  obtain ⟨a, e1, fa, kl, ha⟩ := h.2 i x hx
  exact ⟨a, e1, g a fa, kl, e a _ fa ha⟩⟩
theorem LR.same {F : Addr → Prop} {H H' : Hp} {xs : List V} {f : Nat → List Int} {m : Nat} (h : LR K F H xs f m) (e : Same H H') : LR K F H' xs f m := h.imp (fun _ z => z) fun a o _ => e a o
theorem LR.snoc {F : Addr → Prop} {H : Hp} {xs : List V} {f : Nat → List Int} {m : Nat} {a : Addr} (h : LR K F H xs f m) (fa : F a) (kl : K.lookup a = none) (ha : H a = some (.lst ((f m).map V.int))) : LR K F H (xs ++ [.ref a]) f (m + 1) := ⟨by rw [List.length_append, h.1]; rfl, fun i x hx => by
  rcases Nat.lt_or_ge i xs.length with z | z
  · rw [List.getElem?_append_left z] at hx
    exact h.2 i x hx
  · rw [List.getElem?_append_right z] at hx
    have l := h.1
    have : i - xs.length = 0 := by
      have := (List.getElem?_eq_some_iff.mp hx).1
      rw [List.length_singleton] at this
      omega
    rw [this] at hx
    cases hx
    rw [show i = m by omega]
    exact ⟨a, rfl, fa, kl, ha⟩⟩
theorem LR.at {F : Addr → Prop} {H : Hp} {xs : List V} {f : Nat → List Int} {m i : Nat} (h : LR K F H xs f m) (hi : i < m) : ∃ a, xs[i]? = some (.ref a) ∧ F a ∧ K.lookup a = none ∧ H a = some (.lst ((f i).map V.int)) := by
  have l : i < xs.length := by rw [h.1]; exact hi
  obtain ⟨a, e1, r⟩ := h.2 i xs[i] (List.getElem?_eq_getElem l)
  exact ⟨a, by rw [List.getElem?_eq_getElem l, e1], r⟩
theorem LR.last {F : Addr → Prop} {H : Hp} {xs : List V} {f : Nat → List Int} {m : Nat} (h : LR K F H xs f (m + 1)) : ∃ a, atI xs (-1) = some (.ref a) ∧ F a ∧ K.lookup a = none ∧ H a = some (.lst ((f m).map V.int)) := by
  obtain ⟨a, e1, r⟩ := h.at (i := m) (by omega)
  refine ⟨a, ?_, r⟩
  rw [atI_m1 (fun z => by have := h.1; rw [z] at this; simp at this), h.1, Nat.add_sub_cancel]
  exact e1
def spDf (K : PySem.W.Frag) : Sp := fun vs H Q _ => ∃ (a : Addr) (ns : List Int), vs = [.ref a] ∧ H a = some (.lst (ns.map V.int)) ∧ 1 ≤ ns.length ∧ ns.length ≤ 100 ∧ ∀ p xs H', Same H H' → H p = none → K.lookup p = none → H' p = some (.lst xs) → LR K (fun b => H b = none ∧ b ≠ p) H' xs (fun k => itd k ns) ns.length → Q (.ref p) H'
def DfW (K : PySem.W.Frag) (a p : Addr) (ns : List Int) (H : Hp) (σ : L2.St) (H' : Hp) : Prop := ∃ (k : Nat) (xs : List V), σ = [some (.ref a), some (.ref p), none, none] ∧ k + 1 ≤ ns.length ∧ Same H H' ∧ H' p = some (.lst xs) ∧ LR K (fun b => H b = none ∧ b ≠ p) H' xs (fun k => itd k ns) (k + 1)
def DfM (p : Addr) (n : Nat) (_ : L2.St) (H' : Hp) : Nat := match H' p with
  | some (.lst xs) => n - xs.length
  | _ => 0
def DcI (D : Addr) (ms : List Int) (H0 : Hp) (i : Nat) (H' : Hp) : Prop := H' D = some (.lst (((dif ms).take i).map V.int)) ∧ Same H0 H'
abbrev sDfs : Stmt := topS 27
theorem scDfs : FnScope ["values", "rows", "row", "after"] ["values"] (defScope sDfs) := ⟨rfl, rfl, rfl, by decide +kernel, rfl, by decide +kernel, by decide +kernel⟩
theorem blk_scDfs_0 : BlkOk ["values", "rows", "row", "after"] (defScope sDfs) { kind := .function, names := [(".0", .local), ("row", .local), ("after", .local)], isGenerator := false, isCoroutine := false, more := [] } [("row", 2), ("after", 3)] := ⟨rfl, by decide +kernel, by decide +kernel, by decide +kernel, by decide +kernel⟩
theorem k_Dfs (zZ : mg "zip" = none) (T : Bt K mg) (D : Dfn K mg "_differences" sDfs ["values"]) : Kn P w K mg base 1 "_differences" ["values"] (spDf K) := by
  refine Kn.mk' D scDfs (fun vs H Q E h => ?_) (fun f cdv A outer s H vs Q E hr h => ?_)
  · obtain ⟨a, ns, rfl, _⟩ := h
    rfl
  obtain ⟨a, ns, rfl, ha, l1, l100, k⟩ := h
  refine ⟨_, (pss_cons (ps_set (i := 1) scDfs.nd rfl (.inl rfl) (pe_ls (pa_cons (pe_fr (pe_callTy call_list_of (by rfl) T.b_list (by decide +kernel) (pa_cons (pv 0) pa_nil))) pa_nil)))
      (pss_cons (ps_while PassesOwn.never (pt_cmpR op_gt (pe_callB call_lenA (by rfl) T.b_len PySem.boot_len (pa_cons (pe_ix ix_any (pv 1) (pe_un un_neg pe_int) (fun _ _ => rfl)) pa_nil)) pe_int (nomark _)) (pss_one (ps_expr (pe_bm PySem.F.plainAttrs_list PySem.F.slot_list_append PySem.F.type_list_append mt_append (pv 1) (pa_cons (pe_fr (pe_lc (own := [("row", 2), ("after", 3)]) (g := gTup K 2 (gCons (gName 2) (gCons (gName 3) gNil))) (te := (tOp (rI0 fun i j => V.int (i - j)) (tVar 3) (tVar 2))) rfl scDfs.nd (pi_zip (by rfl) zZ (pa_cons (pe_ix ix_any (pv 1) (pe_un un_neg pe_int) (fun _ _ => rfl)) (pa_cons (pe_fr (pe_slice sl_list (pe_ix ix_any (pv 1) (pe_un un_neg pe_int) (fun _ _ => rfl)) (po_some pe_int) po_none)) pa_nil))) blk_scDfs_0 (fun _ _ _ _ _ => by exact pg_tup rfl (pgs_cons (pg_name (i := 2) scDfs.nd rfl (.inl rfl)) (pgs_cons (pg_name (i := 3) scDfs.nd rfl (.inl rfl)) pgs_nil))) (fun _ _ _ _ _ => pts_nil) (fun _ _ _ _ _ => by exact (pe_op op_sub (pv 3) (pv 2))))) pa_nil)))))
      (pss_one (ps_ret (pv 1))))), ?_⟩
  refine ⟨_, rfl, a, _, rfl, .inl (.of ha), fun l0 hl0 fr0 => ?_⟩
  have s1 := Same.new hl0 (.lst (ns.map V.int))
  have k0 : K.lookup l0 = none := fr0 l0 (by rw [upd_same]; simp)
  have h0 : upd H l0 (.lst (ns.map V.int)) l0 = some (.lst (ns.map V.int)) := upd_same
  generalize upd H l0 (.lst (ns.map V.int)) = H1 at s1 h0 ⊢
  refine ⟨sz2 (by show 1 ≤ 100; decide), fun p hp kp => ?_⟩
  have kp : K.lookup p = none := kp
  have hp0 : H p = none := s1.free hp
  have s2 := Same.new hp (.lst [.ref l0])
  have np : l0 ≠ p := ne_of_none h0 hp
  refine while_by (DfW K a p ns H) (DfM p ns.length) ⟨0, [.ref l0], rfl, l1, s1.trans s2, upd_same, rfl, fun i x hx => ?_⟩ ?_ ?_
  · have : i = 0 := by
      have := (List.getElem?_eq_some_iff.mp hx).1
      rw [List.length_singleton] at this
      omega
    subst this
    cases hx
    exact ⟨l0, rfl, ⟨hl0, np⟩, k0, s2 _ _ h0⟩
  · rintro σ H' ⟨kk, xs, rfl, hk, sH, hpx, lr⟩
    obtain ⟨r, er, fr, kr, hr'⟩ := lr.last
    have op : ob K H' p = some (.lst xs) := (ob_none kp).trans hpx
    have or : ob K H' r = some (.lst ((itd kk ns).map V.int)) := (ob_none kr).trans hr'
    have il := itd_len ns kk
    refine ⟨_, rfl, _, rfl, p, -1, rfl, rfl, _, itsO_ofL op, _, er, r, rfl, _, itsO_ofL or, _, _, rfl, rfl, _, rfl, ite2 (fun h => ?_) (fun h => ?_)⟩
    · have h : (1 : Int) < ((itd kk ns).map V.int).length := of_decide_eq_true h
      rw [List.length_map, il] at h
      have hk2 : kk + 2 ≤ ns.length := by omega
      refine ⟨_, rfl, .inl ⟨rfl, _, .of hpx⟩, _, rfl, _, rfl, p, -1, rfl, rfl, _, itsO_ofL op, _, er, _, rfl, _, rfl, p, -1, rfl, rfl, _, itsO_ofL op, _, er, _, rfl, r, _, rfl, .of hr', ?_⟩
      have ec : cutV ((itd kk ns).map V.int) (some ((fun i => i) 1)) none = ((itd kk ns).map V.int).drop 1 := cut_from _ 1 (by rw [List.length_map, il]; omega)
      rw [show cutV ((itd kk ns).map V.int) (some 1) none = ((itd kk ns).map V.int).drop 1 from ec]
      refine fun l2 hl2 fr2 => ?_
      have s3 := Same.new hl2 (.lst (((itd kk ns).map V.int).drop 1))
      have hr3 := s3 _ _ hr'
      have hl3 : upd H' l2 (.lst (((itd kk ns).map V.int).drop 1)) l2 = some (.lst (((itd kk ns).map V.int).drop 1)) := upd_same
      have hp3 := s3 _ _ hpx
      have lr3 := lr.same s3
      have sH3 := sH.trans s3
      generalize upd H' l2 (.lst (((itd kk ns).map V.int).drop 1)) = H3 at s3 hr3 hl3 hp3 lr3 sH3 ⊢
      have yl : (((itd kk ns).map V.int).drop 1).length = ns.length - kk - 1 := by rw [List.length_drop, List.length_map, il]
      refine ⟨r, l2, _, _, rfl, .of hr3, .of hl3, fun D hD => lc_zip (xs := (itd kk ns).map V.int) (ys := ((itd kk ns).map V.int).drop 1) (by rw [yl, List.length_map, il]; omega) (DcI D (itd kk ns) H3) ⟨upd_same, Same.new hD _⟩ (fun i H5 _ h => ⟨.of (h.2 _ _ hr3), .of (h.2 _ _ hl3)⟩) ?_ ?_⟩
      · rintro i x y T H5 hx hy ⟨h5, s5⟩ hT
        rw [List.getElem?_map] at hx
        rw [List.getElem?_drop, List.getElem?_map, Nat.add_comm] at hy
        obtain ⟨x1, ex, rfl⟩ := Option.map_eq_some_iff.mp hx
        obtain ⟨y1, ey, rfl⟩ := Option.map_eq_some_iff.mp hy
        have sT := Same.new hT (.tup [V.int x1, V.int y1])
        refine ⟨T, _, rfl, .inl (.inl upd_same), rfl, _, _, rfl, _, _, rfl, rfl, rfl, ?_⟩
        simp only [tYes, if_true]
        have xl := (List.getElem?_eq_some_iff.mp ex).1
        refine ⟨_, rfl, _, rfl, _, _, rfl, rfl, _, sT _ _ h5, by rw [List.length_map, List.length_take, sizeLine_eq]; omega, ?_, fun c o e => ?_⟩
        · rw [upd_same, dif_take ex ey, List.map_append]
          rfl
        · rw [upd_ne (ne_of_none e hD)]
          exact sT _ _ (s5 _ _ e)
      · rintro H5 ⟨h5, s5⟩ fr5
        rw [yl, List.take_of_length_le (by rw [dif_len, il]; omega)] at h5
        have hp5 := s5 _ _ hp3
        have lr5 := lr3.same s5
        have nD : D ≠ p := Ne.symm (ne_of_none hp3 hD)
        refine ⟨p, xs, _, rfl, rfl, hp5, by have := lr.1; rw [sizeLine_eq]; omega, ⟨kk + 1, xs ++ [.ref D], rfl, by omega, fun b o e => ?_, upd_same, ?_⟩, ?_⟩
        · rw [upd_ne (ne_of_none e hp0)]
          exact s5 _ _ (sH3 _ _ e)
        · refine (LR.snoc lr5 ⟨sH3.free hD, nD⟩ (fr5 D (by rw [h5]; simp)) h5).imp (fun _ z => z) fun b o fb e => ?_
          rw [upd_ne fb.2]
          exact e
        · unfold DfM
          rw [upd_same, hpx]
          show ns.length - (xs ++ [V.ref D]).length < ns.length - xs.length
          have := lr.1
          rw [List.length_append, List.length_singleton]
          omega
    · have h : ¬ (1 : Int) < ((itd kk ns).map V.int).length := fun z => h (decide_eq_true z)
      rw [List.length_map, il] at h
      have ek : kk + 1 = ns.length := by omega
      rw [ek] at lr
      exact ⟨_, rfl, k p xs H' sH hp0 kp hpx lr⟩
  · rintro σ H' Q' Q2 hq h
    obtain ⟨a1, a2, a3, a4, a5, a6, a7, a8, a9, b1, b2, b3, b4, b5, b6, b7, b8, b9, c1, c2, c3, c4, h⟩ := h
    exact ⟨a1, a2, a3, a4, a5, a6, a7, a8, a9, b1, b2, b3, b4, b5, b6, b7, b8, b9, c1, c2, c3, c4, hq _ _ h⟩

end
end My

namespace My
open PySem PySem.Spec PyProof.Rows L2
section
variable {P : Program} {w : World} {K : PySem.W.Frag} {mg : Str → Option Value} {base : Heap}
theorem intsB_of {R : Int → Prop} : ∀ {xs : List V}, (∀ x ∈ xs, ∃ n : Int, x = .int n ∧ R n) → ∃ ns : List Int, xs = ns.map V.int ∧ ∀ n ∈ ns, R n
  | [], _ => ⟨[], rfl, fun _ h => nomatch h⟩
  | x :: r, h => by
    obtain ⟨n, rfl, hn⟩ := h x List.mem_cons_self
    obtain ⟨ns, rfl, hr⟩ := intsB_of (xs := r) fun y hy => h y (List.mem_cons_of_mem _ hy)
    refine ⟨n :: ns, rfl, fun m hm => ?_⟩
    rcases List.mem_cons.mp hm with rfl | hm
    · exact hn
    · exact hr m hm
theorem ints_of : ∀ {xs : List V}, (∀ x ∈ xs, ∃ n : Int, x = .int n) → ∃ ns : List Int, xs = ns.map V.int
  | [], _ => ⟨[], rfl⟩
  | x :: r, h => by
    obtain ⟨n, rfl⟩ := h x List.mem_cons_self
    obtain ⟨ns, rfl⟩ := ints_of (xs := r) fun y hy => h y (List.mem_cons_of_mem _ hy)
    exact ⟨n :: ns, rfl⟩
theorem ap_tbG {H : Hp} {Q : VK} {a : Addr} {ns : List Int} (ha : H a = some (.lst (ns.map V.int))) (ka : K.lookup a = none) (l1 : 1 ≤ ns.length) (l2 : ns.length ≤ 60) (k : ∀ H', Same H H' → Q (.bl true) H') : TbA K H (.ref a) Q := by
  refine .inr ⟨a, _, rfl, (ob_none ka).trans ha, .inr ⟨by rw [List.length_map]; exact l1, by rw [List.length_map]; exact l2, fun x hx => ?_, fun H' s => ?_⟩⟩
  · obtain ⟨u, _, rfl⟩ := List.mem_map.mp hx
    rfl
  · rw [show (ns.map V.int).all wholeV = true from List.all_eq_true.mpr fun x hx => by
      obtain ⟨u, _, rfl⟩ := List.mem_map.mp hx
      rfl]
    exact k H' s
def spDfP (K : PySem.W.Frag) : Sp := fun vs H Q _ => ∃ (a : Addr) (ns : List Int), vs = [.ref a] ∧ H a = some (.lst (ns.map V.int)) ∧ K.lookup a = none ∧ 1 ≤ ns.length ∧ ns.length ≤ 60 ∧ ∀ p xs H', Same H H' → H p = none → K.lookup p = none → H' p = some (.lst xs) → LR K (fun b => H b = none ∧ b ≠ p) H' xs (fun k => itd k ns) ns.length → Q (.ref p) H'
def spDg (K : PySem.W.Frag) : Sp := fun vs H Q _ => ∃ (a : Addr) (ns : List Int), vs = [.ref a] ∧ H a = some (.lst (ns.map V.int)) ∧ K.lookup a = none ∧ 1 ≤ ns.length ∧ ns.length ≤ 60 ∧ ∀ H', Same H H' → Q (.int (dgU ns (ns.length - 1) : Nat)) H'
def DgI (D : Addr) (ns : List Int) (H0 : Hp) (i : Nat) (H' : Hp) : Prop := ∃ acc, H' D = some (.lst acc) ∧ acc.length = dgU ns i ∧ Same H0 H'
abbrev sDeg : Stmt := topS 21
theorem scDeg : FnScope ["values", "row"] ["values"] (defScope sDeg) := ⟨rfl, rfl, rfl, by decide +kernel, rfl, by decide +kernel, by decide +kernel⟩
theorem blk_scDeg_0 : BlkOk ["values", "row"] (defScope sDeg) { kind := .function, names := [(".0", .local), ("row", .local), ("any", .globalImplicit)], isGenerator := false, isCoroutine := false, more := [] } [("row", 1)] := ⟨rfl, by decide +kernel, by decide +kernel, by decide +kernel, by decide +kernel⟩
theorem k_Deg (zY : mg "any" = none) (T : Bt K mg) (D : Dfn K mg "degree_of" sDeg ["values"]) (d_require : Kn P w K mg base 1 "require" ["well_formed", "what"] spRequire) (d_is_table : Kn P w K mg base 2 "is_table" ["value"] (spTb K)) (d__differences : Kn P w K mg base 1 "_differences" ["values"] (spDf K)) : Kn P w K mg base 3 "degree_of" ["values"] (spDg K) := by
  refine Kn.mk' D scDeg (fun vs H Q E h => ?_) (fun f cdv A outer s H vs Q E hr h => ?_)
  · obtain ⟨a, ns, rfl, _⟩ := h
    rfl
  obtain ⟨a, ns, rfl, ha, ka, l1, l2, k⟩ := h
  refine ⟨_, (pss_cons (ps_expr (pe_kn d_require hr (by rfl) (pa_cons (pe_kn d_is_table hr (by rfl) (pa_cons (pv 0) pa_nil)) (pa_cons pe_str pa_nil))))
      (pss_one (ps_ret (pe_callB call_lenA (by rfl) T.b_len PySem.boot_len (pa_cons (pe_fr (pe_lc (own := [("row", 1)]) (g := gName 1) (tt := (tTest (tCB (rAnyI K) (tCons (tVar 1) L2.tNil)))) (te := (tVar 1)) rfl scDeg.nd (pi_list (pe_fr (pe_slice sl_list (pe_kn d__differences hr (by rfl) (pa_cons (pv 0) pa_nil)) (po_some pe_int) po_none))) blk_scDeg_0 (fun _ _ _ _ _ => by exact pg_name (i := 1) scDeg.nd rfl (.inl rfl)) (fun _ _ _ _ _ => by exact (pts_one (pt_val (pe_callB (cr_anyI rfl) (by rfl) zY (by decide +kernel) (pa_cons (pv 1) pa_nil))))) (fun _ _ _ _ _ => by exact (pv 1)))) pa_nil))))), ?_⟩
  refine ⟨_, rfl, _, rfl, ap_tbG ha ka l1 l2 fun H1 s1 => ⟨_, rfl, ?_⟩⟩
  refine ⟨_, rfl, a, ns, rfl, s1 _ _ ha, l1, by omega, fun p xs H2 s2 hp kp hx lr => ⟨_, rfl, p, xs, rfl, .of hx, ?_⟩⟩
  have xl := lr.1
  rw [show cutV xs (some 1) none = xs.drop 1 from cut_from xs 1 (by omega)]
  refine fun q hq frq => ?_
  have s3 := Same.new hq (.lst (xs.drop 1))
  have hq3 : upd H2 q (.lst (xs.drop 1)) q = some (.lst (xs.drop 1)) := upd_same
  have lr3 := lr.same s3
  have s13 := s1.trans (s2.trans s3)
  generalize upd H2 q (.lst (xs.drop 1)) = H3 at hq3 lr3 s13 ⊢
  refine ⟨q, rfl, ⟨_, .of hq3⟩, fun D hD => lc_list (xs := xs.drop 1) (DgI D ns H3) ⟨[], upd_same, rfl, Same.new hD _⟩ (fun i H' _ h => ?_) ?_ ?_⟩
  · obtain ⟨_, _, _, s4⟩ := h
    exact .of (s4 _ _ hq3)
  · rintro i x H' hi ⟨acc, hd, al, s4⟩
    rw [List.getElem?_drop, Nat.add_comm] at hi
    obtain ⟨b, rfl, _, kb, hb⟩ := lr3.2 (i + 1) x hi
    have hb4 := s4 _ _ hb
    have dl := dgU_le ns i
    have il := (List.getElem?_eq_some_iff.mp hi).1
    refine ⟨rfl, ?_⟩
    refine ⟨_, rfl, b, itd (i + 1) ns, rfl, .of hb4, _, rfl, ite2 (fun h => ?_) (fun h => ?_)⟩
    · refine ⟨_, rfl, acc, hd, by rw [al, sizeLine_eq]; omega, acc ++ [.ref b], upd_same, ?_, fun c o e => by rw [upd_ne (ne_of_none e hD)]; exact s4 _ _ e⟩
      rw [List.length_append, al]
      show dgU ns i + 1 = dgU ns i + (if nz (itd (i + 1) ns) = true then 1 else 0)
      rw [if_pos (show nz (itd (i + 1) ns) = true from h)]
    · refine ⟨acc, hd, ?_, s4⟩
      rw [al]
      show dgU ns i = dgU ns i + (if nz (itd (i + 1) ns) = true then 1 else 0)
      rw [if_neg (show ¬ nz (itd (i + 1) ns) = true from h), Nat.add_zero]
  · rintro H' ⟨acc, hd, al, s4⟩ fr
    refine ⟨D, rfl, acc, itsO_ofL ((ob_none (fr D (by rw [hd]; simp))).trans hd), ?_⟩
    rw [al, List.length_drop, xl]
    exact k H' (s13.trans s4)

/-- the store, while a list is written that is newer than it -/
theorem Sto.mut {H0 H' : Hp} {s l : Addr} {o : HO} (st0 : Sto K H0 s) (hl : H0 l = none) (kp : Kp s H0 H') (st : Sto K H' s) : Sto K (upd H' l o) s ∧ Kp s H0 (upd H' l o) := by
  obtain ⟨sc0, ns0, i0, b0, c0, d0, e0, f0, g1, g2, g3⟩ := st0
  obtain ⟨sc, ns, i, b, c, d, e, f, h1, h2, h3⟩ := st
  obtain ⟨r', hr⟩ := kp.2 _ _ g1
  rw [h1] at hr
  cases hr
  have n1 : s ≠ l := by rintro rfl; rw [g1] at hl; cases hl
  have n2 : sc0 ≠ l := by rintro rfl; rw [g2] at hl; cases hl
  refine ⟨⟨sc0, ns, i, b, c, d, e, f, by rw [upd_ne n1]; exact h1, by rw [upd_ne n2]; exact h2, h3⟩, fun b o n e => ?_, fun x r e => ?_⟩
  · rw [upd_ne (ne_of_none e hl)]
    exact kp.1 b o n e
  · obtain ⟨r2, hr2⟩ := kp.2 x r e
    exact ⟨r2, by rw [upd_ne n1]; exact hr2⟩
theorem Sto.ne' {H : Hp} {s l : Addr} (st : Sto K H s) (hl : H l = none) : l ≠ s := by
  rintro rfl
  obtain ⟨ys, hy⟩ := st.at
  rw [hy] at hl
  cases hl
theorem Kp.free {H H' : Hp} {s p : Addr} (kp : Kp s H H') (st : Sto K H' s) (hp : H' p = none) : H p = none := by
  have ne := st.ne' hp
  cases e : H p with
  | none => rfl
  | some o =>
    have := kp.1 p o ne e
    rw [hp] at this
    cases this
theorem Sto.ne {H : Hp} {s l : Addr} (st : Sto K H s) (hl : H l = none) : l ≠ s := by
  rintro rfl
  obtain ⟨ys, hy⟩ := st.at
  rw [hy] at hl
  cases hl
def spSize (K : PySem.W.Frag) : Sp := fun vs H Q _ => ∃ (s : Addr) (top : Int), vs = [.ref s, .int top] ∧ Sto K H s ∧ 0 ≤ top ∧ top < 2 ^ 60 ∧ ∀ r H', 0 ≤ r → r ≤ top → Kp s H H' → Sto K H' s → Q (.int r) H'
abbrev sSize : Stmt := topS 37
theorem scSize : FnScope ["_law_store_here", "_law_top", "_law_spot"] ["_law_store_here", "_law_top"] (defScope sSize) := ⟨rfl, rfl, rfl, by decide +kernel, rfl, by decide +kernel, by decide +kernel⟩
theorem k_Size (T : Bt K mg) (D : Dfn K mg "_law_size" sSize ["_law_store_here", "_law_top"]) (d__law_take : Kn P w K mg base 2 "_law_take" ["_law_store_here", "_law_many"] (spTake K)) : Kn P w K mg base 3 "_law_size" ["_law_store_here", "_law_top"] (spSize K) := by
  refine Kn.mk' D scSize (fun vs H Q E h => ?_) (fun f cdv A outer s H vs Q E hr h => ?_)
  · obtain ⟨s, top, rfl, _⟩ := h
    rfl
  obtain ⟨s, top, rfl, hS, t0, t1, k⟩ := h
  refine ⟨_, (pss_cons (ps_set (i := 2) scSize.nd rfl (.inl rfl) (pe_kn d__law_take hr (by rfl) (pa_cons (pv 0) (pa_cons pe_int pa_nil))))
      (pss_cons (ps_if (pt_cmpR op_lt (pv 2) pe_int (nomark _)) (pss_one (ps_ret (pe_callB (call_min2 rfl) (by rfl) T.b_min (by decide +kernel) (pa_cons (pv 2) (pa_cons (pv 1) pa_nil))))) pss_nil)
      (pss_cons (ps_if (PW.pt (pw_and (pt_cmpR op_eq (pv 2) pe_int (nomark _)) (pw_and1 (PW.pt (pw_or (pt_cmpR op_lt (pv 1) pe_int (nomark _)) (pw_or1 (pt_cmpR op_eq (pe_kn d__law_take hr (by rfl) (pa_cons (pv 0) (pa_cons pe_int pa_nil))) pe_int (nomark _)))))))) (pss_one (ps_ret (pv 1))) pss_nil)
      (pss_one (ps_ret (pe_kn d__law_take hr (by rfl) (pa_cons (pv 0) (pa_cons (pe_op op_add (pe_callB (call_min2 rfl) (by rfl) T.b_min (by decide +kernel) (pa_cons (pv 1) (pa_cons pe_int pa_nil))) pe_int) pa_nil)))))))), ?_⟩
  refine ⟨_, rfl, s, 12, rfl, hS, by omega, fun i H1 i0 i1 kp st => ?_⟩
  simp only [cx_K, decide_true, decide_false, reduceCtorEq, gTp, gCons, gNil, ca_0, ca_1, ca_2, ca_3, ca_4, ca_5, ca_6, ca_7, ca_8, ca_9, ca_10, ca_11, ca_12, ca_13, ca_14, ca_15, ca_16, ca_17, ca_18, ca_19, ca_20, ca_21, ca_22, ca_23, ca_24, ca_25, ca_26, ca_27, ca_28, ca_29, ca_30, not_true_eq_false, not_false_eq_true, Int.reduceEq, Nat.reduceEqDiff, Nat.reduceLeDiff, rGcd, V.ty.injEq, eq_self, List.not_mem_nil, beq_self_eq_true, HO.lst.injEq, HO.tup.injEq, tFor_eq, iRng1, iList, iTup, nat10, tSeq, rIxA, rSetA, rIsN, rIsT, tTp, tLs, itsO_tup, itsO_lst, tyO_tup, tyO_lst, tyO_dK, tyN_non, tyN_bl, tyN_int, tyN_str, tyN_ref, tyNs_lt, isB, upd_same, upd_upd, sizeLine_eq, List.mem_cons, String.reduceBEq, String.reduceEq, Bool.or_false, Bool.or_true, Bool.and_false, Bool.false_or, Bool.and_self, Bool.false_and, Bool.not_false, Bool.not_true, List.any_cons, List.any_nil, atI_0, setI_0, atI_1, setI_1, atI_2, setI_2, atI_3, setI_3, atI_4, setI_4, atI_5, setI_5, atI_6, setI_6, tAsg, gName, tOp, tUn, tVar, tC, tCons, L2.tNil, tRet, tIfS, tTest, tCB, tCall, rI, rI0, rU, tNext, tB, tAnd, tOr, tNot, tAndV, tOrV, tNotV, tDrop, tIf, tPar, gSub, rIxL, rIxT, rEq, rNe, rSetL, tBits,
    L2.start, List.map_cons, List.map_nil, List.cons_append, List.nil_append, List.append_nil, List.length_cons, List.length_nil, List.replicate, Nat.reduceAdd, Nat.reduceSub, Nat.zero_add, List.getElem?_cons_zero, List.getElem?_cons_succ, List.set_cons_zero, List.set_cons_succ,
    Option.some.injEq, exists_eq_left', exists_eq_left, V.int.injEq, V.bl.injEq, V.ref.injEq, V.str.injEq, List.cons.injEq, reduceCtorEq, and_true, true_and, false_and, and_false, exists_false, or_false, false_or, or_true, true_or, exists_const, CMul, CDiv, CPow, and_assoc, exists_and_left, exists_and_right, Int.reducePow, Int.reduceNeg, Int.reduceLT, Int.reduceLE, Nat.reducePow, Nat.reduceLT, Int.reduceToNat, gt_iff_lt, ge_iff_le, decide_eq_true_eq, Bool.not_eq_true', decide_eq_false_iff_not, scal, ↓reduceIte, Bool.false_eq_true]
  refine ite2 (fun h => ?_) (fun h => ?_)
  · refine k _ H1 ?_ ?_ kp st <;> split <;> omega
  have fin : ∀ H2, Kp s H1 H2 → Sto K H2 s → spTake K [.ref s, .int ((if 6 < top then 6 else top) + 1)] H2 Q C8.E0 := fun H2 kp2 st2 =>
    ⟨s, _, rfl, st2, by split <;> omega, fun j H3 j0 j1 kp3 st3 => k j H3 j0 (by split at j1 <;> omega) ((kp.trans kp2).trans kp3) st3⟩
  refine ite2 (fun _ => ite2 (fun _ => k top H1 t0 (Int.le_refl _) kp st) (fun _ => ⟨s, 3, rfl, st, by omega, fun j H2 j0 j1 kp2 st2 => ⟨rfl, ite2 (fun _ => k top H2 t0 (Int.le_refl _) (kp.trans kp2) st2) (fun _ => fin H2 kp2 st2)⟩⟩)) (fun _ => fin H1 (Kp.refl _ _) st)
def spWith (K : PySem.W.Frag) : Sp := fun vs H Q _ => ∃ (s a : Addr) (xs : List V) (y : V), vs = [.ref s, .ref a, y] ∧ Sto K H s ∧ H a = some (.lst xs) ∧ K.lookup a = none ∧ a ≠ s ∧ 1 ≤ xs.length ∧ xs.length ≤ 1000 ∧ ∀ c j H', j < xs.length → Kp s H H' → Sto K H' s → H' c = some (.lst (xs.take j ++ y :: xs.drop (j + 1))) → H c = none → K.lookup c = none → Q (.ref c) H'
abbrev sWith : Stmt := topS 42
theorem scWith : FnScope ["_law_store_here", "_law_row", "_law_item", "_law_spot"] ["_law_store_here", "_law_row", "_law_item"] (defScope sWith) := ⟨rfl, rfl, rfl, by decide +kernel, rfl, by decide +kernel, by decide +kernel⟩
theorem k_With (T : Bt K mg) (D : Dfn K mg "_law_with" sWith ["_law_store_here", "_law_row", "_law_item"]) (d__law_take : Kn P w K mg base 2 "_law_take" ["_law_store_here", "_law_many"] (spTake K)) : Kn P w K mg base 3 "_law_with" ["_law_store_here", "_law_row", "_law_item"] (spWith K) := by
  refine Kn.mk' D scWith (fun vs H Q E h => ?_) (fun f cdv A outer s H vs Q E hr h => ?_)
  · obtain ⟨s, a, xs, y, rfl, _⟩ := h
    rfl
  obtain ⟨s, a, xs, y, rfl, hS, ha, ka, na, l1, l2, k⟩ := h
  refine ⟨_, (pss_cons (ps_set (i := 3) scWith.nd rfl (.inl rfl) (pe_kn d__law_take hr (by rfl) (pa_cons (pv 0) (pa_cons (pe_callB call_lenA (by rfl) T.b_len PySem.boot_len (pa_cons (pv 1) pa_nil)) pa_nil))))
      (pss_one (ps_ret (pe_fr (pe_op op_cat (pe_fr (pe_op op_cat (pe_fr (pe_slice sl_list (pv 1) po_none (po_some (pv 3)))) (pe_ls (pa_cons (pv 2) pa_nil)))) (pe_fr (pe_slice sl_list (pv 1) (po_some (pe_op op_add (pv 3) pe_int)) po_none))))))), ?_⟩
  have oa := (ob_none ka).trans ha
  refine ⟨_, rfl, _, rfl, a, rfl, _, itsO_ofL oa, s, _, rfl, hS, by omega, fun i H1 i0 i1 kp st => ?_⟩
  obtain ⟨j, rfl⟩ : ∃ j : Nat, i = (j : Int) := ⟨i.toNat, by omega⟩
  have hj : j < xs.length := by omega
  have ha1 := kp _ _ na ha
  refine ⟨_, rfl, _, rfl, _, rfl, a, xs, rfl, .of ha1, ?_⟩
  rw [cut_to xs j (by omega)]
  refine fun p1 hp1 fr1 => ?_
  have s1 := Same.new hp1 (.lst (xs.take j))
  have c1 : upd H1 p1 (.lst (xs.take j)) p1 = some (.lst (xs.take j)) := upd_same
  have ha2 := s1 _ _ ha1
  generalize upd H1 p1 (.lst (xs.take j)) = H2 at s1 c1 ha2 ⊢
  refine ⟨_, rfl, sz2 (by show 1 ≤ 100; decide), fun p2 hp2 kp2 => ?_⟩
  have s2 := Same.new hp2 (.lst [y])
  have c2 : upd H2 p2 (.lst [y]) p2 = some (.lst [y]) := upd_same
  have c1 := s2 _ _ c1
  have ha3 := s2 _ _ ha2
  generalize upd H2 p2 (.lst [y]) = H3 at s2 c1 c2 ha3 ⊢
  refine ⟨p1, p2, _, _, rfl, rfl, c1, c2, by rw [List.length_take, List.length_singleton, sizeLine_eq]; omega, fun p3 hp3 fr3 => ?_⟩
  have s3 := Same.new hp3 (.lst (xs.take j ++ [y]))
  have c3 : upd H3 p3 (.lst (xs.take j ++ [y])) p3 = some (.lst (xs.take j ++ [y])) := upd_same
  have ha4 := s3 _ _ ha3
  generalize upd H3 p3 (.lst (xs.take j ++ [y])) = H4 at s3 c3 ha4 ⊢
  have ec : cutV xs (some ((j : Int) + 1)) none = xs.drop (j + 1) := by
    rw [show ((j : Int) + 1) = ((j + 1 : Nat) : Int) by omega]
    exact cut_from xs (j + 1) (by omega)
  refine ⟨_, rfl, _, rfl, _, _, rfl, rfl, _, rfl, a, xs, rfl, .of ha4, fun p4 hp4 fr4 => ?_⟩
  have s4 := Same.new hp4 (.lst (cutV xs (some ((j : Int) + 1)) none))
  have c4 : upd H4 p4 (.lst (cutV xs (some ((j : Int) + 1)) none)) p4 = some (.lst (xs.drop (j + 1))) := by rw [ec]; exact upd_same
  have c3 := s4 _ _ c3
  have hp4' : upd H4 p4 (.lst (cutV xs (some ((j : Int) + 1)) none)) = upd H4 p4 (.lst (cutV xs (some ((fun i j => i + j) (j : Int) 1)) none)) := rfl
  refine ⟨p3, p4, _, _, rfl, rfl, c3, c4, by rw [List.length_append, List.length_take, List.length_singleton, List.length_drop, sizeLine_eq]; omega, fun p5 hp5 fr5 => ?_⟩
  have s5 := Same.new hp5 (.lst (xs.take j ++ [y] ++ xs.drop (j + 1)))
  have sA := s1.trans (s2.trans (s3.trans (s4.trans s5)))
  have sB := s1.trans (s2.trans (s3.trans s4))
  exact k p5 j _ hj (kp.trans (Kp.same sA)) (st.same sA) (by rw [upd_same, List.append_assoc]; rfl) (Kp.free (kp.trans (Kp.same sB)) (st.same sB) hp5) (fr5 p5 (by rw [upd_same]; simp))
/-- a list that grows by draws, its items of any kind that stays -/
structure Stb (K : PySem.W.Frag) (s : Addr) (R : Hp → V → Prop) : Prop where
  kp : ∀ H H' x, R H x → Kp s H H' → Sto K H s → R H' x
  put : ∀ H D xs o x, R H x → H D = some (.lst xs) → R (upd H D o) x
def PvG (K : PySem.W.Frag) (R : Hp → V → Prop) (s D : Addr) (H1 : Hp) (i : Nat) (H' : Hp) : Prop := ∃ acc : List V, acc.length = i ∧ H' D = some (.lst acc) ∧ Kp s H1 H' ∧ Sto K H' s ∧ ∀ x ∈ acc, R H' x
theorem pvg_0 {R : Hp → V → Prop} {s D : Addr} {H1 : Hp} (st : Sto K H1 s) (hD : H1 D = none) : PvG K R s D H1 0 (upd H1 D (.lst [])) := ⟨[], rfl, upd_same, (st.mut hD (Kp.refl _ _) st).2, (st.mut hD (Kp.refl _ _) st).1, fun x hx => nomatch hx⟩
theorem pvg_step {R : Hp → V → Prop} {i : Nat} {s D : Addr} {H1 H' H2 : Hp} {y : V} (S : Stb K s R) (st1 : Sto K H1 s) (hD : H1 D = none) (h : PvG K R s D H1 i H') (kp : Kp s H' H2) (st : Sto K H2 s) (hy : R H2 y) (hi : i < 1000) : ∃ acc, H2 D = some (.lst acc) ∧ acc.length < sizeLine ∧ PvG K R s D H1 (i + 1) (upd H2 D (.lst (acc ++ [y]))) := by
  obtain ⟨acc, l, hd, kp0, st0, hx⟩ := h
  have nD : D ≠ s := st1.ne hD
  have hd2 := kp D _ nD hd
  obtain ⟨m1, m2⟩ := st1.mut (o := .lst (acc ++ [y])) hD (kp0.trans kp) st
  refine ⟨acc, hd2, by rw [l, sizeLine_eq]; omega, acc ++ [y], by rw [List.length_append, l]; rfl, upd_same, m2, m1, fun x hm => ?_⟩
  rcases List.mem_append.mp hm with hm | hm
  · exact S.put _ _ _ _ _ (S.kp _ _ _ (hx x hm) kp st0) hd2
  · rw [List.mem_singleton] at hm
    subst hm
    exact S.put _ _ _ _ _ hy hd2
/-- a whole number of at most B bits -/
def bdI (B : Nat) (n : Int) : Prop := n.natAbs < 2 ^ B
theorem bdI_mono {B C : Nat} {n : Int} (h : bdI B n) (l : B ≤ C) : bdI C n := Nat.lt_of_lt_of_le h (Nat.pow_le_pow_right (by decide) l)
theorem bdI_add {B : Nat} {a b : Int} (h1 : bdI B a) (h2 : bdI B b) : bdI (B + 1) (a + b) := by
  unfold bdI at *
  rw [Nat.pow_succ]
  omega
theorem bdI_mul {B C : Nat} {a b : Int} (h1 : bdI B a) (h2 : bdI C b) : bdI (B + C) (a * b) := by
  unfold bdI at *
  rw [Int.natAbs_mul, Nat.pow_add]
  exact Nat.mul_lt_mul'' h1 h2
theorem bdI_0 (B : Nat) : bdI B 0 := Nat.pow_pos (by decide)
def Bd (B : Nat) (ns : List Int) : Prop := ∀ n ∈ ns, bdI B n
theorem bdI_sm {n : Int} (h1 : -12 ≤ n) (h2 : n ≤ 12) : bdI 67 n := by
  unfold bdI
  omega
theorem bdI_20 {n : Int} (h1 : -100000000000000000000 ≤ n) (h2 : n ≤ 100000000000000000000) : bdI 67 n := by
  unfold bdI
  omega
theorem Bd.mono {B C : Nat} {ns : List Int} (h : Bd B ns) (l : B ≤ C) : Bd C ns := fun n hn => bdI_mono (h n hn) l
def GI (K : PySem.W.Frag) (s : Addr) (H : Hp) (B lo hi : Nat) (Q : VK) : Prop := ∀ l (ns : List Int) H', Bd B ns → lo ≤ ns.length → ns.length ≤ hi → H l = none → K.lookup l = none → H' l = some (.lst (ns.map V.int)) → Kp s H H' → Sto K H' s → Q (.ref l) H'
def isI (B : Nat) : Hp → V → Prop := fun _ v => ∃ n : Int, v = .int n ∧ bdI B n
theorem stb_i {B : Nat} {s : Addr} : Stb K s (isI B) := ⟨fun _ _ _ h _ _ => h, fun _ _ _ _ _ h _ => h⟩
/-- the list is done -/
theorem gi_fin {s D : Addr} {H H1 Hn : Hp} {B n lo hi : Nat} {Q : VK} (k : GI K s H B lo hi Q) (kp : Kp s H H1) (st : Sto K H1 s) (hD : H1 D = none) (h : PvG K (isI B) s D H1 n Hn) (h1 : lo ≤ n) (h2 : n ≤ hi) (fr : ∀ a, Hn a ≠ none → K.lookup a = none) : Q (.ref D) Hn := by
  obtain ⟨acc, al, hd, kp2, st2, hx⟩ := h
  obtain ⟨ns, rfl, hb⟩ := intsB_of hx
  rw [List.length_map] at al
  exact k D ns Hn hb (by omega) (by omega) (kp.free st hD) (fr D (by rw [hd]; simp)) hd (kp.trans kp2) st2
def spHd (K : PySem.W.Frag) : Sp := fun vs H Q _ => ∃ (s : Addr) (m : Int), vs = [.ref s, .int m] ∧ Sto K H s ∧ 1 ≤ m ∧ m ≤ 10 ∧ GI K s H 67 m.toNat m.toNat Q
abbrev sHd : Stmt := topS 47
theorem scHd : FnScope ["_law_store_here", "_law_many", "_law_k"] ["_law_store_here", "_law_many"] (defScope sHd) := ⟨rfl, rfl, rfl, by decide +kernel, rfl, by decide +kernel, by decide +kernel⟩
theorem blk_scHd_0 : BlkOk ["_law_store_here", "_law_many", "_law_k"] (defScope sHd) { kind := .function, names := [(".0", .local), ("_law_k", .local), ("_law_whole", .globalImplicit), ("_law_store_here", .free)], isGenerator := false, isCoroutine := false, more := [] } [("_law_k", 2)] := ⟨rfl, by decide +kernel, by decide +kernel, by decide +kernel, by decide +kernel⟩
theorem blk_scHd_1 : BlkOk ["_law_store_here", "_law_many", "_law_k"] (defScope sHd) { kind := .function, names := [(".0", .local), ("_law_k", .local), ("_law_whole", .globalImplicit), ("_law_store_here", .free)], isGenerator := false, isCoroutine := false, more := [] } [("_law_k", 2)] := ⟨rfl, by decide +kernel, by decide +kernel, by decide +kernel, by decide +kernel⟩
theorem k_Hd (T : Bt K mg) (D : Dfn K mg "_law_heads" sHd ["_law_store_here", "_law_many"]) (d__law_take : Kn P w K mg base 2 "_law_take" ["_law_store_here", "_law_many"] (spTake K)) (d__law_whole : Kn P w K mg base 3 "_law_whole" ["_law_store_here", "_law_reach"] (spLInt K)) : Kn P w K mg base 4 "_law_heads" ["_law_store_here", "_law_many"] (spHd K) := by
  refine Kn.mk' D scHd (fun vs H Q E h => ?_) (fun f cdv A outer s H vs Q E hr h => ?_)
  · obtain ⟨s, m, rfl, _⟩ := h
    rfl
  obtain ⟨s, m, rfl, hS, m1, m2, k⟩ := h
  refine ⟨_, (pss_cons (ps_if (pt_cmpR op_eq (pe_kn d__law_take hr (by rfl) (pa_cons (pv 0) (pa_cons pe_int pa_nil))) pe_int (nomark _)) (pss_one (ps_ret (pe_fr (pe_lc (own := [("_law_k", 2)]) (g := gName 2) (te := (tCall (spLInt K) [] E0 (tCons (tVar 0) (tCons (tOp (rI CPow fun i j => V.int (i ^ j.toNat)) (tC (.int 10)) (tC (.int 20))) L2.tNil)))) rfl scHd.nd (pi_range1 (by rfl) T.b_range (pa_cons (pv 1) pa_nil)) blk_scHd_0 (fun _ _ _ _ _ => by exact pg_name (i := 2) scHd.nd rfl (.inl rfl)) (fun _ _ _ _ _ => pts_nil) (fun _ _ _ _ _ => by exact (pe_kn d__law_whole hr (by rfl) (pa_cons (pv 0) (pa_cons (pe_op op_pow pe_int pe_int) pa_nil)))))))) pss_nil)
      (pss_one (ps_ret (pe_fr (pe_lc (own := [("_law_k", 2)]) (g := gName 2) (te := (tCall (spLInt K) [] E0 (tCons (tVar 0) (tCons (tC (.int 12)) L2.tNil)))) rfl scHd.nd (pi_range1 (by rfl) T.b_range (pa_cons (pv 1) pa_nil)) blk_scHd_1 (fun _ _ _ _ _ => by exact pg_name (i := 2) scHd.nd rfl (.inl rfl)) (fun _ _ _ _ _ => pts_nil) (fun _ _ _ _ _ => by exact (pe_kn d__law_whole hr (by rfl) (pa_cons (pv 0) (pa_cons pe_int pa_nil))))))))), ?_⟩
  have e20 : (10 : Int) ^ (20 : Int).toNat = 100000000000000000000 := by decide
  refine ⟨_, rfl, s, 8, rfl, hS, by omega, fun i H1 i0 i1 kp1 st1 => ⟨rfl, _, rfl, ite2 (fun h => ?_) (fun h => ?_)⟩⟩
  · refine ⟨_, rfl, _, rfl, by omega, by omega, fun D hD => lc_range (lo := 0) (n := m.toNat) (PvG K (isI 67) s D H1) (pvg_0 st1 hD) ?_ (fun Hn hP fr => gi_fin k kp1 st1 hD hP (Nat.le_refl _) (Nat.le_refl _) fr)⟩
    rintro i H' hi hP
    refine ⟨rfl, ?_⟩
    simp only [tYes, if_true]
    obtain ⟨_, _, _, kpP, stP, _⟩ := id hP
    exact ⟨_, rfl, _, _, rfl, rfl, by unfold CPow; decide, s, _, rfl, stP, by rw [e20]; decide, by rw [e20]; decide, fun n H3 lo' hi' kp3 st3 => pvg_step stb_i st1 hD hP kp3 st3 ⟨n, rfl, by rw [e20] at lo' hi'; exact bdI_20 lo' hi'⟩ (by omega)⟩
  · refine ⟨_, rfl, _, rfl, by omega, by omega, fun D hD => lc_range (lo := 0) (n := m.toNat) (PvG K (isI 67) s D H1) (pvg_0 st1 hD) ?_ (fun Hn hP fr => gi_fin k kp1 st1 hD hP (Nat.le_refl _) (Nat.le_refl _) fr)⟩
    rintro i H' hi hP
    refine ⟨rfl, ?_⟩
    simp only [tYes, if_true]
    obtain ⟨_, _, _, kpP, stP, _⟩ := id hP
    exact ⟨_, rfl, s, _, rfl, stP, by omega, by omega, fun n H3 lo' hi' kp3 st3 => pvg_step stb_i st1 hD hP kp3 st3 ⟨n, rfl, bdI_sm lo' hi'⟩ (by omega)⟩
def spRo (K : PySem.W.Frag) : Sp := fun vs H Q _ => ∃ (a : Addr) (ns : List Int) (m : Int) (B : Nat), vs = [.ref a, .int m] ∧ H a = some (.lst (ns.map V.int)) ∧ K.lookup a = none ∧ 1 ≤ ns.length ∧ ns.length ≤ 20 ∧ 0 ≤ m ∧ m ≤ 100 ∧ Bd B ns ∧ ∀ l (zs : List Int) H', Bd (B + m.toNat) zs → zs.length = m.toNat → H l = none → K.lookup l = none → H' l = some (.lst (zs.map V.int)) → Same H H' → Q (.ref l) H'
def RoI (K : PySem.W.Frag) (B : Nat) (a o : Addr) (m : Int) (n : Nat) (H : Hp) (i : Nat) (σ : L2.St) (H' : Hp) : Prop := ∃ (r : Addr) (ms zs : List Int) (x4 : Option V), σ = [some (.ref a), some (.int m), some (.ref r), some (.ref o), x4, none] ∧ Same H H' ∧ H' r = some (.lst (ms.map V.int)) ∧ K.lookup r = none ∧ r ≠ o ∧ ms.length = n ∧ H' o = some (.lst (zs.map V.int)) ∧ zs.length = i ∧ Bd (B + i) ms ∧ Bd (B + i) zs
def RcI (B : Nat) (D : Addr) (H0 : Hp) (i : Nat) (H' : Hp) : Prop := ∃ zs : List Int, H' D = some (.lst (zs.map V.int)) ∧ zs.length = i ∧ Bd B zs ∧ Same H0 H'
abbrev sRo : Stmt := topS 48
theorem scRo : FnScope ["_law_heads_here", "_law_many", "_law_row", "_law_out", "_law_k", "_law_j"] ["_law_heads_here", "_law_many"] (defScope sRo) := ⟨rfl, rfl, rfl, by decide +kernel, rfl, by decide +kernel, by decide +kernel⟩
theorem blk_scRo_0 : BlkOk ["_law_heads_here", "_law_many", "_law_row", "_law_out", "_law_k", "_law_j"] (defScope sRo) { kind := .function, names := [(".0", .local), ("_law_j", .local), ("len", .globalImplicit), ("_law_row", .free)], isGenerator := false, isCoroutine := false, more := [] } [("_law_j", 5)] := ⟨rfl, by decide +kernel, by decide +kernel, by decide +kernel, by decide +kernel⟩
theorem k_Ro (T : Bt K mg) (D : Dfn K mg "_law_rows_of" sRo ["_law_heads_here", "_law_many"]) : Kn P w K mg base 1 "_law_rows_of" ["_law_heads_here", "_law_many"] (spRo K) := by
  refine Kn.mk' D scRo (fun vs H Q E h => ?_) (fun f cdv A outer s H vs Q E hr h => ?_)
  · obtain ⟨a, ns, m, B, rfl, _⟩ := h
    rfl
  obtain ⟨a, ns, m, B, rfl, ha, ka, l1, l2, m0, m1, bd, k⟩ := h
  refine ⟨_, (pss_cons (ps_set (i := 2) scRo.nd rfl (.inr rfl) (pe_fr (pe_callTy call_list_of (by rfl) T.b_list (by decide +kernel) (pa_cons (pv 0) pa_nil))))
      (pss_cons (ps_set (i := 3) scRo.nd rfl (.inl rfl) (pe_ls pa_nil))
      (pss_cons (ps_for PassesOwn.never rfl (pi_range1 (by rfl) T.b_range (pa_cons (pv 1) pa_nil)) (pg_name (i := 4) scRo.nd rfl (.inl rfl)) (pss_cons (ps_expr (pe_bm PySem.F.plainAttrs_list PySem.F.slot_list_append PySem.F.type_list_append mt_append (pv 3) (pa_cons (pe_ix ix_any (pv 2) pe_int (fun _ _ => rfl)) pa_nil)))
      (pss_one (ps_set (i := 2) scRo.nd rfl (.inr rfl) (pe_fr (pe_lc (own := [("_law_j", 5)]) (g := gName 5) (te := (tOp (rI0 fun i j => V.int (i + j)) (tOp (rIxA K) (tVar 2) (tVar 5)) (tIf (tTest (tOp (rI0 fun i j => V.bl (decide (i < j))) (tOp (rI0 fun i j => V.int (i + j)) (tVar 5) (tC (.int 1))) (tCB (fun xs H Q => ∃ p, xs = [V.ref p] ∧ ∃ ys, itsO (ob K H p) = some ys ∧ Q (V.int (ys.length : Int)) H) (tCons (tVar 2) L2.tNil)))) (tOp (rIxA K) (tVar 2) (tOp (rI0 fun i j => V.int (i + j)) (tVar 5) (tC (.int 1)))) (tC (.int 0))))) rfl scRo.nd (pi_range1 (by rfl) T.b_range (pa_cons (pe_callB call_lenA (by rfl) T.b_len PySem.boot_len (pa_cons (pv 2) pa_nil)) pa_nil)) blk_scRo_0 (fun _ _ _ _ _ => by exact pg_name (i := 5) scRo.nd rfl (.inl rfl)) (fun _ _ _ _ _ => pts_nil) (fun _ _ _ _ _ => by exact (pe_op op_add (pe_ix ix_any (pv 2) (pv 5) (fun _ _ => rfl)) (pe_ifExp (pt_cmpR op_lt (pe_op op_add (pv 5) pe_int) (pe_callB call_lenA (by rfl) T.b_len PySem.boot_len (pa_cons (pv 2) pa_nil)) (nomark _)) (pe_ix ix_any (pv 2) (pe_op op_add (pv 5) pe_int) (fun _ _ => rfl)) pe_int)))))))))
      (pss_one (ps_ret (pv 3)))))), ?_⟩
  refine ⟨_, rfl, a, _, rfl, .inl (.of ha), fun l0 hl0 fr0 => ?_⟩
  have s1 := Same.new hl0 (.lst (ns.map V.int))
  have k0 : K.lookup l0 = none := fr0 l0 (by rw [upd_same]; simp)
  have h0 : upd H l0 (.lst (ns.map V.int)) l0 = some (.lst (ns.map V.int)) := upd_same
  generalize upd H l0 (.lst (ns.map V.int)) = H1 at s1 h0 ⊢
  refine ⟨sz2 (by show 0 ≤ 100; decide), fun o ho ko => ?_⟩
  have ko : K.lookup o = none := ko
  have s2 := Same.new ho (.lst [])
  have ho0 : H o = none := s1.free ho
  refine ⟨_, rfl, _, rfl, by omega, by omega, forI_range (lo := 0) (n := m.toNat) (RoI K B a o m ns.length H) ⟨l0, ns, [], none, rfl, s1.trans s2, s2 _ _ h0, k0, ne_of_none h0 ho, rfl, upd_same, rfl, bd, (fun _ z => nomatch z)⟩ ?_ ?_⟩
  · rintro i σ H' hi ⟨r, ms, zs, x4, rfl, s3, hr', kr, nr, ml, hz, zl, bm, bz⟩
    have bm0 := bm
    obtain ⟨m0', mr, rfl⟩ : ∃ x y, ms = x :: y := by
      cases ms with
      | nil => simp at ml; omega
      | cons x y => exact ⟨x, y, rfl⟩
    have or : ob K H' r = some (.lst ((m0' :: mr).map V.int)) := (ob_none kr).trans hr'
    refine ⟨_, rfl, .inl ⟨rfl, _, .of hz⟩, _, rfl, r, 0, rfl, rfl, _, itsO_ofL or, .int m0', atI_0 _ _, o, _, _, rfl, rfl, hz, by rw [List.length_map, zl, sizeLine_eq]; omega, ?_⟩
    have hr4 : upd H' o (.lst (zs.map V.int ++ [V.int m0'])) r = some (.lst ((m0' :: mr).map V.int)) := by rw [upd_ne nr]; exact hr'
    have ho4 : upd H' o (.lst (zs.map V.int ++ [V.int m0'])) o = some (.lst ((zs ++ [m0']).map V.int)) := by rw [upd_same, List.map_append]; rfl
    have s4 : Same H (upd H' o (.lst (zs.map V.int ++ [V.int m0']))) := fun b u e => by rw [upd_ne (ne_of_none e ho0)]; exact s3 _ _ e
    generalize upd H' o (.lst (zs.map V.int ++ [V.int m0'])) = H4 at hr4 ho4 s4 ⊢
    have or4 : ob K H4 r = some (.lst ((m0' :: mr).map V.int)) := (ob_none kr).trans hr4
    have b0 : bdI (B + i) m0' := bm _ List.mem_cons_self
    clear bm0
    generalize m0' :: mr = ms at ml hr4 or4 bm
    have mml : (ms.map V.int).length = ns.length := by rw [List.length_map, ml]
    refine ⟨_, rfl, r, rfl, _, itsO_ofL or4, _, rfl, by omega, by omega, fun D hD => lc_range (lo := 0) (n := (ms.map V.int).length) (RcI (B + i + 1) D H4) ⟨[], upd_same, rfl, (fun _ z => nomatch z), Same.new hD _⟩ ?_ ?_⟩
    · rintro j H5 hj ⟨ws, hd, wl, bw, s5⟩
      refine ⟨rfl, ?_⟩
      simp only [tYes, if_true]
      have or5 : ob K H5 r = some (.lst (ms.map V.int)) := ob_same s5 or4
      have jl : j < ms.length := by rw [List.length_map] at hj; exact hj
      have e1 : atI (ms.map V.int) (0 + (j : Int)) = some (.int ms[j]) := by
        rw [Int.zero_add]
        exact atI_nat (by rw [List.getElem?_map, List.getElem?_eq_getElem jl]; rfl)
      have fin : ∀ z : Int, bdI (B + i + 1) z → ∃ acc, H5 D = some (.lst acc) ∧ acc.length < sizeLine ∧ RcI (B + i + 1) D H4 (j + 1) (upd H5 D (.lst (acc ++ [V.int z]))) := fun z hz => by
        refine ⟨_, hd, by rw [List.length_map, wl, sizeLine_eq]; omega, ws ++ [z], by rw [upd_same, List.map_append]; rfl, by rw [List.length_append, wl]; rfl, fun n hn => (List.mem_append.mp hn).elim (bw n) (fun q => by rw [List.mem_singleton.mp q]; exact hz), fun c u e => by rw [upd_ne (ne_of_none e hD)]; exact s5 _ _ e⟩
      refine ⟨_, rfl, _, rfl, r, _, rfl, rfl, _, itsO_ofL or5, _, e1, _, rfl, _, _, rfl, rfl, _, rfl, r, rfl, _, itsO_ofL or5, _, _, rfl, rfl, _, rfl, ite2 (fun h => ?_) (fun h => ?_)⟩
      · have h : 0 + (j : Int) + 1 < ((ms.map V.int).length : Int) := of_decide_eq_true h
        have jl2 : j + 1 < ms.length := by rw [List.length_map] at h; omega
        have e2 : atI (ms.map V.int) (0 + (j : Int) + 1) = some (.int ms[j + 1]) := by
          rw [show 0 + (j : Int) + 1 = ((j + 1 : Nat) : Int) by omega]
          exact atI_nat (by rw [List.getElem?_map, List.getElem?_eq_getElem jl2]; rfl)
        exact ⟨_, rfl, _, rfl, _, _, rfl, rfl, r, _, rfl, rfl, _, itsO_ofL or5, _, e2, _, _, rfl, rfl, fin _ (bdI_add (bm _ (List.getElem_mem _)) (bm _ (List.getElem_mem _)))⟩
      · exact ⟨_, _, rfl, rfl, fin _ (bdI_add (bm _ (List.getElem_mem _)) (bdI_0 _))⟩
    · rintro H5 ⟨ws, hd, wl, bw, s5⟩ fr5
      exact ⟨D, ws, zs ++ [m0'], _, rfl, fun b u e => s5 _ _ (s4 _ _ e), hd, fr5 D (by rw [hd]; simp), Ne.symm (ne_of_none ho4 hD), by rw [wl, mml], s5 _ _ ho4, by rw [List.length_append, zl]; rfl, bw, fun n hn => (List.mem_append.mp hn).elim (fun q => bdI_mono (bz n q) (Nat.le_succ _)) (fun q => by rw [List.mem_singleton.mp q]; exact bdI_mono b0 (Nat.le_succ _))⟩
  · rintro σ H' ⟨r, ms, zs, x4, rfl, s3, hr', kr, nr, ml, hz, zl, bm, bz⟩
    exact ⟨_, rfl, k o zs H' bz zl ho0 ko hz s3⟩

end
end My

namespace My
open PySem PySem.Spec PyProof.Rows L2
section
variable {P : Program} {w : World} {K : PySem.W.Frag} {mg : Str → Option Value} {base : Heap}
def TabQ (K : PySem.W.Frag) (s : Addr) (H : Hp) (Q : VK) : Prop := ∀ c l (ns : List Int) (d : Int) H', ob K H' c = some (.tup [.ref l, .int d]) → Bd 133 ns → 1 ≤ ns.length → ns.length ≤ 60 → 0 ≤ d → d ≤ 8 → H l = none → K.lookup l = none → H' l = some (.lst (ns.map V.int)) → Kp s H H' → Sto K H' s → Q (.ref c) H'
def spTab (K : PySem.W.Frag) : Sp := fun vs H Q _ => ∃ s : Addr, vs = [.ref s] ∧ Sto K H s ∧ TabQ K s H Q
abbrev sTab : Stmt := topS 51
theorem scTab : FnScope ["_law_store_here", "_law_degree", "_law_many", "_law_kind", "_law_heads_here", "_law_k"] ["_law_store_here"] (defScope sTab) := ⟨rfl, rfl, rfl, by decide +kernel, rfl, by decide +kernel, by decide +kernel⟩
theorem blk_scTab_0 : BlkOk ["_law_store_here", "_law_degree", "_law_many", "_law_kind", "_law_heads_here", "_law_k"] (defScope sTab) { kind := .function, names := [(".0", .local), ("_law_k", .local), ("_law_great", .globalImplicit), ("_law_store_here", .free)], isGenerator := false, isCoroutine := false, more := [] } [("_law_k", 5)] := ⟨rfl, by decide +kernel, by decide +kernel, by decide +kernel, by decide +kernel⟩
theorem blk_scTab_1 : BlkOk ["_law_store_here", "_law_degree", "_law_many", "_law_kind", "_law_heads_here", "_law_k"] (defScope sTab) { kind := .function, names := [(".0", .local), ("_law_k", .local), ("_law_whole", .globalImplicit), ("_law_store_here", .free)], isGenerator := false, isCoroutine := false, more := [] } [("_law_k", 5)] := ⟨rfl, by decide +kernel, by decide +kernel, by decide +kernel, by decide +kernel⟩
theorem k_Tab (T : Bt K mg) (D : Dfn K mg "_law_table" sTab ["_law_store_here"]) (d__law_take : Kn P w K mg base 2 "_law_take" ["_law_store_here", "_law_many"] (spTake K)) (d__law_pick : Kn P w K mg base 3 "_law_pick" ["_law_store_here", "_law_row"] (spPick K)) (d__law_size : Kn P w K mg base 3 "_law_size" ["_law_store_here", "_law_top"] (spSize K)) (d__law_great : Kn P w K mg base 3 "_law_great" ["_law_store_here"] (spInt K fun n => n.natAbs < 2 ^ 133)) (d__law_whole : Kn P w K mg base 3 "_law_whole" ["_law_store_here", "_law_reach"] (spLInt K)) (d__law_heads : Kn P w K mg base 4 "_law_heads" ["_law_store_here", "_law_many"] (spHd K)) (d__law_rows_of : Kn P w K mg base 1 "_law_rows_of" ["_law_heads_here", "_law_many"] (spRo K)) : Kn P w K mg base 5 "_law_table" ["_law_store_here"] (spTab K) := by
  refine Kn.mk' D scTab (fun vs H Q E h => ?_) (fun f cdv A outer s H vs Q E hr h => ?_)
  · obtain ⟨s, rfl, _⟩ := h
    rfl
  obtain ⟨s, rfl, hS, k⟩ := h
  refine ⟨_, (pss_cons (ps_set (i := 1) scTab.nd rfl (.inl rfl) (pe_kn d__law_pick hr (by rfl) (pa_cons (pv 0) (pa_cons (pe_ls (pa_cons pe_int (pa_cons pe_int (pa_cons pe_int (pa_cons pe_int (pa_cons pe_int (pa_cons (pe_kn d__law_take hr (by rfl) (pa_cons (pv 0) (pa_cons pe_int pa_nil))) pa_nil))))))) pa_nil))))
      (pss_cons (ps_set (i := 2) scTab.nd rfl (.inl rfl) (pe_op op_add pe_int (pe_kn d__law_size hr (by rfl) (pa_cons (pv 0) (pa_cons pe_int pa_nil)))))
      (pss_cons (ps_set (i := 3) scTab.nd rfl (.inl rfl) (pe_kn d__law_take hr (by rfl) (pa_cons (pv 0) (pa_cons pe_int pa_nil))))
      (pss_cons (ps_if (pt_cmpR op_eq (pv 3) pe_int (nomark _)) (pss_one (ps_ret (pe_tp (pa_cons (pe_fr (pe_lc (own := [("_law_k", 5)]) (g := gName 5) (te := (tCall (spInt K fun n => n.natAbs < 2 ^ 133) [] E0 (tCons (tVar 0) L2.tNil))) rfl scTab.nd (pi_range1 (by rfl) T.b_range (pa_cons (pe_callB (call_min2 rfl) (by rfl) T.b_min (by decide +kernel) (pa_cons (pv 2) (pa_cons pe_int pa_nil))) pa_nil)) blk_scTab_0 (fun _ _ _ _ _ => by exact pg_name (i := 5) scTab.nd rfl (.inl rfl)) (fun _ _ _ _ _ => pts_nil) (fun _ _ _ _ _ => by exact (pe_kn d__law_great hr (by rfl) (pa_cons (pv 0) pa_nil))))) (pa_cons (pv 1) pa_nil))))) pss_nil)
      (pss_cons (ps_if (pt_cmpR op_lt (pv 3) pe_int (nomark _)) (pss_one (ps_ret (pe_tp (pa_cons (pe_fr (pe_lc (own := [("_law_k", 5)]) (g := gName 5) (te := (tCall (spLInt K) [] E0 (tCons (tVar 0) (tCons (tC (.int 12)) L2.tNil)))) rfl scTab.nd (pi_range1 (by rfl) T.b_range (pa_cons (pv 2) pa_nil)) blk_scTab_1 (fun _ _ _ _ _ => by exact pg_name (i := 5) scTab.nd rfl (.inl rfl)) (fun _ _ _ _ _ => pts_nil) (fun _ _ _ _ _ => by exact (pe_kn d__law_whole hr (by rfl) (pa_cons (pv 0) (pa_cons pe_int pa_nil)))))) (pa_cons (pv 1) pa_nil))))) pss_nil)
      (pss_cons (ps_set (i := 4) scTab.nd rfl (.inl rfl) (pe_kn d__law_heads hr (by rfl) (pa_cons (pv 0) (pa_cons (pe_op op_add (pv 1) pe_int) pa_nil))))
      (pss_cons (ps_if (pt_cmpR op_eq (pv 3) pe_int (nomark _)) (pss_one (ps_ret (pe_tp (pa_cons (pe_kn d__law_rows_of hr (by rfl) (pa_cons (pv 4) (pa_cons (pv 2) pa_nil))) (pa_cons (pv 1) pa_nil))))) pss_nil)
      (pss_one (ps_ret (pe_tp (pa_cons (pe_kn d__law_rows_of hr (by rfl) (pa_cons (pv 4) (pa_cons (pe_callB (call_min2 rfl) (by rfl) T.b_min (by decide +kernel) (pa_cons pe_int (pa_cons (pe_op op_add (pv 1) (pv 2)) pa_nil))) pa_nil))) (pa_cons (pv 1) pa_nil)))))))))))), ?_⟩
  refine ⟨_, rfl, _, rfl, s, 9, rfl, hS, by omega, fun r9 H1 r90 r91 kp1 st1 => ⟨sz2 (by show 6 ≤ 100; decide), fun p hp kp => ?_⟩⟩
  have s2 := Same.new hp (.lst [V.int 0, .int 1, .int 2, .int 3, .int 8, .int r9])
  have st2 := st1.same s2
  refine ⟨s, p, _, rfl, st2, upd_same, Ne.symm (st1.ne hp), by show 0 < 6; decide, by show 6 < 1000; decide, fun x H3 hx kp3 st3 => ?_⟩
  obtain ⟨d, rfl, d0, d8⟩ : ∃ d : Int, x = .int d ∧ 0 ≤ d ∧ d ≤ 8 := by
    simp only [List.mem_cons, List.not_mem_nil, or_false] at hx
    rcases hx with rfl | rfl | rfl | rfl | rfl | rfl
    · exact ⟨0, rfl, by omega, by omega⟩
    · exact ⟨1, rfl, by omega, by omega⟩
    · exact ⟨2, rfl, by omega, by omega⟩
    · exact ⟨3, rfl, by omega, by omega⟩
    · exact ⟨8, rfl, by omega, by omega⟩
    · exact ⟨r9, rfl, by omega, by omega⟩
  have kpA := (kp1.trans (Kp.same s2)).trans kp3
  clear hx s2 st2 hp kp
  refine ⟨_, rfl, s, 59, rfl, st3, by omega, by omega, fun r H4 r0 r1 kp4 st4 => ⟨_, _, rfl, rfl, ?_⟩⟩
  refine ⟨_, rfl, s, 8, rfl, st4, by omega, fun kd H5 k0 k1 kp5 st5 => ?_⟩
  have kpB := kpA.trans (kp4.trans kp5)
  clear kpA kp1 st1 kp3 st3 kp4 st4 kp5
  have fin : ∀ (H6 : Hp) (D : Addr) (ns : List Int), Kp s H H6 → Sto K H6 s → H D = none → K.lookup D = none → H6 D = some (.lst (ns.map V.int)) → Bd 133 ns → 1 ≤ ns.length → ns.length ≤ 60 → (∃ v, some (some (V.int d)) = some (some v) ∧ [V.ref D, v].length ≤ sizeLine ∧ ∀ c, H6 c = none → K.lookup c = none → Q (.ref c) (upd H6 c (.tup [V.ref D, v]))) := fun H6 D ns kp6 st6 fD kD hD bn l1 l2 => ⟨_, rfl, sz2 (by show 2 ≤ 100; decide), fun c hc kc => k c D ns d _ (ob_new kc) bn l1 l2 d0 d8 fD kD (Same.new hc _ _ _ hD) (kp6.trans (Kp.same (Same.new hc _))) (st6.same (Same.new hc _))⟩
  have lc : ∀ (H6 : Hp) (D : Addr) (n : Nat), 1 ≤ n → n ≤ 60 → H5 D = none → PvG K (isI 133) s D H5 n H6 → (∀ a, H6 a ≠ none → K.lookup a = none) → (∃ v, some (some (V.int d)) = some (some v) ∧ [V.ref D, v].length ≤ sizeLine ∧ ∀ c, H6 c = none → K.lookup c = none → Q (.ref c) (upd H6 c (.tup [V.ref D, v]))) := fun H6 D n n1 n2 hD hP fr => by
    obtain ⟨acc, al, hd, kp6, st6, hx⟩ := hP
    obtain ⟨ns, rfl, hb⟩ := intsB_of hx
    rw [List.length_map] at al
    exact fin H6 D ns (kpB.trans kp6) st6 (kpB.free st5 hD) (fr D (by rw [hd]; simp)) hd hb (by omega) (by omega)
  refine ⟨_, rfl, rfl, _, rfl, ite2 (fun h => ?_) (fun h => ?_)⟩
  · refine ⟨_, rfl, _, _, rfl, _, rfl, by split <;> omega, by split <;> omega, fun D hD => lc_range (lo := 0) (n := (if 12 < 1 + r then (12 : Int) else 1 + r).toNat) (PvG K (isI 133) s D H5) (pvg_0 st5 hD) ?_ (fun Hn hP fr => lc Hn D _ (by split <;> omega) (by split <;> omega) hD hP fr)⟩
    rintro i H' hi hP
    refine ⟨rfl, ?_⟩
    simp only [tYes, if_true]
    obtain ⟨_, _, _, kpP, stP, _⟩ := id hP
    exact ⟨_, rfl, s, rfl, stP, fun n H6 bn kp6 st6 => pvg_step stb_i st5 hD hP kp6 st6 ⟨n, rfl, bn⟩ (by split at hi <;> omega)⟩
  refine ⟨_, rfl, _, _, rfl, rfl, _, rfl, ite2 (fun h => ?_) (fun h => ?_)⟩
  · refine ⟨_, rfl, _, rfl, by omega, by omega, fun D hD => lc_range (lo := 0) (n := (1 + r).toNat) (PvG K (isI 133) s D H5) (pvg_0 st5 hD) ?_ (fun Hn hP fr => lc Hn D _ (by omega) (by omega) hD hP fr)⟩
    rintro i H' hi hP
    refine ⟨rfl, ?_⟩
    simp only [tYes, if_true]
    obtain ⟨_, _, _, kpP, stP, _⟩ := id hP
    exact ⟨_, rfl, s, _, rfl, stP, by omega, by omega, fun n H6 b1' b2' kp6 st6 => pvg_step stb_i st5 hD hP kp6 st6 ⟨n, rfl, bdI_mono (bdI_sm b1' b2') (by decide)⟩ (by omega)⟩
  refine ⟨_, rfl, _, rfl, _, _, rfl, rfl, s, d + 1, rfl, st5, by omega, by omega, fun l ns H6 bn n1 n2 fl kl hl kp6 st6 => ?_⟩
  have nd : (d + 1).toNat ≤ 9 := by omega
  have nd1 : 1 ≤ (d + 1).toNat := by omega
  have kpC := kpB.trans kp6
  refine ⟨_, rfl, rfl, _, rfl, ite2 (fun h => ?_) (fun h => ?_)⟩
  · refine ⟨_, rfl, _, rfl, l, ns, _, 67, rfl, hl, kl, by omega, by omega, by omega, by omega, bn, fun o zs H7 bz zl fo ko ho s7 => ?_⟩
    exact fin H7 o zs (kpC.trans (Kp.same s7)) (st6.same s7) (kpC.free st6 fo) ko ho (bz.mono (by omega)) (by omega) (by omega)
  · refine ⟨_, rfl, _, rfl, _, rfl, _, _, rfl, rfl, _, _, rfl, l, ns, _, 67, rfl, hl, kl, by omega, by omega, by split <;> omega, by split <;> omega, bn, fun o zs H7 bz zl fo ko ho s7 => ?_⟩
    exact fin H7 o zs (kpC.trans (Kp.same s7)) (st6.same s7) (kpC.free st6 fo) ko ho (bz.mono (by split <;> omega)) (by rw [zl]; split <;> omega) (by rw [zl]; split <;> omega)
def spWL (K : PySem.W.Frag) : Sp := fun vs H Q _ => ∃ (s a : Addr) (ns : List Int) (hi : Int), vs = [.ref s, .ref a, .int 1, .int hi] ∧ 1 ≤ hi ∧ hi ≤ 60 ∧ Sto K H s ∧ H a = some (.lst (ns.map V.int)) ∧ K.lookup a = none ∧ a ≠ s ∧ 1 ≤ ns.length ∧ ns.length ≤ 60 ∧ ∀ c (zs : List Int) H', (zs.length = 0 ∨ hi < (zs.length : Int)) → zs.length ≤ 100 → H c = none → K.lookup c = none → H' c = some (.lst (zs.map V.int)) → Kp s H H' → Sto K H' s → Q (.ref c) H'
def TkI (D s : Addr) (H1 : Hp) (i : Nat) (H' : Hp) : Prop := ∃ acc : List Int, acc.length = i ∧ H' D = some (.lst (acc.map V.int)) ∧ Same H1 H'
abbrev sWL : Stmt := topS 43
theorem scWL : FnScope ["_law_store_here", "_law_row", "_law_low", "_law_high", "_law_size_here", "_law_k"] ["_law_store_here", "_law_row", "_law_low", "_law_high"] (defScope sWL) := ⟨rfl, rfl, rfl, by decide +kernel, rfl, by decide +kernel, by decide +kernel⟩
theorem blk_scWL_0 : BlkOk ["_law_store_here", "_law_row", "_law_low", "_law_high", "_law_size_here", "_law_k"] (defScope sWL) { kind := .function, names := [(".0", .local), ("_law_k", .local), ("len", .globalImplicit), ("_law_row", .free)], isGenerator := false, isCoroutine := false, more := [] } [("_law_k", 5)] := ⟨rfl, by decide +kernel, by decide +kernel, by decide +kernel, by decide +kernel⟩
theorem k_WL (T : Bt K mg) (D : Dfn K mg "_law_wrong_length" sWL ["_law_store_here", "_law_row", "_law_low", "_law_high"]) (d__law_take : Kn P w K mg base 2 "_law_take" ["_law_store_here", "_law_many"] (spTake K)) : Kn P w K mg base 3 "_law_wrong_length" ["_law_store_here", "_law_row", "_law_low", "_law_high"] (spWL K) := by
  refine Kn.mk' D scWL (fun vs H Q E h => ?_) (fun f cdv A outer s H vs Q E hr h => ?_)
  · obtain ⟨s, a, ns, hi, rfl, _⟩ := h
    rfl
  obtain ⟨s, a, ns, hi, rfl, hi1, hi2, hS, ha, ka, na, l1, l2, k⟩ := h
  refine ⟨_, (pss_cons (ps_if (PW.pt (pw_and (pt_cmpR op_gt (pv 2) pe_int (nomark _)) (pw_and1 (pt_cmpR op_eq (pe_kn d__law_take hr (by rfl) (pa_cons (pv 0) (pa_cons pe_int pa_nil))) pe_int (nomark _))))) (pss_one (ps_ret (pe_fr (pe_slice sl_list (pe_fr (pe_slice sl_list (pv 1) po_none (po_some pe_int))) po_none (po_some (pe_kn d__law_take hr (by rfl) (pa_cons (pv 0) (pa_cons (pv 2) pa_nil)))))))) pss_nil)
      (pss_cons (ps_set (i := 4) scWL.nd rfl (.inl rfl) (pe_op op_add (pe_op op_add (pv 3) pe_int) (pe_kn d__law_take hr (by rfl) (pa_cons (pv 0) (pa_cons pe_int pa_nil)))))
      (pss_one (ps_ret (pe_fr (pe_lc (own := [("_law_k", 5)]) (g := gName 5) (te := (tOp (rIxA K) (tVar 1) (tOp (rI (fun _ j => j ≠ 0) fun i j => V.int (i.fmod j)) (tVar 5) (tCB (fun xs H Q => ∃ p, xs = [V.ref p] ∧ ∃ ys, itsO (ob K H p) = some ys ∧ Q (V.int (ys.length : Int)) H) (tCons (tVar 1) L2.tNil))))) rfl scWL.nd (pi_range1 (by rfl) T.b_range (pa_cons (pv 4) pa_nil)) blk_scWL_0 (fun _ _ _ _ _ => by exact pg_name (i := 5) scWL.nd rfl (.inl rfl)) (fun _ _ _ _ _ => pts_nil) (fun _ _ _ _ _ => by exact (pe_ix ix_any (pv 1) (pe_op op_modN (pv 5) (pe_callB call_lenA (by rfl) T.b_len PySem.boot_len (pa_cons (pv 1) pa_nil))) (fun _ _ => rfl))))))))), ?_⟩
  have oa := (ob_none ka).trans ha
  refine ⟨_, rfl, _, _, rfl, rfl, _, rfl, ?_⟩
  refine if_yes (by decide) ⟨_, rfl, s, 2, rfl, hS, by omega, fun i H1 i0 i1 kp1 st1 => ⟨rfl, _, rfl, ite2 (fun h => ?_) (fun h => ?_)⟩⟩
  · have ha1 := kp1 _ _ na ha
    refine ⟨_, rfl, _, rfl, a, (ns.map V.int), rfl, .of ha1, fun p1 hp1 fr1 => ?_⟩
    have s2 := Same.new hp1 (.lst (cutV (ns.map V.int) none (some 1)))
    have o1 : upd H1 p1 (.lst (cutV (ns.map V.int) none (some 1))) p1 = some (.lst (cutV (ns.map V.int) none (some 1))) := upd_same
    have n1 := st1.ne hp1
    have st2 := st1.same s2
    generalize cutV (ns.map V.int) none (some 1) = ys at s2 o1 st2 fr1 ⊢
    generalize upd H1 p1 (.lst ys) = H2 at s2 o1 st2 ⊢
    refine ⟨_, rfl, _, rfl, s, 1, rfl, st2, by omega, fun j H3 j0 j1 kp3 st3 => ⟨_, rfl, p1, ys, rfl, .of (kp3 _ _ n1 o1), ?_⟩⟩
    have ej : j = ((0 : Nat) : Int) := by omega
    rw [ej, cut_to ys 0 (by omega), List.take_zero]
    refine fun p2 hp2 fr2 => ?_
    have kpA := kp1.trans ((Kp.same s2).trans kp3)
    exact k p2 [] _ (.inl rfl) (by decide) (kpA.free st3 hp2) (fr2 p2 (by rw [upd_same]; simp)) upd_same (kpA.trans (Kp.same (Same.new hp2 _))) (st3.same (Same.new hp2 _))
  · refine ⟨_, rfl, _, _, rfl, rfl, _, rfl, s, 3, rfl, st1, by omega, fun j H2 j0 j1 kp2 st2 => ⟨_, _, rfl, rfl, ?_⟩⟩
    have ha2 := kp2 _ _ na (kp1 _ _ na ha)
    have oa2 := (ob_none ka).trans ha2
    refine ⟨_, rfl, _, rfl, by omega, by omega, fun D hD => lc_range (lo := 0) (n := (hi + 1 + j).toNat) (TkI D s H2) ⟨[], rfl, upd_same, Same.new hD _⟩ ?_ ?_⟩
    · rintro n H' hn ⟨acc, al, hd, s3⟩
      have ml : (ns.map V.int).length = ns.length := List.length_map _
      refine ⟨rfl, ?_⟩
      simp only [tYes, if_true]
      have o3 := ob_same s3 oa2
      have hpos : (0 : Int) < ((ns.map V.int).length : Int) := by omega
      have fm : (0 + (n : Int)).fmod ((ns.map V.int).length : Int) = (0 + (n : Int)) % ((ns.map V.int).length : Int) := Int.fmod_eq_emod_of_nonneg _ (by omega)
      have hz := Int.emod_nonneg (0 + (n : Int)) (show ((ns.map V.int).length : Int) ≠ 0 by omega)
      have hz2 := Int.emod_lt_of_pos (0 + (n : Int)) hpos
      obtain ⟨v, hv, ev⟩ := at_mem (xs := ns.map V.int) (i := (0 + (n : Int)) % ((ns.map V.int).length : Int)) hz hz2
      obtain ⟨z, _, rfl⟩ := List.mem_map.mp hv
      refine ⟨_, rfl, _, rfl, _, rfl, a, rfl, _, itsO_ofL o3, _, _, rfl, rfl, by omega, a, _, rfl, rfl, _, itsO_ofL o3, _, by rw [fm]; exact ev, _, hd, by rw [List.length_map, al, sizeLine_eq]; omega, acc ++ [z], by rw [List.length_append, al]; rfl, by rw [upd_same, List.map_append]; rfl, fun c o e => ?_⟩
      rw [upd_ne (ne_of_none e hD)]
      exact s3 _ _ e
    · rintro H' ⟨acc, al, hd, s3⟩ fr
      have kpA := kp1.trans kp2
      exact k D acc H' (.inr (by omega)) (by omega) (kpA.free st2 hD) (fr D (by rw [hd]; simp)) hd (kpA.trans (Kp.same s3)) (st2.same s3)

theorem shp_tup {s p : Addr} {H : Hp} {xs : List V} (o : ob K H p = some (.tup xs)) (n : p ≠ s) (l : xs.length ≤ 1000) (h : ∀ x ∈ xs, scv x = true) : Shp K s H 2 (.ref p) := (show Shp K s H 1 (.ref p) from .inr (.inl ⟨p, xs, rfl, n, .inl o, l, h⟩)).up
theorem shp_lst {s p : Addr} {H : Hp} {xs : List V} (o : ob K H p = some (.lst xs)) (n : p ≠ s) (l : xs.length ≤ 1000) (h : ∀ x ∈ xs, scv x = true) : Shp K s H 2 (.ref p) := (show Shp K s H 1 (.ref p) from .inr (.inl ⟨p, xs, rfl, n, .inr o, l, h⟩)).up
theorem shp_dn {s p : Addr} {H : Hp} (o : ob K H p = some (.dK [])) (n : p ≠ s) : Shp K s H 2 (.ref p) := .inr (.inr ⟨Nat.le_refl 1, p, rfl, n, o⟩)
theorem shp_sc {s : Addr} {H : Hp} {v : V} (h : scv v = true) : Shp K s H 2 v := .inl h
theorem sc_ints {ns : List Int} : ∀ x ∈ ns.map V.int, scv x = true := fun x hx => by
  obtain ⟨u, _, rfl⟩ := List.mem_map.mp hx
  rfl
def spBL (K : PySem.W.Frag) : Sp := fun vs H Q _ => ∃ (s a : Addr) (ns : List Int), vs = [.ref s, .ref a] ∧ Sto K H s ∧ H a = some (.lst (ns.map V.int)) ∧ ns.length ≤ 100 ∧ ∀ v t H', tyN K H' v = some t → t ≠ "list" → Shp K s H' 2 v → Kp s H H' → Sto K H' s → Q v H'
abbrev sBL : Stmt := topS 46
theorem scBL : FnScope ["_law_store_here", "_law_row"] ["_law_store_here", "_law_row"] (defScope sBL) := ⟨rfl, rfl, rfl, by decide +kernel, rfl, by decide +kernel, by decide +kernel⟩
theorem k_BL (T : Bt K mg) (D : Dfn K mg "_law_bad_list" sBL ["_law_store_here", "_law_row"]) (d__law_pick : Kn P w K mg base 3 "_law_pick" ["_law_store_here", "_law_row"] (spPick K)) : Kn P w K mg base 4 "_law_bad_list" ["_law_store_here", "_law_row"] (spBL K) := by
  refine Kn.mk' D scBL (fun vs H Q E h => ?_) (fun f cdv A outer s H vs Q E hr h => ?_)
  · obtain ⟨s, a, ns, rfl, _⟩ := h
    rfl
  obtain ⟨s, a, ns, rfl, hS, ha, nl, k⟩ := h
  refine ⟨_, (pss_one (ps_ret (pe_kn d__law_pick hr (by rfl) (pa_cons (pv 0) (pa_cons (pe_ls (pa_cons (pe_fr (pe_callTy call_tuple_of (by rfl) T.b_tuple (by decide +kernel) (pa_cons (pv 1) pa_nil))) (pa_cons (pe_fr (pe_callTy call_tuple_of (by rfl) T.b_tuple (by decide +kernel) (pa_cons (pv 1) pa_nil))) (pa_cons pe_non (pa_cons pe_int (pa_cons pe_bl (pa_cons pe_str (pa_cons pe_dn (pa_cons (pe_tp pa_nil) pa_nil))))))))) pa_nil))))), ?_⟩
  refine ⟨_, rfl, _, rfl, a, _, rfl, .inl ⟨.of ha, fun p1 hp1 fr1 => ?_⟩⟩
  have s1 := Same.new hp1 (.tup (ns.map V.int))
  have o1 := ob_new (H := H) (o := .tup (ns.map V.int)) (fr1 p1 (by rw [upd_same]; simp))
  have ha1 := s1 _ _ ha
  generalize upd H p1 (.tup (ns.map V.int)) = H1 at s1 o1 ha1 ⊢
  refine ⟨_, rfl, a, _, rfl, .inl ⟨.of ha1, fun p2 hp2 fr2 => ?_⟩⟩
  have s2 := Same.new hp2 (.tup (ns.map V.int))
  have o2 := ob_new (H := H1) (o := .tup (ns.map V.int)) (fr2 p2 (by rw [upd_same]; simp))
  have o1 := ob_same s2 o1
  generalize upd H1 p2 (.tup (ns.map V.int)) = H2 at s2 o1 o2 ⊢
  refine fun p3 hp3 kp3 => ?_
  have s3 := Same.new hp3 (.dK [])
  have o3 := ob_new (H := H2) (o := .dK []) kp3
  have o1 := ob_same s3 o1
  have o2 := ob_same s3 o2
  generalize upd H2 p3 (.dK []) = H3 at s3 o1 o2 o3 ⊢
  refine ⟨sz2 (by show 0 ≤ 100; decide), fun p4 hp4 kp4 => ?_⟩
  have s4 := Same.new hp4 (.tup [])
  have o4 := ob_new (H := H3) (o := .tup []) kp4
  have o1 := ob_same s4 o1
  have o2 := ob_same s4 o2
  have o3 := ob_same s4 o3
  generalize upd H3 p4 (.tup []) = H4 at s4 o1 o2 o3 o4 ⊢
  refine ⟨sz2 (by show 8 ≤ 100; decide), fun p5 hp5 kp5 => ?_⟩
  have s5 := Same.new hp5 (.lst [.ref p1, .ref p2, .non, .int 0, .bl true, .str "", .ref p3, .ref p4])
  have sA := s1.trans (s2.trans (s3.trans s4))
  have st4 := hS.same sA
  have st5 := st4.same s5
  refine ⟨s, p5, _, rfl, st5, upd_same, Ne.symm (st4.ne hp5), by show 0 < 8; decide, by show 8 < 1000; decide, fun v H6 hv kp6 st6 => ?_⟩
  have kpA := (Kp.same (sA.trans s5)).trans kp6
  obtain ⟨ys, hys⟩ := st5.at
  have n1 := hS.ne hp1
  have n2 := (hS.same s1).ne hp2
  have n3 := (hS.same (s1.trans s2)).ne hp3
  have n4 := (hS.same (s1.trans (s2.trans s3))).ne hp4
  have fin : ∀ (p : Addr) (z : HO) (t : String), ob K H4 p = some z → (∀ l, z ≠ .lst l) → tyO (some z) = some t → t ≠ "list" → Shp K s H4 2 (.ref p) → Q (.ref p) H6 := fun p z t o n ty nt sh => by
    have o6 := ob_kp kp6 hys n (ob_same s5 o)
    exact k (.ref p) t H6 (by rw [tyN_ref, o6]; exact ty) nt ((sh.same s5).kp kp6) kpA st6
  simp only [List.mem_cons, List.not_mem_nil, or_false] at hv
  rcases hv with rfl | rfl | rfl | rfl | rfl | rfl | rfl | rfl
  · exact fin p1 _ "tuple" o1 (fun _ z => by cases z) rfl (by decide) (shp_tup o1 n1 (by rw [List.length_map]; omega) sc_ints)
  · exact fin p2 _ "tuple" o2 (fun _ z => by cases z) rfl (by decide) (shp_tup o2 n2 (by rw [List.length_map]; omega) sc_ints)
  · exact k .non "NoneType" H6 rfl (by decide) (shp_sc rfl) kpA st6
  · exact k (.int 0) "int" H6 rfl (by decide) (shp_sc rfl) kpA st6
  · exact k (.bl true) "bool" H6 rfl (by decide) (shp_sc rfl) kpA st6
  · exact k (.str "") "str" H6 rfl (by decide) (shp_sc rfl) kpA st6
  · exact fin p3 _ "dict" o3 (fun _ z => by cases z) rfl (by decide) (shp_dn o3 n3)
  · exact fin p4 _ "tuple" o4 (fun _ z => by cases z) rfl (by decide) (shp_tup o4 n4 (by decide) (fun _ z => nomatch z))

def spBW (K : PySem.W.Frag) : Sp := fun vs H Q _ => ∃ s : Addr, vs = [.ref s] ∧ Sto K H s ∧ ∀ v H', (tyN K H' v).isSome → wholeV v = false → Shp K s H' 2 v → Kp s H H' → Sto K H' s → Q v H'
abbrev sBW : Stmt := topS 44
theorem scBW : FnScope ["_law_store_here"] ["_law_store_here"] (defScope sBW) := ⟨rfl, rfl, rfl, by decide +kernel, rfl, by decide +kernel, by decide +kernel⟩
theorem k_BW (T : Bt K mg) (D : Dfn K mg "_law_bad_whole" sBW ["_law_store_here"]) (d__law_pick : Kn P w K mg base 3 "_law_pick" ["_law_store_here", "_law_row"] (spPick K)) : Kn P w K mg base 4 "_law_bad_whole" ["_law_store_here"] (spBW K) := by
  refine Kn.mk' D scBW (fun vs H Q E h => ?_) (fun f cdv A outer s H vs Q E hr h => ?_)
  · obtain ⟨s, rfl, _⟩ := h
    rfl
  obtain ⟨s, rfl, hS, k⟩ := h
  refine ⟨_, (pss_one (ps_ret (pe_kn d__law_pick hr (by rfl) (pa_cons (pv 0) (pa_cons (pe_ls (pa_cons pe_non (pa_cons pe_bl (pa_cons pe_bl (pa_cons pe_str (pa_cons pe_str (pa_cons (pe_tp (pa_cons pe_int (pa_cons pe_int pa_nil))) (pa_cons (pe_tp (pa_cons pe_int pa_nil)) (pa_cons (pe_ls (pa_cons pe_int pa_nil)) (pa_cons pe_dn pa_nil)))))))))) pa_nil))))), ?_⟩
  refine ⟨_, rfl, sz2 (by show 2 ≤ 100; decide), fun p1 hp1 kp1 => ?_⟩
  have n1 := hS.ne hp1
  have s1 := Same.new hp1 (.tup [.int 1, .int 1])
  have o1 := ob_new (H := H) (o := .tup [.int 1, .int 1]) kp1
  have st1 := hS.same s1
  generalize upd H p1 (.tup [.int 1, .int 1]) = H1 at s1 o1 st1 ⊢
  refine ⟨sz2 (by show 1 ≤ 100; decide), fun p2 hp2 kp2 => ?_⟩
  have n2 := st1.ne hp2
  have s2 := Same.new hp2 (.tup [.int 1])
  have o2 := ob_new (H := H1) (o := .tup [.int 1]) kp2
  have st2 := st1.same s2
  have o1 := ob_same s2 o1
  generalize upd H1 p2 (.tup [.int 1]) = H2 at s2 o1 o2 st2 ⊢
  refine ⟨sz2 (by show 1 ≤ 100; decide), fun p3 hp3 kp3 => ?_⟩
  have n3 := st2.ne hp3
  have s3 := Same.new hp3 (.lst [.int 1])
  have o3 := ob_new (H := H2) (o := .lst [.int 1]) kp3
  have st3 := st2.same s3
  have o1 := ob_same s3 o1
  have o2 := ob_same s3 o2
  generalize upd H2 p3 (.lst [.int 1]) = H3 at s3 o1 o2 o3 st3 ⊢
  refine fun p4 hp4 kp4 => ?_
  have n4 := st3.ne hp4
  have s4 := Same.new hp4 (.dK [])
  have o4 := ob_new (H := H3) (o := .dK []) kp4
  have st4 := st3.same s4
  have o1 := ob_same s4 o1
  have o2 := ob_same s4 o2
  have o3 := ob_same s4 o3
  generalize upd H3 p4 (.dK []) = H4 at s4 o1 o2 o3 o4 st4 ⊢
  refine ⟨sz2 (by show 9 ≤ 100; decide), fun p5 hp5 kp5 => ?_⟩
  have s5 := Same.new hp5 (.lst [.non, .bl true, .bl false, .str "1", .str "", .ref p1, .ref p2, .ref p3, .ref p4])
  have st5 := st4.same s5
  have sA := s1.trans (s2.trans (s3.trans (s4.trans s5)))
  refine ⟨s, p5, _, rfl, st5, upd_same, Ne.symm (st4.ne hp5), by show 0 < 9; decide, by show 9 < 1000; decide, fun v H6 hv kp6 st6 => ?_⟩
  have kpA := (Kp.same sA).trans kp6
  have fin : ∀ (p : Addr) (z : HO), ob K H4 p = some z → p ≠ s → (tyO (some z)).isSome → Shp K s H4 2 (.ref p) → Q (.ref p) H6 := fun p z o n ty sh => by
    have o6 := ob_kp2 kp6 n (ob_same s5 o)
    exact k (.ref p) H6 (by rw [tyN_ref, o6]; exact ty) rfl ((sh.same s5).kp kp6) kpA st6
  simp only [List.mem_cons, List.not_mem_nil, or_false] at hv
  rcases hv with rfl | rfl | rfl | rfl | rfl | rfl | rfl | rfl | rfl
  · exact k _ H6 rfl rfl (shp_sc rfl) kpA st6
  · exact k _ H6 rfl rfl (shp_sc rfl) kpA st6
  · exact k _ H6 rfl rfl (shp_sc rfl) kpA st6
  · exact k _ H6 rfl rfl (shp_sc rfl) kpA st6
  · exact k _ H6 rfl rfl (shp_sc rfl) kpA st6
  · exact fin p1 _ o1 n1 rfl (shp_tup o1 n1 (by decide) (fun x hx => by simp only [List.mem_cons, List.not_mem_nil, or_false] at hx; rcases hx with rfl | rfl <;> rfl))
  · exact fin p2 _ o2 n2 rfl (shp_tup o2 n2 (by decide) (fun x hx => by simp only [List.mem_cons, List.not_mem_nil, or_false] at hx; rw [hx]; rfl))
  · exact fin p3 _ o3 n3 rfl (shp_lst o3 n3 (by decide) (fun x hx => by simp only [List.mem_cons, List.not_mem_nil, or_false] at hx; rw [hx]; rfl))
  · exact fin p4 _ o4 n4 rfl (shp_dn o4 n4)

end
end My

namespace My
open PySem PySem.Spec PyProof.Rows L2
/-! ### choices -/
def ch : Nat → Nat → Nat
  | _, 0 => 1
  | 0, _ + 1 => 0
  | n + 1, k + 1 => ch n k + ch n (k + 1)
theorem ch_zero (n : Nat) : ch n 0 = 1 := by cases n <;> rfl
theorem ch_succ : ∀ (n i : Nat), ((i : Int) + 1) * ch n (i + 1) = ((n : Int) - i) * ch n i
  | 0, 0 => by simp [ch]
  | 0, i + 1 => by simp [ch]
  | n + 1, 0 => by
    have := ch_succ n 0
    simp [ch] at *
    omega
  | n + 1, i + 1 => by
    have a := ch_succ n i
    have b := ch_succ n (i + 1)
    show ((((i + 1 : Nat) : Int)) + 1) * ((ch n (i + 1) + ch n (i + 2) : Nat) : Int) = _ * ((ch n i + ch n (i + 1) : Nat) : Int)
    push_cast at *
    grind
theorem ch_le : ∀ (n k : Nat), ch n k ≤ 2 ^ n
  | n, 0 => by rw [ch_zero]; exact Nat.one_le_two_pow
  | 0, k + 1 => Nat.zero_le _
  | n + 1, k + 1 => by
    have a := ch_le n k
    have b := ch_le n (k + 1)
    show ch n k + ch n (k + 1) ≤ 2 ^ (n + 1)
    rw [Nat.pow_succ]
    omega
theorem ch_big : ∀ (n k : Nat), n < k → ch n k = 0
  | _, 0, h => absurd h (Nat.not_lt_zero _)
  | 0, k + 1, _ => rfl
  | n + 1, k + 1, h => by
    show ch n k + ch n (k + 1) = 0
    rw [ch_big n k (by omega), ch_big n (k + 1) (by omega)]
/-! ### sums -/
def sm : Nat → (Nat → Int) → Int
  | 0, _ => 0
  | n + 1, g => sm n g + g n
theorem sm_congr {g h : Nat → Int} : ∀ {n : Nat}, (∀ j, j < n → g j = h j) → sm n g = sm n h
  | 0, _ => rfl
  | n + 1, e => by
    show sm n g + g n = sm n h + h n
    rw [sm_congr (n := n) fun j hj => e j (by omega), e n (by omega)]
theorem sm_add (g h : Nat → Int) : ∀ n : Nat, sm n (fun j => g j + h j) = sm n g + sm n h
  | 0 => rfl
  | n + 1 => by
    show sm n _ + (g n + h n) = (sm n g + g n) + (sm n h + h n)
    rw [sm_add g h n]
    omega
theorem sm_shift (g : Nat → Int) : ∀ n : Nat, sm (n + 1) g = g 0 + sm n (fun j => g (j + 1))
  | 0 => by
    show 0 + g 0 = g 0 + 0
    omega
  | n + 1 => by
    have := sm_shift g n
    show sm (n + 1) g + g (n + 1) = g 0 + (sm n (fun j => g (j + 1)) + g (n + 1))
    rw [this]
    omega
theorem sm_tail {g : Nat → Int} {n : Nat} : ∀ {m : Nat}, n ≤ m → (∀ j, n ≤ j → j < m → g j = 0) → sm m g = sm n g
  | 0, h, _ => by
    rw [show n = 0 by omega]
  | m + 1, h, z => by
    rcases Nat.lt_or_ge m n with q | q
    · rw [show n = m + 1 by omega]
    · show sm m g + g m = sm n g
      rw [sm_tail (m := m) q (fun j a b => z j a (by omega)), z m q (by omega)]
      omega
theorem sm_mul (c : Int) (g : Nat → Int) : ∀ n : Nat, sm n (fun j => c * g j) = c * sm n g
  | 0 => by show (0 : Int) = c * 0; omega
  | n + 1 => by
    show sm n _ + c * g n = c * (sm n g + g n)
    rw [sm_mul c g n, Int.mul_add]
/-! ### moving on and differences -/
def sf (f : Nat → Int) : Nat → Int := fun i => f i + f (i + 1)
def sit : Nat → (Nat → Int) → Nat → Int
  | 0, f => f
  | k + 1, f => sf (sit k f)
def dit : Nat → (Nat → Int) → Nat → Int
  | 0, f => f
  | k + 1, f => fun i => dit k f (i + 1) - dit k f i
theorem sit_sum (f : Nat → Int) : ∀ (k N i : Nat), k < N → sit k f i = sm N (fun j => f (i + j) * ch k j)
  | 0, N, i, h => by
    obtain ⟨N, rfl⟩ : ∃ M, N = M + 1 := ⟨N - 1, by omega⟩
    rw [sm_shift]
    rw [sm_tail (n := 0) (m := N) (Nat.zero_le _) (fun j _ _ => by simp [ch])]
    show f i = f (i + 0) * ((1 : Nat) : Int) + 0
    simp
  | k + 1, N, i, h => by
    obtain ⟨N, rfl⟩ : ∃ M, N = M + 1 := ⟨N - 1, by omega⟩
    show sit k f i + sit k f (i + 1) = _
    rw [sit_sum f k (N + 1) i (by omega), sit_sum f k N (i + 1) (by omega), sm_shift, sm_shift]
    have e : sm N (fun j => f (i + (j + 1)) * ((ch (k + 1) (j + 1) : Nat) : Int)) = sm N (fun j => f (i + (j + 1)) * ((ch k (j + 1) : Nat) : Int)) + sm N (fun j => f (i + 1 + j) * ((ch k j : Nat) : Int)) := by
      rw [← sm_add]
      refine sm_congr fun j _ => ?_
      show f (i + (j + 1)) * ((ch k j + ch k (j + 1) : Nat) : Int) = _
      rw [show i + 1 + j = i + (j + 1) by omega]
      push_cast
      grind
    rw [e, ch_zero, ch_zero]
    omega
/-- the sign of n -/
def sg (n : Nat) : Int := 1 - 2 * ((n % 2 : Nat) : Int)
theorem sg_succ (n : Nat) : sg (n + 1) = -sg n := by
  unfold sg
  omega
theorem sg_sq (n : Nat) : sg n * sg n = 1 := by
  unfold sg
  rcases Nat.mod_two_eq_zero_or_one n with h | h <;> rw [h] <;> rfl
theorem sg_add (n : Nat) : ∀ m : Nat, sg (n + m) = sg n * sg m
  | 0 => by show sg n = sg n * 1; omega
  | m + 1 => by
    rw [← Nat.add_assoc, sg_succ, sg_succ, sg_add n m, Int.mul_neg]
theorem sg_sub {k j : Nat} (h : j ≤ k) : sg (k - j) = sg k * sg j := by
  have e := sg_add (k - j) j
  rw [Nat.sub_add_cancel h] at e
  rw [e, Int.mul_assoc, sg_sq, Int.mul_one]
theorem sit_dit (f : Nat → Int) : ∀ (k i : Nat), sit k (fun i => sg i * f i) i = sg (i + k) * dit k f i
  | 0, i => rfl
  | k + 1, i => by
    show sit k _ i + sit k _ (i + 1) = sg (i + (k + 1)) * (dit k f (i + 1) - dit k f i)
    rw [sit_dit f k i, sit_dit f k (i + 1), show i + 1 + k = i + k + 1 by omega, show i + (k + 1) = i + k + 1 by omega, sg_succ]
    grind
theorem dit_sum (f : Nat → Int) (k : Nat) : dit k f 0 = sm (k + 1) (fun j => sg (k - j) * ch k j * f j) := by
  have e := sit_dit f k 0
  rw [sit_sum _ k (k + 1) 0 (by omega), Nat.zero_add] at e
  have e2 : sg k * (sg k * dit k f 0) = dit k f 0 := by rw [← Int.mul_assoc, sg_sq, Int.one_mul]
  rw [← e2, ← e, ← sm_mul]
  refine sm_congr fun j hj => ?_
  rw [sg_sub (show j ≤ k by omega), Nat.zero_add]
  grind
/-- the rows of heads have these heads -/
theorem dit_sit (h : Nat → Int) : ∀ (k i : Nat), dit k (fun n => sit n h 0) i = sit i h k
  | 0, i => rfl
  | k + 1, i => by
    show dit k _ (i + 1) - dit k _ i = _
    rw [dit_sit h k (i + 1), dit_sit h k i]
    show sit i h k + sit i h (k + 1) - sit i h k = _
    omega
/-- the heads of a table tell its rows -/
theorem sit_dit0 {f h : Nat → Int} {m : Nat} (hh : ∀ k, k ≤ m → h k = dit k f 0) : ∀ (n k : Nat), n + k ≤ m → sit n h k = dit k f n
  | 0, k, l => hh k (by omega)
  | n + 1, k, l => by
    show sit n h k + sit n h (k + 1) = _
    rw [sit_dit0 hh n k (by omega), sit_dit0 hh n (k + 1) (by omega)]
    show dit k f n + (dit k f (n + 1) - dit k f n) = _
    omega
theorem sit_zero {h : Nat → Int} {k : Nat} (z : ∀ j, k ≤ j → h j = 0) : ∀ (n i : Nat), k ≤ i → sit n h i = 0
  | 0, i, l => z i l
  | n + 1, i, l => by
    show sit n h i + sit n h (i + 1) = 0
    rw [sit_zero z n i l, sit_zero z n (i + 1) (by omega)]
    rfl
/-! ### lists -/
def fn (ns : List Int) : Nat → Int := fun i => ns.getD i 0
theorem fn_at {ns : List Int} {i : Nat} {x : Int} (h : ns[i]? = some x) : fn ns i = x := by
  unfold fn
  rw [List.getD_eq_getElem?_getD, h]
  rfl
theorem fn_out {ns : List Int} {i : Nat} (h : ns.length ≤ i) : fn ns i = 0 := by
  unfold fn
  rw [List.getD_eq_getElem?_getD, List.getElem?_eq_none h]
  rfl
theorem at_fn {ns : List Int} {i : Nat} (h : i < ns.length) : ns[i]? = some (fn ns i) := by
  rw [List.getElem?_eq_getElem h, fn_at (List.getElem?_eq_getElem h)]
theorem itd_at (ns : List Int) : ∀ (k i : Nat), i + k < ns.length → (itd k ns)[i]? = some (dit k (fn ns) i)
  | 0, i, h => at_fn h
  | k + 1, i, h => dif_at (itd_at ns k i (by omega)) (itd_at ns k (i + 1) (by omega))
def stp (h : List Int) : List Int := (List.range h.length).map fun i => sf (fn h) i
theorem stp_len (h : List Int) : (stp h).length = h.length := by
  unfold stp
  rw [List.length_map, List.length_range]
theorem stp_at {h : List Int} {i : Nat} (l : i < h.length) : (stp h)[i]? = some (sf (fn h) i) := by
  unfold stp
  rw [List.getElem?_map, List.getElem?_range l]
  rfl
theorem fn_stp (h : List Int) : fn (stp h) = sf (fn h) := by
  funext i
  rcases Nat.lt_or_ge i h.length with l | l
  · exact fn_at (stp_at l)
  · rw [fn_out (by rw [stp_len]; exact l)]
    show 0 = fn h i + fn h (i + 1)
    rw [fn_out l, fn_out (Nat.le_succ_of_le l)]
    rfl
def itn : Nat → List Int → List Int
  | 0, h => h
  | k + 1, h => stp (itn k h)
theorem itn_len (h : List Int) : ∀ k, (itn k h).length = h.length
  | 0 => rfl
  | k + 1 => by
    show (stp (itn k h)).length = _
    rw [stp_len, itn_len h k]
theorem fn_itn (h : List Int) : ∀ k, fn (itn k h) = sit k (fn h)
  | 0 => rfl
  | k + 1 => by
    show fn (stp (itn k h)) = sf (sit k (fn h))
    rw [fn_stp, fn_itn h k]
/-- the rows that heads make -/
def rws (h : List Int) (m : Nat) : List Int := (List.range m).map fun k => sit k (fn h) 0
theorem rws_len (h : List Int) (m : Nat) : (rws h m).length = m := by
  unfold rws
  rw [List.length_map, List.length_range]
theorem rws_at {h : List Int} {m k : Nat} (l : k < m) : (rws h m)[k]? = some (sit k (fn h) 0) := by
  unfold rws
  rw [List.getElem?_map, List.getElem?_range l]
  rfl
theorem rws_take (h : List Int) (m : Nat) : rws h (m + 1) = rws h m ++ [sit m (fn h) 0] := by
  unfold rws
  rw [List.range_succ, List.map_append]
  rfl
theorem sit_due (h : List Int) (k : Nat) : sit k (fn h) 0 = sm h.length (fun j => fn h j * ch k j) := by
  rw [sit_sum (fn h) k (h.length + k + 1) 0 (by omega)]
  rw [sm_tail (n := h.length) (by omega) (fun j a _ => by rw [fn_out (by omega), Int.zero_mul])]
  refine sm_congr fun j _ => ?_
  rw [Nat.zero_add]
/-- the heads of a table -/
def hds (ns : List Int) (m : Nat) : List Int := (List.range m).map fun k => dit k (fn ns) 0
theorem hds_len (ns : List Int) (m : Nat) : (hds ns m).length = m := by
  unfold hds
  rw [List.length_map, List.length_range]
theorem hds_at {ns : List Int} {m k : Nat} (l : k < m) : (hds ns m)[k]? = some (dit k (fn ns) 0) := by
  unfold hds
  rw [List.getElem?_map, List.getElem?_range l]
  rfl
theorem hds_take (ns : List Int) (m : Nat) : hds ns (m + 1) = hds ns m ++ [dit m (fn ns) 0] := by
  unfold hds
  rw [List.range_succ, List.map_append]
  rfl
/-- only the first n tell -/
theorem dit_congr {f g : Nat → Int} : ∀ {k i : Nat}, (∀ j, j ≤ i + k → f j = g j) → dit k f i = dit k g i
  | 0, i, h => h i (by omega)
  | k + 1, i, h => by
    show dit k f (i + 1) - dit k f i = dit k g (i + 1) - dit k g i
    rw [dit_congr (k := k) (i := i + 1) fun j hj => h j (by omega), dit_congr (k := k) (i := i) fun j hj => h j (by omega)]
theorem fn_rws {h : List Int} {m k : Nat} (l : k < m) : fn (rws h m) k = sit k (fn h) 0 := fn_at (rws_at l)
theorem fn_hds {ns : List Int} {m k : Nat} (l : k < m) : fn (hds ns m) k = dit k (fn ns) 0 := fn_at (hds_at l)
theorem dit_rws {h : List Int} {m k i : Nat} (l : i + k < m) : dit k (fn (rws h m)) i = sit i (fn h) k := by
  rw [← dit_sit (fn h) k i]
  exact dit_congr fun j hj => fn_rws (by omega)
theorem ext_fn {a b : List Int} (l : a.length = b.length) (h : ∀ i, i < a.length → fn a i = fn b i) : a = b := by
  refine List.ext_getElem? fun i => ?_
  rcases Nat.lt_or_ge i a.length with q | q
  · rw [at_fn q, at_fn (l ▸ q), h i q]
  · rw [List.getElem?_eq_none q, List.getElem?_eq_none (l ▸ q)]
theorem hds_rws {h : List Int} {m s : Nat} (l1 : s ≤ m) (l2 : s ≤ h.length) : hds (rws h m) s = h.take s := by
  refine ext_fn (by rw [hds_len, List.length_take]; omega) fun i hi => ?_
  rw [hds_len] at hi
  rw [fn_hds hi, dit_rws (by omega)]
  show fn h i = _
  rw [← fn_at (ns := h.take s) (i := i) (x := fn h i) (by rw [List.getElem?_take_of_lt hi]; exact at_fn (by omega))]
theorem rws_hds {ns : List Int} {m : Nat} (l : m ≤ ns.length) : rws (hds ns m) m = ns.take m := by
  refine ext_fn (by rw [rws_len, List.length_take]; omega) fun i hi => ?_
  rw [rws_len] at hi
  rw [fn_rws hi, sit_dit0 (f := fn ns) (m := m - 1) (fun k hk => fn_hds (by omega)) i 0 (by omega)]
  show fn ns i = _
  rw [← fn_at (ns := ns.take m) (i := i) (x := fn ns i) (by rw [List.getElem?_take_of_lt hi]; exact at_fn (by omega))]
/-- the degree of rows of heads -/
theorem dgU_rws {h : List Int} {m L : Nat} (hl : h.length ≤ m) (h1 : 1 ≤ m) (hL : L < m) (z : ∀ j, L < j → fn h j = 0) (nz0 : L = 0 ∨ fn h L ≠ 0) : dgU (rws h m) (m - 1) = L := by
  have le := dgU_le (rws h m) (m - 1)
  obtain ⟨a, b⟩ := dgU_spec (rws h m) (m - 1)
  have row : ∀ k i, i + k < m → (itd k (rws h m))[i]? = some (sit i (fn h) k) := fun k i l => by
    rw [itd_at _ k i (by rw [rws_len]; exact l), dit_rws l]
  rcases Nat.lt_trichotomy (dgU (rws h m) (m - 1)) L with q | q | q
  · exfalso
    have n := b L q (by omega)
    have := nz_false.mp n (fn h L) (List.mem_of_getElem? (row L 0 (by omega)))
    rcases nz0 with r | r
    · omega
    · exact r this
  · exact q
  · exfalso
    have n := a (dgU (rws h m) (m - 1)) (by omega) (Nat.le_refl _)
    have : nz (itd (dgU (rws h m) (m - 1)) (rws h m)) = false := nz_false.mpr fun x hx => by
      obtain ⟨i, hi⟩ := List.mem_iff_getElem?.mp hx
      have il := (List.getElem?_eq_some_iff.mp hi).1
      rw [itd_len, rws_len] at il
      rw [row _ i (by omega)] at hi
      cases hi
      exact sit_zero (k := L + 1) (fun j hj => z j (by omega)) i _ (by omega)
    rw [this] at n
    cases n
end My

namespace My
open PySem PySem.Spec PyProof.Rows L2
/-! ### sequences whose n-th differences are 0 -/
def zd (n : Nat) (f : Nat → Int) (M : Nat) : Prop := ∀ i, i < M → dit n f i = 0
theorem dit_sub (f g : Nat → Int) : ∀ n i : Nat, dit n (fun i => f i - g i) i = dit n f i - dit n g i
  | 0, i => rfl
  | n + 1, i => by
    show dit n _ (i + 1) - dit n _ i = (dit n f (i + 1) - dit n f i) - (dit n g (i + 1) - dit n g i)
    rw [dit_sub f g n (i + 1), dit_sub f g n i]
    omega
theorem dit_shift (f : Nat → Int) (s : Nat) : ∀ n i : Nat, dit n (fun i => f (i + s)) i = dit n f (i + s)
  | 0, i => rfl
  | n + 1, i => by
    show dit n _ (i + 1) - dit n _ i = dit n f (i + s + 1) - dit n f (i + s)
    rw [dit_shift f s n (i + 1), dit_shift f s n i, show i + 1 + s = i + s + 1 by omega]
theorem dit_rev (f : Nat → Int) (M : Nat) : ∀ n i : Nat, i + n ≤ M → dit n (fun i => f (M - i)) i = sg n * dit n f (M - i - n)
  | 0, i, h => by
    show f (M - i) = 1 * f (M - i)
    omega
  | n + 1, i, h => by
    show dit n _ (i + 1) - dit n _ i = sg (n + 1) * (dit n f (M - i - (n + 1) + 1) - dit n f (M - i - (n + 1)))
    rw [dit_rev f M n (i + 1) (by omega), dit_rev f M n i (by omega), sg_succ, show M - (i + 1) - n = M - i - (n + 1) by omega, show M - i - (n + 1) + 1 = M - i - n by omega]
    grind
theorem zd_next {n : Nat} {f : Nat → Int} {M : Nat} (h : zd (n + 1) f M) (h0 : dit n f 0 = 0) : zd n f (M + 1)
  | 0, _ => h0
  | i + 1, l => by
    have a := zd_next h h0 i (by omega)
    have b : dit n f (i + 1) - dit n f i = 0 := h i (by omega)
    omega
theorem dit_zero {f : Nat → Int} : ∀ {n i : Nat}, (∀ j, j ≤ i + n → f j = 0) → dit n f i = 0
  | 0, i, h => h i (by omega)
  | n + 1, i, h => by
    show dit n f (i + 1) - dit n f i = 0
    rw [dit_zero (n := n) (i := i + 1) fun j hj => h j (by omega), dit_zero (n := n) (i := i) fun j hj => h j (by omega)]
    rfl
theorem zd_zero : ∀ {n : Nat} {f : Nat → Int} {M : Nat}, zd n f M → (∀ i, i < n → f i = 0) → ∀ i, i < n + M → f i = 0
  | 0, f, M, h, _, i, l => h i (by omega)
  | n + 1, f, M, h, z, i, l => zd_zero (n := n) (M := M + 1) (zd_next h (dit_zero fun j hj => z j (by omega))) (fun i hi => z i (by omega)) i (by omega)
/-- n values tell the whole sequence -/
theorem zd_uniq {n : Nat} {f g : Nat → Int} {M : Nat} (hf : zd n f M) (hg : zd n g M) (e : ∀ i, i < n → f i = g i) : ∀ i, i < n + M → f i = g i := fun i hi => by
  have := zd_zero (n := n) (f := fun i => f i - g i) (M := M) (fun i hi => by rw [dit_sub, hf i hi, hg i hi]; rfl) (fun i hi => by rw [e i hi]; omega) i hi
  omega
theorem zd_shift {n : Nat} {f : Nat → Int} {M s : Nat} (h : zd n f (M + s)) : zd n (fun i => f (i + s)) M := fun i hi => by rw [dit_shift]; exact h _ (by omega)
theorem zd_rev {n : Nat} {f : Nat → Int} {M : Nat} (h : zd n f (M + 1 - n)) : zd n (fun i => f (M - i)) (M + 1 - n) := fun i hi => by
  rw [dit_rev f M n i (by omega), h _ (by omega), Int.mul_zero]
theorem zd_congr {n : Nat} {f g : Nat → Int} {M : Nat} (h : zd n f M) (e : ∀ i, i < n + M → f i = g i) : zd n g M := fun i hi => by
  rw [← dit_congr (f := f) (g := g) fun j hj => e j (by omega)]
  exact h i hi
theorem zd_up {n : Nat} {f : Nat → Int} {M : Nat} (h : zd n f (M + 1)) : zd (n + 1) f M := fun i hi => by
  show dit n f (i + 1) - dit n f i = 0
  rw [h (i + 1) (by omega), h i (by omega)]
  rfl
/-! ### what follows a window -/
/-- the sequence that the window w starts -/
def ex (w : List Int) (i : Nat) : Int := sit i (fn (hds w w.length)) 0
theorem ex_zd (w : List Int) (M : Nat) : zd w.length (ex w) M := fun i _ => by
  show dit w.length (fun n => sit n (fn (hds w w.length)) 0) i = 0
  rw [dit_sit]
  exact sit_zero (k := w.length) (fun j hj => fn_out (by rw [hds_len]; exact hj)) i _ (Nat.le_refl _)
theorem ex_at {w : List Int} {i : Nat} (h : i < w.length) : ex w i = fn w i := by
  have := sit_dit0 (f := fn w) (h := fn (hds w w.length)) (m := w.length - 1) (fun k hk => fn_hds (by omega)) i 0 (by omega)
  exact this
/-- the next c after the window -/
def fol (w : List Int) (c : Nat) : List Int := (rws (hds w w.length) (w.length + c)).drop w.length
theorem fol_len (w : List Int) (c : Nat) : (fol w c).length = c := by
  unfold fol
  rw [List.length_drop, rws_len]
  omega
theorem fn_fol {w : List Int} {c i : Nat} (h : i < c) : fn (fol w c) i = ex w (w.length + i) := by
  refine fn_at ?_
  unfold fol
  rw [List.getElem?_drop]
  exact rws_at (by omega)
/-- any sequence of the same kind that the window starts tells the same -/
theorem ex_uniq {w : List Int} {f : Nat → Int} {M : Nat} (h : zd w.length f M) (e : ∀ i, i < w.length → f i = fn w i) : ∀ i, i < w.length + M → f i = ex w i := zd_uniq h (ex_zd w M) fun i hi => by rw [e i hi, ex_at hi]
theorem zd_fn {ns : List Int} {n : Nat} : (∀ x ∈ itd n ns, x = 0) ↔ zd n (fn ns) (ns.length - n) := by
  constructor
  · intro h i hi
    exact h _ (List.mem_of_getElem? (itd_at ns n i (by omega)))
  · intro h x hx
    obtain ⟨i, hi⟩ := List.mem_iff_getElem?.mp hx
    have il := (List.getElem?_eq_some_iff.mp hi).1
    rw [itd_len] at il
    rw [itd_at ns n i (by omega)] at hi
    cases hi
    exact h i il
theorem fn_append_l {a b : List Int} {i : Nat} (h : i < a.length) : fn (a ++ b) i = fn a i := fn_at (by rw [List.getElem?_append_left h]; exact at_fn h)
theorem fn_append_r {a b : List Int} {i : Nat} : fn (a ++ b) (a.length + i) = fn b i := by
  rcases Nat.lt_or_ge i b.length with h | h
  · exact fn_at (by rw [List.getElem?_append_right (Nat.le_add_right _ _), Nat.add_sub_cancel_left]; exact at_fn h)
  · rw [fn_out h, fn_out (by rw [List.length_append]; omega)]
theorem fn_drop {a : List Int} {s i : Nat} : fn (a.drop s) i = fn a (s + i) := by
  rcases Nat.lt_or_ge (s + i) a.length with h | h
  · exact fn_at (by rw [List.getElem?_drop]; exact at_fn h)
  · rw [fn_out h, fn_out (by rw [List.length_drop]; omega)]
theorem fn_take {a : List Int} {s i : Nat} (h : i < s) (l : i < a.length) : fn (a.take s) i = fn a i := fn_at (by rw [List.getElem?_take_of_lt h]; exact at_fn l)
theorem fn_rev {a : List Int} {i : Nat} (h : i < a.length) : fn a.reverse i = fn a (a.length - 1 - i) := fn_at (by rw [List.getElem?_reverse h]; exact at_fn (by omega))
/-- the window with what follows it is one sequence -/
theorem fn_wfol {w : List Int} {c i : Nat} (h : i < w.length + c) : fn (w ++ fol w c) i = ex w i := by
  rcases Nat.lt_or_ge i w.length with q | q
  · rw [fn_append_l q, ex_at q]
  · have e := fn_append_r (a := w) (b := fol w c) (i := i - w.length)
    rw [Nat.add_sub_cancel' q] at e
    rw [e, fn_fol (by omega), Nat.add_sub_cancel' q]
theorem zd_wfol (w : List Int) (c : Nat) : ∀ x ∈ itd w.length (w ++ fol w c), x = 0 := zd_fn.mpr (by
  rw [List.length_append, fol_len, Nat.add_sub_cancel_left]
  exact zd_congr (ex_zd w c) fun i hi => (fn_wfol hi).symm)
/-- going on from a later window -/
theorem fol_later {w v : List Int} {s c : Nat} (l : v.length = w.length) (e : ∀ i, i < v.length → fn v i = ex w (i + s)) : fol v c = (fol w (s + c)).drop s := by
  refine ext_fn (by rw [List.length_drop, fol_len, fol_len]; omega) fun i hi => ?_
  rw [fol_len] at hi
  rw [fn_fol hi, fn_drop, fn_fol (by omega)]
  have z : zd v.length (fun i => ex w (i + s)) c := by
    rw [l]
    exact zd_shift (ex_zd w (c + s))
  have := ex_uniq (w := v) (f := fun i => ex w (i + s)) (M := c) z (fun i hi => (e i hi).symm) (v.length + i) (by omega)
  rw [← this, l]
  show ex w (w.length + i + s) = ex w (w.length + (s + i))
  rw [show w.length + i + s = w.length + (s + i) by omega]
end My

namespace My
open PySem PySem.Spec PyProof.Rows L2
/-- keyword-only parameters, some of them left to their defaults, no other defaults -/
theorem kbinds0 {K : PySem.W.Frag} {x qual : Str} {params : Arguments} {body : List Stmt} {scope : Scope} {kws : List (Str × V)} {f : Addr} {fd : FuncData} {ps : List Str} (F : FunD K x qual params body scope [] kws f fd) (n : Nat) (ks : List Str) (ms : List (Str × V)) (g : {α : Type} → List α → List α → List α → List α) (hk : kws ≠ []) (hms : ∀ q ∈ ms, q ∈ kws)
    (hrel : ∀ {vs mz zs : List V} {us mv ws : List Value}, Vals vs us → Vals mz mv → Vals zs ws → Vals (g vs mz zs) (g us mv ws))
    (h : ∀ (D : Addr) (doc pm : Value) (an : Option Addr) (cdv ct : Value) (us mv ws : List Value), us.length = n → mv.length = ms.length → ws.length = ks.length →
      KwChain D ((ms.map (·.1)).zip mv) (bindArgs (PySem.W.fnOf x qual params body scope .none (.ref D) doc pm an cdv ct) ⟨us, ks.zip ws⟩) (ps.zip (g us mv ws))) :
    ∃ mv : List Value, KBn K fd ps n ks (fun us ws => g us mv ws) (fun vs zs => g vs (ms.map (·.2)) zs) := by
  obtain ⟨oc, od, dV, kV, doc, pm, an, cdv, ct, osl, rfl, lk, hcd, hD, hK⟩ := F.ex
  rcases hD with ⟨_, rfl⟩ | ⟨e, _⟩
  · rcases hK with e | ⟨D, rfl, hq⟩
    · exact absurd e hk
    · obtain ⟨mv, hl, rk, hks⟩ := kwd_vals (ms := ms) fun q hm => hq q (hms q hm)
      refine ⟨mv, ⟨fun s us ws X l1 l2 => ?_, fun r1 r2 => hrel r1 rk r2⟩⟩
      exact BindsTo.of_looks fun M => KwChain.looks X hks (h D doc pm an cdv ct us mv ws l1 hl l2)
  · exact absurd rfl e
def app3 {α : Type} (us mv ws : List α) : List α := us ++ ws ++ mv
theorem app3_rel {vs mz zs : List V} {us mv ws : List Value} (a : Vals vs us) (b : Vals mz mv) (c : Vals zs ws) : Vals (app3 vs mz zs) (app3 us mv ws) := (a.append c).append b
end My

namespace My
open PySem PySem.Spec PyProof.Rows L2
section
variable {P : Program} {w : World} {K : PySem.W.Frag} {mg : Str → Option Value} {base : Heap}
end
/-! ### a parameter by keyword -/
def kw2 {α : Type} (us ws : List α) : List α := match us, ws with
  | [u], [w] => [u, w]
  | _, _ => []
theorem kw2_rel {vs : List V} {us : List Value} {zs : List V} {ws : List Value} (h : Vals vs us) (g : Vals zs ws) : Vals (kw2 vs zs) (kw2 us ws) := by
  cases h with
  | nil => exact .nil
  | cons a b =>
    cases b with
    | nil =>
      cases g with
      | nil => exact .nil
      | cons c d =>
        cases d with
        | nil => exact .cons a (.cons c .nil)
        | cons _ _ => exact .nil
    | cons _ _ => exact .nil
theorem kb2 {K : PySem.W.Frag} {fd : FuncData} {x y : Str} (h : ∀ (s : Shared) (u w : Value), BindsTo s fd ⟨[u], [(y, w)]⟩ [(x, u), (y, w)]) : KBinds K fd [x, y] [y] kw2 kw2 where
  to := fun s us ws _ hl => by
    match us, ws, hl with
    | [u], [w], _ => exact h s u w
    | [], _, hl => cases hl
    | [u], [], hl => cases hl
    | [u], _ :: _ :: _, hl => cases hl
    | _ :: _ :: _, _, hl => cases hl
  rel := fun h g => kw2_rel h g
structure DfnK (K : PySem.W.Frag) (mg : Str → Option Value) (x : Str) (st : Stmt) (ps ks : List Str) : Prop where
  ex : ∃ f fd, Fun K x x st f fd ∧ mg x = some (.ref f) ∧ KBinds K fd ps ks kw2 kw2
structure KnK (P : Program) (w : World) (K : PySem.W.Frag) (mg : Str → Option Value) (base : Heap) (k : Nat) (x : Str) (ps ks : List Str) (sp : Sp) : Prop where
  ex : ∃ f fd, mg x = some (.ref f) ∧ PySem.W.keepIn K (.ref f) = true ∧ KBinds K fd ps ks kw2 kw2 ∧ FnOk P w K mg base CX0 k f fd ps sp
theorem KnK.mk' {P : Program} {w : World} {K : PySem.W.Frag} {mg : Str → Option Value} {base : Heap} {x : Str} {st : Stmt} {N ps ks : List Str} {k : Nat} {sp : Sp} (D : DfnK K mg x st ps ks) (S : FnScope N ps (defScope st)) (len : ∀ vs H Q E, sp vs H Q E → vs.length = ps.length)
    (hbody : ∀ (f : Addr) (cdv : Value) (A : Around) (outer : List Env) (s : Shared) (H : Hp) (vs : List V) (Q : VK) (E : XK), Room k (A.deeper (envOfC x (defScope st) s.heap.objs.size f cdv)) → sp vs H Q E →
      ∃ t, PSs (cxOf CX0 P w K mg base N x (defScope st) f cdv A outer s H E).nox (defBody st) t ∧ t { nx := fun _ H' => Q .non H', rt := Q } (start N vs) H) : KnK P w K mg base (k + 1) x ps ks sp := by
  obtain ⟨f, fd, F, m, b⟩ := D.ex
  exact ⟨f, fd, m, F.kp, b, F.ok S len (hbody f)⟩
section
variable {X : Cx}
theorem pe_knK {j k : Nat} {x : Str} {ps ks : List Str} {sp : Sp} {p pos : Pos} {e : Expr} {es : List Expr} {kws : List Keyword} {t tk : TA} (F : KnK X.prog X.w X.K X.mg X.base k x ps ks sp) (hr : Room j X.A) (hg : Gl X x) (ha : PA X (e :: es) t) (hkw : PK X kws tk) (hj : k ≤ j := by omega)
    (hall : (backToKw pos (keywordEach kws X.env)).all (·.1.isSome) = true := by rfl) (hks : (backToKw pos (keywordEach kws X.env)).filterMap (·.1) = ks := by rfl)
    (hdb : (x == ("__debug__" : Str)) = false := by decide) (he : starEach (e :: es) X.env = (false, eval e X.env) :: starEach es X.env := by rfl)
    (hpl : ((backTo pos (starEach (e :: es) X.env)).any (·.1) || (backToKw pos (keywordEach kws X.env)).any (·.1.isNone)) = false := by rfl) :
    PE X (.Call (.Name x p) (e :: es) kws pos) (tCallK sp kw2 E0 t tk) := by
  obtain ⟨f, fd, m, kp, b, G⟩ := F.ex
  exact pe_callK G (hr.mono hj) hg m kp b pass0 ha hkw hall hks hdb he hpl
end
section
variable {P : Program} {w : World} {K : PySem.W.Frag} {mg : Str → Option Value} {base : Heap}
def inB (a b : Int) : V → Bool
  | .int n => decide (a ≤ n) && decide (n ≤ b)
  | _ => false
theorem whole_or (v : V) : wholeV v = false ∨ ∃ n, v = .int n := by
  cases v with
  | int n => exact .inr ⟨n, rfl⟩
  | _ => exact .inl rfl
theorem inB_no {a b : Int} {v : V} (h : wholeV v = false) : inB a b v = false := by
  cases v with
  | int n => cases h
  | _ => rfl
def spWithinA (K : PySem.W.Frag) : Sp := fun vs H Q _ => ∃ (v : V) (a b : Int), vs = [v, .int a, .int b] ∧ (tyN K H v).isSome ∧ Q (.bl (inB a b v)) H
abbrev sWithinA : Stmt := topS 16
theorem scWithinA : FnScope ["value", "least", "most"] ["value", "least", "most"] (defScope sWithinA) := ⟨rfl, rfl, rfl, by decide +kernel, rfl, by decide +kernel, by decide +kernel⟩
theorem k_WithinA (T : Bt K mg) (D : Dfn K mg "is_whole_within" sWithinA ["value", "least", "most"]) (d_is_whole : Kn P w K mg base 1 "is_whole" ["value"] (spWhole K)) : Kn P w K mg base 2 "is_whole_within" ["value", "least", "most"] (spWithinA K) := by
  refine Kn.mk' D scWithinA (fun vs H Q E h => ?_) (fun f cdv A outer s H vs Q E hr h => ?_)
  · obtain ⟨v, a, b, rfl, _⟩ := h
    rfl
  obtain ⟨v, a, b, rfl, hv, k⟩ := h
  refine ⟨_, (pss_one (ps_ret (pe_and (pe_kn d_is_whole hr (by rfl) (pa_cons (pv 0) pa_nil)) (pe_one (pe_chain op_le op_le (pv 1) (pv 0) (pv 2)))))), ?_⟩
  rcases whole_or v with hw | ⟨n, rfl⟩
  · refine ⟨_, rfl, v, rfl, hv, _, rfl, ?_⟩
    rw [hw, if_neg Bool.noConfusion]
    rw [inB_no hw] at k
    exact k
  have k : Q (.bl (decide (a ≤ n) && decide (n ≤ b))) H := k
  refine ⟨_, rfl, .int n, rfl, rfl, true, rfl, ?_⟩
  rw [if_pos rfl]
  simp only [tChain, cx_K, decide_true, decide_false, reduceCtorEq, gTp, gCons, gNil, ca_0, ca_1, ca_2, ca_3, ca_4, ca_5, ca_6, ca_7, ca_8, ca_9, ca_10, ca_11, ca_12, ca_13, ca_14, ca_15, ca_16, ca_17, ca_18, ca_19, ca_20, ca_21, ca_22, ca_23, ca_24, ca_25, ca_26, ca_27, ca_28, ca_29, ca_30, not_true_eq_false, not_false_eq_true, Int.reduceEq, Nat.reduceEqDiff, Nat.reduceLeDiff, rGcd, V.ty.injEq, eq_self, List.not_mem_nil, beq_self_eq_true, HO.lst.injEq, HO.tup.injEq, tFor_eq, iRng1, iList, iTup, nat10, tSeq, rIxA, rSetA, rIsN, rIsT, tTp, tLs, itsO_tup, itsO_lst, tyO_tup, tyO_lst, tyO_dK, tyN_non, tyN_bl, tyN_int, tyN_str, tyN_ref, tyNs_lt, isB, upd_same, upd_upd, sizeLine_eq, List.mem_cons, String.reduceBEq, String.reduceEq, Bool.or_false, Bool.or_true, Bool.and_false, Bool.false_or, Bool.and_self, Bool.false_and, Bool.not_false, Bool.not_true, List.any_cons, List.any_nil, atI_0, setI_0, atI_1, setI_1, atI_2, setI_2, atI_3, setI_3, atI_4, setI_4, atI_5, setI_5, atI_6, setI_6, tAsg, gName, tOp, tUn, tVar, tC, tCons, L2.tNil, tRet, tIfS, tTest, tCB, tCall, rI, rI0, rU, tNext, tB, tAnd, tOr, tNot, tAndV, tOrV, tNotV, tDrop, tIf, tPar, gSub, rIxL, rIxT, rEq, rNe, rSetL, tBits,
    L2.start, List.map_cons, List.map_nil, List.cons_append, List.nil_append, List.append_nil, List.length_cons, List.length_nil, List.replicate, Nat.reduceAdd, Nat.reduceSub, Nat.zero_add, List.getElem?_cons_zero, List.getElem?_cons_succ, List.set_cons_zero, List.set_cons_succ,
    Option.some.injEq, exists_eq_left', exists_eq_left, V.int.injEq, V.bl.injEq, V.ref.injEq, V.str.injEq, List.cons.injEq, reduceCtorEq, and_true, true_and, false_and, and_false, exists_false, or_false, false_or, or_true, true_or, exists_const, CMul, CDiv, CPow, and_assoc, exists_and_left, exists_and_right, Int.reducePow, Int.reduceNeg, Int.reduceLT, Int.reduceLE, Nat.reducePow, Nat.reduceLT, Int.reduceToNat, gt_iff_lt, ge_iff_le, decide_eq_true_eq, Bool.not_eq_true', decide_eq_false_iff_not, scal, ↓reduceIte, Bool.false_eq_true]
  refine ite2 (fun h => ?_) (fun h => ?_)
  · rw [decide_eq_true h, Bool.true_and] at k
    exact k
  · rw [decide_eq_false h, Bool.false_and] at k
    exact k
def spDgr (K : PySem.W.Frag) : Sp := fun vs H Q _ => ∃ v, vs = [v] ∧ (tyN K H v).isSome ∧ Q (.bl (inB 0 8 v)) H
def spCnt (K : PySem.W.Frag) : Sp := fun vs H Q _ => ∃ v, vs = [v] ∧ (tyN K H v).isSome ∧ Q (.bl (inB 0 60 v)) H
def spRS (K : PySem.W.Frag) : Sp := fun vs H Q _ => ∃ (a : Addr) (xs : List V) (d : Int), vs = [.ref a, .int d] ∧ ob K H a = some (.lst xs) ∧ d + 1 ≤ (xs.length : Int) ∧ Q .non H
/-- a new list of whole numbers -/
def NewL (K : PySem.W.Frag) (H : Hp) (zs : List Int) (Q : VK) : Prop := ∀ l H', Same H H' → H l = none → K.lookup l = none → H' l = some (.lst (zs.map V.int)) → Q (.ref l) H'
def spHs (K : PySem.W.Frag) : Sp := fun vs H Q _ => ∃ (a : Addr) (ns : List Int), vs = [.ref a] ∧ H a = some (.lst (ns.map V.int)) ∧ 1 ≤ ns.length ∧ ns.length ≤ 100 ∧ NewL K H (hds ns ns.length) Q
def HsI (D : Addr) (ns : List Int) (H0 : Hp) (i : Nat) (H' : Hp) : Prop := H' D = some (.lst ((hds ns i).map V.int)) ∧ Same H0 H'
theorem hds_cut (ns : List Int) {m k : Nat} (h : k ≤ m) : (hds ns m).take k = hds ns k := by
  unfold hds
  rw [← List.map_take, List.take_range, Nat.min_eq_left h]
abbrev sDgr : Stmt := topS 24
theorem scDgr : FnScope ["value"] ["value"] (defScope sDgr) := ⟨rfl, rfl, rfl, by decide +kernel, rfl, by decide +kernel, by decide +kernel⟩
theorem k_Dgr {tkD : Tok} (gMD : mg "MOST_DEGREE" = some (.int 8 tkD)) (T : Bt K mg) (D : Dfn K mg "is_degree" sDgr ["value"]) (d_is_whole_within : Kn P w K mg base 2 "is_whole_within" ["value", "least", "most"] (spWithinA K)) : Kn P w K mg base 3 "is_degree" ["value"] (spDgr K) := by
  refine Kn.mk' D scDgr (fun vs H Q E h => ?_) (fun f cdv A outer s H vs Q E hr h => ?_)
  · obtain ⟨v, rfl, _⟩ := h
    rfl
  obtain ⟨v, rfl, hv, k⟩ := h
  refine ⟨_, (pss_one (ps_ret (pe_kn d_is_whole_within hr (by rfl) (pa_cons (pv 0) (pa_cons pe_int (pa_cons (pe_glob (v := .int 8) (by rfl) gMD ⟨_, rfl⟩) pa_nil)))))), ?_⟩
  exact ⟨_, rfl, v, 0, 8, rfl, hv, k⟩
abbrev sCnt : Stmt := topS 25
theorem scCnt : FnScope ["value"] ["value"] (defScope sCnt) := ⟨rfl, rfl, rfl, by decide +kernel, rfl, by decide +kernel, by decide +kernel⟩
theorem k_Cnt {tkM : Tok} (gMR : mg "MOST_ROWS" = some (.int 60 tkM)) (T : Bt K mg) (D : Dfn K mg "_is_count" sCnt ["value"]) (d_is_whole_within : Kn P w K mg base 2 "is_whole_within" ["value", "least", "most"] (spWithinA K)) : Kn P w K mg base 3 "_is_count" ["value"] (spCnt K) := by
  refine Kn.mk' D scCnt (fun vs H Q E h => ?_) (fun f cdv A outer s H vs Q E hr h => ?_)
  · obtain ⟨v, rfl, _⟩ := h
    rfl
  obtain ⟨v, rfl, hv, k⟩ := h
  refine ⟨_, (pss_one (ps_ret (pe_kn d_is_whole_within hr (by rfl) (pa_cons (pv 0) (pa_cons pe_int (pa_cons (pe_glob (v := .int 60) (by rfl) gMR ⟨_, rfl⟩) pa_nil)))))), ?_⟩
  exact ⟨_, rfl, v, 0, 60, rfl, hv, k⟩
abbrev sRS : Stmt := topS 26
theorem scRS : FnScope ["values", "degree"] ["values", "degree"] (defScope sRS) := ⟨rfl, rfl, rfl, by decide +kernel, rfl, by decide +kernel, by decide +kernel⟩
theorem k_RS (T : Bt K mg) (D : Dfn K mg "_refuse_short" sRS ["values", "degree"]) : Kn P w K mg base 1 "_refuse_short" ["values", "degree"] (spRS K) := by
  refine Kn.mk' D scRS (fun vs H Q E h => ?_) (fun f cdv A outer s H vs Q E hr h => ?_)
  · obtain ⟨a, xs, d, rfl, _⟩ := h
    rfl
  obtain ⟨a, xs, d, rfl, o, hd, k⟩ := h
  refine ⟨_, (pss_one (ps_if (pt_cmpR op_lt (pe_callB call_lenA (by rfl) T.b_len PySem.boot_len (pa_cons (pv 0) pa_nil)) (pe_op op_add (pv 1) pe_int) (nomark _)) (pss_one ps_never) pss_nil)), ?_⟩
  refine ⟨_, rfl, a, rfl, _, itsO_ofL o, _, rfl, _, _, rfl, rfl, _, _, rfl, rfl, _, rfl, if_no (decide_eq_false (by omega)) k⟩
abbrev sHs : Stmt := topS 28
theorem scHs : FnScope ["values", "row"] ["values"] (defScope sHs) := ⟨rfl, rfl, rfl, by decide +kernel, rfl, by decide +kernel, by decide +kernel⟩
theorem blk_scHs_0 : BlkOk ["values", "row"] (defScope sHs) { kind := .function, names := [(".0", .local), ("row", .local)], isGenerator := false, isCoroutine := false, more := [] } [("row", 1)] := ⟨rfl, by decide +kernel, by decide +kernel, by decide +kernel, by decide +kernel⟩
theorem k_Hs (T : Bt K mg) (D : Dfn K mg "_heads" sHs ["values"]) (d__differences : Kn P w K mg base 1 "_differences" ["values"] (spDf K)) : Kn P w K mg base 2 "_heads" ["values"] (spHs K) := by
  refine Kn.mk' D scHs (fun vs H Q E h => ?_) (fun f cdv A outer s H vs Q E hr h => ?_)
  · obtain ⟨a, ns, rfl, _⟩ := h
    rfl
  obtain ⟨a, ns, rfl, ha, l1, l2, k⟩ := h
  refine ⟨_, (pss_one (ps_ret (pe_fr (pe_lc (own := [("row", 1)]) (g := gName 1) (te := (tOp (rIxA K) (tVar 1) (tC (.int 0)))) rfl scHs.nd (pi_list (pe_kn d__differences hr (by rfl) (pa_cons (pv 0) pa_nil))) blk_scHs_0 (fun _ _ _ _ _ => by exact pg_name (i := 1) scHs.nd rfl (.inl rfl)) (fun _ _ _ _ _ => pts_nil) (fun _ _ _ _ _ => by exact (pe_ix ix_any (pv 1) pe_int (fun _ _ => rfl))))))), ?_⟩
  refine ⟨_, rfl, a, ns, rfl, ha, l1, l2, fun p xs H1 s1 hp kp hx lr => ⟨p, rfl, ⟨_, .of hx⟩, fun D hD => lc_list (xs := xs) (HsI D ns H1) ⟨upd_same, Same.new hD _⟩ (fun i H' _ h => .of (h.2 _ _ hx)) ?_ ?_⟩⟩
  · rintro i x H' hi ⟨h, s2⟩
    refine ⟨rfl, ?_⟩
    simp only [tYes, if_true]
    obtain ⟨b, rfl, _, kb, hb⟩ := lr.2 i x hi
    have il := (List.getElem?_eq_some_iff.mp hi).1
    have xl := lr.1
    have e0 : atI ((itd i ns).map V.int) 0 = some (.int (dit i (fn ns) 0)) := atI_nat (j := 0) (by rw [List.getElem?_map, itd_at ns i 0 (by omega)]; rfl)
    refine ⟨_, rfl, b, 0, rfl, rfl, _, itsO_ofL (ob_same s2 ((ob_none kb).trans hb)), _, e0, _, h, by rw [List.length_map, hds_len, sizeLine_eq]; omega, ?_, fun c o e => ?_⟩
    · rw [upd_same, hds_take, List.map_append]
      rfl
    · rw [upd_ne (ne_of_none e hD)]
      exact s2 _ _ e
  · rintro H' ⟨h, s2⟩ fr
    rw [lr.1] at h
    exact k D H' (s1.trans s2) (s1.free hD) (fr D (by rw [h]; simp)) h
def spMv (K : PySem.W.Frag) : Sp := fun vs H Q _ => ∃ (a : Addr) (hs : List Int), vs = [.ref a] ∧ H a = some (.lst (hs.map V.int)) ∧ 1 ≤ hs.length ∧ hs.length ≤ 100 ∧ NewL K H (stp hs) Q
def MvI (D : Addr) (hs : List Int) (H0 : Hp) (i : Nat) (H' : Hp) : Prop := H' D = some (.lst (((stp hs).take i).map V.int)) ∧ Same H0 H'
abbrev sMv : Stmt := topS 29
theorem scMv : FnScope ["heads", "head", "change"] ["heads"] (defScope sMv) := ⟨rfl, rfl, rfl, by decide +kernel, rfl, by decide +kernel, by decide +kernel⟩
theorem blk_scMv_0 : BlkOk ["heads", "head", "change"] (defScope sMv) { kind := .function, names := [(".0", .local), ("head", .local), ("change", .local)], isGenerator := false, isCoroutine := false, more := [] } [("head", 1), ("change", 2)] := ⟨rfl, by decide +kernel, by decide +kernel, by decide +kernel, by decide +kernel⟩
theorem k_Mv (zZ : mg "zip" = none) (T : Bt K mg) (D : Dfn K mg "_moved_on" sMv ["heads"]) : Kn P w K mg base 1 "_moved_on" ["heads"] (spMv K) := by
  refine Kn.mk' D scMv (fun vs H Q E h => ?_) (fun f cdv A outer s H vs Q E hr h => ?_)
  · obtain ⟨a, hs, rfl, _⟩ := h
    rfl
  obtain ⟨a, hs, rfl, ha, l1, l2, k⟩ := h
  refine ⟨_, (pss_one (ps_ret (pe_fr (pe_lc (own := [("head", 1), ("change", 2)]) (g := gTup K 2 (gCons (gName 1) (gCons (gName 2) gNil))) (te := (tOp (rI0 fun i j => V.int (i + j)) (tVar 1) (tVar 2))) rfl scMv.nd (pi_zip (by rfl) zZ (pa_cons (pv 0) (pa_cons (pe_fr (pe_op op_cat (pe_fr (pe_slice sl_list (pv 0) (po_some pe_int) po_none)) (pe_ls (pa_cons pe_int pa_nil)))) pa_nil))) blk_scMv_0 (fun _ _ _ _ _ => by exact pg_tup rfl (pgs_cons (pg_name (i := 1) scMv.nd rfl (.inl rfl)) (pgs_cons (pg_name (i := 2) scMv.nd rfl (.inl rfl)) pgs_nil))) (fun _ _ _ _ _ => pts_nil) (fun _ _ _ _ _ => by exact (pe_op op_add (pv 1) (pv 2))))))), ?_⟩
  refine ⟨_, rfl, _, rfl, _, rfl, a, _, rfl, .of ha, ?_⟩
  rw [show cutV (hs.map V.int) (some 1) none = (hs.map V.int).drop 1 from cut_from _ 1 (by rw [List.length_map]; omega)]
  refine fun b hb _ => ?_
  have s1 := Same.new hb (.lst ((hs.map V.int).drop 1))
  have hb1 : upd H b (.lst ((hs.map V.int).drop 1)) b = some (.lst ((hs.map V.int).drop 1)) := upd_same
  generalize upd H b (.lst ((hs.map V.int).drop 1)) = H1 at s1 hb1 ⊢
  refine ⟨sz2 (by show 1 ≤ 100; decide), fun e he _ => ?_⟩
  have s2 := Same.new he (.lst [V.int 0])
  have he1 : upd H1 e (.lst [V.int 0]) e = some (.lst [V.int 0]) := upd_same
  generalize upd H1 e (.lst [V.int 0]) = H2 at s2 he1 ⊢
  refine ⟨b, e, _, _, rfl, rfl, s2 _ _ hb1, he1, by rw [List.length_drop, List.length_map, sizeLine_eq]; simp; omega, fun c hc _ => ?_⟩
  have s3 := Same.new hc (.lst ((hs.map V.int).drop 1 ++ [V.int 0]))
  have hc1 : upd H2 c (.lst ((hs.map V.int).drop 1 ++ [V.int 0])) c = some (.lst ((hs.map V.int).drop 1 ++ [V.int 0])) := upd_same
  generalize upd H2 c (.lst ((hs.map V.int).drop 1 ++ [V.int 0])) = H3 at s3 hc1 ⊢
  have s03 := s1.trans (s2.trans s3)
  have ha3 := s03 _ _ ha
  have ml : (hs.map V.int).length = hs.length := List.length_map _
  have yl : ((hs.map V.int).drop 1 ++ [V.int 0]).length = hs.length := by rw [List.length_append, List.length_drop, ml]; simp; omega
  refine ⟨a, c, _, _, rfl, .of ha3, .of hc1, fun D hD => lc_zip (xs := hs.map V.int) (ys := (hs.map V.int).drop 1 ++ [V.int 0]) (by omega) (MvI D hs H3) ⟨upd_same, Same.new hD _⟩ (fun i H5 _ h => ⟨.of (h.2 _ _ ha3), .of (h.2 _ _ hc1)⟩) ?_ ?_⟩
  · rintro i x y T H5 hx hy ⟨h5, s5⟩ hT
    have il := (List.getElem?_eq_some_iff.mp hx).1
    rw [ml] at il
    rw [List.getElem?_map, at_fn il] at hx
    have hy : y = .int (fn hs (i + 1)) := by
      rcases Nat.lt_or_ge (i + 1) hs.length with q | q
      · rw [List.getElem?_append_left (by rw [List.length_drop, ml]; omega), List.getElem?_drop, List.getElem?_map, Nat.add_comm 1 i, at_fn q] at hy
        cases hy
        rfl
      · rw [List.getElem?_append_right (by rw [List.length_drop, ml]; omega), List.length_drop, ml, show i - (hs.length - 1) = 0 by omega] at hy
        cases hy
        rw [fn_out q]
    subst hy
    cases hx
    have sT := Same.new hT (.tup [V.int (fn hs i), V.int (fn hs (i + 1))])
    refine ⟨T, _, rfl, .inl (.inl upd_same), rfl, _, _, rfl, _, _, rfl, rfl, rfl, ?_⟩
    simp only [tYes, if_true]
    refine ⟨_, rfl, _, rfl, _, _, rfl, rfl, _, sT _ _ h5, by rw [List.length_map, List.length_take, sizeLine_eq]; omega, ?_, fun c o e => ?_⟩
    · rw [upd_same, List.take_add_one, stp_at il, List.map_append]
      rfl
    · rw [upd_ne (ne_of_none e hD)]
      exact sT _ _ (s5 _ _ e)
  · rintro H5 ⟨h5, s5⟩ fr5
    rw [yl, ← stp_len hs, List.take_length] at h5
    exact k D H5 (s03.trans s5) (s03.free hD) (fr5 D (by rw [h5]; simp)) h5
def spRf (K : PySem.W.Frag) : Sp := fun vs H Q _ => ∃ (a : Addr) (hs : List Int) (m : Nat), vs = [.ref a, .int m] ∧ H a = some (.lst (hs.map V.int)) ∧ K.lookup a = none ∧ 1 ≤ hs.length ∧ hs.length ≤ 100 ∧ m ≤ 100 ∧ NewL K H (rws hs m) Q
def RfI (K : PySem.W.Frag) (a o : Addr) (hs : List Int) (m : Nat) (H : Hp) (i : Nat) (σ : L2.St) (H' : Hp) : Prop := ∃ (r : Addr) (x4 : Option V), σ = [some (.ref a), some (.int m), some (.ref o), some (.ref r), x4] ∧ Same H H' ∧ H' r = some (.lst ((itn i hs).map V.int)) ∧ K.lookup r = none ∧ r ≠ o ∧ H' o = some (.lst ((rws hs i).map V.int))
abbrev sRf : Stmt := topS 30
theorem scRf : FnScope ["heads", "count", "rows", "row_heads", "_"] ["heads", "count"] (defScope sRf) := ⟨rfl, rfl, rfl, by decide +kernel, rfl, by decide +kernel, by decide +kernel⟩
theorem k_Rf (T : Bt K mg) (D : Dfn K mg "_rows_from" sRf ["heads", "count"]) (d__moved_on : Kn P w K mg base 1 "_moved_on" ["heads"] (spMv K)) : Kn P w K mg base 2 "_rows_from" ["heads", "count"] (spRf K) := by
  refine Kn.mk' D scRf (fun vs H Q E h => ?_) (fun f cdv A outer s H vs Q E hr h => ?_)
  · obtain ⟨a, hs, m, rfl, _⟩ := h
    rfl
  obtain ⟨a, hs, m, rfl, ha, ka, l1, l2, m1, k⟩ := h
  refine ⟨_, (pss_cons (ps_set (i := 2) scRf.nd rfl (.inl rfl) (pe_ls pa_nil))
      (pss_cons (ps_set (i := 3) scRf.nd rfl (.inl rfl) (pv 0))
      (pss_cons (ps_for PassesOwn.never rfl (pi_range1 (by rfl) T.b_range (pa_cons (pv 1) pa_nil)) (pg_name (i := 4) scRf.nd rfl (.inl rfl)) (pss_cons (ps_expr (pe_bm PySem.F.plainAttrs_list PySem.F.slot_list_append PySem.F.type_list_append mt_append (pv 2) (pa_cons (pe_ix ix_any (pv 3) pe_int (fun _ _ => rfl)) pa_nil)))
      (pss_one (ps_set (i := 3) scRf.nd rfl (.inl rfl) (pe_kn d__moved_on hr (by rfl) (pa_cons (pv 3) pa_nil))))))
      (pss_one (ps_ret (pv 2)))))), ?_⟩
  refine ⟨sz2 (by show 0 ≤ 100; decide), fun o ho ko => ?_⟩
  have s1 := Same.new ho (.lst [])
  have ho1 : upd H o (.lst []) o = some (.lst []) := upd_same
  have na := ne_of_none ha ho
  generalize upd H o (.lst []) = H1 at s1 ho1 ⊢
  refine ⟨_, rfl, _, rfl, _, rfl, by omega, by omega, forI_range (lo := 0) (n := (m : Int).toNat) (RfI K a o hs m H) ⟨a, none, rfl, s1, s1 _ _ ha, ka, na, ho1⟩ ?_ ?_⟩
  · rintro i σ H2 hi ⟨r, x4, rfl, s2, hr2, kr, nr, ho2⟩
    have nl := itn_len hs i
    have or := (ob_none kr).trans hr2
    have e0 : atI ((itn i hs).map V.int) 0 = some (.int (fn (itn i hs) 0)) := atI_nat (j := 0) (by rw [List.getElem?_map, at_fn (by omega)]; rfl)
    refine ⟨_, rfl, .inl ⟨rfl, _, .of ho2⟩, _, rfl, r, 0, rfl, rfl, _, itsO_ofL or, _, e0, o, _, _, rfl, rfl, ho2, by rw [List.length_map, rws_len, sizeLine_eq]; omega, ?_⟩
    have ho3 : upd H2 o (.lst ((rws hs i).map V.int ++ [V.int (fn (itn i hs) 0)])) o = some (.lst ((rws hs (i + 1)).map V.int)) := by
      rw [upd_same, rws_take, List.map_append, fn_itn]
      rfl
    have hr3 : upd H2 o (.lst ((rws hs i).map V.int ++ [V.int (fn (itn i hs) 0)])) r = some (.lst ((itn i hs).map V.int)) := by
      rw [upd_ne nr]
      exact hr2
    have s3 : Same H (upd H2 o (.lst ((rws hs i).map V.int ++ [V.int (fn (itn i hs) 0)]))) := fun c u e => by
      rw [upd_ne (ne_of_none e ho)]
      exact s2 _ _ e
    generalize upd H2 o (.lst ((rws hs i).map V.int ++ [V.int (fn (itn i hs) 0)])) = H3 at ho3 hr3 s3 ⊢
    refine ⟨_, rfl, r, _, rfl, hr3, by omega, by omega, fun l H4 s4 hl kl hl4 => ?_⟩
    exact ⟨l, _, rfl, s3.trans s4, hl4, kl, Ne.symm (ne_of_none ho3 hl), s4 _ _ ho3⟩
  · rintro σ H2 ⟨r, x4, rfl, s2, hr2, kr, nr, ho2⟩
    exact ⟨_, rfl, k o H2 s2 ho ko ho2⟩
end
end My

namespace My
open PySem PySem.Spec PyProof.Rows L2
section
variable {P : Program} {w : World} {K : PySem.W.Frag} {mg : Str → Option Value} {base : Heap}
theorem cut_neg (xs : List V) (d : Nat) (h : d + 1 ≤ xs.length) : cutV xs (some (-(d : Int) - 1)) none = xs.drop (xs.length - (d + 1)) := by
  have e : HT.sIx xs.length 0 (some (-(d : Int) - 1)) = xs.length - (d + 1) := by
    show (if (-(d : Int) - 1) < 0 then ((-(d : Int) - 1) + (xs.length : Int)).toNat else min (-(d : Int) - 1).toNat xs.length) = _
    rw [if_pos (by omega)]
    omega
  unfold cutV
  rw [e, HT.sIx_none, List.take_of_length_le (by rw [List.length_drop]; omega)]
def spFo (K : PySem.W.Frag) : Sp := fun vs H Q _ => ∃ (a : Addr) (ws : List Int) (c : Nat), vs = [.ref a, .int c] ∧ H a = some (.lst (ws.map V.int)) ∧ K.lookup a = none ∧ 1 ≤ ws.length ∧ ws.length ≤ 9 ∧ c ≤ 60 ∧ NewL K H (fol ws c) Q
/-- what stands before a table, what follows it -/
def bfl (ns : List Int) (d c : Nat) : List Int := (fol ((ns.take (d + 1)).reverse) c).reverse
def ffl (ns : List Int) (d c : Nat) : List Int := fol (ns.drop (ns.length - (d + 1))) c
def spCo (K : PySem.W.Frag) : Sp := fun vs H Q _ => ∃ (a : Addr) (ns : List Int) (d c : Nat) (b : Bool), vs = [.ref a, .int d, .int c, .bl b] ∧ H a = some (.lst (ns.map V.int)) ∧ K.lookup a = none ∧ ns.length ≤ 60 ∧ d ≤ 8 ∧ d + 1 ≤ ns.length ∧ c ≤ 60 ∧ NewL K H (if b = true then bfl ns d c else ffl ns d c) Q
abbrev sFo : Stmt := topS 31
theorem scFo : FnScope ["values", "count"] ["values", "count"] (defScope sFo) := ⟨rfl, rfl, rfl, by decide +kernel, rfl, by decide +kernel, by decide +kernel⟩
theorem k_Fo (T : Bt K mg) (D : Dfn K mg "_followers" sFo ["values", "count"]) (d__heads : Kn P w K mg base 2 "_heads" ["values"] (spHs K)) (d__rows_from : Kn P w K mg base 2 "_rows_from" ["heads", "count"] (spRf K)) : Kn P w K mg base 3 "_followers" ["values", "count"] (spFo K) := by
  refine Kn.mk' D scFo (fun vs H Q E h => ?_) (fun f cdv A outer s H vs Q E hr h => ?_)
  · obtain ⟨a, ws, c, rfl, _⟩ := h
    rfl
  obtain ⟨a, ws, c, rfl, ha, ka, l1, l9, c60, k⟩ := h
  refine ⟨_, (pss_one (ps_ret (pe_fr (pe_slice sl_list (pe_kn d__rows_from hr (by rfl) (pa_cons (pe_kn d__heads hr (by rfl) (pa_cons (pv 0) pa_nil)) (pa_cons (pe_op op_add (pe_callB call_lenA (by rfl) T.b_len PySem.boot_len (pa_cons (pv 0) pa_nil)) (pv 1)) pa_nil))) (po_some (pe_callB call_lenA (by rfl) T.b_len PySem.boot_len (pa_cons (pv 0) pa_nil))) po_none)))), ?_⟩
  have ml : (ws.map V.int).length = ws.length := List.length_map _
  have oa := (ob_none ka).trans ha
  refine ⟨_, rfl, a, ws, rfl, ha, l1, by omega, fun h H1 s1 hh kh hh1 => ?_⟩
  refine ⟨_, rfl, a, rfl, _, itsO_ofL (ob_same s1 oa), _, rfl, _, _, rfl, rfl, h, hds ws ws.length, ws.length + c, ?_, hh1, kh, by rw [hds_len]; exact l1, by rw [hds_len]; omega, by omega, fun r H2 s2 hr kr hr2 => ?_⟩
  · show [V.ref h, V.int (((ws.map V.int).length : Int) + (c : Int))] = _
    rw [ml]
    rfl
  refine ⟨_, rfl, a, rfl, _, itsO_ofL (ob_same (s1.trans s2) oa), _, rfl, r, _, rfl, .of hr2, ?_⟩
  rw [show cutV ((rws (hds ws ws.length) (ws.length + c)).map V.int) (some ((ws.map V.int).length : Int)) none = (fol ws c).map V.int by
    rw [ml, cut_from _ ws.length (by rw [List.length_map, rws_len]; omega), ← List.map_drop]
    rfl]
  refine fun q hq frq => ?_
  exact k q _ (s1.trans (s2.trans (Same.new hq _))) (s1.free (s2.free hq)) (frq q (by rw [upd_same]; simp)) upd_same

abbrev sCo : Stmt := topS 22
theorem scCo : FnScope ["values", "degree", "count", "back"] ["values", "degree", "count", "back"] (defScope sCo) := ⟨rfl, rfl, rfl, by decide +kernel, rfl, by decide +kernel, by decide +kernel⟩
theorem k_Co (T : Bt K mg) (D : Dfn K mg "continued" sCo ["values", "degree", "count", "back"]) (d_require : Kn P w K mg base 1 "require" ["well_formed", "what"] spRequire) (d_is_table : Kn P w K mg base 2 "is_table" ["value"] (spTb K)) (d_is_degree : Kn P w K mg base 3 "is_degree" ["value"] (spDgr K)) (d__is_count : Kn P w K mg base 3 "_is_count" ["value"] (spCnt K)) (d__refuse_short : Kn P w K mg base 1 "_refuse_short" ["values", "degree"] (spRS K)) (d__followers : Kn P w K mg base 3 "_followers" ["values", "count"] (spFo K)) : Kn P w K mg base 4 "continued" ["values", "degree", "count", "back"] (spCo K) := by
  refine Kn.mk' D scCo (fun vs H Q E h => ?_) (fun f cdv A outer s H vs Q E hr h => ?_)
  · obtain ⟨a, ns, d, c, b, rfl, _⟩ := h
    rfl
  obtain ⟨a, ns, d, c, b, rfl, ha, ka, l2, d8, dl, c60, k⟩ := h
  refine ⟨_, (pss_cons (ps_expr (pe_kn d_require hr (by rfl) (pa_cons (pe_kn d_is_table hr (by rfl) (pa_cons (pv 0) pa_nil)) (pa_cons pe_str pa_nil))))
      (pss_cons (ps_expr (pe_kn d_require hr (by rfl) (pa_cons (pe_kn d_is_degree hr (by rfl) (pa_cons (pv 1) pa_nil)) (pa_cons pe_str pa_nil))))
      (pss_cons (ps_expr (pe_kn d_require hr (by rfl) (pa_cons (pe_kn d__is_count hr (by rfl) (pa_cons (pv 2) pa_nil)) (pa_cons pe_str pa_nil))))
      (pss_cons (ps_expr (pe_kn d_require hr (by rfl) (pa_cons (pe_callB call_isN (by rfl) T.b_isinstance (by decide +kernel) (pa_cons (pv 3) (pa_cons (pe_bltn (v := .ty "bool") (by rfl) T.b_bool (by decide +kernel) rfl) pa_nil))) (pa_cons pe_str pa_nil))))
      (pss_cons (ps_expr (pe_kn d__refuse_short hr (by rfl) (pa_cons (pv 0) (pa_cons (pv 1) pa_nil))))
      (pss_cons (ps_if (pt_val (pv 3)) (pss_one (ps_ret (pe_fr (pe_revL (pe_kn d__followers hr (by rfl) (pa_cons (pe_fr (pe_revF (pv 0) (po_some (pv 1)))) (pa_cons (pv 2) pa_nil))))))) pss_nil)
      (pss_one (ps_ret (pe_kn d__followers hr (by rfl) (pa_cons (pe_fr (pe_slice sl_list (pv 0) (po_some (pe_op op_sub (pe_un un_neg (pv 1)) pe_int)) po_none)) (pa_cons (pv 2) pa_nil))))))))))), ?_⟩
  have l1 : 1 ≤ ns.length := by omega
  have ml : (ns.map V.int).length = ns.length := List.length_map _
  refine ⟨_, rfl, _, rfl, ap_tbG ha ka l1 l2 fun H1 s1 => ⟨_, rfl, ?_⟩⟩
  have ha1 := s1 _ _ ha
  have i1 : inB 0 8 (.int (d : Int)) = true := by
    show (decide ((0 : Int) ≤ d) && decide ((d : Int) ≤ 8)) = true
    rw [decide_eq_true (by omega), decide_eq_true (by omega)]
    rfl
  have i2 : inB 0 60 (.int (c : Int)) = true := by
    show (decide ((0 : Int) ≤ c) && decide ((c : Int) ≤ 60)) = true
    rw [decide_eq_true (by omega), decide_eq_true (by omega)]
    rfl
  refine ⟨_, rfl, .int (d : Int), rfl, rfl, ?_⟩
  rw [i1]
  refine ⟨_, rfl, _, rfl, .int (c : Int), rfl, rfl, ?_⟩
  rw [i2]
  refine ⟨_, rfl, _, rfl, _, _, rfl, by decide, _, rfl, _, rfl, ?_⟩
  refine ⟨_, rfl, _, rfl, a, _, _, rfl, (ob_none ka).trans ha1, by rw [ml]; omega, ?_⟩
  refine ⟨_, rfl, _, rfl, ite2 (fun hb => ?_) (fun hb => ?_)⟩
  · subst hb
    rw [if_pos rfl] at k
    refine ⟨_, rfl, _, rfl, _, rfl, a, _, d, rfl, rfl, .of ha1, by omega, fun w hw frw => ?_⟩
    have ew : ((ns.map V.int).take (d + 1)).reverse = ((ns.take (d + 1)).reverse).map V.int := by rw [List.map_reverse, List.map_take]
    rw [ew] at frw ⊢
    have s2 := Same.new hw (.lst (((ns.take (d + 1)).reverse).map V.int))
    refine ⟨_, rfl, w, (ns.take (d + 1)).reverse, c, rfl, upd_same, frw w (by rw [upd_same]; simp), by rw [List.length_reverse, List.length_take]; omega, by rw [List.length_reverse, List.length_take]; omega, c60, fun r H2 s3 hr kr hr2 => ?_⟩
    refine ⟨r, _, rfl, .of hr2, fun p hp frp => ?_⟩
    have ep : ((fol (ns.take (d + 1)).reverse c).map V.int).reverse = (bfl ns d c).map V.int := by unfold bfl; rw [List.map_reverse]
    rw [ep] at frp ⊢
    exact k p _ (s1.trans (s2.trans (s3.trans (Same.new hp _)))) (s1.free (s2.free (s3.free hp))) (frp p (by rw [upd_same]; simp)) upd_same
  · rw [if_neg hb] at k
    refine ⟨_, rfl, _, rfl, _, rfl, _, _, rfl, rfl, _, rfl, a, _, rfl, .of ha1, ?_⟩
    rw [show cutV (ns.map V.int) (some ((fun i j => i - j) (-(d : Int)) 1)) none = (ns.drop (ns.length - (d + 1))).map V.int by
      rw [show ((fun i j => i - j) (-(d : Int)) 1 : Int) = -(d : Int) - 1 from rfl, cut_neg _ d (by omega), ml, ← List.map_drop]]
    refine fun w hw frw => ?_
    have s2 := Same.new hw (.lst ((ns.drop (ns.length - (d + 1))).map V.int))
    refine ⟨_, rfl, w, ns.drop (ns.length - (d + 1)), c, rfl, upd_same, frw w (by rw [upd_same]; simp), by rw [List.length_drop]; omega, by rw [List.length_drop]; omega, c60, fun r H2 s3 hr kr hr2 => ?_⟩
    exact k r H2 (s1.trans (s2.trans s3)) (s1.free (s2.free hr)) kr hr2

end
end My

namespace My
open PySem PySem.Spec PyProof.Rows L2
section
variable {P : Program} {w : World} {K : PySem.W.Frag} {mg : Str → Option Value} {base : Heap}
end
/-! ### a parameter by place, two or three by keyword -/
structure KC (K : PySem.W.Frag) (fd : FuncData) : Prop where
  two : ∃ mv : List Value, KBn K fd ["values", "degree", "count", "back"] 1 ["degree", "count"] (fun us ws => app3 us mv ws) (fun vs zs => app3 vs [.bl false] zs)
  three : ∃ mv : List Value, KBn K fd ["values", "degree", "count", "back"] 1 ["degree", "count", "back"] (fun us ws => app3 us mv ws) (fun vs zs => app3 vs [] zs)
structure DfnC (K : PySem.W.Frag) (mg : Str → Option Value) (x : Str) (st : Stmt) (ps : List Str) : Prop where
  ex : ∃ f fd, FunD K x x (defArgs st) (defBody st) (defScope st) [] [("back", .bl false)] f fd ∧ mg x = some (.ref f) ∧ KC K fd
structure KnC (P : Program) (w : World) (K : PySem.W.Frag) (mg : Str → Option Value) (base : Heap) (CX : CXT) (k : Nat) (x : Str) (ps : List Str) (sp : Sp) : Prop where
  ex : ∃ f fd, mg x = some (.ref f) ∧ PySem.W.keepIn K (.ref f) = true ∧ KC K fd ∧ FnOk P w K mg base CX k f fd ps sp
theorem KnC.mk' {P : Program} {w : World} {K : PySem.W.Frag} {mg : Str → Option Value} {base : Heap} {x : Str} {st : Stmt} {N ps : List Str} {k : Nat} {sp : Sp} (D : DfnC K mg x st ps) (S : FnScope N ps (defScope st)) (len : ∀ vs H Q E, sp vs H Q E → vs.length = ps.length)
    (hbody : ∀ (f : Addr) (cdv : Value) (A : Around) (outer : List Env) (s : Shared) (H : Hp) (vs : List V) (Q : VK) (E : XK), Room k (A.deeper (envOfC x (defScope st) s.heap.objs.size f cdv)) → sp vs H Q E →
      ∃ t, PSs (cxOf CX0 P w K mg base N x (defScope st) f cdv A outer s H E).nox (defBody st) t ∧ t { nx := fun _ H' => Q .non H', rt := Q } (start N vs) H) : KnC P w K mg base CX0 (k + 1) x ps sp := by
  obtain ⟨f, fd, F, m, b⟩ := D.ex
  exact ⟨f, fd, m, F.kp, b, F.ok S len fun cdv A outer s H vs Q E hr h => by
    obtain ⟨t, h1, h2⟩ := hbody f cdv A outer s H vs Q E hr h
    exact ⟨t, h1.nox, h2⟩⟩
theorem KnC.mkX {P : Program} {w : World} {K : PySem.W.Frag} {mg : Str → Option Value} {base : Heap} {x : Str} {st : Stmt} {N ps : List Str} {k : Nat} {sp : Sp} (D : DfnC K mg x st ps) (S : FnScope N ps (defScope st)) (len : ∀ vs H Q E, sp vs H Q E → vs.length = ps.length)
    (hbody : ∀ (f : Addr) (cdv : Value) (A : Around) (outer : List Env) (s : Shared) (H : Hp) (vs : List V) (Q : VK) (E : XK), Room k (A.deeper (envOfC x (defScope st) s.heap.objs.size f cdv)) → sp vs H Q E →
      ∃ t, PSs (cxOf (L2.CX P w) P w K mg base N x (defScope st) f cdv A outer s H E) (defBody st) t ∧ t { nx := fun _ H' => Q .non H', rt := Q } (start N vs) H) : KnC P w K mg base (L2.CX P w) (k + 1) x ps sp := by
  obtain ⟨f, fd, F, m, b⟩ := D.ex
  exact ⟨f, fd, m, F.kp, b, F.ok S len fun cdv A outer s H vs Q E hr h => hbody f cdv A outer s H vs Q E hr h⟩
section
variable {X : Cx} {j k : Nat} {x : Str} {ps : List Str} {sp : Sp} {p pos : Pos} {e : Expr} {es : List Expr} {kws : List Keyword} {t tk : TA}
theorem pe_c2 (F : KnC X.prog X.w X.K X.mg X.base CX0 k x ["values", "degree", "count", "back"] sp) (hr : Room j X.A) (hg : Gl X x) (ha : PA X (e :: es) t) (hkw : PK X kws tk) (hj : k ≤ j := by omega)
    (hall : (backToKw pos (keywordEach kws X.env)).all (·.1.isSome) = true := by rfl) (hks : (backToKw pos (keywordEach kws X.env)).filterMap (·.1) = (["degree", "count"] : List Str) := by rfl)
    (hdb : (x == ("__debug__" : Str)) = false := by decide) (he : starEach (e :: es) X.env = (false, eval e X.env) :: starEach es X.env := by rfl)
    (hpl : ((backTo pos (starEach (e :: es) X.env)).any (·.1) || (backToKw pos (keywordEach kws X.env)).any (·.1.isNone)) = false := by rfl) :
    PE X (.Call (.Name x p) (e :: es) kws pos) (tCallN 1 2 sp (fun vs zs => app3 vs [.bl false] zs) E0 t tk) := by
  obtain ⟨f, fd, m, kp, b, G⟩ := F.ex
  obtain ⟨mv, b2⟩ := b.two
  exact pe_callN G (hr.mono hj) hg m kp b2 pass0 ha hkw hall hks hdb he hpl
theorem pe_c3 (F : KnC X.prog X.w X.K X.mg X.base CX0 k x ["values", "degree", "count", "back"] sp) (hr : Room j X.A) (hg : Gl X x) (ha : PA X (e :: es) t) (hkw : PK X kws tk) (hj : k ≤ j := by omega)
    (hall : (backToKw pos (keywordEach kws X.env)).all (·.1.isSome) = true := by rfl) (hks : (backToKw pos (keywordEach kws X.env)).filterMap (·.1) = (["degree", "count", "back"] : List Str) := by rfl)
    (hdb : (x == ("__debug__" : Str)) = false := by decide) (he : starEach (e :: es) X.env = (false, eval e X.env) :: starEach es X.env := by rfl)
    (hpl : ((backTo pos (starEach (e :: es) X.env)).any (·.1) || (backToKw pos (keywordEach kws X.env)).any (·.1.isNone)) = false := by rfl) :
    PE X (.Call (.Name x p) (e :: es) kws pos) (tCallN 1 3 sp (fun vs zs => app3 vs [] zs) E0 t tk) := by
  obtain ⟨f, fd, m, kp, b, G⟩ := F.ex
  obtain ⟨mv, b3⟩ := b.three
  exact pe_callN G (hr.mono hj) hg m kp b3 pass0 ha hkw hall hks hdb he hpl
theorem pe_cx2 {W : WX} (E : XK) (F : KnC X.prog X.w X.K X.mg X.base (L2.CX X.prog X.w) k x ["values", "degree", "count", "back"] sp) (hr : Room j X.A) (hg : Gl X x) (tkk : Takes X W) (hW : ∀ cls d σ H, E cls d H → W cls d σ H) (ha : PA X (e :: es) t) (hkw : PK X kws tk) (hj : k ≤ j := by omega)
    (hall : (backToKw pos (keywordEach kws X.env)).all (·.1.isSome) = true := by rfl) (hks : (backToKw pos (keywordEach kws X.env)).filterMap (·.1) = (["degree", "count"] : List Str) := by rfl)
    (hdb : (x == ("__debug__" : Str)) = false := by decide) (he : starEach (e :: es) X.env = (false, eval e X.env) :: starEach es X.env := by rfl)
    (hpl : ((backTo pos (starEach (e :: es) X.env)).any (·.1) || (backToKw pos (keywordEach kws X.env)).any (·.1.isNone)) = false := by rfl) :
    PE X (.Call (.Name x p) (e :: es) kws pos) (tCallN 1 2 sp (fun vs zs => app3 vs [.bl false] zs) E t tk) := by
  obtain ⟨f, fd, m, kp, b, G⟩ := F.ex
  obtain ⟨mv, b2⟩ := b.two
  exact pe_callN G (hr.mono hj) hg m kp b2 (passes_call tkk hW) ha hkw hall hks hdb he hpl
theorem pe_cx3 {W : WX} (E : XK) (F : KnC X.prog X.w X.K X.mg X.base (L2.CX X.prog X.w) k x ["values", "degree", "count", "back"] sp) (hr : Room j X.A) (hg : Gl X x) (tkk : Takes X W) (hW : ∀ cls d σ H, E cls d H → W cls d σ H) (ha : PA X (e :: es) t) (hkw : PK X kws tk) (hj : k ≤ j := by omega)
    (hall : (backToKw pos (keywordEach kws X.env)).all (·.1.isSome) = true := by rfl) (hks : (backToKw pos (keywordEach kws X.env)).filterMap (·.1) = (["degree", "count", "back"] : List Str) := by rfl)
    (hdb : (x == ("__debug__" : Str)) = false := by decide) (he : starEach (e :: es) X.env = (false, eval e X.env) :: starEach es X.env := by rfl)
    (hpl : ((backTo pos (starEach (e :: es) X.env)).any (·.1) || (backToKw pos (keywordEach kws X.env)).any (·.1.isNone)) = false := by rfl) :
    PE X (.Call (.Name x p) (e :: es) kws pos) (tCallN 1 3 sp (fun vs zs => app3 vs [] zs) E t tk) := by
  obtain ⟨f, fd, m, kp, b, G⟩ := F.ex
  obtain ⟨mv, b3⟩ := b.three
  exact pe_callN G (hr.mono hj) hg m kp b3 (passes_call tkk hW) ha hkw hall hks hdb he hpl
end
section
variable {P : Program} {w : World} {K : PySem.W.Frag} {mg : Str → Option Value} {base : Heap}
theorem k_CoC (T : Bt K mg) (D : DfnC K mg "continued" sCo ["values", "degree", "count", "back"]) (d_require : Kn P w K mg base 1 "require" ["well_formed", "what"] spRequire) (d_is_table : Kn P w K mg base 2 "is_table" ["value"] (spTb K)) (d_is_degree : Kn P w K mg base 3 "is_degree" ["value"] (spDgr K)) (d__is_count : Kn P w K mg base 3 "_is_count" ["value"] (spCnt K)) (d__refuse_short : Kn P w K mg base 1 "_refuse_short" ["values", "degree"] (spRS K)) (d__followers : Kn P w K mg base 3 "_followers" ["values", "count"] (spFo K)) : KnC P w K mg base CX0 4 "continued" ["values", "degree", "count", "back"] (spCo K) := by
  refine KnC.mk' D scCo (fun vs H Q E h => ?_) (fun f cdv A outer s H vs Q E hr h => ?_)
  · obtain ⟨a, ns, d, c, b, rfl, _⟩ := h
    rfl
  obtain ⟨a, ns, d, c, b, rfl, ha, ka, l2, d8, dl, c60, k⟩ := h
  refine ⟨_, (pss_cons (ps_expr (pe_kn d_require hr (by rfl) (pa_cons (pe_kn d_is_table hr (by rfl) (pa_cons (pv 0) pa_nil)) (pa_cons pe_str pa_nil))))
      (pss_cons (ps_expr (pe_kn d_require hr (by rfl) (pa_cons (pe_kn d_is_degree hr (by rfl) (pa_cons (pv 1) pa_nil)) (pa_cons pe_str pa_nil))))
      (pss_cons (ps_expr (pe_kn d_require hr (by rfl) (pa_cons (pe_kn d__is_count hr (by rfl) (pa_cons (pv 2) pa_nil)) (pa_cons pe_str pa_nil))))
      (pss_cons (ps_expr (pe_kn d_require hr (by rfl) (pa_cons (pe_callB call_isN (by rfl) T.b_isinstance (by decide +kernel) (pa_cons (pv 3) (pa_cons (pe_bltn (v := .ty "bool") (by rfl) T.b_bool (by decide +kernel) rfl) pa_nil))) (pa_cons pe_str pa_nil))))
      (pss_cons (ps_expr (pe_kn d__refuse_short hr (by rfl) (pa_cons (pv 0) (pa_cons (pv 1) pa_nil))))
      (pss_cons (ps_if (pt_val (pv 3)) (pss_one (ps_ret (pe_fr (pe_revL (pe_kn d__followers hr (by rfl) (pa_cons (pe_fr (pe_revF (pv 0) (po_some (pv 1)))) (pa_cons (pv 2) pa_nil))))))) pss_nil)
      (pss_one (ps_ret (pe_kn d__followers hr (by rfl) (pa_cons (pe_fr (pe_slice sl_list (pv 0) (po_some (pe_op op_sub (pe_un un_neg (pv 1)) pe_int)) po_none)) (pa_cons (pv 2) pa_nil))))))))))), ?_⟩
  have l1 : 1 ≤ ns.length := by omega
  have ml : (ns.map V.int).length = ns.length := List.length_map _
  refine ⟨_, rfl, _, rfl, ap_tbG ha ka l1 l2 fun H1 s1 => ⟨_, rfl, ?_⟩⟩
  have ha1 := s1 _ _ ha
  have i1 : inB 0 8 (.int (d : Int)) = true := by
    show (decide ((0 : Int) ≤ d) && decide ((d : Int) ≤ 8)) = true
    rw [decide_eq_true (by omega), decide_eq_true (by omega)]
    rfl
  have i2 : inB 0 60 (.int (c : Int)) = true := by
    show (decide ((0 : Int) ≤ c) && decide ((c : Int) ≤ 60)) = true
    rw [decide_eq_true (by omega), decide_eq_true (by omega)]
    rfl
  refine ⟨_, rfl, .int (d : Int), rfl, rfl, ?_⟩
  rw [i1]
  refine ⟨_, rfl, _, rfl, .int (c : Int), rfl, rfl, ?_⟩
  rw [i2]
  refine ⟨_, rfl, _, rfl, _, _, rfl, by decide, _, rfl, _, rfl, ?_⟩
  refine ⟨_, rfl, _, rfl, a, _, _, rfl, (ob_none ka).trans ha1, by rw [ml]; omega, ?_⟩
  refine ⟨_, rfl, _, rfl, ite2 (fun hb => ?_) (fun hb => ?_)⟩
  · subst hb
    rw [if_pos rfl] at k
    refine ⟨_, rfl, _, rfl, _, rfl, a, _, d, rfl, rfl, .of ha1, by omega, fun w hw frw => ?_⟩
    have ew : ((ns.map V.int).take (d + 1)).reverse = ((ns.take (d + 1)).reverse).map V.int := by rw [List.map_reverse, List.map_take]
    rw [ew] at frw ⊢
    have s2 := Same.new hw (.lst (((ns.take (d + 1)).reverse).map V.int))
    refine ⟨_, rfl, w, (ns.take (d + 1)).reverse, c, rfl, upd_same, frw w (by rw [upd_same]; simp), by rw [List.length_reverse, List.length_take]; omega, by rw [List.length_reverse, List.length_take]; omega, c60, fun r H2 s3 hr kr hr2 => ?_⟩
    refine ⟨r, _, rfl, .of hr2, fun p hp frp => ?_⟩
    have ep : ((fol (ns.take (d + 1)).reverse c).map V.int).reverse = (bfl ns d c).map V.int := by unfold bfl; rw [List.map_reverse]
    rw [ep] at frp ⊢
    exact k p _ (s1.trans (s2.trans (s3.trans (Same.new hp _)))) (s1.free (s2.free (s3.free hp))) (frp p (by rw [upd_same]; simp)) upd_same
  · rw [if_neg hb] at k
    refine ⟨_, rfl, _, rfl, _, rfl, _, _, rfl, rfl, _, rfl, a, _, rfl, .of ha1, ?_⟩
    rw [show cutV (ns.map V.int) (some ((fun i j => i - j) (-(d : Int)) 1)) none = (ns.drop (ns.length - (d + 1))).map V.int by
      rw [show ((fun i j => i - j) (-(d : Int)) 1 : Int) = -(d : Int) - 1 from rfl, cut_neg _ d (by omega), ml, ← List.map_drop]]
    refine fun w hw frw => ?_
    have s2 := Same.new hw (.lst ((ns.drop (ns.length - (d + 1))).map V.int))
    refine ⟨_, rfl, w, ns.drop (ns.length - (d + 1)), c, rfl, upd_same, frw w (by rw [upd_same]; simp), by rw [List.length_drop]; omega, by rw [List.length_drop]; omega, c60, fun r H2 s3 hr kr hr2 => ?_⟩
    exact k r H2 (s1.trans (s2.trans s3)) (s1.free (s2.free hr)) kr hr2

theorem kc_of {f : Addr} {fd : FuncData} (F : FunD K "continued" "continued" (defArgs sCo) (defBody sCo) (defScope sCo) [] [("back", .bl false)] f fd) : KC K fd := by
  refine ⟨?_, ?_⟩
  · obtain ⟨mv, b⟩ := kbinds0 (ps := ["values", "degree", "count", "back"]) F 1 ["degree", "count"] [("back", .bl false)] app3 (by simp) (fun q h => h) app3_rel fun D doc pm an cdv ct us mv ws h1 h2 h3 => match us, mv, ws, h1, h2, h3 with
      | [u], [b], [d, c], _, _, _ => ⟨_, _, _, _, _, _, rfl, rfl, rfl⟩
    exact ⟨mv, b⟩
  · obtain ⟨mv, b⟩ := kbinds0 (ps := ["values", "degree", "count", "back"]) F 1 ["degree", "count", "back"] [] app3 (by simp) (fun q h => nomatch h) app3_rel fun D doc pm an cdv ct us mv ws h1 h2 h3 => match us, mv, ws, h1, h2, h3 with
      | [u], [], [d, c, b], _, _, _ => rfl
    exact ⟨mv, b⟩
end
end My

namespace My
open PySem PySem.Spec PyProof.Rows L2
section
variable {P : Program} {w : World} {K : PySem.W.Frag} {mg : Str → Option Value} {base : Heap}
/-- those that are not zero, so far -/
def NzI (D : Addr) (ms : List Int) (H0 : Hp) (i : Nat) (H' : Hp) : Prop := ∃ acc, H' D = some (.lst acc) ∧ (!acc.isEmpty) = nz (ms.take i) ∧ acc.length ≤ i ∧ Same H0 H'
theorem nz_take {ms : List Int} {i : Nat} {m : Int} (em : ms[i]? = some m) : nz (ms.take (i + 1)) = (nz (ms.take i) || decide (m ≠ 0)) := by
  unfold nz
  rw [List.take_add_one, em, List.any_append]
  simp
theorem nz_step {ms : List Int} {i : Nat} {m : Int} {D : Addr} {H1 H' : Hp} {acc : List V} (em : ms[i]? = some m) (hd : H' D = some (.lst acc)) (al : (!acc.isEmpty) = nz (ms.take i)) (le : acc.length ≤ i) (s4 : Same H1 H') (hD : H1 D = none) (h : (!decide (V.int m = V.int 0)) = true) : NzI D ms H1 (i + 1) (upd H' D (.lst (acc ++ [.int m]))) := by
  refine ⟨_, upd_same, ?_, by rw [List.length_append]; exact Nat.add_le_add_right le 1, fun c o e => by rw [upd_ne (ne_of_none e hD)]; exact s4 _ _ e⟩
  have h0 : m ≠ 0 := fun z => by rw [z] at h; simp at h
  rw [nz_take em, decide_eq_true h0, Bool.or_true]
  cases acc <;> rfl
theorem nz_skip {ms : List Int} {i : Nat} {m : Int} {D : Addr} {H1 H' : Hp} {acc : List V} (em : ms[i]? = some m) (hd : H' D = some (.lst acc)) (al : (!acc.isEmpty) = nz (ms.take i)) (le : acc.length ≤ i) (s4 : Same H1 H') (h : ¬ (!decide (V.int m = V.int 0)) = true) : NzI D ms H1 (i + 1) H' := by
  refine ⟨_, hd, ?_, Nat.le_succ_of_le le, s4⟩
  have h0 : m = 0 := Classical.byContradiction fun z => h (by simp [z])
  rw [nz_take em, h0, al]
  simp
def spDi (K : PySem.W.Frag) : Sp := fun vs H Q _ => ∃ (a : Addr) (ns : List Int), vs = [.ref a] ∧ H a = some (.lst (ns.map V.int)) ∧ K.lookup a = none ∧ 1 ≤ ns.length ∧ ns.length ≤ 100 ∧ ∀ p xs H', Same H H' → H p = none → K.lookup p = none → H' p = some (.lst xs) → LR K (fun b => H b = none ∧ b ≠ p) H' xs (fun k => itd k ns) ns.length → Q (.ref p) H'
def DiI (K : PySem.W.Frag) (a p : Addr) (ns : List Int) (H : Hp) (i : Nat) (σ : L2.St) (H' : Hp) : Prop := ∃ (x2 : Option V) (xs : List V), σ = [some (.ref a), some (.ref p), x2, none] ∧ Same H H' ∧ H' p = some (.lst xs) ∧ LR K (fun b => H b = none ∧ b ≠ p) H' xs (fun k => itd k ns) (i + 1)
abbrev sDi : Stmt := topS 49
theorem scDi : FnScope ["_law_values", "_law_out", "_law_k", "_law_j"] ["_law_values"] (defScope sDi) := ⟨rfl, rfl, rfl, by decide +kernel, rfl, by decide +kernel, by decide +kernel⟩
theorem blk_scDi_0 : BlkOk ["_law_values", "_law_out", "_law_k", "_law_j"] (defScope sDi) { kind := .function, names := [(".0", .local), ("_law_j", .local), ("_law_k", .free), ("_law_out", .free)], isGenerator := false, isCoroutine := false, more := [] } [("_law_j", 3)] := ⟨rfl, by decide +kernel, by decide +kernel, by decide +kernel, by decide +kernel⟩
theorem k_Di (T : Bt K mg) (D : Dfn K mg "_law_diffs" sDi ["_law_values"]) : Kn P w K mg base 1 "_law_diffs" ["_law_values"] (spDi K) := by
  refine Kn.mk' D scDi (fun vs H Q E h => ?_) (fun f cdv A outer s H vs Q E hr h => ?_)
  · obtain ⟨a, ns, rfl, _⟩ := h
    rfl
  obtain ⟨a, ns, rfl, ha, ka, l1, l100, k⟩ := h
  refine ⟨_, (pss_cons (ps_set (i := 1) scDi.nd rfl (.inr rfl) (pe_ls (pa_cons (pe_fr (pe_callTy call_list_of (by rfl) T.b_list (by decide +kernel) (pa_cons (pv 0) pa_nil))) pa_nil)))
      (pss_cons (ps_for PassesOwn.never rfl (pi_range1 (by rfl) T.b_range (pa_cons (pe_op op_sub (pe_callB call_lenA (by rfl) T.b_len PySem.boot_len (pa_cons (pv 0) pa_nil)) pe_int) pa_nil)) (pg_name (i := 2) scDi.nd rfl (.inr rfl)) (pss_one (ps_expr (pe_bm PySem.F.plainAttrs_list PySem.F.slot_list_append PySem.F.type_list_append mt_append (pv 1) (pa_cons (pe_fr (pe_lc (own := [("_law_j", 3)]) (g := gName 3) (te := (tOp (rI0 fun i j => V.int (i - j)) (tOp (rIxA K) (tOp (rIxA K) (tVar 1) (tVar 2)) (tOp (rI0 fun i j => V.int (i + j)) (tVar 3) (tC (.int 1)))) (tOp (rIxA K) (tOp (rIxA K) (tVar 1) (tVar 2)) (tVar 3)))) rfl scDi.nd (pi_range1 (by rfl) T.b_range (pa_cons (pe_op op_sub (pe_callB call_lenA (by rfl) T.b_len PySem.boot_len (pa_cons (pe_ix ix_any (pv 1) (pv 2) (fun _ _ => rfl)) pa_nil)) pe_int) pa_nil)) blk_scDi_0 (fun _ _ _ _ _ => by exact pg_name (i := 3) scDi.nd rfl (.inl rfl)) (fun _ _ _ _ _ => pts_nil) (fun _ _ _ _ _ => by exact (pe_op op_sub (pe_ix ix_any (pe_ix ix_any (pv 1) (pv 2) (fun _ _ => rfl)) (pe_op op_add (pv 3) pe_int) (fun _ _ => rfl)) (pe_ix ix_any (pe_ix ix_any (pv 1) (pv 2) (fun _ _ => rfl)) (pv 3) (fun _ _ => rfl)))))) pa_nil)))))
      (pss_one (ps_ret (pv 1))))), ?_⟩
  have oa := (ob_none ka).trans ha
  have ml0 : (ns.map V.int).length = ns.length := List.length_map _
  refine ⟨_, rfl, a, _, rfl, .inl (.of ha), fun g hg frg => ?_⟩
  have s1 := Same.new hg (.lst (ns.map V.int))
  have hg1 : upd H g (.lst (ns.map V.int)) g = some (.lst (ns.map V.int)) := upd_same
  have kg := frg g (by rw [upd_same]; simp)
  generalize upd H g (.lst (ns.map V.int)) = H1 at s1 hg1 ⊢
  refine ⟨sz2 (by show 1 ≤ 100; decide), fun p hp kp => ?_⟩
  have hp0 : H p = none := s1.free hp
  have ngp : g ≠ p := ne_of_none hg1 hp
  have s2 := Same.new hp (.lst [V.ref g])
  have s02 := s1.trans s2
  have lr0 : LR K (fun b => H b = none ∧ b ≠ p) (upd H1 p (.lst [V.ref g])) [V.ref g] (fun k => itd k ns) 1 := ⟨rfl, fun i x hx => by
    have : i = 0 := by
      have := (List.getElem?_eq_some_iff.mp hx).1
      rw [List.length_singleton] at this
      omega
    subst this
    cases hx
    exact ⟨g, rfl, ⟨hg, ngp⟩, kg, s2 _ _ hg1⟩⟩
  have hp1 : upd H1 p (.lst [V.ref g]) p = some (.lst [V.ref g]) := upd_same
  generalize upd H1 p (.lst [V.ref g]) = H2 at s2 s02 lr0 hp1 ⊢
  refine ⟨_, rfl, a, rfl, _, itsO_ofL (ob_same s02 oa), _, _, rfl, rfl, _, rfl, by omega, by omega, forI_range (lo := 0) (n := (((ns.map V.int).length : Int) - 1).toNat) (DiI K a p ns H) ⟨none, _, rfl, s02, hp1, lr0⟩ ?_ ?_⟩
  · rintro i σ H3 hi ⟨x2, xs, rfl, s3, hp3, lr⟩
    have op := (ob_none kp).trans hp3
    obtain ⟨r, er, _, kr, hr⟩ := lr.at (i := i) (by omega)
    have or := (ob_none kr).trans hr
    have ar : atI xs (0 + (i : Int)) = some (.ref r) := by rw [Int.zero_add]; exact atI_nat er
    have ml : ((itd i ns).map V.int).length = ns.length - i := by rw [List.length_map, itd_len]
    refine ⟨_, rfl, .inl ⟨rfl, _, .of hp3⟩, _, rfl, _, rfl, p, _, rfl, rfl, _, itsO_ofL op, _, ar, r, rfl, _, itsO_ofL or, _, _, rfl, rfl, _, rfl, by omega, by omega, fun D hD => lc_range (lo := 0) (n := ((((itd i ns).map V.int).length : Int) - 1).toNat) (DcI D (itd i ns) H3) ⟨upd_same, Same.new hD _⟩ ?_ ?_⟩
    · rintro j H4 hj ⟨h4, s4⟩
      refine ⟨rfl, ?_⟩
      simp only [tYes, if_true]
      have l1 := itd_len ns i
      obtain ⟨u, eu⟩ : ∃ u, (itd i ns)[j]? = some u := ⟨_, List.getElem?_eq_getElem (by omega)⟩
      obtain ⟨v, ev⟩ : ∃ v, (itd i ns)[j + 1]? = some v := ⟨_, List.getElem?_eq_getElem (by omega)⟩
      have au : atI ((itd i ns).map V.int) (0 + (j : Int)) = some (.int u) := by rw [Int.zero_add]; exact atI_nat (by rw [List.getElem?_map, eu]; rfl)
      have av : atI ((itd i ns).map V.int) (0 + (j : Int) + 1) = some (.int v) := by rw [show 0 + (j : Int) + 1 = ((j + 1 : Nat) : Int) by omega]; exact atI_nat (by rw [List.getElem?_map, ev]; rfl)
      have or4 := ob_same s4 or
      have op4 := ob_same s4 op
      refine ⟨_, rfl, _, rfl, p, _, rfl, rfl, _, itsO_ofL op4, _, ar, _, rfl, _, _, rfl, rfl, r, _, rfl, rfl, _, itsO_ofL or4, _, av, _, rfl, _, rfl, p, _, rfl, rfl, _, itsO_ofL op4, _, ar, _, rfl, r, _, rfl, rfl, _, itsO_ofL or4, _, au, _, _, rfl, rfl, _, h4, by rw [List.length_map, List.length_take, sizeLine_eq]; omega, ?_, fun c o e => ?_⟩
      · rw [upd_same, dif_take eu ev, List.map_append]
        rfl
      · rw [upd_ne (ne_of_none e hD)]
        exact s4 _ _ e
    · rintro H4 ⟨h4, s4⟩ fr
      rw [List.take_of_length_le (by rw [dif_len]; rw [List.length_map]; omega)] at h4
      have hp4 := s4 _ _ hp3
      have nD : D ≠ p := Ne.symm (ne_of_none hp3 hD)
      refine ⟨p, xs, _, rfl, rfl, hp4, by have := lr.1; rw [sizeLine_eq]; omega, some (.int (0 + (i : Int))), xs ++ [.ref D], rfl, fun b o e => ?_, upd_same, ?_⟩
      · rw [upd_ne (ne_of_none e hp0)]
        exact s4 _ _ (s3 _ _ e)
      · refine (LR.snoc (lr.same s4) ⟨s3.free hD, nD⟩ (fr D (by rw [h4]; simp)) h4).imp (fun _ z => z) fun b o fb e => ?_
        rw [upd_ne fb.2]
        exact e
  · rintro σ H3 ⟨x2, xs, rfl, s3, hp3, lr⟩
    rw [show (((ns.map V.int).length : Int) - 1).toNat + 1 = ns.length by omega] at lr
    exact ⟨_, rfl, k p xs H3 s3 hp0 kp hp3 lr⟩

def spSt (K : PySem.W.Frag) : Sp := fun vs H Q _ => ∃ (a : Addr) (ns : List Int) (d : Nat), vs = [.ref a, .int d] ∧ H a = some (.lst (ns.map V.int)) ∧ K.lookup a = none ∧ ns.length ≤ 100 ∧ d ≤ 8 ∧ ∀ H', Same H H' → Q (.bl (!nz (itd (d + 1) ns))) H'
def StI (K : PySem.W.Frag) (d : Nat) (ns : List Int) (H : Hp) (i : Nat) (σ : L2.St) (H' : Hp) : Prop := ∃ (r : Addr) (x2 : Option V), σ = [some (.ref r), some (.int d), x2, none, none] ∧ Same H H' ∧ H' r = some (.lst ((itd i ns).map V.int)) ∧ K.lookup r = none
abbrev sSt : Stmt := topS 53
theorem scSt : FnScope ["_law_rows", "_law_degree", "_law_k", "_law_j", "_law_one"] ["_law_rows", "_law_degree"] (defScope sSt) := ⟨rfl, rfl, rfl, by decide +kernel, rfl, by decide +kernel, by decide +kernel⟩
theorem blk_scSt_0 : BlkOk ["_law_rows", "_law_degree", "_law_k", "_law_j", "_law_one"] (defScope sSt) { kind := .function, names := [(".0", .local), ("_law_j", .local), ("_law_rows", .free)], isGenerator := false, isCoroutine := false, more := [] } [("_law_j", 3)] := ⟨rfl, by decide +kernel, by decide +kernel, by decide +kernel, by decide +kernel⟩
theorem blk_scSt_1 : BlkOk ["_law_rows", "_law_degree", "_law_k", "_law_j", "_law_one"] (defScope sSt) { kind := .function, names := [(".0", .local), ("_law_one", .local)], isGenerator := false, isCoroutine := false, more := [] } [("_law_one", 4)] := ⟨rfl, by decide +kernel, by decide +kernel, by decide +kernel, by decide +kernel⟩
theorem k_St (T : Bt K mg) (D : Dfn K mg "_law_straight" sSt ["_law_rows", "_law_degree"]) : Kn P w K mg base 1 "_law_straight" ["_law_rows", "_law_degree"] (spSt K) := by
  refine Kn.mk' D scSt (fun vs H Q E h => ?_) (fun f cdv A outer s H vs Q E hr h => ?_)
  · obtain ⟨a, ns, d, rfl, _⟩ := h
    rfl
  obtain ⟨a, ns, d, rfl, ha, ka, l100, d8, k⟩ := h
  refine ⟨_, (pss_cons (ps_for PassesOwn.never rfl (pi_range1 (by rfl) T.b_range (pa_cons (pe_op op_add (pv 1) pe_int) pa_nil)) (pg_name (i := 2) scSt.nd rfl (.inl rfl)) (pss_one (ps_set (i := 0) scSt.nd rfl (.inr rfl) (pe_fr (pe_lc (own := [("_law_j", 3)]) (g := gName 3) (te := (tOp (rI0 fun i j => V.int (i - j)) (tOp (rIxA K) (tVar 0) (tOp (rI0 fun i j => V.int (i + j)) (tVar 3) (tC (.int 1)))) (tOp (rIxA K) (tVar 0) (tVar 3)))) rfl scSt.nd (pi_range1 (by rfl) T.b_range (pa_cons (pe_op op_sub (pe_callB call_lenA (by rfl) T.b_len PySem.boot_len (pa_cons (pv 0) pa_nil)) pe_int) pa_nil)) blk_scSt_0 (fun _ _ _ _ _ => by exact pg_name (i := 3) scSt.nd rfl (.inl rfl)) (fun _ _ _ _ _ => pts_nil) (fun _ _ _ _ _ => by exact (pe_op op_sub (pe_ix ix_any (pv 0) (pe_op op_add (pv 3) pe_int) (fun _ _ => rfl)) (pe_ix ix_any (pv 0) (pv 3) (fun _ _ => rfl)))))))))
      (pss_one (ps_ret (pe_notT (pe_lc (own := [("_law_one", 4)]) (g := gName 4) (tt := (tTest (tOp rNe (tVar 4) (tC (.int 0))))) (te := (tVar 4)) rfl scSt.nd (pi_list (pv 0)) blk_scSt_1 (fun _ _ _ _ _ => by exact pg_name (i := 4) scSt.nd rfl (.inl rfl)) (fun _ _ _ _ _ => by exact (pts_one (pt_cmpR op_ne (pv 4) pe_int (nomark _)))) (fun _ _ _ _ _ => by exact (pv 4))))))), ?_⟩
  refine ⟨_, rfl, _, _, rfl, rfl, _, rfl, by omega, by omega, forI_range (lo := 0) (n := ((d : Int) + 1).toNat) (StI K d ns H) ⟨a, none, rfl, Same.refl H, ha, ka⟩ ?_ ?_⟩
  · rintro i σ H2 hi ⟨r, x2, rfl, s2, hr, kr⟩
    have or := (ob_none kr).trans hr
    have ml : ((itd i ns).map V.int).length = ns.length - i := by rw [List.length_map, itd_len]
    refine ⟨_, rfl, r, rfl, _, itsO_ofL or, _, _, rfl, rfl, _, rfl, by omega, by omega, fun D hD => lc_range (lo := 0) (n := ((((itd i ns).map V.int).length : Int) - 1).toNat) (DcI D (itd i ns) H2) ⟨upd_same, Same.new hD _⟩ ?_ ?_⟩
    · rintro j H3 hj ⟨h3, s3⟩
      refine ⟨rfl, ?_⟩
      simp only [tYes, if_true]
      have l1 := itd_len ns i
      obtain ⟨u, eu⟩ : ∃ u, (itd i ns)[j]? = some u := ⟨_, List.getElem?_eq_getElem (by omega)⟩
      obtain ⟨v, ev⟩ : ∃ v, (itd i ns)[j + 1]? = some v := ⟨_, List.getElem?_eq_getElem (by omega)⟩
      have au : atI ((itd i ns).map V.int) (0 + (j : Int)) = some (.int u) := by rw [Int.zero_add]; exact atI_nat (by rw [List.getElem?_map, eu]; rfl)
      have av : atI ((itd i ns).map V.int) (0 + (j : Int) + 1) = some (.int v) := by rw [show 0 + (j : Int) + 1 = ((j + 1 : Nat) : Int) by omega]; exact atI_nat (by rw [List.getElem?_map, ev]; rfl)
      have or3 := ob_same s3 or
      refine ⟨_, rfl, _, rfl, _, _, rfl, rfl, r, _, rfl, rfl, _, itsO_ofL or3, _, av, _, rfl, _, rfl, r, _, rfl, rfl, _, itsO_ofL or3, _, au, _, _, rfl, rfl, _, h3, by rw [List.length_map, List.length_take, sizeLine_eq]; omega, ?_, fun c o e => ?_⟩
      · rw [upd_same, dif_take eu ev, List.map_append]
        rfl
      · rw [upd_ne (ne_of_none e hD)]
        exact s3 _ _ e
    · rintro H3 ⟨h3, s3⟩ fr
      rw [List.take_of_length_le (by rw [dif_len]; rw [List.length_map] ; omega)] at h3
      exact ⟨D, some (.int (0 + (i : Int))), rfl, s2.trans s3, h3, fr D (by rw [h3]; simp)⟩
  · rintro σ H2 ⟨r, x2, rfl, s2, hr, kr⟩
    rw [show ((d : Int) + 1).toNat = d + 1 by omega] at hr
    refine ⟨_, rfl, r, rfl, ⟨_, .of hr⟩, fun D hD => lc_list (xs := (itd (d + 1) ns).map V.int) (NzI D (itd (d + 1) ns) H2) ⟨[], upd_same, rfl, Nat.le_refl _, Same.new hD _⟩ (fun i H' _ h => ?_) ?_ ?_⟩
    · obtain ⟨_, _, _, _, s4⟩ := h
      exact .of (s4 _ _ hr)
    · rintro i x H' hi ⟨acc, hd, al, le, s4⟩
      rw [List.getElem?_map] at hi
      obtain ⟨m, em, rfl⟩ := Option.map_eq_some_iff.mp hi
      have il := (List.getElem?_eq_some_iff.mp em).1
      have ml := itd_len ns (d + 1)
      refine ⟨rfl, ?_⟩
      refine ⟨_, rfl, rfl, _, rfl, ite2 (fun h => ?_) (fun h => ?_)⟩
      · exact ⟨_, rfl, acc, hd, by rw [sizeLine_eq]; omega, nz_step em hd al le s4 hD (show (!decide (V.int m = V.int 0)) = true from h)⟩
      · exact nz_skip em hd al le s4 (show ¬ (!decide (V.int m = V.int 0)) = true from h)
    · rintro H' ⟨acc, hd, al, le, s4⟩
      rw [List.length_map, List.take_length] at al
      exact ⟨nz (itd (d + 1) ns), .inl ⟨acc, .of hd, al.symm⟩, k H' (s2.trans s4)⟩

def spOw (K : PySem.W.Frag) : Sp := fun vs H Q _ => ∃ (a : Addr) (ns : List Int), vs = [.ref a] ∧ H a = some (.lst (ns.map V.int)) ∧ K.lookup a = none ∧ 1 ≤ ns.length ∧ ns.length ≤ 100 ∧ ∀ (d : Nat) H', d + 1 ≤ ns.length → (d + 1 = ns.length ∨ zr ns (d + 1)) → Same H H' → Q (.int d) H'
def OwI (a p : Addr) (ns : List Int) (H : Hp) (i : Nat) (σ : L2.St) (H' : Hp) : Prop := ∃ x2 : Option V, σ = [some (.ref a), some (.ref p), x2, none] ∧ i + 1 ≤ ns.length ∧ Same H H'
abbrev sOw : Stmt := topS 50
theorem scOw : FnScope ["_law_values", "_law_row", "_law_degree", "_law_one"] ["_law_values"] (defScope sOw) := ⟨rfl, rfl, rfl, by decide +kernel, rfl, by decide +kernel, by decide +kernel⟩
theorem blk_scOw_0 : BlkOk ["_law_values", "_law_row", "_law_degree", "_law_one"] (defScope sOw) { kind := .function, names := [(".0", .local), ("_law_one", .local)], isGenerator := false, isCoroutine := false, more := [] } [("_law_one", 3)] := ⟨rfl, by decide +kernel, by decide +kernel, by decide +kernel, by decide +kernel⟩
theorem k_Ow (T : Bt K mg) (D : Dfn K mg "_law_own_degree" sOw ["_law_values"]) (d__law_diffs : Kn P w K mg base 1 "_law_diffs" ["_law_values"] (spDi K)) : Kn P w K mg base 2 "_law_own_degree" ["_law_values"] (spOw K) := by
  refine Kn.mk' D scOw (fun vs H Q E h => ?_) (fun f cdv A outer s H vs Q E hr h => ?_)
  · obtain ⟨a, ns, rfl, _⟩ := h
    rfl
  obtain ⟨a, ns, rfl, ha, ka, l1, l100, k⟩ := h
  refine ⟨_, (pss_cons (ps_set (i := 1) scOw.nd rfl (.inl rfl) (pe_kn d__law_diffs hr (by rfl) (pa_cons (pv 0) pa_nil)))
      (pss_cons (ps_for PassesOwn.never rfl (pi_range1 (by rfl) T.b_range (pa_cons (pe_callB call_lenA (by rfl) T.b_len PySem.boot_len (pa_cons (pv 0) pa_nil)) pa_nil)) (pg_name (i := 2) scOw.nd rfl (.inl rfl)) (pss_one (ps_if (PW.pt (pw_or (pt_cmpR op_eq (pe_op op_add (pv 2) pe_int) (pe_callB call_lenA (by rfl) T.b_len PySem.boot_len (pa_cons (pv 0) pa_nil)) (nomark _)) (pw_or1 (pt_not (pt_truth (pe_lc (own := [("_law_one", 3)]) (g := gName 3) (tt := (tTest (tOp rNe (tVar 3) (tC (.int 0))))) (te := (tVar 3)) rfl scOw.nd (pi_list (pe_ix ix_any (pv 1) (pe_op op_add (pv 2) pe_int) (fun _ _ => rfl))) blk_scOw_0 (fun _ _ _ _ _ => by exact pg_name (i := 3) scOw.nd rfl (.inl rfl)) (fun _ _ _ _ _ => by exact (pts_one (pt_cmpR op_ne (pv 3) pe_int (nomark _)))) (fun _ _ _ _ _ => by exact (pv 3))) (fun _ => rfl)))))) (pss_one (ps_ret (pv 2))) pss_nil)))
      (pss_one (ps_ret pe_int)))), ?_⟩
  have oa := (ob_none ka).trans ha
  have ml0 : (ns.map V.int).length = ns.length := List.length_map _
  refine ⟨_, rfl, a, ns, rfl, ha, ka, l1, l100, fun p xs H1 s1 hp kp hx lr => ?_⟩
  have oa1 := ob_same s1 oa
  have op1 := (ob_none kp).trans hx
  refine ⟨_, rfl, a, rfl, _, itsO_ofL oa1, _, rfl, by omega, by omega, forI_range (lo := 0) (n := (ns.map V.int).length) (OwI a p ns H1) ⟨none, rfl, by omega, Same.refl H1⟩ ?_ ?_⟩
  · rintro i σ H2 hi ⟨x2, rfl, il, s2⟩
    have ret : ∀ H', Same H2 H' → (i + 1 = ns.length ∨ zr ns (i + 1)) → Q (.int (0 + (i : Int))) H' := fun H' s' h => by
      rw [Int.zero_add]
      exact k i H' il h (s1.trans (s2.trans s'))
    refine ⟨_, rfl, _, _, rfl, rfl, _, rfl, a, rfl, _, itsO_ofL (ob_same s2 oa1), rfl, _, rfl, ite2 (fun h => ?_) (fun h => ?_)⟩
    · have h : decide (V.int (0 + (i : Int) + 1) = V.int ((ns.map V.int).length : Int)) = true := h
      have e := V.int.inj (of_decide_eq_true h)
      exact if_yes rfl ⟨_, rfl, ret H2 (Same.refl _) (.inl (by omega))⟩
    have h : ¬ decide (V.int (0 + (i : Int) + 1) = V.int ((ns.map V.int).length : Int)) = true := h
    have il2 : i + 2 ≤ ns.length := by
      rcases Nat.lt_or_ge (i + 1) ns.length with z | z
      · omega
      · exact absurd (by rw [ml0, show 0 + (i : Int) + 1 = (ns.length : Int) by omega]; exact decide_eq_true rfl) h
    obtain ⟨q, eq, _, kq, hq⟩ := lr.at (i := i + 1) (by omega)
    have aq : atI xs (0 + (i : Int) + 1) = some (.ref q) := by rw [show 0 + (i : Int) + 1 = ((i + 1 : Nat) : Int) by omega]; exact atI_nat eq
    have hq2 := s2 _ _ hq
    refine ⟨_, rfl, _, rfl, _, _, rfl, rfl, p, _, rfl, rfl, _, itsO_ofL (ob_same s2 op1), _, aq, q, rfl, ⟨_, .of hq2⟩, fun D hD => lc_list (xs := (itd (i + 1) ns).map V.int) (NzI D (itd (i + 1) ns) H2) ⟨[], upd_same, rfl, Nat.le_refl _, Same.new hD _⟩ (fun i H' _ h => ?_) ?_ ?_⟩
    · obtain ⟨_, _, _, _, s4⟩ := h
      exact .of (s4 _ _ hq2)
    · rintro j x H' hj ⟨acc, hd, al, le, s4⟩
      rw [List.getElem?_map] at hj
      obtain ⟨m, em, rfl⟩ := Option.map_eq_some_iff.mp hj
      have jl := (List.getElem?_eq_some_iff.mp em).1
      have ml := itd_len ns (i + 1)
      refine ⟨rfl, ?_⟩
      refine ⟨_, rfl, rfl, _, rfl, ite2 (fun h => ?_) (fun h => ?_)⟩
      · exact ⟨_, rfl, acc, hd, by rw [sizeLine_eq]; omega, nz_step em hd al le s4 hD (show (!decide (V.int m = V.int 0)) = true from h)⟩
      · exact nz_skip em hd al le s4 (show ¬ (!decide (V.int m = V.int 0)) = true from h)
    · rintro H' ⟨acc, hd, al, le, s4⟩
      rw [List.length_map, List.take_length] at al
      refine ⟨nz (itd (i + 1) ns), .inl ⟨acc, .of hd, al.symm⟩, ?_⟩
      cases hz : nz (itd (i + 1) ns) with
      | false => exact if_yes rfl ⟨_, rfl, ret H' s4 (.inr (nz_false.mp hz))⟩
      | true => exact if_no rfl ⟨_, rfl, by omega, s2.trans s4⟩
  · rintro σ H2 ⟨x2, rfl, il, s2⟩
    omega

end
end My

namespace My
open PySem PySem.Spec PyProof.Rows L2
section
variable {P : Program} {w : World} {K : PySem.W.Frag} {mg : Str → Option Value} {base : Heap}
def spAh (K : PySem.W.Frag) : Sp := fun vs H Q _ => ∃ (s a : Addr) (ns : List Int) (d c : Nat), vs = [.ref s, .ref a, .int d, .int c] ∧ Sto K H s ∧ H a = some (.lst (ns.map V.int)) ∧ K.lookup a = none ∧ a ≠ s ∧ ns.length ≤ 60 ∧ d ≤ 8 ∧ d + 1 ≤ ns.length ∧ c ≤ 60 ∧ ∀ l H', Kp s H H' → Sto K H' s → H l = none → K.lookup l = none → H' l = some (.lst ((ffl ns d c).map V.int)) → Q (.ref l) H'
def spFi (K : PySem.W.Frag) : Sp := fun vs H Q _ => ∃ (a t : Addr) (ns zs : List Int) (d c : Nat) (b : Bool), vs = [.ref a, .int d, .int c, .ref t, .bl b] ∧ H a = some (.lst (ns.map V.int)) ∧ K.lookup a = none ∧ H t = some (.lst (zs.map V.int)) ∧ K.lookup t = none ∧ zs.length = c ∧ ns.length ≤ 60 ∧ d ≤ 8 ∧ d + 1 ≤ ns.length ∧ c ≤ 60 ∧ ∀ H', Same H H' → Q (.bl (!nz (itd (d + 1) (if b = true then zs ++ ns.take (d + 1) else ns.drop (ns.length - (d + 1)) ++ zs)))) H'
def FiI (a t : Addr) (d c : Nat) (b : Bool) (H : Hp) (_ : Nat) (σ : L2.St) (H' : Hp) : Prop := ∃ x6 : Option V, σ = [some (.ref a), some (.int d), some (.int c), some (.ref t), some (.bl b), x6, none] ∧ Same H H'
abbrev sAh : Stmt := topS 54
theorem scAh : FnScope ["_law_store_here", "_law_values", "_law_some", "_law_many"] ["_law_store_here", "_law_values", "_law_some", "_law_many"] (defScope sAh) := ⟨rfl, rfl, rfl, by decide +kernel, rfl, by decide +kernel, by decide +kernel⟩
theorem k_Ah (T : Bt K mg) (D : Dfn K mg "_law_ahead" sAh ["_law_store_here", "_law_values", "_law_some", "_law_many"]) (d__law_take : Kn P w K mg base 2 "_law_take" ["_law_store_here", "_law_many"] (spTake K)) (d_continued : KnC P w K mg base CX0 4 "continued" ["values", "degree", "count", "back"] (spCo K)) : Kn P w K mg base 5 "_law_ahead" ["_law_store_here", "_law_values", "_law_some", "_law_many"] (spAh K) := by
  refine Kn.mk' D scAh (fun vs H Q E h => ?_) (fun f cdv A outer s H vs Q E hr h => ?_)
  · obtain ⟨s, a, ns, d, c, rfl, _⟩ := h
    rfl
  obtain ⟨s, a, ns, d, c, rfl, hS, ha, ka, na, l2, d8, dl, c60, k⟩ := h
  refine ⟨_, (pss_cons (ps_if (pt_cmpR op_eq (pe_kn d__law_take hr (by rfl) (pa_cons (pv 0) (pa_cons pe_int pa_nil))) pe_int (nomark _)) (pss_one (ps_ret (pe_c2 d_continued hr (by rfl) (pa_cons (pv 1) pa_nil) (pk_cons (pv 2) (pk_cons (pv 3) pk_nil))))) pss_nil)
      (pss_one (ps_ret (pe_c3 d_continued hr (by rfl) (pa_cons (pv 1) pa_nil) (pk_cons (pv 2) (pk_cons (pv 3) (pk_cons pe_bl pk_nil))))))), ?_⟩
  refine ⟨_, rfl, s, 2, rfl, hS, by omega, fun r H1 r0 r1 kp1 st1 => ⟨rfl, _, rfl, ite2 (fun h => ?_) (fun h => ?_)⟩⟩
  · have ha1 := kp1 _ _ na ha
    refine ⟨_, rfl, _, rfl, _, rfl, rfl, rfl, a, ns, d, c, false, rfl, ha1, ka, l2, d8, dl, c60, fun l H2 s2 hl kl hl2 => ?_⟩
    exact k l H2 (kp1.trans (Kp.same s2)) (st1.same s2) (kp1.free st1 hl) kl hl2
  · have ha1 := kp1 _ _ na ha
    refine ⟨_, rfl, _, rfl, _, rfl, rfl, rfl, a, ns, d, c, false, rfl, ha1, ka, l2, d8, dl, c60, fun l H2 s2 hl kl hl2 => ?_⟩
    exact k l H2 (kp1.trans (Kp.same s2)) (st1.same s2) (kp1.free st1 hl) kl hl2
abbrev sFi : Stmt := topS 55
theorem scFi : FnScope ["_law_values", "_law_some", "_law_many", "_law_told", "_law_behind", "_law_one", "_law_rows"] ["_law_values", "_law_some", "_law_many", "_law_told", "_law_behind"] (defScope sFi) := ⟨rfl, rfl, rfl, by decide +kernel, rfl, by decide +kernel, by decide +kernel⟩
theorem k_Fi (T : Bt K mg) (D : Dfn K mg "_law_fits_on" sFi ["_law_values", "_law_some", "_law_many", "_law_told", "_law_behind"]) (d__law_is_whole : Kn P w K mg base 1 "_law_is_whole" ["_law_told"] (spWhole K)) (d__law_straight : Kn P w K mg base 1 "_law_straight" ["_law_rows", "_law_degree"] (spSt K)) : Kn P w K mg base 3 "_law_fits_on" ["_law_values", "_law_some", "_law_many", "_law_told", "_law_behind"] (spFi K) := by
  refine Kn.mk' D scFi (fun vs H Q E h => ?_) (fun f cdv A outer s H vs Q E hr h => ?_)
  · obtain ⟨a, t, ns, zs, d, c, b, rfl, _⟩ := h
    rfl
  obtain ⟨a, t, ns, zs, d, c, b, rfl, ha, ka, ht, kt, zl, l2, d8, dl, c60, k⟩ := h
  refine ⟨_, (pss_cons (ps_if (PW.pt (pw_or (pt_not (pt_val (pe_callB call_isN (by rfl) T.b_isinstance (by decide +kernel) (pa_cons (pv 3) (pa_cons (pe_bltn (v := .ty "list") (by rfl) T.b_list (by decide +kernel) rfl) pa_nil))))) (pw_or1 (pt_cmpR op_ne (pe_callB call_lenA (by rfl) T.b_len PySem.boot_len (pa_cons (pv 3) pa_nil)) (pv 2) (nomark _))))) (pss_one (ps_ret pe_bl)) pss_nil)
      (pss_cons (ps_for PassesOwn.never rfl (pi_list (pv 3)) (pg_name (i := 5) scFi.nd rfl (.inl rfl)) (pss_one (ps_if (pt_not (pt_val (pe_kn d__law_is_whole hr (by rfl) (pa_cons (pv 5) pa_nil)))) (pss_one (ps_ret pe_bl)) pss_nil)))
      (pss_cons (ps_if (pt_val (pv 4)) (pss_one (ps_set (i := 6) scFi.nd rfl (.inl rfl) (pe_fr (pe_op op_cat (pv 3) (pe_fr (pe_slice sl_list (pv 0) po_none (po_some (pe_op op_add (pv 1) pe_int)))))))) (pss_one (ps_set (i := 6) scFi.nd rfl (.inl rfl) (pe_fr (pe_op op_cat (pe_fr (pe_slice sl_list (pv 0) (po_some (pe_op op_sub (pe_op op_sub (pe_callB call_lenA (by rfl) T.b_len PySem.boot_len (pa_cons (pv 0) pa_nil)) (pv 1)) pe_int)) po_none)) (pv 3))))))
      (pss_one (ps_ret (pe_kn d__law_straight hr (by rfl) (pa_cons (pv 6) (pa_cons (pv 1) pa_nil)))))))), ?_⟩
  have oa := (ob_none ka).trans ha
  have ot := (ob_none kt).trans ht
  have ml : (ns.map V.int).length = ns.length := List.length_map _
  have mz : (zs.map V.int).length = zs.length := List.length_map _
  have typ : tyN K H (.ref t) = some "list" := by rw [tyN_ref, ot]; rfl
  refine ⟨_, rfl, _, _, rfl, by decide, _, typ, _, rfl, if_no rfl ?_⟩
  refine ⟨_, rfl, t, rfl, _, itsO_ofL ot, _, rfl, rfl, _, rfl, if_no ?_ ?_⟩
  · show (!decide (V.int ((zs.map V.int).length : Int) = V.int (c : Int))) = false
    rw [mz, zl]
    simp
  refine ⟨_, rfl, t, rfl, ⟨_, .of ht⟩, forI_list (xs := zs.map V.int) (FiI a t d c b H) ⟨none, rfl, Same.refl H⟩ (fun i σ H' _ h => ?_) ?_ ?_⟩
  · obtain ⟨_, _, s2⟩ := h
    exact .of (s2 _ _ ht)
  · rintro i x σ H2 hi ⟨x6, rfl, s2⟩
    obtain ⟨u, _, rfl⟩ := List.mem_map.mp (List.mem_of_getElem? hi)
    exact ⟨_, rfl, _, rfl, rfl, _, rfl, if_no rfl ⟨_, rfl, s2⟩⟩
  · rintro σ H2 ⟨x6, rfl, s2⟩
    have ha2 := s2 _ _ ha
    have ht2 := s2 _ _ ht
    refine ⟨_, rfl, _, rfl, ite2 (fun hb => ?_) (fun hb => ?_)⟩
    · subst hb
      rw [if_pos rfl] at k
      refine ⟨_, rfl, _, rfl, _, rfl, _, _, rfl, rfl, _, rfl, a, _, rfl, .of ha2, ?_⟩
      have ec : cutV (ns.map V.int) none (some ((d : Int) + 1)) = (ns.take (d + 1)).map V.int := by
        rw [show (d : Int) + 1 = ((d + 1 : Nat) : Int) by omega, cut_to _ (d + 1) (by omega), List.map_take]
      rw [show cutV (ns.map V.int) none (some ((fun i j => i + j) (d : Int) 1)) = (ns.take (d + 1)).map V.int from ec]
      refine fun w hw frw => ?_
      have s3 := Same.new hw (.lst ((ns.take (d + 1)).map V.int))
      refine ⟨t, w, _, _, rfl, rfl, s3 _ _ ht2, upd_same, by rw [mz, List.length_map, List.length_take, sizeLine_eq]; omega, fun r hr frr => ?_⟩
      rw [← List.map_append] at frr ⊢
      have s4 := Same.new hr (.lst ((zs ++ ns.take (d + 1)).map V.int))
      refine ⟨_, rfl, _, rfl, r, zs ++ ns.take (d + 1), d, rfl, upd_same, frr r (by rw [upd_same]; simp), by rw [List.length_append, List.length_take]; omega, d8, fun H5 s5 => k H5 (s2.trans (s3.trans (s4.trans s5)))⟩
    · rw [if_neg hb] at k
      refine ⟨_, rfl, _, rfl, a, rfl, _, itsO_ofL (ob_same s2 oa), _, rfl, _, _, rfl, rfl, _, _, rfl, rfl, _, rfl, a, _, rfl, .of ha2, ?_⟩
      have ec : cutV (ns.map V.int) (some (((ns.map V.int).length : Int) - (d : Int) - 1)) none = (ns.drop (ns.length - (d + 1))).map V.int := by
        rw [ml, show (ns.length : Int) - (d : Int) - 1 = ((ns.length - (d + 1) : Nat) : Int) by omega, cut_from _ _ (by omega), List.map_drop]
      rw [ec]
      refine fun w hw frw => ?_
      have s3 := Same.new hw (.lst ((ns.drop (ns.length - (d + 1))).map V.int))
      refine ⟨_, rfl, w, t, _, _, rfl, rfl, upd_same, s3 _ _ ht2, by rw [mz, List.length_map, List.length_drop, sizeLine_eq]; omega, fun r hr frr => ?_⟩
      rw [← List.map_append] at frr ⊢
      have s4 := Same.new hr (.lst ((ns.drop (ns.length - (d + 1)) ++ zs).map V.int))
      refine ⟨_, rfl, _, rfl, r, ns.drop (ns.length - (d + 1)) ++ zs, d, rfl, upd_same, frr r (by rw [upd_same]; simp), by rw [List.length_append, List.length_drop]; omega, d8, fun H5 s5 => k H5 (s2.trans (s3.trans (s4.trans s5)))⟩

end
end My

namespace My
open PySem PySem.Spec PyProof.Rows L2
/-- all n-th differences are 0 -/
def zl (n : Nat) (l : List Int) : Prop := ∀ x ∈ itd n l, x = 0
theorem zl_fn {n : Nat} {l : List Int} : zl n l ↔ zd n (fn l) (l.length - n) := zd_fn
theorem zl_drop {n : Nat} {l : List Int} (h : zl n l) (k : Nat) : zl n (l.drop k) := zl_fn.mpr fun i hi => by
  rw [List.length_drop] at hi
  have e : fn (l.drop k) = fun i => fn l (i + k) := by
    funext i
    rw [fn_drop, Nat.add_comm]
  rw [e, dit_shift]
  exact zl_fn.mp h _ (by omega)
theorem zl_take {n : Nat} {l : List Int} (h : zl n l) (k : Nat) : zl n (l.take k) := zl_fn.mpr fun i hi => by
  rw [List.length_take] at hi
  rw [dit_congr (g := fn l) fun j hj => fn_take (by omega) (by omega)]
  exact zl_fn.mp h _ (by omega)
theorem zl_rev {n : Nat} {l : List Int} (h : zl n l) : zl n l.reverse := zl_fn.mpr fun i hi => by
  rw [List.length_reverse] at hi
  have z : zd n (fun i => fn l (l.length - 1 - i)) (l.length - 1 + 1 - n) := zd_rev (M := l.length - 1) (fun i hi => zl_fn.mp h i (by omega))
  rw [dit_congr (g := fun i => fn l (l.length - 1 - i)) fun j hj => fn_rev (by omega)]
  exact z i (by omega)
theorem zl_glue {n : Nat} {a b c : List Int} (hb : n ≤ b.length) (h1 : zl n (a ++ b)) (h2 : zl n (b ++ c)) : zl n (a ++ (b ++ c)) := zl_fn.mpr fun i hi => by
  rw [List.length_append, List.length_append] at hi
  rcases Nat.lt_or_ge (i + n) (a.length + b.length) with q | q
  · rw [dit_congr (g := fn (a ++ b)) fun j hj => ?_]
    · exact zl_fn.mp h1 i (by rw [List.length_append]; omega)
    · rw [← List.append_assoc, fn_append_l (by rw [List.length_append]; omega)]
  · have e : dit n (fn (a ++ (b ++ c))) i = dit n (fun i => fn (a ++ (b ++ c)) (i + a.length)) (i - a.length) := by
      rw [dit_shift, Nat.sub_add_cancel (by omega)]
    have f : (fun i => fn (a ++ (b ++ c)) (i + a.length)) = fn (b ++ c) := by
      funext j
      rw [Nat.add_comm, fn_append_r]
    rw [e, f]
    exact zl_fn.mp h2 _ (by rw [List.length_append]; omega)
/-- what follows is told by the window -/
theorem fol_of {z y : List Int} (h : zl z.length (z ++ y)) : fol z y.length = y := by
  refine ext_fn (fol_len _ _) fun i hi => ?_
  rw [fol_len] at hi
  rw [fn_fol hi]
  have := ex_uniq (w := z) (f := fn (z ++ y)) (M := y.length) (fun j hj => zl_fn.mp h j (by rw [List.length_append]; omega)) (fun j hj => fn_append_l hj) (z.length + i) (by omega)
  rw [← this, fn_append_r]
theorem zl_fol (w : List Int) (c : Nat) : zl w.length (w ++ fol w c) := zd_wfol w c
section
variable {ns : List Int} {d c : Nat} (hd : d + 1 ≤ ns.length)
include hd
theorem wl : (ns.drop (ns.length - (d + 1))).length = d + 1 := by
  rw [List.length_drop]
  omega
theorem vl : ((ns.take (d + 1)).reverse).length = d + 1 := by
  rw [List.length_reverse, List.length_take]
  omega
theorem ffl_len : (ffl ns d c).length = c := fol_len _ _
theorem bfl_len : (bfl ns d c).length = c := by
  unfold bfl
  rw [List.length_reverse, fol_len]
theorem ffl_fits : zl (d + 1) (ns.drop (ns.length - (d + 1)) ++ ffl ns d c) := by
  have := zl_fol (ns.drop (ns.length - (d + 1))) c
  rw [wl hd] at this
  exact this
theorem bfl_fits : zl (d + 1) (bfl ns d c ++ ns.take (d + 1)) := by
  have := zl_rev (zl_fol ((ns.take (d + 1)).reverse) c)
  rw [vl hd, List.reverse_append, List.reverse_reverse] at this
  exact this
theorem ffl_zl : zl (d + 1) (ffl ns d c) := by
  have := zl_drop (ffl_fits (c := c) hd) (d + 1)
  rw [List.drop_append_of_le_length (by rw [wl hd]; exact Nat.le_refl _), List.drop_eq_nil_of_le (by rw [wl hd]; exact Nat.le_refl _), List.nil_append] at this
  exact this
/-- the degree of what follows -/
theorem ffl_dg : dgU (ffl ns d c) ((ffl ns d c).length - 1) ≤ d := by
  rcases Nat.lt_or_ge d (dgU (ffl ns d c) ((ffl ns d c).length - 1)) with q | q
  · exfalso
    have a := (dgU_spec (ffl ns d c) ((ffl ns d c).length - 1)).1 (d + 1) (by omega) q
    rw [nz_false.mpr (ffl_zl (c := c) hd)] at a
    cases a
  · exact q
/-- the table and what follows it, when the table is of that degree -/
theorem all_fits (h : zl (d + 1) ns) : zl (d + 1) (ns ++ ffl ns d c) := by
  have e : ns.take (ns.length - (d + 1)) ++ ns.drop (ns.length - (d + 1)) = ns := List.take_append_drop _ _
  have := zl_glue (n := d + 1) (a := ns.take (ns.length - (d + 1))) (b := ns.drop (ns.length - (d + 1))) (c := ffl ns d c) (by rw [wl hd]; exact Nat.le_refl _) (by rw [e]; exact h) (ffl_fits hd)
  rw [← List.append_assoc, e] at this
  exact this
theorem all_fitsB (h : zl (d + 1) ns) : zl (d + 1) (bfl ns d c ++ ns) := by
  have e : ns.take (d + 1) ++ ns.drop (d + 1) = ns := List.take_append_drop _ _
  have := zl_glue (n := d + 1) (a := bfl ns d c) (b := ns.take (d + 1)) (c := ns.drop (d + 1)) (by rw [List.length_take]; omega) (bfl_fits hd) (by rw [e]; exact h)
  rw [e] at this
  exact this
/-- back again from what follows -/
theorem bfl_ffl {m : Nat} (hc : d + 1 ≤ c) (hm : m ≤ ns.length) (h : m ≤ d + 1 ∨ zl (d + 1) ns) : bfl (ffl ns d c) d m = ns.drop (ns.length - m) := by
  have fl := ffl_len (c := c) hd
  have z : zl (d + 1) (ns.drop (ns.length - m) ++ ffl ns d c) := by
    rcases h with h | h
    · have := zl_drop (ffl_fits (c := c) hd) (d + 1 - m)
      rw [List.drop_append_of_le_length (by rw [wl hd]; omega), List.drop_drop, show ns.length - (d + 1) + (d + 1 - m) = ns.length - m by omega] at this
      exact this
    · have := zl_drop (all_fits (c := c) hd h) (ns.length - m)
      rw [List.drop_append_of_le_length (by omega)] at this
      exact this
  have z2 := zl_take z (m + (d + 1))
  have e1 : (ns.drop (ns.length - m) ++ ffl ns d c).take (m + (d + 1)) = ns.drop (ns.length - m) ++ (ffl ns d c).take (d + 1) := by
    have l : (ns.drop (ns.length - m)).length = m := by rw [List.length_drop]; omega
    have := List.take_length_add_append (l₁ := ns.drop (ns.length - m)) (l₂ := ffl ns d c) (i := d + 1)
    rw [l] at this
    exact this
  rw [e1] at z2
  have z3 := zl_rev z2
  rw [List.reverse_append] at z3
  have zl1 : ((ffl ns d c).take (d + 1)).reverse.length = d + 1 := by rw [List.length_reverse, List.length_take]; omega
  have f := fol_of (z := ((ffl ns d c).take (d + 1)).reverse) (y := (ns.drop (ns.length - m)).reverse) (by rw [zl1]; exact z3)
  rw [List.length_reverse, List.length_drop, show ns.length - (ns.length - m) = m by omega] at f
  unfold bfl
  rw [f, List.reverse_reverse]
theorem ffl_bfl {m : Nat} (hc : d + 1 ≤ c) (hm : m ≤ ns.length) (h : m ≤ d + 1 ∨ zl (d + 1) ns) : ffl (bfl ns d c) d m = ns.take m := by
  have fl := bfl_len (c := c) hd
  have z : zl (d + 1) (bfl ns d c ++ ns.take m) := by
    rcases h with h | h
    · have := zl_take (bfl_fits (c := c) hd) (c + m)
      have t := List.take_length_add_append (l₁ := bfl ns d c) (l₂ := ns.take (d + 1)) (i := m)
      rw [fl] at t
      rw [t, List.take_take, Nat.min_eq_left h] at this
      exact this
    · have := zl_take (all_fitsB (c := c) hd h) (c + m)
      have t := List.take_length_add_append (l₁ := bfl ns d c) (l₂ := ns) (i := m)
      rw [fl] at t
      rw [t] at this
      exact this
  have z2 := zl_drop z (c - (d + 1))
  rw [List.drop_append_of_le_length (by omega)] at z2
  have l1 : ((bfl ns d c).drop (c - (d + 1))).length = d + 1 := by rw [List.length_drop]; omega
  have f := fol_of (z := (bfl ns d c).drop (c - (d + 1))) (y := ns.take m) (by rw [l1]; exact z2)
  rw [List.length_take, Nat.min_eq_left hm] at f
  unfold ffl
  rw [fl]
  exact f
/-- a step on -/
theorem ffl_step {s : Nat} (hs : s ≤ c) : ffl (ns ++ (ffl ns d c).take s) d (c - s) = (ffl ns d c).drop s := by
  have fl := ffl_len (c := c) hd
  have L : (ns ++ (ffl ns d c).take s).length = ns.length + s := by rw [List.length_append, List.length_take]; omega
  have z := ffl_fits (c := c) hd
  have z2 := zl_drop z s
  have e : (ns.drop (ns.length - (d + 1)) ++ ffl ns d c) = (ns ++ ffl ns d c).drop (ns.length - (d + 1)) := by rw [List.drop_append_of_le_length (by omega)]
  have e2 : (ns ++ ffl ns d c) = (ns ++ (ffl ns d c).take s) ++ (ffl ns d c).drop s := by rw [List.append_assoc, List.take_append_drop]
  rw [e, List.drop_drop, e2, List.drop_append_of_le_length (by rw [L]; omega)] at z2
  have l1 : ((ns ++ (ffl ns d c).take s).drop (ns.length - (d + 1) + s)).length = d + 1 := by rw [List.length_drop, L]; omega
  have f := fol_of (z := (ns ++ (ffl ns d c).take s).drop (ns.length - (d + 1) + s)) (y := (ffl ns d c).drop s) (by rw [l1]; exact z2)
  rw [List.length_drop, fl] at f
  show fol ((ns ++ (ffl ns d c).take s).drop ((ns ++ (ffl ns d c).take s).length - (d + 1))) (c - s) = _
  rw [L, show ns.length + s - (d + 1) = ns.length - (d + 1) + s by omega]
  exact f
theorem bfl_step {s : Nat} (hs : s ≤ c) : bfl ((bfl ns d c).drop (c - s) ++ ns) d (c - s) = (bfl ns d c).take (c - s) := by
  have fl := bfl_len (c := c) hd
  have z := bfl_fits (c := c) hd
  have z2 := zl_take z (c - s + (d + 1))
  have e : bfl ns d c ++ ns.take (d + 1) = (bfl ns d c ++ ns).take (c + (d + 1)) := by
    have t := List.take_length_add_append (l₁ := bfl ns d c) (l₂ := ns) (i := d + 1)
    rw [fl] at t
    rw [t]
  have e2 : bfl ns d c ++ ns = (bfl ns d c).take (c - s) ++ ((bfl ns d c).drop (c - s) ++ ns) := by rw [← List.append_assoc, List.take_append_drop]
  have tl : ((bfl ns d c).take (c - s)).length = c - s := by rw [List.length_take]; omega
  have t := List.take_length_add_append (l₁ := (bfl ns d c).take (c - s)) (l₂ := (bfl ns d c).drop (c - s) ++ ns) (i := d + 1)
  rw [tl] at t
  rw [e, List.take_take, Nat.min_eq_left (by omega), e2, t] at z2
  have z3 := zl_rev z2
  rw [List.reverse_append] at z3
  have l1 : (((bfl ns d c).drop (c - s) ++ ns).take (d + 1)).reverse.length = d + 1 := by rw [List.length_reverse, List.length_take, List.length_append]; omega
  have f := fol_of (z := (((bfl ns d c).drop (c - s) ++ ns).take (d + 1)).reverse) (y := ((bfl ns d c).take (c - s)).reverse) (by rw [l1]; exact z3)
  rw [List.length_reverse, tl] at f
  show (fol _ (c - s)).reverse = _
  rw [f, List.reverse_reverse]
end
end My

namespace My
open PySem PySem.Spec PyProof.Rows L2
section
variable {P : Program} {w : World} {K : PySem.W.Frag} {mg : Str → Option Value} {base : Heap}
def BadTb (K : PySem.W.Frag) (hi : Int) (H : Hp) (v : V) : Prop := (∃ t, tyN K H v = some t ∧ t ≠ "list") ∨ ∃ (a : Addr) (xs : List V), v = .ref a ∧ ob K H a = some (.lst xs) ∧ ((xs.length = 0 ∨ hi < (xs.length : Int)) ∨ (1 ≤ xs.length ∧ (xs.length : Int) ≤ hi ∧ (∀ x ∈ xs, (tyN K H x).isSome) ∧ ∃ x ∈ xs, wholeV x = false))
/-- no row of 1 to hi whole numbers, and not the store -/
def BadR (K : PySem.W.Frag) (hi : Int) (s : Addr) (H : Hp) (v : V) : Prop := BadTb K hi H v ∧ v ≠ .ref s
theorem BadR.same {hi : Int} {s : Addr} {H H' : Hp} {v : V} (h : BadR K hi s H v) (e : Same H H') : BadR K hi s H' v := by
  refine ⟨?_, h.2⟩
  rcases h.1 with ⟨t, ht, nt⟩ | ⟨a, xs, rfl, o, hx⟩
  · exact .inl ⟨t, tyN_same e ht, nt⟩
  · exact .inr ⟨a, xs, rfl, ob_same e o, hx.imp id fun ⟨l1, l2, ty, x, hm, g⟩ => ⟨l1, l2, fun y hy => tyS_same e (ty y hy), x, hm, g⟩⟩
theorem tyN_kp {H H' : Hp} {s : Addr} {v : V} {t : String} (e : Kp s H H') (n : v ≠ .ref s) (h : tyN K H v = some t) : tyN K H' v = some t := by
  cases v with
  | ref a =>
    have h1 : tyO (ob K H a) = some t := h
    show tyO (ob K H' a) = some t
    cases hz : ob K H a with
    | none => rw [hz] at h1; cases h1
    | some z =>
      rw [hz] at h1
      rw [ob_kp2 e (fun ea => n (by rw [ea])) hz]
      exact h1
  | _ => exact h
theorem BadR.kp {hi : Int} {s : Addr} {H H' : Hp} {v : V} (h : BadR K hi s H v) (e : Kp s H H') (st : Sto K H' s) : BadR K hi s H' v := by
  refine ⟨?_, h.2⟩
  rcases h.1 with ⟨t, ht, nt⟩ | ⟨a, xs, rfl, o, hx⟩
  · exact .inl ⟨t, tyN_kp e h.2 ht, nt⟩
  · exact .inr ⟨a, xs, rfl, ob_kp2 e (fun ea => h.2 (by rw [ea])) o, hx.imp id fun ⟨l1, l2, ty, x, hm, g⟩ => ⟨l1, l2, fun y hy => tyS_kp e st (ty y hy), x, hm, g⟩⟩
theorem inB_out {a b u : Int} (h : u < a ∨ b < u) : inB a b (.int u) = false := by
  show (decide (a ≤ u) && decide (u ≤ b)) = false
  rcases h with h | h
  · rw [decide_eq_false (by omega)]
    rfl
  · rw [decide_eq_false (show ¬ u ≤ b by omega), Bool.and_false]
def spBy (K : PySem.W.Frag) : Sp := fun vs H Q _ => ∃ (s : Addr) (hi : Int), vs = [.ref s, .int 0, .int hi] ∧ Sto K H s ∧ 1 ≤ hi ∧ hi ≤ 60 ∧ ∀ v H', (tyN K H' v).isSome → inB 0 hi v = false → Kp s H H' → Sto K H' s → Q v H'
abbrev sBy : Stmt := topS 45
theorem scBy : FnScope ["_law_store_here", "_law_low", "_law_high"] ["_law_store_here", "_law_low", "_law_high"] (defScope sBy) := ⟨rfl, rfl, rfl, by decide +kernel, rfl, by decide +kernel, by decide +kernel⟩
theorem k_By (T : Bt K mg) (D : Dfn K mg "_law_beyond" sBy ["_law_store_here", "_law_low", "_law_high"]) (d__law_take : Kn P w K mg base 2 "_law_take" ["_law_store_here", "_law_many"] (spTake K)) (d__law_pick : Kn P w K mg base 3 "_law_pick" ["_law_store_here", "_law_row"] (spPick K)) (d__law_bad_whole : Kn P w K mg base 4 "_law_bad_whole" ["_law_store_here"] (spBW K)) : Kn P w K mg base 5 "_law_beyond" ["_law_store_here", "_law_low", "_law_high"] (spBy K) := by
  refine Kn.mk' D scBy (fun vs H Q E h => ?_) (fun f cdv A outer s H vs Q E hr h => ?_)
  · obtain ⟨s, hi, rfl, _⟩ := h
    rfl
  obtain ⟨s, hi, rfl, hS, h1, h2, k⟩ := h
  refine ⟨_, (pss_cons (ps_if (pt_cmpR op_eq (pe_kn d__law_take hr (by rfl) (pa_cons (pv 0) (pa_cons pe_int pa_nil))) pe_int (nomark _)) (pss_one (ps_ret (pe_kn d__law_bad_whole hr (by rfl) (pa_cons (pv 0) pa_nil)))) pss_nil)
      (pss_one (ps_ret (pe_kn d__law_pick hr (by rfl) (pa_cons (pv 0) (pa_cons (pe_ls (pa_cons (pe_op op_sub (pv 1) pe_int) (pa_cons (pe_op op_add (pv 2) pe_int) (pa_cons (pe_op op_sub (pe_un un_neg pe_int) (pv 2)) (pa_cons (pe_op op_add (pe_op op_mul pe_int (pv 2)) pe_int) (pa_cons (pe_un un_neg (pe_op op_pow pe_int pe_int)) (pa_cons (pe_op op_pow pe_int pe_int) pa_nil))))))) pa_nil)))))), ?_⟩
  have c39 : CPow 10 39 := by unfold CPow; decide
  refine ⟨_, rfl, s, 3, rfl, hS, by omega, fun i H1 i0 i1 kp1 st1 => ⟨rfl, _, rfl, ite2 (fun h => ?_) (fun h => ?_)⟩⟩
  · refine ⟨_, rfl, s, rfl, st1, fun v H2 ty w _ kp2 st2 => ?_⟩
    exact k v H2 ty (inB_no w) (kp1.trans kp2) st2
  refine ⟨_, rfl, _, rfl, _, _, rfl, rfl, _, rfl, _, _, rfl, rfl, _, rfl, _, rfl, _, _, rfl, rfl, _, rfl, _, _, rfl, rfl, by unfold CMul; omega, _, _, rfl, rfl, _, _, rfl, rfl, c39, _, rfl, _, _, rfl, rfl, c39, sz2 (by show 6 ≤ 100; decide), fun p hp kp => ?_⟩
  have s2 := Same.new hp (.lst [V.int (0 - 1), .int (hi + 1), .int (-1 - hi), .int (2 * hi + 1), .int (-(10 ^ (39 : Int).toNat)), .int (10 ^ (39 : Int).toNat)])
  refine ⟨s, p, _, rfl, st1.same s2, upd_same, Ne.symm (st1.ne hp), by show 0 < 6; decide, by show 6 < 1000; decide, fun v H3 hv kp3 st3 => ?_⟩
  have kpA := (kp1.trans (Kp.same s2)).trans kp3
  have e39 : (10 : Int) ^ (39 : Int).toNat = 1000000000000000000000000000000000000000 := by decide
  simp only [List.mem_cons, List.not_mem_nil, or_false] at hv
  rcases hv with rfl | rfl | rfl | rfl | rfl | rfl
  · exact k _ H3 rfl (inB_out (.inl (by omega))) kpA st3
  · exact k _ H3 rfl (inB_out (.inr (by omega))) kpA st3
  · exact k _ H3 rfl (inB_out (.inl (by omega))) kpA st3
  · exact k _ H3 rfl (inB_out (.inr (by omega))) kpA st3
  · exact k _ H3 rfl (inB_out (.inl (by rw [e39]; omega))) kpA st3
  · exact k _ H3 rfl (inB_out (.inr (by rw [e39]; omega))) kpA st3
def spNT (K : PySem.W.Frag) : Sp := fun vs H Q _ => ∃ (s a : Addr) (ns : List Int), vs = [.ref s, .ref a] ∧ Sto K H s ∧ H a = some (.lst (ns.map V.int)) ∧ K.lookup a = none ∧ a ≠ s ∧ 1 ≤ ns.length ∧ ns.length ≤ 60 ∧ ∀ v H', BadR K 60 s H' v → Kp s H H' → Sto K H' s → Q v H'
abbrev sNT : Stmt := topS 59
theorem scNT : FnScope ["_law_store_here", "_law_values", "_law_bad"] ["_law_store_here", "_law_values"] (defScope sNT) := ⟨rfl, rfl, rfl, by decide +kernel, rfl, by decide +kernel, by decide +kernel⟩
theorem k_NT (T : Bt K mg) (D : Dfn K mg "_law_no_table" sNT ["_law_store_here", "_law_values"]) (d__law_pick : Kn P w K mg base 3 "_law_pick" ["_law_store_here", "_law_row"] (spPick K)) (d__law_with : Kn P w K mg base 3 "_law_with" ["_law_store_here", "_law_row", "_law_item"] (spWith K)) (d__law_bad_whole : Kn P w K mg base 4 "_law_bad_whole" ["_law_store_here"] (spBW K)) (d__law_wrong_length : Kn P w K mg base 3 "_law_wrong_length" ["_law_store_here", "_law_row", "_law_low", "_law_high"] (spWL K)) (d__law_bad_list : Kn P w K mg base 4 "_law_bad_list" ["_law_store_here", "_law_row"] (spBL K)) : Kn P w K mg base 5 "_law_no_table" ["_law_store_here", "_law_values"] (spNT K) := by
  refine Kn.mk' D scNT (fun vs H Q E h => ?_) (fun f cdv A outer s H vs Q E hr h => ?_)
  · obtain ⟨s, a, ns, rfl, _⟩ := h
    rfl
  obtain ⟨s, a, ns, rfl, hS, ha, ka, na, l1, l2, k⟩ := h
  refine ⟨_, (pss_cons (ps_set (i := 2) scNT.nd rfl (.inl rfl) (pe_ls (pa_cons (pe_kn d__law_bad_list hr (by rfl) (pa_cons (pv 0) (pa_cons (pv 1) pa_nil))) (pa_cons (pe_kn d__law_with hr (by rfl) (pa_cons (pv 0) (pa_cons (pv 1) (pa_cons (pe_kn d__law_bad_whole hr (by rfl) (pa_cons (pv 0) pa_nil)) pa_nil)))) pa_nil))))
      (pss_one (ps_ret (pe_kn d__law_pick hr (by rfl) (pa_cons (pv 0) (pa_cons (pe_fr (pe_op op_cat (pv 2) (pe_ls (pa_cons (pe_kn d__law_wrong_length hr (by rfl) (pa_cons (pv 0) (pa_cons (pv 1) (pa_cons pe_int (pa_cons pe_int pa_nil))))) pa_nil)))) pa_nil)))))), ?_⟩
  have ml : (ns.map V.int).length = ns.length := List.length_map _
  refine ⟨_, rfl, _, rfl, s, a, ns, rfl, hS, ha, by omega, fun v1 t1 H1 ht1 nt1 _ kp1 st1 => ?_⟩
  have ha1 := kp1 _ _ na ha
  have b1 : BadR K 60 s H1 v1 := ⟨.inl ⟨t1, ht1, nt1⟩, fun e => by
    obtain ⟨ys4, hys4⟩ := st1.ob
    rw [e, tyN_ref, hys4] at ht1
    cases ht1
    exact nt1 rfl⟩
  refine ⟨_, rfl, _, rfl, _, rfl, s, rfl, st1, fun v2 H2 ty2 w2 _ kp2 st2 => ?_⟩
  have ha2 := kp2 _ _ na ha1
  have b1 := b1.kp kp2 st2
  refine ⟨s, a, _, v2, rfl, st2, ha2, ka, na, by omega, by omega, fun c2 j H3 hj kp3 st3 hc2 fc2 kc2 => ?_⟩
  have n2 := st2.ne fc2
  have ha3 := kp3 _ _ na ha2
  have b1 := b1.kp kp3 st3
  have b2 : BadR K 60 s H3 (.ref c2) := by
    have len : ((ns.map V.int).take j ++ v2 :: (ns.map V.int).drop (j + 1)).length = ns.length := by
      rw [List.length_append, List.length_cons, List.length_take, List.length_drop]
      omega
    refine ⟨.inr ⟨c2, _, rfl, (ob_none kc2).trans hc2, .inr ⟨by omega, by omega, fun x hx => ?_, v2, List.mem_append_right _ List.mem_cons_self, w2⟩⟩, fun e => n2 (V.ref.inj e)⟩
    rcases List.mem_append.mp hx with hx | hx
    · obtain ⟨u, _, rfl⟩ := List.mem_map.mp (List.mem_of_mem_take hx)
      rfl
    · rcases List.mem_cons.mp hx with rfl | hx
      · exact tyS_kp kp3 st3 ty2
      · obtain ⟨u, _, rfl⟩ := List.mem_map.mp (List.mem_of_mem_drop hx)
        rfl
  refine ⟨sz2 (by show 2 ≤ 100; decide), fun b0 hb0 kb0 => ?_⟩
  have s4 := Same.new hb0 (.lst [v1, .ref c2])
  have hb4 : upd H3 b0 (.lst [v1, .ref c2]) b0 = some (.lst [v1, .ref c2]) := upd_same
  have st4 := st3.same s4
  have b1 := b1.same s4
  have b2 := b2.same s4
  have ha4 := s4 _ _ ha3
  have nb0 := st3.ne hb0
  generalize upd H3 b0 (.lst [v1, .ref c2]) = H4 at s4 hb4 st4 b1 b2 ha4 ⊢
  refine ⟨_, rfl, _, rfl, _, rfl, _, rfl, s, a, ns, 60, rfl, by omega, by omega, st4, ha4, ka, na, l1, by omega, fun c3 zs H5 hz zl fc3 kc3 hc3 kp5 st5 => ?_⟩
  have n3 := st4.ne fc3
  have hb5 := kp5 _ _ nb0 hb4
  have b1 := b1.kp kp5 st5
  have b2 := b2.kp kp5 st5
  have b3 : BadR K 60 s H5 (.ref c3) := ⟨.inr ⟨c3, _, rfl, (ob_none kc3).trans hc3, .inl (by rw [List.length_map]; exact hz)⟩, fun e => n3 (V.ref.inj e)⟩
  refine ⟨sz2 (by show 1 ≤ 100; decide), fun m hm km => ?_⟩
  have s6 := Same.new hm (.lst [.ref c3])
  have hm6 : upd H5 m (.lst [.ref c3]) m = some (.lst [.ref c3]) := upd_same
  have hb6 := s6 _ _ hb5
  have st6 := st5.same s6
  generalize upd H5 m (.lst [.ref c3]) = H6 at s6 hm6 hb6 st6 ⊢
  refine ⟨b0, m, _, _, rfl, rfl, hb6, hm6, sz2 (by show 3 ≤ 100; decide), fun w hw _ => ?_⟩
  have s7 := Same.new hw (.lst ([v1, .ref c2] ++ [.ref c3]))
  refine ⟨s, w, _, rfl, st6.same s7, upd_same, Ne.symm (st6.ne hw), by show 0 < 3; decide, by show 3 < 1000; decide, fun v H8 hv kp8 st8 => ?_⟩
  have kpA := ((kp1.trans (kp2.trans kp3)).trans (Kp.same s4)).trans ((kp5.trans (Kp.same (s6.trans s7))).trans kp8)
  refine k v H8 ?_ kpA st8
  simp only [List.cons_append, List.nil_append, List.mem_cons, List.not_mem_nil, or_false] at hv
  rcases hv with rfl | rfl | rfl
  · exact ((b1.same s6).same s7).kp kp8 st8
  · exact ((b2.same s6).same s7).kp kp8 st8
  · exact ((b3.same s6).same s7).kp kp8 st8
end
end My

namespace My
open PySem PySem.Spec PyProof.Rows L2
section
variable {P : Program} {w : World} {K : PySem.W.Frag} {mg : Str → Option Value} {base : Heap}
end
/-! ### what a def that raises keeps -/
structure KnX (P : Program) (w : World) (K : PySem.W.Frag) (mg : Str → Option Value) (base : Heap) (k : Nat) (x : Str) (ps : List Str) (sp : Sp) : Prop where
  ex : ∃ f fd, mg x = some (.ref f) ∧ PySem.W.keepIn K (.ref f) = true ∧ Binds K fd ps [] ∧ FnOk P w K mg base (L2.CX P w) k f fd ps sp
theorem KnX.mk' {P : Program} {w : World} {K : PySem.W.Frag} {mg : Str → Option Value} {base : Heap} {x : Str} {st : Stmt} {N ps : List Str} {k : Nat} {sp : Sp} (D : Dfn K mg x st ps) (S : FnScope N ps (defScope st)) (len : ∀ vs H Q E, sp vs H Q E → vs.length = ps.length)
    (hbody : ∀ (f : Addr) (cdv : Value) (A : Around) (outer : List Env) (s : Shared) (H : Hp) (vs : List V) (Q : VK) (E : XK), Room k (A.deeper (envOfC x (defScope st) s.heap.objs.size f cdv)) → sp vs H Q E →
      ∃ t, PSs (cxOf (L2.CX P w) P w K mg base N x (defScope st) f cdv A outer s H E) (defBody st) t ∧ t { nx := fun _ H' => Q .non H', rt := Q } (start N vs) H) : KnX P w K mg base (k + 1) x ps sp := by
  obtain ⟨f, fd, F, m, b⟩ := D.ex
  exact ⟨f, fd, m, F.kp, b, F.okX S len (hbody f)⟩
section
variable {X : Cx}
theorem pe_knX {j k : Nat} {x : Str} {ps : List Str} {sp : Sp} {p pos : Pos} {e : Expr} {es : List Expr} {t : TA} {W : WX} (E : XK) (F : KnX X.prog X.w X.K X.mg X.base k x ps sp) (hr : Room j X.A) (hg : Gl X x) (tk : Takes X W) (hW : ∀ cls d σ H, E cls d H → W cls d σ H) (ha : PA X (e :: es) t) (hj : k ≤ j := by omega)
    (hdb : (x == ("__debug__" : Str)) = false := by decide) (he : starEach (e :: es) X.env = (false, eval e X.env) :: starEach es X.env := by rfl) (hpl : (backTo pos (starEach es X.env)).any (·.1) = false := by rfl) :
    PE X (.Call (.Name x p) (e :: es) [] pos) (tCall sp [] E t) := by
  obtain ⟨f, fd, m, kp, b, G⟩ := F.ex
  exact pe_call G (hr.mono hj) hg m kp b .nil (passes_call tk hW) ha hdb he hpl
end
/-! ### BadValue -/
structure BvT (K : PySem.W.Frag) (mg : Str → Option Value) (C : Addr) : Prop where
  g : mg "BadValue" = some (.ref C)
  ox : OexC K C
  no : PySem.W.findIn K (.ref C) "what" = some none
  ini : ∃ fI fd, PySem.W.findIn K (.ref C) "__init__" = some (some (.ref fI)) ∧ PySem.W.typeIn K (.ref fI) = some (.type "function") ∧ Fun K "__init__" "BadValue.__init__" (inClass (topS 2) 0) fI fd ∧ Binds K fd ["self", "what"] []
def spInit (C : Addr) : Sp := fun vs H Q _ => ∃ (a : Addr) (y : V), vs = [.ref a, y] ∧ H a = some (exo a C none) ∧ ∀ dx, H dx = none → dx ≠ a → Q .non (upd (upd H dx (exd dx [("what", y)])) a (exo a C (some dx)))
/-- an error of BadValue: its own dict d, what it names -/
def Bv (K : PySem.W.Frag) (C : Addr) (H : Hp) (E : XK) (y : V) : Prop := ∀ (d : Addr) (H' : Hp), Same H H' → H' d = some (.xd [("what", y)]) → E (.ref C) (some d) H'
def spRequireX (K : PySem.W.Frag) (C : Addr) : Sp := fun vs H _ E => ∃ y : V, vs = [.bl false, y] ∧ Bv K C H E y
section
variable {P : Program} {w : World} {K : PySem.W.Frag} {mg : Str → Option Value} {base : Heap}
abbrev sInitB : Stmt := inClass (topS 2) 0
theorem scInitB : FnScope ["self", "what"] ["self", "what"] (defScope sInitB) := ⟨rfl, rfl, rfl, by decide +kernel, rfl, by decide +kernel, by decide +kernel⟩
theorem ok_initB {C fI : Addr} {fd : FuncData} (B : BvT K mg C) (F : Fun K "__init__" "BadValue.__init__" sInitB fI fd) : FnOk P w K mg base CX0 1 fI fd ["self", "what"] (spInit C) := by
  refine F.ok scInitB (fun vs H Q E h => ?_) (fun cdv A outer s H vs Q E hr h => ?_)
  · obtain ⟨a, y, rfl, _⟩ := h
    rfl
  obtain ⟨a, y, rfl, ha, k⟩ := h
  refine ⟨_, pss_one (ps_ost (pv 0) (pv 1)), ?_⟩
  exact ⟨_, rfl, _, rfl, a, C, rfl, B.ox, B.no, .inl ⟨ha, k⟩⟩
theorem kx_Require {C : Addr} (B : BvT K mg C) (D : Dfn K mg "require" sRequire ["well_formed", "what"]) : KnX P w K mg base 3 "require" ["well_formed", "what"] (spRequireX K C) := by
  refine KnX.mk' D scRequire (fun vs H Q E h => ?_) (fun f cdv A outer s H vs Q E hr h => ?_)
  · obtain ⟨y, rfl, _⟩ := h
    rfl
  obtain ⟨y, rfl, k⟩ := h
  obtain ⟨fI, fd, iC, tI, F, b⟩ := B.ini
  refine ⟨_, (pss_one (ps_if (pt_not (pt_val (pv 0))) (pss_one (ps_raise rfl (takes_of rfl rfl rfl rfl) (pmk_oex B.ox iC tI (ok_initB B F) hr b .nil pass0 (by rfl) B.g (pa_cons (pv 1) pa_nil)))) pss_nil)), ?_⟩
  refine ⟨_, rfl, _, rfl, iteT ?_⟩
  refine ⟨_, rfl, by show 1 ≤ 1000; decide, fun a na => ⟨a, y, rfl, upd_same, fun dx ndx ne => ⟨rfl, dx, [("what", y)], upd_same, ?_, ?_, ?_⟩⟩⟩
  · rw [upd_ne ne, upd_same]
  · rw [upd_ne ne] at ndx
    exact ndx
  · rw [upd_ne ne] at ndx
    refine k dx _ (fun b o e => ?_) upd_same
    rw [upd_ne (ne_of_none e ndx), del_ne (ne_of_none e na), upd_ne (ne_of_none e na), upd_ne (ne_of_none e ndx), upd_ne (ne_of_none e na)]
    exact e
end
end My

namespace My
open PySem PySem.Spec PyProof.Rows L2
section
variable {P : Program} {w : World} {K : PySem.W.Frag} {mg : Str → Option Value} {base : Heap}
end
/-- what the written part says of the errors' classes: C is BadValue, S SkyError, A the eleven by name -/
structure AskT (K : PySem.W.Frag) (mg : Str → Option Value) (C S : Addr) (A : String → Addr) : Prop where
  sky : mg "SkyError" = some (.ref S)
  exm : PySem.W.exmOne K (.ref C) (.ref S) = some true
  g : ∀ n ∈ ["BadValue", "Mismatch", "Still", "Endless", "TooMany", "NoName", "Taken", "Locked", "Looped", "Broken", "ReadError"], mg (Str.ofString n) = some (.ref (A n))
  k : ∀ n ∈ ["BadValue", "Mismatch", "Still", "Endless", "TooMany", "NoName", "Taken", "Locked", "Looped", "Broken", "ReadError"], PySem.W.kitOne K (.ref C) (.ref (A n)) = some (n == "BadValue")
  ve : PySem.W.kitOne K (.ref C) (.type "ValueError") = some true
  b_VE : mg "ValueError" = none
  hcl : (PySem.W.clsIn K C).isSome = true
  hga : PySem.W.findIn K (.ref C) "__getattribute__" = some (some (.builtin "BaseException.__getattribute__"))
  hgt : PySem.W.findIn K (.ref C) "__getattr__" = some none
  hsub : PySem.W.subIn K (.ref C) (.type "BaseException") = some true
  ha : PySem.W.findIn K (.ref C) "__class__" = some (some (.builtin "object.__class__"))
  hn : PySem.W.specialIn K (.builtin "object.__class__") "__get__" = some (some (.builtin "getset_descriptor.__get__"))
  htk : PySem.W.takesIn K (.builtin "object.__class__") = some true
  hm : PySem.W.mroIn K C (.type "object") = some true
  xf : XfC K C
/-- isinstance of a caught error that has its dict -/
def kitV (K : PySem.W.Frag) (C : Addr) : V → Option Bool
  | .ref D => PySem.W.kitOne K (.ref C) (.ref D)
  | .ty n => PySem.W.kitOne K (.ref C) (.type n)
  | _ => none
def rIsX (K : PySem.W.Frag) (C a : Addr) (cls : Value) (d : Option Addr) : List V → Hp → VK → Prop := fun xs H Q => ∃ c, xs = [.ref a, c] ∧ cls = .ref C ∧ ∃ dd, d = some dd ∧ (∃ fs, H dd = some (.xd fs)) ∧ ∃ b, kitV K C c = some b ∧ Q (.bl b) H
theorem call_isX {X : Cx} {C S a : Addr} {A : String → Addr} {oe : Obj} {cls : Value} {d : Option Addr} {pn : List (Addr × Obj)} (T : AskT X.K X.mg C S A) (hz : Zc cls d oe) (hf : ∃ vs, oe.data = .fields vs) : CallR (X.suite a ((a, oe) :: pn)) (.builtin "isinstance") (rIsX X.K C a cls d) := fun pins s σ H xs us Q I r h => by
  obtain ⟨c, rfl, rfl, dd, rfl, ⟨fs, hfs⟩, b, hb, q⟩ := h
  obtain ⟨u1, u2, rfl, r1, r2⟩ := vals2 r
  cases r1
  obtain ⟨hget, _⟩ := I.pin (a, oe) (List.mem_append.mpr (.inl List.mem_cons_self))
  obtain ⟨vs, hv⟩ := hf
  obtain ⟨mA, ⟨od, es, ep, ho, hr0⟩, hr⟩ := (show ObjOk X.prog X.w H s.heap dd (.xd fs) from I.hok dd _ hfs)
  have J : PySem.W.InstAt s.heap a oe C (some od) := ⟨hget, hz.1, by unfold PySem.W.notCls; rw [hv] <;> rfl, by rw [hz.2]; exact ho⟩
  have Z := PySem.W.kitx_exc (K := X.K) (C := C) (x := a) (ox := oe) (od := some od) T.hcl T.hga T.hgt T.hsub T.ha T.hn T.htk T.hm
  cases c with
  | ref D =>
    obtain rfl : u2 = Value.ref D := r2
    exact PySem.W.kia_one Z I.kIn J hb (fun z => nomatch z) fun tk => ⟨.bl b, H, I.kept (t' := tk) fun _ _ z => z, rfl, q⟩
  | ty n =>
    obtain rfl : u2 = Value.type n := r2
    exact PySem.W.kia_one Z I.kIn J hb (fun z => nomatch z) fun tk => ⟨.bl b, H, I.kept (t' := tk) fun _ _ z => z, rfl, q⟩
  | _ => cases hb
def rLenA (K : PySem.W.Frag) : List V → Hp → VK → Prop := fun xs H Q => ∃ p, xs = [.ref p] ∧ ∃ ys, itsO (ob K H p) = some ys ∧ Q (.int ys.length) H
/-- a wish of the right number of slots is wish enough -/
theorem takes_len {X : Cx} {W : WX} (t : Takes X W) : Takes X (fun cls d σ H => σ.length = X.N.length → W cls d σ H) := fun u s' ⟨a, B, sI, pins, σ, H, cls, d, e, I, nb, up, sky, na, os, ag, w⟩ =>
  t u s' ⟨a, B, sI, pins, σ, H, cls, d, e, I, nb, up, sky, na, os, ag, w I.len⟩
/-- what the law's asking makes of a call: told, or BadValue and what it names -/
def TAsk (K : PySem.W.Frag) (C : Addr) : (XK → Hp → VK → Prop) → Hp → VK → Prop := fun tl H Q =>
  tl (fun cls d H' => cls = .ref C ∧ ∃ dd y, d = some dd ∧ H' dd = some (.xd [("what", y)]) ∧ ∀ p H'', Same H' H'' → ob K H'' p = some (.tup [.str "BadValue", y]) → Q (.ref p) H'') H
    (fun v H1 => ([V.str "told", v] : List V).length ≤ sizeLine ∧ ∀ p, H1 p = none → K.lookup p = none → Q (.ref p) (upd H1 p (.tup [.str "told", v])))
abbrev sAsked : Stmt := topS 52
theorem scAsked : FnScope ["_law_call", "e", "_law_kinds"] ["_law_call"] (defScope sAsked) := ⟨rfl, rfl, rfl, by decide +kernel, rfl, by decide +kernel, by decide +kernel⟩

theorem asked_gives {X : Cx} {C S : Addr} {A : String → Addr} {g : Addr} {cdg : Value} {q : Str} (Z : Bt X.K X.mg) (B : BvT X.K X.mg C) (T : AskT X.K X.mg C S A) : LamX.GivesTo X ["_law_call", "e", "_law_kinds"] "_law_asked" (defScope sAsked) g cdg (defBody sAsked) "_law_call" q (TAsk X.K C) := by
  intro f c' s H Q tl act hc h
  refine ⟨_, pss_one (ps_try_as (X := (cxOf C8.CX0 X.prog X.w X.K X.mg X.base ["_law_call", "e", "_law_kinds"] "_law_asked" (defScope sAsked) g cdg X.A X.stack s H C8.E0).nox) (i := 1) (c := .ref S)
      (tb := fun W D σ H => ∃ Ech : XK, (∀ cls d σ' H', Ech cls d H' → σ'.length = 3 → W cls d σ' H') ∧ tRet (tTp X.K (tCons (tC (.str "told")) (tCons (fun σZ HZ Q => σZ[0]? = some (some (.ref f)) ∧ HZ c' = some (LamX.CodeO c' q) ∧ tl Ech HZ Q) L2.tNil))) D σ H)
      rfl rfl scAsked.nd rfl rfl ⟨rfl, by decide, .inl T.sky⟩ takes0 (fun W pn xe tk _ => ?_) (fun a oe cls d pn hz hf => (pss_cons (ps_set (i := 2) scAsked.nd rfl (.inl rfl) (show PE (Cx.suite (cxOf C8.CX0 X.prog X.w X.K X.mg X.base ["_law_call", "e", "_law_kinds"] "_law_asked" (defScope sAsked) g cdg X.A X.stack s H C8.E0).nox a ((a, oe) :: pn)) _ (tLs X.K L2.tNil) from pe_ls pa_nil))
      (pss_cons (ps_if (pt_val (pe_callB (call_isX (X := (cxOf C8.CX0 X.prog X.w X.K X.mg X.base ["_law_call", "e", "_law_kinds"] "_law_asked" (defScope sAsked) g cdg X.A X.stack s H C8.E0).nox) (a := a) (pn := pn) T hz hf) (by rfl) Z.b_isinstance (by decide +kernel) (pa_cons (pv 1) (pa_cons (pe_glob (v := .ref (A "BadValue")) (by rfl) (T.g "BadValue" (by decide)) rfl) pa_nil)))) (pss_one (ps_expr (show PE (Cx.suite (cxOf C8.CX0 X.prog X.w X.K X.mg X.base ["_law_call", "e", "_law_kinds"] "_law_asked" (defScope sAsked) g cdg X.A X.stack s H C8.E0).nox a ((a, oe) :: pn)) _ (tBM X.K "list" rAppend (tVar 2) (tCons (tTp X.K (tCons (tC (.str "BadValue")) (tCons (tXf a cls d C "what" (tVar 1)) L2.tNil))) L2.tNil)) from pe_bm PySem.F.plainAttrs_list PySem.F.slot_list_append PySem.F.type_list_append mt_append (pv 2) (pa_cons (pe_tp (pa_cons pe_str (pa_cons (pe_xf (X := (cxOf C8.CX0 X.prog X.w X.K X.mg X.base ["_law_call", "e", "_law_kinds"] "_law_asked" (defScope sAsked) g cdg X.A X.stack s H C8.E0).nox) (a := a) (pn := pn) T.xf B.no hz hf (pv 1)) pa_nil))) pa_nil)))) pss_nil)
      (pss_cons (ps_if (pt_val (pe_callB (call_isX (X := (cxOf C8.CX0 X.prog X.w X.K X.mg X.base ["_law_call", "e", "_law_kinds"] "_law_asked" (defScope sAsked) g cdg X.A X.stack s H C8.E0).nox) (a := a) (pn := pn) T hz hf) (by rfl) Z.b_isinstance (by decide +kernel) (pa_cons (pv 1) (pa_cons (pe_glob (v := .ref (A "Mismatch")) (by rfl) (T.g "Mismatch" (by decide)) rfl) pa_nil)))) (pss_one ps_never) pss_nil)
      (pss_cons (ps_if (pt_val (pe_callB (call_isX (X := (cxOf C8.CX0 X.prog X.w X.K X.mg X.base ["_law_call", "e", "_law_kinds"] "_law_asked" (defScope sAsked) g cdg X.A X.stack s H C8.E0).nox) (a := a) (pn := pn) T hz hf) (by rfl) Z.b_isinstance (by decide +kernel) (pa_cons (pv 1) (pa_cons (pe_glob (v := .ref (A "Still")) (by rfl) (T.g "Still" (by decide)) rfl) pa_nil)))) (pss_one ps_never) pss_nil)
      (pss_cons (ps_if (pt_val (pe_callB (call_isX (X := (cxOf C8.CX0 X.prog X.w X.K X.mg X.base ["_law_call", "e", "_law_kinds"] "_law_asked" (defScope sAsked) g cdg X.A X.stack s H C8.E0).nox) (a := a) (pn := pn) T hz hf) (by rfl) Z.b_isinstance (by decide +kernel) (pa_cons (pv 1) (pa_cons (pe_glob (v := .ref (A "Endless")) (by rfl) (T.g "Endless" (by decide)) rfl) pa_nil)))) (pss_one ps_never) pss_nil)
      (pss_cons (ps_if (pt_val (pe_callB (call_isX (X := (cxOf C8.CX0 X.prog X.w X.K X.mg X.base ["_law_call", "e", "_law_kinds"] "_law_asked" (defScope sAsked) g cdg X.A X.stack s H C8.E0).nox) (a := a) (pn := pn) T hz hf) (by rfl) Z.b_isinstance (by decide +kernel) (pa_cons (pv 1) (pa_cons (pe_glob (v := .ref (A "TooMany")) (by rfl) (T.g "TooMany" (by decide)) rfl) pa_nil)))) (pss_one ps_never) pss_nil)
      (pss_cons (ps_if (pt_val (pe_callB (call_isX (X := (cxOf C8.CX0 X.prog X.w X.K X.mg X.base ["_law_call", "e", "_law_kinds"] "_law_asked" (defScope sAsked) g cdg X.A X.stack s H C8.E0).nox) (a := a) (pn := pn) T hz hf) (by rfl) Z.b_isinstance (by decide +kernel) (pa_cons (pv 1) (pa_cons (pe_glob (v := .ref (A "NoName")) (by rfl) (T.g "NoName" (by decide)) rfl) pa_nil)))) (pss_one ps_never) pss_nil)
      (pss_cons (ps_if (pt_val (pe_callB (call_isX (X := (cxOf C8.CX0 X.prog X.w X.K X.mg X.base ["_law_call", "e", "_law_kinds"] "_law_asked" (defScope sAsked) g cdg X.A X.stack s H C8.E0).nox) (a := a) (pn := pn) T hz hf) (by rfl) Z.b_isinstance (by decide +kernel) (pa_cons (pv 1) (pa_cons (pe_glob (v := .ref (A "Taken")) (by rfl) (T.g "Taken" (by decide)) rfl) pa_nil)))) (pss_one ps_never) pss_nil)
      (pss_cons (ps_if (pt_val (pe_callB (call_isX (X := (cxOf C8.CX0 X.prog X.w X.K X.mg X.base ["_law_call", "e", "_law_kinds"] "_law_asked" (defScope sAsked) g cdg X.A X.stack s H C8.E0).nox) (a := a) (pn := pn) T hz hf) (by rfl) Z.b_isinstance (by decide +kernel) (pa_cons (pv 1) (pa_cons (pe_glob (v := .ref (A "Locked")) (by rfl) (T.g "Locked" (by decide)) rfl) pa_nil)))) (pss_one ps_never) pss_nil)
      (pss_cons (ps_if (pt_val (pe_callB (call_isX (X := (cxOf C8.CX0 X.prog X.w X.K X.mg X.base ["_law_call", "e", "_law_kinds"] "_law_asked" (defScope sAsked) g cdg X.A X.stack s H C8.E0).nox) (a := a) (pn := pn) T hz hf) (by rfl) Z.b_isinstance (by decide +kernel) (pa_cons (pv 1) (pa_cons (pe_glob (v := .ref (A "Looped")) (by rfl) (T.g "Looped" (by decide)) rfl) pa_nil)))) (pss_one ps_never) pss_nil)
      (pss_cons (ps_if (pt_val (pe_callB (call_isX (X := (cxOf C8.CX0 X.prog X.w X.K X.mg X.base ["_law_call", "e", "_law_kinds"] "_law_asked" (defScope sAsked) g cdg X.A X.stack s H C8.E0).nox) (a := a) (pn := pn) T hz hf) (by rfl) Z.b_isinstance (by decide +kernel) (pa_cons (pv 1) (pa_cons (pe_glob (v := .ref (A "Broken")) (by rfl) (T.g "Broken" (by decide)) rfl) pa_nil)))) (pss_one ps_never) pss_nil)
      (pss_cons (ps_if (pt_val (pe_callB (call_isX (X := (cxOf C8.CX0 X.prog X.w X.K X.mg X.base ["_law_call", "e", "_law_kinds"] "_law_asked" (defScope sAsked) g cdg X.A X.stack s H C8.E0).nox) (a := a) (pn := pn) T hz hf) (by rfl) Z.b_isinstance (by decide +kernel) (pa_cons (pv 1) (pa_cons (pe_glob (v := .ref (A "ReadError")) (by rfl) (T.g "ReadError" (by decide)) rfl) pa_nil)))) (pss_one ps_never) pss_nil)
      (pss_cons (ps_if (PW.pt (pw_or (pt_cmpR op_ne (pe_callB (show CallR (Cx.suite (cxOf C8.CX0 X.prog X.w X.K X.mg X.base ["_law_call", "e", "_law_kinds"] "_law_asked" (defScope sAsked) g cdg X.A X.stack s H C8.E0).nox a ((a, oe) :: pn)) (.builtin "len") (rLenA X.K) from call_lenA) (by rfl) Z.b_len PySem.boot_len (pa_cons (pv 2) pa_nil)) pe_int (nomark _)) (pw_or1 (pt_not (pt_val (pe_callB (call_isX (X := (cxOf C8.CX0 X.prog X.w X.K X.mg X.base ["_law_call", "e", "_law_kinds"] "_law_asked" (defScope sAsked) g cdg X.A X.stack s H C8.E0).nox) (a := a) (pn := pn) T hz hf) (by rfl) Z.b_isinstance (by decide +kernel) (pa_cons (pv 1) (pa_cons (pe_bltn (v := .ty "ValueError") (by rfl) T.b_VE (by decide +kernel) rfl) pa_nil)))))))) (pss_one ps_never) pss_nil)
      (pss_one (ps_ret (pe_ix (show IxR (Cx.suite (cxOf C8.CX0 X.prog X.w X.K X.mg X.base ["_law_call", "e", "_law_kinds"] "_law_asked" (defScope sAsked) g cdg X.A X.stack s H C8.E0).nox a ((a, oe) :: pn)) (rIxA X.K) from ix_any) (pv 2) pe_int (fun _ _ => rfl))))))))))))))))))), ?_⟩
  · refine ⟨fun pins s' σ H' D I h' => ?_⟩
    obtain ⟨Ech, hW, h2⟩ := h'
    exact (pss_one (ps_ret (pe_tp (pa_cons pe_str (pa_cons (act _ pn xe Ech _ _ (takes_len tk) (fun cls d σ' H' e l => hW cls d σ' H' e l)) pa_nil))))).run pins s' σ H' D I h2
  · refine ⟨fun cls d H' => cls = .ref C ∧ ∃ dd y, d = some dd ∧ H' dd = some (.xd [("what", y)]) ∧ ∀ p H'', Same H' H'' → ob X.K H'' p = some (.tup [.str "BadValue", y]) → Q (.ref p) H'', fun cls d σ' H' e l => ?_, rfl, hc, h⟩
    obtain ⟨rfl, dd, y, rfl, hd, k⟩ := e
    obtain ⟨x0, x1, x2, rfl⟩ : ∃ x0 x1 x2, σ' = [x0, x1, x2] := by
      match σ', l with
      | [x0, x1, x2], _ => exact ⟨x0, x1, x2, rfl⟩
    refine ⟨true, T.exm, fun _ a ha => ?_, fun z => nomatch z⟩
    refine ⟨Nat.zero_le _, fun l hl kl => ?_⟩
    have nl : dd ≠ l := ne_of_none hd hl
    have hd1 : upd H' l (.lst []) dd = some (.xd [("what", y)]) := by rw [upd_ne nl]; exact hd
    refine ⟨_, rfl, .ref (A "BadValue"), rfl, rfl, dd, rfl, ⟨_, hd1⟩, true, (T.k "BadValue" (by decide)).trans rfl, true, rfl, iteT ?_⟩
    refine ⟨_, rfl, .inl ⟨rfl, _, .of upd_same⟩, _, rfl, rfl, rfl, dd, _, y, rfl, hd1, rfl, by rw [sizeLine_eq]; show 2 ≤ 16777216; decide, fun p hp kp => ?_⟩
    have npl : p ≠ l := by rintro rfl; rw [upd_same] at hp; cases hp
    have npd : dd ≠ p := ne_of_none hd1 hp
    refine ⟨l, [], .ref p, rfl, rfl, by rw [upd_ne (Ne.symm npl), upd_same], by rw [sizeLine_eq]; decide, ?_⟩
    have hp0 : H' p = none := by rw [upd_ne npl] at hp; exact hp
    have hd3 : upd (upd (upd H' l (.lst [])) p (.tup [.str "BadValue", y])) l (.lst ([] ++ [.ref p])) dd = some (.xd [("what", y)]) := by rw [upd_ne nl, upd_ne npd]; exact hd1
    have s3 : Same H' (upd (upd (upd H' l (.lst [])) p (.tup [.str "BadValue", y])) l (.lst ([] ++ [.ref p]))) := fun b o e => by
      rw [upd_ne (ne_of_none e hl), upd_ne (ne_of_none e hp0), upd_ne (ne_of_none e hl)]
      exact e
    have ol : ob X.K (upd (upd (upd H' l (.lst [])) p (.tup [.str "BadValue", y])) l (.lst ([] ++ [.ref p]))) l = some (.lst [.ref p]) := ob_new kl
    have op : ob X.K (upd (upd (upd H' l (.lst [])) p (.tup [.str "BadValue", y])) l (.lst ([] ++ [.ref p]))) p = some (.tup [.str "BadValue", y]) := by rw [ob_none kp, upd_ne npl, upd_same]
    generalize upd (upd (upd H' l (.lst [])) p (.tup [.str "BadValue", y])) l (.lst ([] ++ [.ref p])) = H3 at hd3 s3 ol op ⊢
    refine ⟨_, rfl, .ref (A "Mismatch"), rfl, rfl, dd, rfl, ⟨_, hd3⟩, false, (T.k "Mismatch" (by decide)).trans rfl, false, rfl, iteF ?_⟩
    refine ⟨_, rfl, .ref (A "Still"), rfl, rfl, dd, rfl, ⟨_, hd3⟩, false, (T.k "Still" (by decide)).trans rfl, false, rfl, iteF ?_⟩
    refine ⟨_, rfl, .ref (A "Endless"), rfl, rfl, dd, rfl, ⟨_, hd3⟩, false, (T.k "Endless" (by decide)).trans rfl, false, rfl, iteF ?_⟩
    refine ⟨_, rfl, .ref (A "TooMany"), rfl, rfl, dd, rfl, ⟨_, hd3⟩, false, (T.k "TooMany" (by decide)).trans rfl, false, rfl, iteF ?_⟩
    refine ⟨_, rfl, .ref (A "NoName"), rfl, rfl, dd, rfl, ⟨_, hd3⟩, false, (T.k "NoName" (by decide)).trans rfl, false, rfl, iteF ?_⟩
    refine ⟨_, rfl, .ref (A "Taken"), rfl, rfl, dd, rfl, ⟨_, hd3⟩, false, (T.k "Taken" (by decide)).trans rfl, false, rfl, iteF ?_⟩
    refine ⟨_, rfl, .ref (A "Locked"), rfl, rfl, dd, rfl, ⟨_, hd3⟩, false, (T.k "Locked" (by decide)).trans rfl, false, rfl, iteF ?_⟩
    refine ⟨_, rfl, .ref (A "Looped"), rfl, rfl, dd, rfl, ⟨_, hd3⟩, false, (T.k "Looped" (by decide)).trans rfl, false, rfl, iteF ?_⟩
    refine ⟨_, rfl, .ref (A "Broken"), rfl, rfl, dd, rfl, ⟨_, hd3⟩, false, (T.k "Broken" (by decide)).trans rfl, false, rfl, iteF ?_⟩
    refine ⟨_, rfl, .ref (A "ReadError"), rfl, rfl, dd, rfl, ⟨_, hd3⟩, false, (T.k "ReadError" (by decide)).trans rfl, false, rfl, iteF ?_⟩
    refine ⟨_, rfl, l, rfl, _, (by rw [ol]; rfl), rfl, false, rfl, iteF ?_⟩
    refine ⟨_, rfl, .ty "ValueError", rfl, rfl, dd, rfl, ⟨_, hd3⟩, true, T.ve, true, rfl, iteF ?_⟩
    exact ⟨_, rfl, l, 0, rfl, rfl, [.ref p], (by rw [ol]; rfl), .ref p, rfl, k p H3 s3 op⟩
end My

namespace My
open PySem PySem.Spec PyProof.Rows L2
section
variable {P : Program} {w : World} {K : PySem.W.Frag} {mg : Str → Option Value} {base : Heap}
end
/-- what the written part says of a caught Mismatch, that has no dict -/
structure AskM (K : PySem.W.Frag) (M S : Addr) (A : String → Addr) : Prop where
  exm : PySem.W.exmOne K (.ref M) (.ref S) = some true
  k : ∀ n ∈ ["BadValue", "Mismatch", "Still", "Endless", "TooMany", "NoName", "Taken", "Locked", "Looped", "Broken", "ReadError"], PySem.W.kitOne K (.ref M) (.ref (A n)) = some (n == "Mismatch")
  ve : PySem.W.kitOne K (.ref M) (.type "ValueError") = some true
  e : ExcC K M
def rIsX2 (K : PySem.W.Frag) (C M a : Addr) (cls : Value) (d : Option Addr) : List V → Hp → VK → Prop := fun xs H Q => rIsX K C a cls d xs H Q ∨ (cls = .ref M ∧ d = none ∧ ∃ c b, xs = [.ref a, c] ∧ kitV K M c = some b ∧ Q (.bl b) H)
theorem call_isX2 {X : Cx} {C M S a : Addr} {A : String → Addr} {oe : Obj} {cls : Value} {d : Option Addr} {pn : List (Addr × Obj)} (T : AskT X.K X.mg C S A) (TM : AskM X.K M S A) (hz : Zc cls d oe) (hf : ∃ vs, oe.data = .fields vs) : CallR (X.suite a ((a, oe) :: pn)) (.builtin "isinstance") (rIsX2 X.K C M a cls d) := fun pins s σ H xs us Q I r h => by
  rcases h with h | ⟨rfl, rfl, c, b, rfl, hb, q⟩
  · exact call_isX T hz hf pins s σ H xs us Q I r h
  · refine call_isE TM.e hz hf pins s σ H _ us Q I r ?_
    cases c with
    | ref D => exact ⟨_, .ref D, b, rfl, fun u hu => hu, hb, q⟩
    | ty n => exact ⟨_, .type n, b, rfl, fun u hu => hu, hb, q⟩
    | _ => cases hb
/-- what the asking makes of a call: told, BadValue and what it names, or Mismatch -/
def TAsk2 (K : PySem.W.Frag) (C M : Addr) : (XK → Hp → VK → Prop) → Hp → VK → Prop := fun tl H Q =>
  tl (fun cls d H' => (cls = .ref C ∧ ∃ dd y, d = some dd ∧ H' dd = some (.xd [("what", y)]) ∧ ∀ p H'', Same H' H'' → ob K H'' p = some (.tup [.str "BadValue", y]) → Q (.ref p) H'') ∨ (cls = .ref M ∧ d = none ∧ ∀ p H'', Same H' H'' → ob K H'' p = some (.tup [.str "Mismatch", .non]) → Q (.ref p) H'')) H
    (fun v H1 => ([V.str "told", v] : List V).length ≤ sizeLine ∧ ∀ p, H1 p = none → K.lookup p = none → Q (.ref p) (upd H1 p (.tup [.str "told", v])))

theorem asked_gives2 {X : Cx} {C M S : Addr} {A : String → Addr} {g : Addr} {cdg : Value} {q : Str} (Z : Bt X.K X.mg) (B : BvT X.K X.mg C) (T : AskT X.K X.mg C S A) (TM : AskM X.K M S A) : LamX.GivesTo X ["_law_call", "e", "_law_kinds"] "_law_asked" (defScope sAsked) g cdg (defBody sAsked) "_law_call" q (TAsk2 X.K C M) := by
  intro f c' s H Q tl act hc h
  refine ⟨_, pss_one (ps_try_as (X := (cxOf C8.CX0 X.prog X.w X.K X.mg X.base ["_law_call", "e", "_law_kinds"] "_law_asked" (defScope sAsked) g cdg X.A X.stack s H C8.E0).nox) (i := 1) (c := .ref S)
      (tb := fun W D σ H => ∃ Ech : XK, (∀ cls d σ' H', Ech cls d H' → σ'.length = 3 → W cls d σ' H') ∧ tRet (tTp X.K (tCons (tC (.str "told")) (tCons (fun σZ HZ Q => σZ[0]? = some (some (.ref f)) ∧ HZ c' = some (LamX.CodeO c' q) ∧ tl Ech HZ Q) L2.tNil))) D σ H)
      rfl rfl scAsked.nd rfl rfl ⟨rfl, by decide, .inl T.sky⟩ takes0 (fun W pn xe tk _ => ?_) (fun a oe cls d pn hz hf => (pss_cons (ps_set (i := 2) scAsked.nd rfl (.inl rfl) (show PE (Cx.suite (cxOf C8.CX0 X.prog X.w X.K X.mg X.base ["_law_call", "e", "_law_kinds"] "_law_asked" (defScope sAsked) g cdg X.A X.stack s H C8.E0).nox a ((a, oe) :: pn)) _ (tLs X.K L2.tNil) from pe_ls pa_nil))
      (pss_cons (ps_if (pt_val (pe_callB (call_isX2 (X := (cxOf C8.CX0 X.prog X.w X.K X.mg X.base ["_law_call", "e", "_law_kinds"] "_law_asked" (defScope sAsked) g cdg X.A X.stack s H C8.E0).nox) (a := a) (pn := pn) T TM hz hf) (by rfl) Z.b_isinstance (by decide +kernel) (pa_cons (pv 1) (pa_cons (pe_glob (v := .ref (A "BadValue")) (by rfl) (T.g "BadValue" (by decide)) rfl) pa_nil)))) (pss_one (ps_expr (show PE (Cx.suite (cxOf C8.CX0 X.prog X.w X.K X.mg X.base ["_law_call", "e", "_law_kinds"] "_law_asked" (defScope sAsked) g cdg X.A X.stack s H C8.E0).nox a ((a, oe) :: pn)) _ (tBM X.K "list" rAppend (tVar 2) (tCons (tTp X.K (tCons (tC (.str "BadValue")) (tCons (tXf a cls d C "what" (tVar 1)) L2.tNil))) L2.tNil)) from pe_bm PySem.F.plainAttrs_list PySem.F.slot_list_append PySem.F.type_list_append mt_append (pv 2) (pa_cons (pe_tp (pa_cons pe_str (pa_cons (pe_xf (X := (cxOf C8.CX0 X.prog X.w X.K X.mg X.base ["_law_call", "e", "_law_kinds"] "_law_asked" (defScope sAsked) g cdg X.A X.stack s H C8.E0).nox) (a := a) (pn := pn) T.xf B.no hz hf (pv 1)) pa_nil))) pa_nil)))) pss_nil)
      (pss_cons (ps_if (pt_val (pe_callB (call_isX2 (X := (cxOf C8.CX0 X.prog X.w X.K X.mg X.base ["_law_call", "e", "_law_kinds"] "_law_asked" (defScope sAsked) g cdg X.A X.stack s H C8.E0).nox) (a := a) (pn := pn) T TM hz hf) (by rfl) Z.b_isinstance (by decide +kernel) (pa_cons (pv 1) (pa_cons (pe_glob (v := .ref (A "Mismatch")) (by rfl) (T.g "Mismatch" (by decide)) rfl) pa_nil)))) (pss_one (ps_expr (show PE (Cx.suite (cxOf C8.CX0 X.prog X.w X.K X.mg X.base ["_law_call", "e", "_law_kinds"] "_law_asked" (defScope sAsked) g cdg X.A X.stack s H C8.E0).nox a ((a, oe) :: pn)) _ (tBM X.K "list" rAppend (tVar 2) (tCons (tTp X.K (tCons (tC (.str "Mismatch")) (tCons (tC .non) L2.tNil))) L2.tNil)) from pe_bm PySem.F.plainAttrs_list PySem.F.slot_list_append PySem.F.type_list_append mt_append (pv 2) (pa_cons (pe_tp (pa_cons pe_str (pa_cons pe_non pa_nil))) pa_nil)))) pss_nil)
      (pss_cons (ps_if (pt_val (pe_callB (call_isX2 (X := (cxOf C8.CX0 X.prog X.w X.K X.mg X.base ["_law_call", "e", "_law_kinds"] "_law_asked" (defScope sAsked) g cdg X.A X.stack s H C8.E0).nox) (a := a) (pn := pn) T TM hz hf) (by rfl) Z.b_isinstance (by decide +kernel) (pa_cons (pv 1) (pa_cons (pe_glob (v := .ref (A "Still")) (by rfl) (T.g "Still" (by decide)) rfl) pa_nil)))) (pss_one ps_never) pss_nil)
      (pss_cons (ps_if (pt_val (pe_callB (call_isX2 (X := (cxOf C8.CX0 X.prog X.w X.K X.mg X.base ["_law_call", "e", "_law_kinds"] "_law_asked" (defScope sAsked) g cdg X.A X.stack s H C8.E0).nox) (a := a) (pn := pn) T TM hz hf) (by rfl) Z.b_isinstance (by decide +kernel) (pa_cons (pv 1) (pa_cons (pe_glob (v := .ref (A "Endless")) (by rfl) (T.g "Endless" (by decide)) rfl) pa_nil)))) (pss_one ps_never) pss_nil)
      (pss_cons (ps_if (pt_val (pe_callB (call_isX2 (X := (cxOf C8.CX0 X.prog X.w X.K X.mg X.base ["_law_call", "e", "_law_kinds"] "_law_asked" (defScope sAsked) g cdg X.A X.stack s H C8.E0).nox) (a := a) (pn := pn) T TM hz hf) (by rfl) Z.b_isinstance (by decide +kernel) (pa_cons (pv 1) (pa_cons (pe_glob (v := .ref (A "TooMany")) (by rfl) (T.g "TooMany" (by decide)) rfl) pa_nil)))) (pss_one ps_never) pss_nil)
      (pss_cons (ps_if (pt_val (pe_callB (call_isX2 (X := (cxOf C8.CX0 X.prog X.w X.K X.mg X.base ["_law_call", "e", "_law_kinds"] "_law_asked" (defScope sAsked) g cdg X.A X.stack s H C8.E0).nox) (a := a) (pn := pn) T TM hz hf) (by rfl) Z.b_isinstance (by decide +kernel) (pa_cons (pv 1) (pa_cons (pe_glob (v := .ref (A "NoName")) (by rfl) (T.g "NoName" (by decide)) rfl) pa_nil)))) (pss_one ps_never) pss_nil)
      (pss_cons (ps_if (pt_val (pe_callB (call_isX2 (X := (cxOf C8.CX0 X.prog X.w X.K X.mg X.base ["_law_call", "e", "_law_kinds"] "_law_asked" (defScope sAsked) g cdg X.A X.stack s H C8.E0).nox) (a := a) (pn := pn) T TM hz hf) (by rfl) Z.b_isinstance (by decide +kernel) (pa_cons (pv 1) (pa_cons (pe_glob (v := .ref (A "Taken")) (by rfl) (T.g "Taken" (by decide)) rfl) pa_nil)))) (pss_one ps_never) pss_nil)
      (pss_cons (ps_if (pt_val (pe_callB (call_isX2 (X := (cxOf C8.CX0 X.prog X.w X.K X.mg X.base ["_law_call", "e", "_law_kinds"] "_law_asked" (defScope sAsked) g cdg X.A X.stack s H C8.E0).nox) (a := a) (pn := pn) T TM hz hf) (by rfl) Z.b_isinstance (by decide +kernel) (pa_cons (pv 1) (pa_cons (pe_glob (v := .ref (A "Locked")) (by rfl) (T.g "Locked" (by decide)) rfl) pa_nil)))) (pss_one ps_never) pss_nil)
      (pss_cons (ps_if (pt_val (pe_callB (call_isX2 (X := (cxOf C8.CX0 X.prog X.w X.K X.mg X.base ["_law_call", "e", "_law_kinds"] "_law_asked" (defScope sAsked) g cdg X.A X.stack s H C8.E0).nox) (a := a) (pn := pn) T TM hz hf) (by rfl) Z.b_isinstance (by decide +kernel) (pa_cons (pv 1) (pa_cons (pe_glob (v := .ref (A "Looped")) (by rfl) (T.g "Looped" (by decide)) rfl) pa_nil)))) (pss_one ps_never) pss_nil)
      (pss_cons (ps_if (pt_val (pe_callB (call_isX2 (X := (cxOf C8.CX0 X.prog X.w X.K X.mg X.base ["_law_call", "e", "_law_kinds"] "_law_asked" (defScope sAsked) g cdg X.A X.stack s H C8.E0).nox) (a := a) (pn := pn) T TM hz hf) (by rfl) Z.b_isinstance (by decide +kernel) (pa_cons (pv 1) (pa_cons (pe_glob (v := .ref (A "Broken")) (by rfl) (T.g "Broken" (by decide)) rfl) pa_nil)))) (pss_one ps_never) pss_nil)
      (pss_cons (ps_if (pt_val (pe_callB (call_isX2 (X := (cxOf C8.CX0 X.prog X.w X.K X.mg X.base ["_law_call", "e", "_law_kinds"] "_law_asked" (defScope sAsked) g cdg X.A X.stack s H C8.E0).nox) (a := a) (pn := pn) T TM hz hf) (by rfl) Z.b_isinstance (by decide +kernel) (pa_cons (pv 1) (pa_cons (pe_glob (v := .ref (A "ReadError")) (by rfl) (T.g "ReadError" (by decide)) rfl) pa_nil)))) (pss_one ps_never) pss_nil)
      (pss_cons (ps_if (PW.pt (pw_or (pt_cmpR op_ne (pe_callB (show CallR (Cx.suite (cxOf C8.CX0 X.prog X.w X.K X.mg X.base ["_law_call", "e", "_law_kinds"] "_law_asked" (defScope sAsked) g cdg X.A X.stack s H C8.E0).nox a ((a, oe) :: pn)) (.builtin "len") (rLenA X.K) from call_lenA) (by rfl) Z.b_len PySem.boot_len (pa_cons (pv 2) pa_nil)) pe_int (nomark _)) (pw_or1 (pt_not (pt_val (pe_callB (call_isX2 (X := (cxOf C8.CX0 X.prog X.w X.K X.mg X.base ["_law_call", "e", "_law_kinds"] "_law_asked" (defScope sAsked) g cdg X.A X.stack s H C8.E0).nox) (a := a) (pn := pn) T TM hz hf) (by rfl) Z.b_isinstance (by decide +kernel) (pa_cons (pv 1) (pa_cons (pe_bltn (v := .ty "ValueError") (by rfl) T.b_VE (by decide +kernel) rfl) pa_nil)))))))) (pss_one ps_never) pss_nil)
      (pss_one (ps_ret (pe_ix (show IxR (Cx.suite (cxOf C8.CX0 X.prog X.w X.K X.mg X.base ["_law_call", "e", "_law_kinds"] "_law_asked" (defScope sAsked) g cdg X.A X.stack s H C8.E0).nox a ((a, oe) :: pn)) (rIxA X.K) from ix_any) (pv 2) pe_int (fun _ _ => rfl))))))))))))))))))), ?_⟩
  · refine ⟨fun pins s' σ H' D I h' => ?_⟩
    obtain ⟨Ech, hW, h2⟩ := h'
    exact (pss_one (ps_ret (pe_tp (pa_cons pe_str (pa_cons (act _ pn xe Ech _ _ (takes_len tk) (fun cls d σ' H' e l => hW cls d σ' H' e l)) pa_nil))))).run pins s' σ H' D I h2
  · refine ⟨fun cls d H' => (cls = .ref C ∧ ∃ dd y, d = some dd ∧ H' dd = some (.xd [("what", y)]) ∧ ∀ p H'', Same H' H'' → ob X.K H'' p = some (.tup [.str "BadValue", y]) → Q (.ref p) H'') ∨ (cls = .ref M ∧ d = none ∧ ∀ p H'', Same H' H'' → ob X.K H'' p = some (.tup [.str "Mismatch", .non]) → Q (.ref p) H''), fun cls d σ' H' e l => ?_, rfl, hc, h⟩
    obtain ⟨x0, x1, x2, rfl⟩ : ∃ x0 x1 x2, σ' = [x0, x1, x2] := by
      match σ', l with
      | [x0, x1, x2], _ => exact ⟨x0, x1, x2, rfl⟩
    rcases e with ⟨rfl, dd, y, rfl, hd, k⟩ | ⟨rfl, rfl, k⟩
    · refine ⟨true, T.exm, fun _ a ha => ?_, fun z => nomatch z⟩
      refine ⟨Nat.zero_le _, fun l hl kl => ?_⟩
      have nl : dd ≠ l := ne_of_none hd hl
      have hd1 : upd H' l (.lst []) dd = some (.xd [("what", y)]) := by rw [upd_ne nl]; exact hd
      refine ⟨_, rfl, .inl ⟨.ref (A "BadValue"), rfl, rfl, dd, rfl, ⟨_, hd1⟩, true, (T.k "BadValue" (by decide)).trans rfl, true, rfl, iteT ?_⟩⟩
      refine ⟨_, rfl, .inl ⟨rfl, _, .of upd_same⟩, _, rfl, rfl, rfl, dd, _, y, rfl, hd1, rfl, by rw [sizeLine_eq]; show 2 ≤ 16777216; decide, fun p hp kp => ?_⟩
      have npd : dd ≠ p := ne_of_none hd1 hp
      have npl : p ≠ l := by rintro rfl; rw [upd_same] at hp; cases hp
      refine ⟨l, [], .ref p, rfl, rfl, by rw [upd_ne (Ne.symm npl), upd_same], by rw [sizeLine_eq]; decide, ?_⟩
      have hp0 : H' p = none := by rw [upd_ne npl] at hp; exact hp
      have s3 : Same H' (upd (upd (upd H' l (.lst [])) p (.tup [.str "BadValue", y])) l (.lst ([] ++ [.ref p]))) := fun b o e => by
        rw [upd_ne (ne_of_none e hl), upd_ne (ne_of_none e hp0), upd_ne (ne_of_none e hl)]
        exact e
      have ol : ob X.K (upd (upd (upd H' l (.lst [])) p (.tup [.str "BadValue", y])) l (.lst ([] ++ [.ref p]))) l = some (.lst [.ref p]) := ob_new kl
      have op : ob X.K (upd (upd (upd H' l (.lst [])) p (.tup [.str "BadValue", y])) l (.lst ([] ++ [.ref p]))) p = some (.tup [.str "BadValue", y]) := by rw [ob_none kp, upd_ne npl, upd_same]
      have hd3 : upd (upd (upd H' l (.lst [])) p (.tup [.str "BadValue", y])) l (.lst ([] ++ [.ref p])) dd = some (.xd [("what", y)]) := by rw [upd_ne nl, upd_ne npd]; exact hd1
      generalize upd (upd (upd H' l (.lst [])) p (.tup [.str "BadValue", y])) l (.lst ([] ++ [.ref p])) = H3 at hd3 s3 ol op ⊢
      refine ⟨_, rfl, .inl ⟨.ref (A "Mismatch"), rfl, rfl, dd, rfl, ⟨_, hd3⟩, false, (T.k "Mismatch" (by decide)).trans rfl, false, rfl, iteF ?_⟩⟩
      refine ⟨_, rfl, .inl ⟨.ref (A "Still"), rfl, rfl, dd, rfl, ⟨_, hd3⟩, false, (T.k "Still" (by decide)).trans rfl, false, rfl, iteF ?_⟩⟩
      refine ⟨_, rfl, .inl ⟨.ref (A "Endless"), rfl, rfl, dd, rfl, ⟨_, hd3⟩, false, (T.k "Endless" (by decide)).trans rfl, false, rfl, iteF ?_⟩⟩
      refine ⟨_, rfl, .inl ⟨.ref (A "TooMany"), rfl, rfl, dd, rfl, ⟨_, hd3⟩, false, (T.k "TooMany" (by decide)).trans rfl, false, rfl, iteF ?_⟩⟩
      refine ⟨_, rfl, .inl ⟨.ref (A "NoName"), rfl, rfl, dd, rfl, ⟨_, hd3⟩, false, (T.k "NoName" (by decide)).trans rfl, false, rfl, iteF ?_⟩⟩
      refine ⟨_, rfl, .inl ⟨.ref (A "Taken"), rfl, rfl, dd, rfl, ⟨_, hd3⟩, false, (T.k "Taken" (by decide)).trans rfl, false, rfl, iteF ?_⟩⟩
      refine ⟨_, rfl, .inl ⟨.ref (A "Locked"), rfl, rfl, dd, rfl, ⟨_, hd3⟩, false, (T.k "Locked" (by decide)).trans rfl, false, rfl, iteF ?_⟩⟩
      refine ⟨_, rfl, .inl ⟨.ref (A "Looped"), rfl, rfl, dd, rfl, ⟨_, hd3⟩, false, (T.k "Looped" (by decide)).trans rfl, false, rfl, iteF ?_⟩⟩
      refine ⟨_, rfl, .inl ⟨.ref (A "Broken"), rfl, rfl, dd, rfl, ⟨_, hd3⟩, false, (T.k "Broken" (by decide)).trans rfl, false, rfl, iteF ?_⟩⟩
      refine ⟨_, rfl, .inl ⟨.ref (A "ReadError"), rfl, rfl, dd, rfl, ⟨_, hd3⟩, false, (T.k "ReadError" (by decide)).trans rfl, false, rfl, iteF ?_⟩⟩
      refine ⟨_, rfl, l, rfl, _, (by rw [ol]; rfl), rfl, false, rfl, iteF ?_⟩
      refine ⟨_, rfl, .inl ⟨.ty "ValueError", rfl, rfl, dd, rfl, ⟨_, hd3⟩, true, T.ve, true, rfl, iteF ?_⟩⟩
      exact ⟨_, rfl, l, 0, rfl, rfl, [.ref p], (by rw [ol]; rfl), .ref p, rfl, k p H3 s3 op⟩
    · refine ⟨true, TM.exm, fun _ a ha => ?_, fun z => nomatch z⟩
      refine ⟨Nat.zero_le _, fun l hl kl => ?_⟩
      refine ⟨_, rfl, .inr ⟨rfl, rfl, .ref (A "BadValue"), false, rfl, (TM.k "BadValue" (by decide)).trans rfl, false, rfl, iteF ?_⟩⟩
      refine ⟨_, rfl, .inr ⟨rfl, rfl, .ref (A "Mismatch"), true, rfl, (TM.k "Mismatch" (by decide)).trans rfl, true, rfl, iteT ?_⟩⟩
      refine ⟨_, rfl, .inl ⟨rfl, _, .of upd_same⟩, sz2 (by show 2 ≤ 100; decide), fun p hp kp => ?_⟩
      have npl : p ≠ l := by rintro rfl; rw [upd_same] at hp; cases hp
      refine ⟨l, [], .ref p, rfl, rfl, by rw [upd_ne (Ne.symm npl), upd_same], by rw [sizeLine_eq]; decide, ?_⟩
      have hp0 : H' p = none := by rw [upd_ne npl] at hp; exact hp
      have s3 : Same H' (upd (upd (upd H' l (.lst [])) p (.tup [.str "Mismatch", .non])) l (.lst ([] ++ [.ref p]))) := fun b o e => by
        rw [upd_ne (ne_of_none e hl), upd_ne (ne_of_none e hp0), upd_ne (ne_of_none e hl)]
        exact e
      have ol : ob X.K (upd (upd (upd H' l (.lst [])) p (.tup [.str "Mismatch", .non])) l (.lst ([] ++ [.ref p]))) l = some (.lst [.ref p]) := ob_new kl
      have op : ob X.K (upd (upd (upd H' l (.lst [])) p (.tup [.str "Mismatch", .non])) l (.lst ([] ++ [.ref p]))) p = some (.tup [.str "Mismatch", .non]) := by rw [ob_none kp, upd_ne npl, upd_same]
      generalize upd (upd (upd H' l (.lst [])) p (.tup [.str "Mismatch", .non])) l (.lst ([] ++ [.ref p])) = H3 at s3 ol op ⊢
      refine ⟨_, rfl, .inr ⟨rfl, rfl, .ref (A "Still"), false, rfl, (TM.k "Still" (by decide)).trans rfl, false, rfl, iteF ?_⟩⟩
      refine ⟨_, rfl, .inr ⟨rfl, rfl, .ref (A "Endless"), false, rfl, (TM.k "Endless" (by decide)).trans rfl, false, rfl, iteF ?_⟩⟩
      refine ⟨_, rfl, .inr ⟨rfl, rfl, .ref (A "TooMany"), false, rfl, (TM.k "TooMany" (by decide)).trans rfl, false, rfl, iteF ?_⟩⟩
      refine ⟨_, rfl, .inr ⟨rfl, rfl, .ref (A "NoName"), false, rfl, (TM.k "NoName" (by decide)).trans rfl, false, rfl, iteF ?_⟩⟩
      refine ⟨_, rfl, .inr ⟨rfl, rfl, .ref (A "Taken"), false, rfl, (TM.k "Taken" (by decide)).trans rfl, false, rfl, iteF ?_⟩⟩
      refine ⟨_, rfl, .inr ⟨rfl, rfl, .ref (A "Locked"), false, rfl, (TM.k "Locked" (by decide)).trans rfl, false, rfl, iteF ?_⟩⟩
      refine ⟨_, rfl, .inr ⟨rfl, rfl, .ref (A "Looped"), false, rfl, (TM.k "Looped" (by decide)).trans rfl, false, rfl, iteF ?_⟩⟩
      refine ⟨_, rfl, .inr ⟨rfl, rfl, .ref (A "Broken"), false, rfl, (TM.k "Broken" (by decide)).trans rfl, false, rfl, iteF ?_⟩⟩
      refine ⟨_, rfl, .inr ⟨rfl, rfl, .ref (A "ReadError"), false, rfl, (TM.k "ReadError" (by decide)).trans rfl, false, rfl, iteF ?_⟩⟩
      refine ⟨_, rfl, l, rfl, _, (by rw [ol]; rfl), rfl, false, rfl, iteF ?_⟩
      refine ⟨_, rfl, .inr ⟨rfl, rfl, .ty "ValueError", true, rfl, TM.ve, true, rfl, iteF ?_⟩⟩
      exact ⟨_, rfl, l, 0, rfl, rfl, [.ref p], (by rw [ol]; rfl), .ref p, rfl, k p H3 s3 op⟩
end My

namespace My
open PySem PySem.Spec PyProof.Rows L2
section
variable {P : Program} {w : World} {K : PySem.W.Frag} {mg : Str → Option Value} {base : Heap}
end
/-- X(), X an own exception class without own __init__ -/
theorem pmk_own0 {X : Cx} {C : Addr} {bmB : List Value} {B newId initId : String} {x : Str} {p pos : Pos} (F : ExcBaseFacts B newId initId bmB) (q : PySem.W.excIn X.K C bmB newId = true) (gC : X.mg x = some (.ref C)) (kC : PySem.W.keepIn X.K (.ref C) = true) (r : Raises X (.ref C)) (hg : Gl X x)
    (hdb : (x == ("__debug__" : Str)) = false := by decide) : PMk X (.Call (.Name x p) [] [] pos) (fun _ H Q => Q (.ref C) none H) := by
  intro pins s σ H Q I h
  refine wpAny_Call_Name_kw (ld_glob I hg gC ?_ hdb)
  refine PySem.W.callWith_K0 I.kIn kC ?_
  show wpAny _ _ (call (.ref C) []) _ _ _
  obtain ⟨bm, N, nm, qn, bs, hdct, sn, sub, ab, col, dd, k0, k1, k2, k3, k5, mN, hC, hN, hni, T⟩ := exc_obj I.kIn q
  refine wpAny_call_exc_subT F T hC hN hni (fun h' e hm => ?_) (by show 0 ≤ sizeLine; rw [sizeLine_eq]; omega)
  exact mk_of I hm r h (I.hok.gone hm.new)
/-- what the written part says of Mismatch -/
structure MiT (K : PySem.W.Frag) (mg : Str → Option Value) (M : Addr) : Prop where
  g : mg "Mismatch" = some (.ref M)
  kp : PySem.W.keepIn K (.ref M) = true
  ex : ∃ B newId initId bmB, ExcBaseFacts B newId initId bmB ∧ PySem.W.excIn K M bmB newId = true
  sb : PySem.W.subIn K (.ref M) (.type "BaseException") = some true
  ty : PySem.W.typeIn K (.ref M) = some (.type "type")
section
variable {P : Program} {w : World} {K : PySem.W.Frag} {mg : Str → Option Value} {base : Heap}
def spRSX (K : PySem.W.Frag) (M : Addr) : Sp := fun vs H _ E => ∃ (a : Addr) (xs : List V) (d : Int), vs = [.ref a, .int d] ∧ ob K H a = some (.lst xs) ∧ (xs.length : Int) < d + 1 ∧ E (.ref M) none H
theorem kx_RS {M : Addr} (T : Bt K mg) (Mi : MiT K mg M) (D : Dfn K mg "_refuse_short" sRS ["values", "degree"]) : KnX P w K mg base 1 "_refuse_short" ["values", "degree"] (spRSX K M) := by
  refine KnX.mk' D scRS (fun vs H Q E h => ?_) (fun f cdv A outer s H vs Q E hr h => ?_)
  · obtain ⟨a, xs, d, rfl, _⟩ := h
    rfl
  obtain ⟨a, xs, d, rfl, o, hd, k⟩ := h
  obtain ⟨B, newId, initId, bmB, F, q⟩ := Mi.ex
  refine ⟨_, (pss_one (ps_if (pt_cmpR op_lt (pe_callB call_lenA (by rfl) T.b_len PySem.boot_len (pa_cons (pv 0) pa_nil)) (pe_op op_add (pv 1) pe_int) (nomark _)) (pss_one (ps_raise rfl (takes_of rfl rfl rfl rfl) (pmk_own0 F q Mi.g Mi.kp (raises_own Mi.sb Mi.ty) (by rfl)))) pss_nil)), ?_⟩
  exact ⟨_, rfl, a, rfl, _, itsO_ofL o, _, rfl, _, _, rfl, rfl, _, _, rfl, rfl, _, rfl, if_yes (decide_eq_true (by omega)) k⟩
theorem ap_tbB {H : Hp} {Q : VK} {v : V} (hb : BadTb K 60 H v) (k : ∀ H', Same H H' → Q (.bl false) H') : TbA K H v Q := by
  rcases hb with ⟨t, ht, nt⟩ | ⟨a, xs, rfl, o, hx⟩
  · exact .inl ⟨t, ht, nt, k H (Same.refl H)⟩
  · refine .inr ⟨a, xs, rfl, o, ?_⟩
    rcases hx with hx | ⟨l1, l2, ty, x, hx, nf⟩
    · exact .inl ⟨by omega, k H (Same.refl H)⟩
    · refine .inr ⟨l1, by omega, ty, fun H' s => ?_⟩
      rw [show xs.all wholeV = false from List.all_eq_false.mpr ⟨x, hx, by rw [nf]; exact Bool.noConfusion⟩]
      exact k H' s
/-- a good row at a -/
def GoodL (K : PySem.W.Frag) (hi : Nat) (H : Hp) (v : V) : Prop := ∃ (a : Addr) (ns : List Int), v = .ref a ∧ H a = some (.lst (ns.map V.int)) ∧ K.lookup a = none ∧ 1 ≤ ns.length ∧ ns.length ≤ hi
theorem Bv.mono {C : Addr} {H H1 : Hp} {E : XK} {y : V} (h : Bv K C H E y) (s : Same H H1) : Bv K C H1 E y := fun d H' s2 hd => h d H' (s.trans s2) hd
def spCoX (K : PySem.W.Frag) (C M : Addr) : Sp := fun vs H _ E => (∃ v u1 u2 u3, vs = [v, u1, u2, u3] ∧ BadTb K 60 H v ∧ Bv K C H E (.str "values"))
  ∨ (∃ v u1 u2 u3, vs = [v, u1, u2, u3] ∧ GoodL K 60 H v ∧ (tyN K H u1).isSome ∧ inB 0 8 u1 = false ∧ Bv K C H E (.str "degree"))
  ∨ (∃ v u1 u2 u3, vs = [v, u1, u2, u3] ∧ GoodL K 60 H v ∧ (tyN K H u1).isSome ∧ inB 0 8 u1 = true ∧ (tyN K H u2).isSome ∧ inB 0 60 u2 = false ∧ Bv K C H E (.str "count"))
  ∨ (∃ v u1 u2 u3 t, vs = [v, u1, u2, u3] ∧ GoodL K 60 H v ∧ (tyN K H u1).isSome ∧ inB 0 8 u1 = true ∧ (tyN K H u2).isSome ∧ inB 0 60 u2 = true ∧ tyN K H u3 = some t ∧ isB t "bool" = false ∧ Bv K C H E (.str "back"))
  ∨ (∃ (a : Addr) (ns : List Int) (d c : Nat) (b : Bool), vs = [.ref a, .int d, .int c, .bl b] ∧ H a = some (.lst (ns.map V.int)) ∧ K.lookup a = none ∧ 1 ≤ ns.length ∧ ns.length ≤ 60 ∧ d ≤ 8 ∧ c ≤ 60 ∧ ns.length ≤ d ∧ ∀ H', Same H H' → E (.ref M) none H')
theorem inB_nat {hi : Int} {d : Nat} (h : (d : Int) ≤ hi) : inB 0 hi (.int (d : Int)) = true := by
  show (decide ((0 : Int) ≤ d) && decide ((d : Int) ≤ hi)) = true
  rw [decide_eq_true (by omega), decide_eq_true h]
  rfl
theorem kx_Co {C M : Addr} (Z : Bt K mg) (D : DfnC K mg "continued" sCo ["values", "degree", "count", "back"]) (d_x : KnX P w K mg base 3 "require" ["well_formed", "what"] (spRequireX K C)) (d_require : Kn P w K mg base 1 "require" ["well_formed", "what"] spRequire) (d_is_table : Kn P w K mg base 2 "is_table" ["value"] (spTb K)) (d_is_degree : Kn P w K mg base 3 "is_degree" ["value"] (spDgr K)) (d__is_count : Kn P w K mg base 3 "_is_count" ["value"] (spCnt K)) (d_rs : KnX P w K mg base 1 "_refuse_short" ["values", "degree"] (spRSX K M)) : KnC P w K mg base (L2.CX P w) 4 "continued" ["values", "degree", "count", "back"] (spCoX K C M) := by
  have T := Z
  refine KnC.mkX D scCo (fun vs H Q E h => ?_) (fun f cdv A outer s H vs Q E hr h => ?_)
  · rcases h with ⟨v, u1, u2, u3, rfl, _⟩ | ⟨v, u1, u2, u3, rfl, _⟩ | ⟨v, u1, u2, u3, rfl, _⟩ | ⟨v, u1, u2, u3, t, rfl, _⟩ | ⟨a, ns, d, c, b, rfl, _⟩ <;> rfl
  rcases h with ⟨v, u1, u2, u3, rfl, hb, k⟩ | ⟨v, u1, u2, u3, rfl, ⟨a, ns, rfl, ha, ka, l1, l2⟩, t1, i1, k⟩ | ⟨v, u1, u2, u3, rfl, ⟨a, ns, rfl, ha, ka, l1, l2⟩, t1, i1, t2, i2, k⟩ | ⟨v, u1, u2, u3, t, rfl, ⟨a, ns, rfl, ha, ka, l1, l2⟩, t1, i1, t2, i2, t3, n3, k⟩ | ⟨a, ns, d, c, b, rfl, ha, ka, l1, l2, d8, c60, ld, k⟩
  · refine ⟨_, (pss_cons (ps_expr (pe_knX E d_x hr (by rfl) (takes_of rfl rfl rfl rfl) (fun _ _ _ _ h => h) (pa_cons (pe_kn d_is_table hr (by rfl) (pa_cons (pv 0) pa_nil)) (pa_cons pe_str pa_nil)))) (pss_cons ps_never (pss_cons ps_never (pss_cons ps_never (pss_cons ps_never (pss_cons ps_never (pss_one ps_never))))))), ?_⟩
    exact ⟨_, rfl, _, rfl, ap_tbB hb fun H1 s1 => ⟨_, rfl, k.mono s1⟩⟩
  · refine ⟨_, (pss_cons (ps_expr (pe_kn d_require hr (by rfl) (pa_cons (pe_kn d_is_table hr (by rfl) (pa_cons (pv 0) pa_nil)) (pa_cons pe_str pa_nil)))) (pss_cons (ps_expr (pe_knX E d_x hr (by rfl) (takes_of rfl rfl rfl rfl) (fun _ _ _ _ h => h) (pa_cons (pe_kn d_is_degree hr (by rfl) (pa_cons (pv 1) pa_nil)) (pa_cons pe_str pa_nil)))) (pss_cons ps_never (pss_cons ps_never (pss_cons ps_never (pss_cons ps_never (pss_one ps_never))))))), ?_⟩
    refine ⟨_, rfl, _, rfl, ap_tbG ha ka l1 l2 fun H1 s1 => ⟨_, rfl, _, rfl, u1, rfl, tyS_same s1 t1, ?_⟩⟩
    rw [i1]
    exact ⟨_, rfl, k.mono s1⟩
  · refine ⟨_, (pss_cons (ps_expr (pe_kn d_require hr (by rfl) (pa_cons (pe_kn d_is_table hr (by rfl) (pa_cons (pv 0) pa_nil)) (pa_cons pe_str pa_nil)))) (pss_cons (ps_expr (pe_kn d_require hr (by rfl) (pa_cons (pe_kn d_is_degree hr (by rfl) (pa_cons (pv 1) pa_nil)) (pa_cons pe_str pa_nil)))) (pss_cons (ps_expr (pe_knX E d_x hr (by rfl) (takes_of rfl rfl rfl rfl) (fun _ _ _ _ h => h) (pa_cons (pe_kn d__is_count hr (by rfl) (pa_cons (pv 2) pa_nil)) (pa_cons pe_str pa_nil)))) (pss_cons ps_never (pss_cons ps_never (pss_cons ps_never (pss_one ps_never))))))), ?_⟩
    refine ⟨_, rfl, _, rfl, ap_tbG ha ka l1 l2 fun H1 s1 => ⟨_, rfl, _, rfl, u1, rfl, tyS_same s1 t1, ?_⟩⟩
    rw [i1]
    refine ⟨_, rfl, _, rfl, u2, rfl, tyS_same s1 t2, ?_⟩
    rw [i2]
    exact ⟨_, rfl, k.mono s1⟩
  · refine ⟨_, (pss_cons (ps_expr (pe_kn d_require hr (by rfl) (pa_cons (pe_kn d_is_table hr (by rfl) (pa_cons (pv 0) pa_nil)) (pa_cons pe_str pa_nil)))) (pss_cons (ps_expr (pe_kn d_require hr (by rfl) (pa_cons (pe_kn d_is_degree hr (by rfl) (pa_cons (pv 1) pa_nil)) (pa_cons pe_str pa_nil)))) (pss_cons (ps_expr (pe_kn d_require hr (by rfl) (pa_cons (pe_kn d__is_count hr (by rfl) (pa_cons (pv 2) pa_nil)) (pa_cons pe_str pa_nil)))) (pss_cons (ps_expr (pe_knX E d_x hr (by rfl) (takes_of rfl rfl rfl rfl) (fun _ _ _ _ h => h) (pa_cons (pe_callB call_isN (by rfl) T.b_isinstance (by decide +kernel) (pa_cons (pv 3) (pa_cons (pe_bltn (v := .ty "bool") (by rfl) T.b_bool (by decide +kernel) rfl) pa_nil))) (pa_cons pe_str pa_nil)))) (pss_cons ps_never (pss_cons ps_never (pss_one ps_never))))))), ?_⟩
    refine ⟨_, rfl, _, rfl, ap_tbG ha ka l1 l2 fun H1 s1 => ⟨_, rfl, _, rfl, u1, rfl, tyS_same s1 t1, ?_⟩⟩
    rw [i1]
    refine ⟨_, rfl, _, rfl, u2, rfl, tyS_same s1 t2, ?_⟩
    rw [i2]
    refine ⟨_, rfl, _, rfl, _, _, rfl, by decide, _, tyN_same s1 t3, ?_⟩
    rw [n3]
    exact ⟨_, rfl, k.mono s1⟩
  · refine ⟨_, (pss_cons (ps_expr (pe_kn d_require hr (by rfl) (pa_cons (pe_kn d_is_table hr (by rfl) (pa_cons (pv 0) pa_nil)) (pa_cons pe_str pa_nil)))) (pss_cons (ps_expr (pe_kn d_require hr (by rfl) (pa_cons (pe_kn d_is_degree hr (by rfl) (pa_cons (pv 1) pa_nil)) (pa_cons pe_str pa_nil)))) (pss_cons (ps_expr (pe_kn d_require hr (by rfl) (pa_cons (pe_kn d__is_count hr (by rfl) (pa_cons (pv 2) pa_nil)) (pa_cons pe_str pa_nil)))) (pss_cons (ps_expr (pe_kn d_require hr (by rfl) (pa_cons (pe_callB call_isN (by rfl) T.b_isinstance (by decide +kernel) (pa_cons (pv 3) (pa_cons (pe_bltn (v := .ty "bool") (by rfl) T.b_bool (by decide +kernel) rfl) pa_nil))) (pa_cons pe_str pa_nil)))) (pss_cons (ps_expr (pe_knX E d_rs hr (by rfl) (takes_of rfl rfl rfl rfl) (fun _ _ _ _ h => h) (pa_cons (pv 0) (pa_cons (pv 1) pa_nil)))) (pss_cons ps_never (pss_one ps_never))))))), ?_⟩
    refine ⟨_, rfl, _, rfl, ap_tbG ha ka l1 l2 fun H1 s1 => ⟨_, rfl, _, rfl, .int (d : Int), rfl, rfl, ?_⟩⟩
    rw [inB_nat (by omega)]
    refine ⟨_, rfl, _, rfl, .int (c : Int), rfl, rfl, ?_⟩
    rw [inB_nat (by omega)]
    refine ⟨_, rfl, _, rfl, _, _, rfl, by decide, _, rfl, _, rfl, ?_⟩
    exact ⟨_, rfl, _, rfl, a, _, _, rfl, (ob_none ka).trans (s1 _ _ ha), by rw [List.length_map]; omega, k _ s1⟩
end
end My

namespace My
open PySem PySem.Spec PyProof.Rows L2
section
variable {P : Program} {w : World} {K : PySem.W.Frag} {mg : Str → Option Value} {base : Heap}
theorem eqv_ints {H : Hp} {a b : Addr} {ns : List Int} (oa : ob K H a = some (.lst (ns.map V.int))) (ob' : ob K H b = some (.lst (ns.map V.int))) (l : ns.length ≤ 1000) : Eqv K H 1 (.ref a) (.ref b) := by
  refine .inr (.inl ⟨a, b, _, _, rfl, rfl, .inr ⟨oa, ob'⟩, rfl, by rw [List.length_map]; exact l, fun i x y hx hy => ?_⟩)
  rw [hx] at hy
  cases hy
  obtain ⟨u, _, rfl⟩ := List.mem_map.mp (List.mem_of_getElem? hx)
  exact ⟨rfl, rfl⟩
theorem setI_int {ms : List Int} {r z : Int} (r0 : 0 ≤ r) (h : r < (ms.length : Int)) : ∃ ys : List Int, setI (ms.map V.int) r (.int z) = some (ys.map V.int) ∧ ys.length = ms.length := by
  refine ⟨ms.set r.toNat z, ?_, by rw [List.length_set]⟩
  have e := setI_nat (xs := ms.map V.int) (j := r.toNat) (v := .int z) (ys := (ms.map V.int).set r.toNat (.int z)) (by rw [List.length_map]; omega) rfl
  rw [show r = ((r.toNat : Nat) : Int) by omega, e, List.map_set, Int.toNat_natCast]
/-- a list of whole numbers -/
structure Tbl (K : PySem.W.Frag) (s : Addr) (H : Hp) (l : Addr) (ns : List Int) : Prop where
  hl : H l = some (.lst (ns.map V.int))
  kl : K.lookup l = none
  nl : l ≠ s
theorem Tbl.kp {H H' : Hp} {s l : Addr} {ns : List Int} (h : Tbl K s H l ns) (e : Kp s H H') : Tbl K s H' l ns := ⟨e.1 _ _ h.nl h.hl, h.kl, h.nl⟩
theorem Tbl.ob {H : Hp} {s l : Addr} {ns : List Int} (h : Tbl K s H l ns) : My.ob K H l = some (.lst (ns.map V.int)) := (ob_none h.kl).trans h.hl
theorem Tbl.put {H : Hp} {s l m : Addr} {ns : List Int} {o : HO} (h : Tbl K s H l ns) (n : l ≠ m) : Tbl K s (upd H m o) l ns := ⟨by rw [upd_ne n]; exact h.hl, h.kl, h.nl⟩
theorem eqv_t {H : Hp} {s a b : Addr} {ns : List Int} (ha : Tbl K s H a ns) (hb : Tbl K s H b ns) (l : ns.length ≤ 1000) : Eqv K H 4 (.ref a) (.ref b) := (eqv_ints ha.ob hb.ob l).up.up.up
def spOn (K : PySem.W.Frag) : Sp := fun vs H Q _ => ∃ (sr a : Addr) (ns : List Int) (d c : Nat), vs = [.ref sr, .ref a, .int d, .int c] ∧ Sto K H sr ∧ Tbl K sr H a ns ∧ ns.length ≤ 60 ∧ d ≤ 8 ∧ d + 1 ≤ ns.length ∧ c ≤ 60 ∧ ∀ H', Kp sr H H' → Sto K H' sr → Q (.bl true) H'
abbrev sOn : Stmt := topS 56
theorem scOn : FnScope ["_law_store_here", "_law_values", "_law_some", "_law_many", "_law_given", "_law_told", "_law_due", "_law_step", "_law_known", "_law_again"] ["_law_store_here", "_law_values", "_law_some", "_law_many"] (defScope sOn) := ⟨rfl, rfl, rfl, by decide +kernel, rfl, by decide +kernel, by decide +kernel⟩
theorem k_On (T : Bt K mg) (D : Dfn K mg "_law_on_right" sOn ["_law_store_here", "_law_values", "_law_some", "_law_many"]) (d__law_ahead : Kn P w K mg base 5 "_law_ahead" ["_law_store_here", "_law_values", "_law_some", "_law_many"] (spAh K)) (d__law_fits_on : Kn P w K mg base 3 "_law_fits_on" ["_law_values", "_law_some", "_law_many", "_law_told", "_law_behind"] (spFi K)) (d__law_same : Kn P w K mg base 6 "_law_same" ["_law_told", "_law_due"] (spSame K 5)) (d__law_take : Kn P w K mg base 2 "_law_take" ["_law_store_here", "_law_many"] (spTake K)) (d__law_pick : Kn P w K mg base 3 "_law_pick" ["_law_store_here", "_law_row"] (spPick K)) (d_degree_of : Kn P w K mg base 3 "degree_of" ["values"] (spDg K)) (d__law_is_whole : Kn P w K mg base 1 "_law_is_whole" ["_law_told"] (spWhole K)) (d__law_own_degree : Kn P w K mg base 2 "_law_own_degree" ["_law_values"] (spOw K)) (d_continued : KnC P w K mg base CX0 4 "continued" ["values", "degree", "count", "back"] (spCo K)) : Kn P w K mg base 7 "_law_on_right" ["_law_store_here", "_law_values", "_law_some", "_law_many"] (spOn K) := by
  refine Kn.mk' D scOn (fun vs H Q E h => ?_) (fun f cdv A outer s H vs Q E hr h => ?_)
  · obtain ⟨sr, a, ns, d, c, rfl, _⟩ := h
    rfl
  obtain ⟨sr, a, ns, d, c, rfl, hS, ta, n60, d8, dl, c60, k⟩ := h
  refine ⟨_, (pss_cons (ps_set (i := 4) scOn.nd rfl (.inl rfl) (pe_fr (pe_callTy call_list_of (by rfl) T.b_list (by decide +kernel) (pa_cons (pv 1) pa_nil))))
      (pss_cons (ps_set (i := 5) scOn.nd rfl (.inl rfl) (pe_kn d__law_ahead hr (by rfl) (pa_cons (pv 0) (pa_cons (pv 4) (pa_cons (pv 2) (pa_cons (pv 3) pa_nil))))))
      (pss_cons (ps_if (PW.pt (pw_or (pt_not (pt_val (pe_kn d__law_fits_on hr (by rfl) (pa_cons (pv 1) (pa_cons (pv 2) (pa_cons (pv 3) (pa_cons (pv 5) (pa_cons pe_bl pa_nil)))))))) (pw_or1 (pt_not (pt_val (pe_kn d__law_same hr (by rfl) (pa_cons (pv 4) (pa_cons (pv 1) pa_nil)))))))) (pss_one (ps_ret pe_bl)) pss_nil)
      (pss_cons (ps_set (i := 6) scOn.nd rfl (.inl rfl) (pe_fr (pe_callTy call_list_of (by rfl) T.b_list (by decide +kernel) (pa_cons (pv 5) pa_nil))))
      (pss_cons (ps_expr (pe_bm PySem.F.plainAttrs_list PySem.F.slot_list_append PySem.F.type_list_append mt_append (pv 5) (pa_cons pe_int pa_nil)))
      (pss_cons (ps_asg (pe_op op_add (pe_ix ix_any (pv 5) pe_int (fun _ _ => rfl)) pe_int) (pg_sub (pv 5) pe_int set_any))
      (pss_cons (ps_if (pt_not (pt_val (pe_kn d__law_same hr (by rfl) (pa_cons (pe_kn d__law_ahead hr (by rfl) (pa_cons (pv 0) (pa_cons (pv 4) (pa_cons (pv 2) (pa_cons (pv 3) pa_nil))))) (pa_cons (pv 6) pa_nil))))) (pss_one (ps_ret pe_bl)) pss_nil)
      (pss_cons (ps_set (i := 7) scOn.nd rfl (.inl rfl) (pe_kn d__law_take hr (by rfl) (pa_cons (pv 0) (pa_cons (pe_op op_add pe_int (pe_callB (call_min2 rfl) (by rfl) T.b_min (by decide +kernel) (pa_cons (pv 3) (pa_cons (pe_op op_sub pe_int (pe_callB call_lenA (by rfl) T.b_len PySem.boot_len (pa_cons (pv 1) pa_nil))) pa_nil)))) pa_nil))))
      (pss_cons (ps_if (pt_not (pt_val (pe_kn d__law_same hr (by rfl) (pa_cons (pe_kn d__law_ahead hr (by rfl) (pa_cons (pv 0) (pa_cons (pe_fr (pe_op op_cat (pv 1) (pe_fr (pe_slice sl_list (pv 6) po_none (po_some (pv 7)))))) (pa_cons (pv 2) (pa_cons (pe_op op_sub (pv 3) (pv 7)) pa_nil))))) (pa_cons (pe_fr (pe_slice sl_list (pv 6) (po_some (pv 7)) po_none)) pa_nil))))) (pss_one (ps_ret pe_bl)) pss_nil)
      (pss_cons (ps_if (pt_cmpR op_gt (pv 3) pe_int (nomark _)) (pss_cons (ps_set (i := 5) scOn.nd rfl (.inl rfl) (pe_kn d_degree_of hr (by rfl) (pa_cons (pv 6) pa_nil)))
      (pss_one (ps_if (PW.pt (pw_or (pt_not (pt_val (pe_kn d__law_is_whole hr (by rfl) (pa_cons (pv 5) pa_nil)))) (pw_or (pt_cmpR op_lt (pv 5) pe_int (nomark _)) (pw_or1 (pt_cmpR op_gt (pv 5) (pv 2) (nomark _)))))) (pss_one (ps_ret pe_bl)) pss_nil))) pss_nil)
      (pss_cons (ps_if (pt_cmpR op_le (pv 3) (pv 2) (nomark _)) (pss_one (ps_ret pe_bl)) pss_nil)
      (pss_cons (ps_set (i := 8) scOn.nd rfl (.inl rfl) (pe_op op_add (pv 2) pe_int))
      (pss_cons (ps_if (pt_cmpR op_le (pe_kn d__law_own_degree hr (by rfl) (pa_cons (pv 1) pa_nil)) (pv 2) (nomark _)) (pss_one (ps_set (i := 8) scOn.nd rfl (.inl rfl) (pe_callB call_lenA (by rfl) T.b_len PySem.boot_len (pa_cons (pv 1) pa_nil)))) pss_nil)
      (pss_cons (ps_set (i := 8) scOn.nd rfl (.inl rfl) (pe_kn d__law_pick hr (by rfl) (pa_cons (pv 0) (pa_cons (pe_ls (pa_cons (pv 8) (pa_cons (pe_kn d__law_take hr (by rfl) (pa_cons (pv 0) (pa_cons (pe_op op_add (pv 8) pe_int) pa_nil))) pa_nil))) pa_nil))))
      (pss_cons (ps_set (i := 9) scOn.nd rfl (.inl rfl) (pe_c3 d_continued hr (by rfl) (pa_cons (pv 6) pa_nil) (pk_cons (pv 2) (pk_cons (pv 8) (pk_cons pe_bl pk_nil)))))
      (pss_one (ps_ret (pe_kn d__law_same hr (by rfl) (pa_cons (pv 9) (pa_cons (pe_fr (pe_slice sl_list (pv 1) (po_some (pe_op op_sub (pe_callB call_lenA (by rfl) T.b_len PySem.boot_len (pa_cons (pv 1) pa_nil)) (pv 8))) po_none)) pa_nil)))))))))))))))))))), ?_⟩
  have ml : (ns.map V.int).length = ns.length := List.length_map _
  have TA0 := ta
  refine ⟨_, rfl, a, _, rfl, .inl (.of ta.hl), fun g hg frg => ?_⟩
  have s1 := Same.new hg (.lst (ns.map V.int))
  have tg : Tbl K sr (upd H g (.lst (ns.map V.int))) g ns := ⟨upd_same, frg g (by rw [upd_same]; simp), hS.ne hg⟩
  have kA : Kp sr H (upd H g (.lst (ns.map V.int))) := Kp.same s1
  have st := hS.same s1
  have ta := ta.kp kA
  generalize upd H g (.lst (ns.map V.int)) = H1 at s1 tg kA st ta ⊢
  refine ⟨_, rfl, _, rfl, _, rfl, _, rfl, sr, g, ns, d, c, rfl, st, tg.hl, tg.kl, tg.nl, n60, d8, dl, c60, fun t H2 kp2 st2 ht kt ht2 => ?_⟩
  have ht0 : H t = none := kA.free st ht
  have nat : a ≠ t := fun e => by rw [← e, TA0.hl] at ht0; cases ht0
  have ngt : g ≠ t := fun e => by rw [← e, tg.hl] at ht; cases ht
  have tt : Tbl K sr H2 t (ffl ns d c) := ⟨ht2, kt, st.ne ht⟩
  have st := st2
  have kA := kA.trans kp2
  have ta := ta.kp kp2
  have tg := tg.kp kp2
  have fl := ffl_len (c := c) dl
  refine ⟨_, rfl, _, rfl, _, rfl, _, rfl, a, t, ns, ffl ns d c, d, c, false, rfl, ta.hl, ta.kl, tt.hl, tt.kl, fl, n60, d8, dl, c60, fun H3 s3 => ?_⟩
  have st := st.same s3
  have kA := kA.trans (Kp.same (s := sr) s3)
  have ta := ta.kp (Kp.same (s := sr) s3)
  have tg := tg.kp (Kp.same (s := sr) s3)
  have tt := tt.kp (Kp.same (s := sr) s3)
  rw [if_neg Bool.noConfusion, nz_false.mpr (ffl_fits dl)]
  refine ⟨_, rfl, if_no rfl ?_⟩
  refine ⟨_, rfl, _, rfl, _, _, rfl, eqv_t tg ta (by omega), fun H4 s4 => ⟨true, rfl, if_no rfl ?_⟩⟩
  have st := st.same s4
  have kA := kA.trans (Kp.same (s := sr) s4)
  have ta := ta.kp (Kp.same (s := sr) s4)
  have tg := tg.kp (Kp.same (s := sr) s4)
  have tt := tt.kp (Kp.same (s := sr) s4)
  refine ⟨_, rfl, t, _, rfl, .inl (.of tt.hl), fun u hu fru => ?_⟩
  have s5 := Same.new hu (.lst ((ffl ns d c).map V.int))
  have td : Tbl K sr (upd H4 u (.lst ((ffl ns d c).map V.int))) u (ffl ns d c) := ⟨upd_same, fru u (by rw [upd_same]; simp), st.ne hu⟩
  have nut : u ≠ t := fun e => by rw [e, tt.hl] at hu; cases hu
  have st := st.same s5
  have kA := kA.trans (Kp.same (s := sr) s5)
  have ta := ta.kp (Kp.same (s := sr) s5)
  have tg := tg.kp (Kp.same (s := sr) s5)
  have tt := tt.kp (Kp.same (s := sr) s5)
  generalize upd H4 u (.lst ((ffl ns d c).map V.int)) = H5 at s5 st kA ta tg tt td ⊢
  clear s1 s3 s4 s5 kp2 st2 hg hu ht frg fru
  have em : (ffl ns d c).map V.int ++ [V.int 0] = (ffl ns d c ++ [0]).map V.int := by rw [List.map_append]; rfl
  refine ⟨_, rfl, .inl ⟨rfl, _, .of tt.hl⟩, t, _, _, rfl, rfl, tt.hl, by rw [List.length_map, sizeLine_eq]; omega, ?_⟩
  rw [em]
  obtain ⟨stx, kx⟩ := Sto.mut (o := .lst ((ffl ns d c ++ [0]).map V.int)) hS ht0 kA st
  have ttx : Tbl K sr (upd H5 t (.lst ((ffl ns d c ++ [0]).map V.int))) t (ffl ns d c ++ [0]) := ⟨upd_same, tt.kl, tt.nl⟩
  have tax := ta.put (o := .lst ((ffl ns d c ++ [0]).map V.int)) nat
  have tgx := tg.put (o := .lst ((ffl ns d c ++ [0]).map V.int)) ngt
  have tdx := td.put (o := .lst ((ffl ns d c ++ [0]).map V.int)) nut
  clear st kA tt ta tg td
  generalize upd H5 t (.lst ((ffl ns d c ++ [0]).map V.int)) = H6 at stx kx ttx tax tgx tdx ⊢
  have st := stx
  have kA := kx
  have tt := ttx
  have ta := tax
  have tg := tgx
  have td := tdx
  clear stx kx ttx tax tgx tdx
  have al : (ffl ns d c ++ [0]).length = c + 1 := by rw [List.length_append, fl]; rfl
  have e0 : atI ((ffl ns d c ++ [0]).map V.int) 0 = some (.int (fn (ffl ns d c ++ [0]) 0)) := atI_nat (j := 0) (by rw [List.getElem?_map, at_fn (by omega)]; rfl)
  obtain ⟨ys, es, yl⟩ := setI_int (ms := ffl ns d c ++ [0]) (r := 0) (z := fn (ffl ns d c ++ [0]) 0 + 1) (by omega) (by omega)
  refine ⟨_, rfl, t, 0, rfl, rfl, _, itsO_ofL tt.ob, _, e0, _, _, rfl, rfl, _, rfl, t, 0, rfl, rfl, _, tt.hl, _, es, ?_⟩
  obtain ⟨stx, kx⟩ := Sto.mut (o := .lst ((ys).map V.int)) hS ht0 kA st
  have ttx : Tbl K sr (upd H6 t (.lst ((ys).map V.int))) t (ys) := ⟨upd_same, tt.kl, tt.nl⟩
  have tax := ta.put (o := .lst ((ys).map V.int)) nat
  have tgx := tg.put (o := .lst ((ys).map V.int)) ngt
  have tdx := td.put (o := .lst ((ys).map V.int)) nut
  clear st kA tt ta tg td
  generalize upd H6 t (.lst ((ys).map V.int)) = H7 at stx kx ttx tax tgx tdx ⊢
  have st := stx
  have kA := kx
  have tt := ttx
  have ta := tax
  have tg := tgx
  have td := tdx
  clear stx kx ttx tax tgx tdx
  clear tt es e0 al em
  refine ⟨_, rfl, _, rfl, _, rfl, _, rfl, sr, g, ns, d, c, rfl, st, tg.hl, tg.kl, tg.nl, n60, d8, dl, c60, fun q H8 kp8 st8 hq kq hq8 => ?_⟩
  have tq : Tbl K sr H8 q (ffl ns d c) := ⟨hq8, kq, st.ne hq⟩
  have st := st8
  have kA := kA.trans kp8
  have ta := ta.kp kp8
  have tg := tg.kp kp8
  have td := td.kp kp8
  refine ⟨_, rfl, _, _, rfl, eqv_t tq td (by omega), fun H9 s9 => ⟨true, rfl, if_no rfl ?_⟩⟩
  have st := st.same s9
  have kA := kA.trans (Kp.same (s := sr) s9)
  have ta := ta.kp (Kp.same (s := sr) s9)
  have tg := tg.kp (Kp.same (s := sr) s9)
  have td := td.kp (Kp.same (s := sr) s9)
  clear tg tq kp8 st8 hq hq8 s9
  refine ⟨_, rfl, _, rfl, _, rfl, a, rfl, _, itsO_ofL ta.ob, _, _, rfl, rfl, _, _, rfl, _, _, rfl, rfl, sr, _, rfl, st, by split <;> omega, fun r H10 r0 r1 kp10 st10 => ?_⟩
  have st := st10
  have kA := kA.trans kp10
  have ta := ta.kp kp10
  have td := td.kp kp10
  obtain ⟨sN, rfl, sc, s60⟩ : ∃ sN : Nat, r = (sN : Int) ∧ sN ≤ c ∧ ns.length + sN ≤ 60 := ⟨r.toNat, by omega, by split at r1 <;> omega, by split at r1 <;> omega⟩
  clear kp10 st10 r0 r1
  refine ⟨_, rfl, _, rfl, _, rfl, _, rfl, _, rfl, u, _, rfl, .of td.hl, ?_⟩
  have md : ((ffl ns d c).map V.int).length = c := by rw [List.length_map, fl]
  rw [show cutV ((ffl ns d c).map V.int) none (some (sN : Int)) = ((ffl ns d c).take sN).map V.int by rw [cut_to _ sN (by omega), List.map_take]]
  refine fun w1 hw1 frw1 => ?_
  have s11 := Same.new hw1 (.lst (((ffl ns d c).take sN).map V.int))
  have hw2 : upd H10 w1 (.lst (((ffl ns d c).take sN).map V.int)) w1 = some (.lst (((ffl ns d c).take sN).map V.int)) := upd_same
  have st := st.same s11
  have kA := kA.trans (Kp.same (s := sr) s11)
  have ta := ta.kp (Kp.same (s := sr) s11)
  have td := td.kp (Kp.same (s := sr) s11)
  generalize upd H10 w1 (.lst (((ffl ns d c).take sN).map V.int)) = H11 at s11 hw2 st kA ta td ⊢
  have tl : ((ffl ns d c).take sN).length = sN := by rw [List.length_take]; omega
  refine ⟨a, w1, _, _, rfl, rfl, ta.hl, hw2, by rw [ml, List.length_map, tl, sizeLine_eq]; omega, fun x hx frx => ?_⟩
  rw [← List.map_append] at frx ⊢
  have s12 := Same.new hx (.lst ((ns ++ (ffl ns d c).take sN).map V.int))
  have tx : Tbl K sr (upd H11 x (.lst ((ns ++ (ffl ns d c).take sN).map V.int))) x (ns ++ (ffl ns d c).take sN) := ⟨upd_same, frx x (by rw [upd_same]; simp), st.ne hx⟩
  have st := st.same s12
  have kA := kA.trans (Kp.same (s := sr) s12)
  have ta := ta.kp (Kp.same (s := sr) s12)
  have td := td.kp (Kp.same (s := sr) s12)
  generalize upd H11 x (.lst ((ns ++ (ffl ns d c).take sN).map V.int)) = H12 at s12 tx st kA ta td ⊢
  have xl : (ns ++ (ffl ns d c).take sN).length = ns.length + sN := by rw [List.length_append, tl]
  refine ⟨_, rfl, _, rfl, _, rfl, _, _, rfl, rfl, sr, x, ns ++ (ffl ns d c).take sN, d, c - sN, ?_, st, tx.hl, tx.kl, tx.nl, by omega, d8, by omega, by omega, fun q H13 kp13 st13 hq kq hq13 => ?_⟩
  · show [V.ref sr, V.ref x, V.int (d : Int), V.int ((c : Int) - (sN : Int))] = _
    rw [show (c : Int) - (sN : Int) = ((c - sN : Nat) : Int) by omega]
  rw [ffl_step dl sc] at hq13
  have tq : Tbl K sr H13 q ((ffl ns d c).drop sN) := ⟨hq13, kq, st.ne hq⟩
  have st := st13
  have kA := kA.trans kp13
  have ta := ta.kp kp13
  have td := td.kp kp13
  refine ⟨_, rfl, _, rfl, _, rfl, u, _, rfl, .of td.hl, ?_⟩
  rw [show cutV ((ffl ns d c).map V.int) (some (sN : Int)) none = ((ffl ns d c).drop sN).map V.int by rw [cut_from _ sN (by omega), List.map_drop]]
  refine fun v hv frv => ?_
  have s14 := Same.new hv (.lst (((ffl ns d c).drop sN).map V.int))
  have tv : Tbl K sr (upd H13 v (.lst (((ffl ns d c).drop sN).map V.int))) v ((ffl ns d c).drop sN) := ⟨upd_same, frv v (by rw [upd_same]; simp), st.ne hv⟩
  have st := st.same s14
  have kA := kA.trans (Kp.same (s := sr) s14)
  have ta := ta.kp (Kp.same (s := sr) s14)
  have td := td.kp (Kp.same (s := sr) s14)
  have tq := tq.kp (Kp.same (s := sr) s14)
  generalize upd H13 v (.lst (((ffl ns d c).drop sN).map V.int)) = H14 at s14 tv st kA ta td tq ⊢
  refine ⟨_, _, rfl, eqv_t tq tv (by rw [List.length_drop]; omega), fun H15 s15 => ⟨true, rfl, if_no rfl ?_⟩⟩
  have st := st.same s15
  have kA := kA.trans (Kp.same (s := sr) s15)
  have ta := ta.kp (Kp.same (s := sr) s15)
  have td := td.kp (Kp.same (s := sr) s15)
  clear tq tv tx kp13 st13 hq hq13 s11 s12 s14 s15 hw1 hw2 hx hv frw1 frx frv
  refine ⟨_, rfl, _, _, rfl, rfl, _, rfl, ite2 (fun h0 => ?_) (fun h0 => ?_)⟩
  · have h0 : (0 : Int) < (c : Int) := of_decide_eq_true h0
    refine ⟨_, rfl, u, ffl ns d c, rfl, td.hl, td.kl, by omega, by omega, fun H16 s16 => ?_⟩
    have st := st.same s16
    have kA := kA.trans (Kp.same (s := sr) s16)
    have ta := ta.kp (Kp.same (s := sr) s16)
    have td := td.kp (Kp.same (s := sr) s16)
    have dg := ffl_dg (c := c) dl
    refine ⟨_, rfl, _, rfl, rfl, _, rfl, if_no rfl ?_⟩
    refine ⟨_, rfl, _, _, rfl, rfl, _, rfl, if_no (decide_eq_false (by omega)) ?_⟩
    refine ⟨_, rfl, _, rfl, _, _, rfl, rfl, _, rfl, if_no (decide_eq_false (by omega)) ?_⟩
    refine ⟨_, rfl, _, rfl, _, _, rfl, rfl, _, rfl, ite2 (fun h => k _ kA st) (fun h => ?_)⟩
    have h : ¬ ((c : Int) ≤ (d : Int)) := fun z => h (decide_eq_true z)
    refine ⟨_, rfl, _, _, rfl, rfl, ?_⟩
    refine ⟨_, rfl, a, ns, rfl, ta.hl, ta.kl, by omega, by omega, fun od H17 odl hz s17 => ?_⟩
    have st := st.same s17
    have kA := kA.trans (Kp.same (s := sr) s17)
    have ta := ta.kp (Kp.same (s := sr) s17)
    have td := td.kp (Kp.same (s := sr) s17)
    have gen : ∀ kn : Nat, kn ≤ ns.length → (kn ≤ d + 1 ∨ zl (d + 1) ns) → ∀ m : Nat, m ≤ kn → bfl (ffl ns d c) d m = ns.drop (ns.length - m) := fun kn h1 h2 m hm => bfl_ffl dl (by omega) (by omega) (h2.imp (fun z => by omega) id)
    refine ⟨_, rfl, _, _, rfl, rfl, _, rfl, ite2 (fun ho => ?_) (fun ho => ?_)⟩
    · have ho : (od : Int) ≤ (d : Int) := of_decide_eq_true ho
      have hk1 : ns.length ≤ ns.length := Nat.le_refl _
      have hk2 : ns.length ≤ d + 1 ∨ zl (d + 1) ns := by
        rcases hz with hz | hz
        · exact .inl (by omega)
        · exact .inr (zr_mono hz (d + 1) (by omega))
      refine ⟨_, rfl, a, rfl, _, itsO_ofL ta.ob, ?_⟩
      refine ⟨_, rfl, _, rfl, _, rfl, _, rfl, _, _, rfl, rfl, sr, _, rfl, st, by omega, fun r H18 r0 r1 kp18 st18 => ⟨sz2 (by show 2 ≤ 100; decide), fun p hp kp => ?_⟩⟩
      have st := st18
      have kA := kA.trans kp18
      have ta := ta.kp kp18
      have td := td.kp kp18
      have sp := Same.new hp (.lst [V.int (((ns.map V.int).length : Int)), .int r])
      have nep := st.ne hp
      have st := st.same sp
      have kA := kA.trans (Kp.same (s := sr) sp)
      have ta := ta.kp (Kp.same (s := sr) sp)
      have td := td.kp (Kp.same (s := sr) sp)
      refine ⟨sr, p, _, rfl, st, upd_same, Ne.symm nep, by show 0 < 2; decide, by show 2 < 1000; decide, fun x H19 hx kp19 st19 => ?_⟩
      have st := st19
      have kA := kA.trans kp19
      have ta := ta.kp kp19
      have td := td.kp kp19
      obtain ⟨m, rfl, em⟩ : ∃ m : Nat, x = .int (m : Int) ∧ (m : Int) ≤ ((ns.map V.int).length : Int) := by
        simp only [List.mem_cons, List.not_mem_nil, or_false] at hx
        rcases hx with rfl | rfl
        · exact ⟨(((ns.map V.int).length : Int) : Int).toNat, congrArg V.int (by omega), by omega⟩
        · exact ⟨r.toNat, congrArg V.int (by omega), by omega⟩
      have eb := gen _ hk1 hk2 m (by omega)
      refine ⟨_, rfl, _, rfl, _, rfl, rfl, rfl, u, ffl ns d c, d, m, true, rfl, td.hl, td.kl, by omega, d8, by omega, by omega, fun q H20 s20 hq kq hq20 => ?_⟩
      rw [if_pos rfl, eb] at hq20
      have tq : Tbl K sr H20 q (ns.drop (ns.length - m)) := ⟨hq20, kq, st.ne hq⟩
      have st := st.same s20
      have kA := kA.trans (Kp.same (s := sr) s20)
      have ta := ta.kp (Kp.same (s := sr) s20)
      have td := td.kp (Kp.same (s := sr) s20)
      refine ⟨_, rfl, _, rfl, _, rfl, a, rfl, _, itsO_ofL ta.ob, _, rfl, _, _, rfl, rfl, _, rfl, a, _, rfl, .of ta.hl, ?_⟩
      rw [show cutV (ns.map V.int) (some ((fun i j => i - j) ((ns.map V.int).length : Int) (m : Int))) none = (ns.drop (ns.length - m)).map V.int by
        rw [show ((fun i j => i - j) ((ns.map V.int).length : Int) (m : Int) : Int) = ((ns.length - m : Nat) : Int) by show ((ns.map V.int).length : Int) - (m : Int) = _; omega, cut_from _ _ (by omega), List.map_drop]]
      refine fun v hv frv => ?_
      have s21 := Same.new hv (.lst ((ns.drop (ns.length - m)).map V.int))
      have tv : Tbl K sr (upd H20 v (.lst ((ns.drop (ns.length - m)).map V.int))) v (ns.drop (ns.length - m)) := ⟨upd_same, frv v (by rw [upd_same]; simp), st.ne hv⟩
      have st := st.same s21
      have kA := kA.trans (Kp.same (s := sr) s21)
      have ta := ta.kp (Kp.same (s := sr) s21)
      have td := td.kp (Kp.same (s := sr) s21)
      have tq := tq.kp (Kp.same (s := sr) s21)
      refine ⟨_, _, rfl, eqv_t tq tv (by rw [List.length_drop]; omega), fun H22 s22 => ?_⟩
      have st := st.same s22
      have kA := kA.trans (Kp.same (s := sr) s22)
      have ta := ta.kp (Kp.same (s := sr) s22)
      have td := td.kp (Kp.same (s := sr) s22)
      exact k _ kA st
    · have ho : ¬ ((od : Int) ≤ (d : Int)) := fun z => ho (decide_eq_true z)
      have hk1 : d + 1 ≤ ns.length := dl
      have hk2 : d + 1 ≤ d + 1 ∨ zl (d + 1) ns := .inl (Nat.le_refl _)
      refine ⟨_, rfl, _, rfl, _, rfl, _, rfl, _, _, rfl, rfl, sr, _, rfl, st, by omega, fun r H18 r0 r1 kp18 st18 => ⟨sz2 (by show 2 ≤ 100; decide), fun p hp kp => ?_⟩⟩
      have st := st18
      have kA := kA.trans kp18
      have ta := ta.kp kp18
      have td := td.kp kp18
      have sp := Same.new hp (.lst [V.int (((d : Int) + 1)), .int r])
      have nep := st.ne hp
      have st := st.same sp
      have kA := kA.trans (Kp.same (s := sr) sp)
      have ta := ta.kp (Kp.same (s := sr) sp)
      have td := td.kp (Kp.same (s := sr) sp)
      refine ⟨sr, p, _, rfl, st, upd_same, Ne.symm nep, by show 0 < 2; decide, by show 2 < 1000; decide, fun x H19 hx kp19 st19 => ?_⟩
      have st := st19
      have kA := kA.trans kp19
      have ta := ta.kp kp19
      have td := td.kp kp19
      obtain ⟨m, rfl, em⟩ : ∃ m : Nat, x = .int (m : Int) ∧ (m : Int) ≤ ((d : Int) + 1) := by
        simp only [List.mem_cons, List.not_mem_nil, or_false] at hx
        rcases hx with rfl | rfl
        · exact ⟨(((d : Int) + 1) : Int).toNat, congrArg V.int (by omega), by omega⟩
        · exact ⟨r.toNat, congrArg V.int (by omega), by omega⟩
      have eb := gen _ hk1 hk2 m (by omega)
      refine ⟨_, rfl, _, rfl, _, rfl, rfl, rfl, u, ffl ns d c, d, m, true, rfl, td.hl, td.kl, by omega, d8, by omega, by omega, fun q H20 s20 hq kq hq20 => ?_⟩
      rw [if_pos rfl, eb] at hq20
      have tq : Tbl K sr H20 q (ns.drop (ns.length - m)) := ⟨hq20, kq, st.ne hq⟩
      have st := st.same s20
      have kA := kA.trans (Kp.same (s := sr) s20)
      have ta := ta.kp (Kp.same (s := sr) s20)
      have td := td.kp (Kp.same (s := sr) s20)
      refine ⟨_, rfl, _, rfl, _, rfl, a, rfl, _, itsO_ofL ta.ob, _, rfl, _, _, rfl, rfl, _, rfl, a, _, rfl, .of ta.hl, ?_⟩
      rw [show cutV (ns.map V.int) (some ((fun i j => i - j) ((ns.map V.int).length : Int) (m : Int))) none = (ns.drop (ns.length - m)).map V.int by
        rw [show ((fun i j => i - j) ((ns.map V.int).length : Int) (m : Int) : Int) = ((ns.length - m : Nat) : Int) by show ((ns.map V.int).length : Int) - (m : Int) = _; omega, cut_from _ _ (by omega), List.map_drop]]
      refine fun v hv frv => ?_
      have s21 := Same.new hv (.lst ((ns.drop (ns.length - m)).map V.int))
      have tv : Tbl K sr (upd H20 v (.lst ((ns.drop (ns.length - m)).map V.int))) v (ns.drop (ns.length - m)) := ⟨upd_same, frv v (by rw [upd_same]; simp), st.ne hv⟩
      have st := st.same s21
      have kA := kA.trans (Kp.same (s := sr) s21)
      have ta := ta.kp (Kp.same (s := sr) s21)
      have td := td.kp (Kp.same (s := sr) s21)
      have tq := tq.kp (Kp.same (s := sr) s21)
      refine ⟨_, _, rfl, eqv_t tq tv (by rw [List.length_drop]; omega), fun H22 s22 => ?_⟩
      have st := st.same s22
      have kA := kA.trans (Kp.same (s := sr) s22)
      have ta := ta.kp (Kp.same (s := sr) s22)
      have td := td.kp (Kp.same (s := sr) s22)
      exact k _ kA st
  · have h0 : ¬ ((0 : Int) < (c : Int)) := fun z => h0 (decide_eq_true z)
    exact ⟨_, rfl, _, rfl, _, _, rfl, rfl, _, rfl, if_yes (decide_eq_true (by omega)) (k _ kA st)⟩

end
end My

namespace My
open PySem PySem.Spec PyProof.Rows L2
section
variable {P : Program} {w : World} {K : PySem.W.Frag} {mg : Str → Option Value} {base : Heap}
abbrev sBa : Stmt := topS 57
theorem scBa : FnScope ["_law_store_here", "_law_values", "_law_some", "_law_many", "_law_given", "_law_told", "_law_due", "_law_step", "_law_less", "_law_known"] ["_law_store_here", "_law_values", "_law_some", "_law_many"] (defScope sBa) := ⟨rfl, rfl, rfl, by decide +kernel, rfl, by decide +kernel, by decide +kernel⟩
theorem k_Ba (T : Bt K mg) (D : Dfn K mg "_law_back_right" sBa ["_law_store_here", "_law_values", "_law_some", "_law_many"]) (d_continued : KnC P w K mg base CX0 4 "continued" ["values", "degree", "count", "back"] (spCo K)) (d__law_fits_on : Kn P w K mg base 3 "_law_fits_on" ["_law_values", "_law_some", "_law_many", "_law_told", "_law_behind"] (spFi K)) (d__law_same : Kn P w K mg base 6 "_law_same" ["_law_told", "_law_due"] (spSame K 5)) (d__law_take : Kn P w K mg base 2 "_law_take" ["_law_store_here", "_law_many"] (spTake K)) (d__law_pick : Kn P w K mg base 3 "_law_pick" ["_law_store_here", "_law_row"] (spPick K)) (d__law_own_degree : Kn P w K mg base 2 "_law_own_degree" ["_law_values"] (spOw K)) (d__law_ahead : Kn P w K mg base 5 "_law_ahead" ["_law_store_here", "_law_values", "_law_some", "_law_many"] (spAh K)) : Kn P w K mg base 7 "_law_back_right" ["_law_store_here", "_law_values", "_law_some", "_law_many"] (spOn K) := by
  refine Kn.mk' D scBa (fun vs H Q E h => ?_) (fun f cdv A outer s H vs Q E hr h => ?_)
  · obtain ⟨sr, a, ns, d, c, rfl, _⟩ := h
    rfl
  obtain ⟨sr, a, ns, d, c, rfl, hS, ta, n60, d8, dl, c60, k⟩ := h
  refine ⟨_, (pss_cons (ps_set (i := 4) scBa.nd rfl (.inl rfl) (pe_fr (pe_callTy call_list_of (by rfl) T.b_list (by decide +kernel) (pa_cons (pv 1) pa_nil))))
      (pss_cons (ps_set (i := 5) scBa.nd rfl (.inl rfl) (pe_c3 d_continued hr (by rfl) (pa_cons (pv 4) pa_nil) (pk_cons (pv 2) (pk_cons (pv 3) (pk_cons pe_bl pk_nil)))))
      (pss_cons (ps_if (PW.pt (pw_or (pt_not (pt_val (pe_kn d__law_fits_on hr (by rfl) (pa_cons (pv 1) (pa_cons (pv 2) (pa_cons (pv 3) (pa_cons (pv 5) (pa_cons pe_bl pa_nil)))))))) (pw_or1 (pt_not (pt_val (pe_kn d__law_same hr (by rfl) (pa_cons (pv 4) (pa_cons (pv 1) pa_nil)))))))) (pss_one (ps_ret pe_bl)) pss_nil)
      (pss_cons (ps_set (i := 6) scBa.nd rfl (.inl rfl) (pe_fr (pe_callTy call_list_of (by rfl) T.b_list (by decide +kernel) (pa_cons (pv 5) pa_nil))))
      (pss_cons (ps_expr (pe_bm PySem.F.plainAttrs_list PySem.F.slot_list_append PySem.F.type_list_append mt_append (pv 5) (pa_cons pe_int pa_nil)))
      (pss_cons (ps_asg (pe_op op_add (pe_ix ix_any (pv 5) pe_int (fun _ _ => rfl)) pe_int) (pg_sub (pv 5) pe_int set_any))
      (pss_cons (ps_if (pt_not (pt_val (pe_kn d__law_same hr (by rfl) (pa_cons (pe_c3 d_continued hr (by rfl) (pa_cons (pv 4) pa_nil) (pk_cons (pv 2) (pk_cons (pv 3) (pk_cons pe_bl pk_nil)))) (pa_cons (pv 6) pa_nil))))) (pss_one (ps_ret pe_bl)) pss_nil)
      (pss_cons (ps_set (i := 7) scBa.nd rfl (.inl rfl) (pe_kn d__law_take hr (by rfl) (pa_cons (pv 0) (pa_cons (pe_op op_add pe_int (pe_callB (call_min2 rfl) (by rfl) T.b_min (by decide +kernel) (pa_cons (pv 3) (pa_cons (pe_op op_sub pe_int (pe_callB call_lenA (by rfl) T.b_len PySem.boot_len (pa_cons (pv 1) pa_nil))) pa_nil)))) pa_nil))))
      (pss_cons (ps_set (i := 8) scBa.nd rfl (.inl rfl) (pe_c3 d_continued hr (by rfl) (pa_cons (pe_fr (pe_op op_cat (pe_fr (pe_slice sl_list (pv 6) (po_some (pe_op op_sub (pv 3) (pv 7))) po_none)) (pv 1))) pa_nil) (pk_cons (pv 2) (pk_cons (pe_op op_sub (pv 3) (pv 7)) (pk_cons pe_bl pk_nil)))))
      (pss_cons (ps_if (pt_not (pt_val (pe_kn d__law_same hr (by rfl) (pa_cons (pv 8) (pa_cons (pe_fr (pe_slice sl_list (pv 6) po_none (po_some (pe_op op_sub (pv 3) (pv 7))))) pa_nil))))) (pss_one (ps_ret pe_bl)) pss_nil)
      (pss_cons (ps_if (pt_cmpR op_le (pv 3) (pv 2) (nomark _)) (pss_one (ps_ret pe_bl)) pss_nil)
      (pss_cons (ps_set (i := 9) scBa.nd rfl (.inl rfl) (pe_op op_add (pv 2) pe_int))
      (pss_cons (ps_if (pt_cmpR op_le (pe_kn d__law_own_degree hr (by rfl) (pa_cons (pv 1) pa_nil)) (pv 2) (nomark _)) (pss_one (ps_set (i := 9) scBa.nd rfl (.inl rfl) (pe_callB call_lenA (by rfl) T.b_len PySem.boot_len (pa_cons (pv 1) pa_nil)))) pss_nil)
      (pss_cons (ps_set (i := 9) scBa.nd rfl (.inl rfl) (pe_kn d__law_pick hr (by rfl) (pa_cons (pv 0) (pa_cons (pe_ls (pa_cons (pv 9) (pa_cons (pe_kn d__law_take hr (by rfl) (pa_cons (pv 0) (pa_cons (pe_op op_add (pv 9) pe_int) pa_nil))) pa_nil))) pa_nil))))
      (pss_one (ps_ret (pe_kn d__law_same hr (by rfl) (pa_cons (pe_kn d__law_ahead hr (by rfl) (pa_cons (pv 0) (pa_cons (pv 6) (pa_cons (pv 2) (pa_cons (pv 9) pa_nil))))) (pa_cons (pe_fr (pe_slice sl_list (pv 1) po_none (po_some (pv 9)))) pa_nil))))))))))))))))))), ?_⟩
  have ml : (ns.map V.int).length = ns.length := List.length_map _
  have TA0 := ta
  refine ⟨_, rfl, a, _, rfl, .inl (.of ta.hl), fun g hg frg => ?_⟩
  have s1 := Same.new hg (.lst (ns.map V.int))
  have tg : Tbl K sr (upd H g (.lst (ns.map V.int))) g ns := ⟨upd_same, frg g (by rw [upd_same]; simp), hS.ne hg⟩
  have kA : Kp sr H (upd H g (.lst (ns.map V.int))) := Kp.same s1
  have st := hS.same s1
  have ta := ta.kp kA
  generalize upd H g (.lst (ns.map V.int)) = H1 at s1 tg kA st ta ⊢
  refine ⟨_, rfl, _, rfl, _, rfl, rfl, rfl, g, ns, d, c, true, rfl, tg.hl, tg.kl, n60, d8, dl, c60, fun t H2 s2 ht kt ht2 => ?_⟩
  rw [if_pos rfl] at ht2
  have ht0 : H t = none := kA.free st ht
  have nat : a ≠ t := fun e => by rw [← e, TA0.hl] at ht0; cases ht0
  have ngt : g ≠ t := fun e => by rw [← e, tg.hl] at ht; cases ht
  have tt : Tbl K sr H2 t (bfl ns d c) := ⟨ht2, kt, st.ne ht⟩
  have st := st.same s2
  have kA := kA.trans (Kp.same (s := sr) s2)
  have ta := ta.kp (Kp.same (s := sr) s2)
  have tg := tg.kp (Kp.same (s := sr) s2)
  have fl := bfl_len (c := c) dl
  refine ⟨_, rfl, _, rfl, _, rfl, _, rfl, a, t, ns, bfl ns d c, d, c, true, rfl, ta.hl, ta.kl, tt.hl, tt.kl, fl, n60, d8, dl, c60, fun H3 s3 => ?_⟩
  have st := st.same s3
  have kA := kA.trans (Kp.same (s := sr) s3)
  have ta := ta.kp (Kp.same (s := sr) s3)
  have tg := tg.kp (Kp.same (s := sr) s3)
  have tt := tt.kp (Kp.same (s := sr) s3)
  rw [if_pos rfl, nz_false.mpr (bfl_fits dl)]
  refine ⟨_, rfl, if_no rfl ?_⟩
  refine ⟨_, rfl, _, rfl, _, _, rfl, eqv_t tg ta (by omega), fun H4 s4 => ⟨true, rfl, if_no rfl ?_⟩⟩
  have st := st.same s4
  have kA := kA.trans (Kp.same (s := sr) s4)
  have ta := ta.kp (Kp.same (s := sr) s4)
  have tg := tg.kp (Kp.same (s := sr) s4)
  have tt := tt.kp (Kp.same (s := sr) s4)
  refine ⟨_, rfl, t, _, rfl, .inl (.of tt.hl), fun u hu fru => ?_⟩
  have s5 := Same.new hu (.lst ((bfl ns d c).map V.int))
  have td : Tbl K sr (upd H4 u (.lst ((bfl ns d c).map V.int))) u (bfl ns d c) := ⟨upd_same, fru u (by rw [upd_same]; simp), st.ne hu⟩
  have nut : u ≠ t := fun e => by rw [e, tt.hl] at hu; cases hu
  have st := st.same s5
  have kA := kA.trans (Kp.same (s := sr) s5)
  have ta := ta.kp (Kp.same (s := sr) s5)
  have tg := tg.kp (Kp.same (s := sr) s5)
  have tt := tt.kp (Kp.same (s := sr) s5)
  generalize upd H4 u (.lst ((bfl ns d c).map V.int)) = H5 at s5 st kA ta tg tt td ⊢
  clear s1 s2 s3 s4 s5 hg hu ht frg fru
  have em : (bfl ns d c).map V.int ++ [V.int 0] = (bfl ns d c ++ [0]).map V.int := by rw [List.map_append]; rfl
  refine ⟨_, rfl, .inl ⟨rfl, _, .of tt.hl⟩, t, _, _, rfl, rfl, tt.hl, by rw [List.length_map, sizeLine_eq]; omega, ?_⟩
  rw [em]
  obtain ⟨stx, kx⟩ := Sto.mut (o := .lst ((bfl ns d c ++ [0]).map V.int)) hS ht0 kA st
  have ttx : Tbl K sr (upd H5 t (.lst ((bfl ns d c ++ [0]).map V.int))) t (bfl ns d c ++ [0]) := ⟨upd_same, tt.kl, tt.nl⟩
  have tax := ta.put (o := .lst ((bfl ns d c ++ [0]).map V.int)) nat
  have tgx := tg.put (o := .lst ((bfl ns d c ++ [0]).map V.int)) ngt
  have tdx := td.put (o := .lst ((bfl ns d c ++ [0]).map V.int)) nut
  clear st kA tt ta tg td
  generalize upd H5 t (.lst ((bfl ns d c ++ [0]).map V.int)) = H6 at stx kx ttx tax tgx tdx ⊢
  have st := stx
  have kA := kx
  have tt := ttx
  have ta := tax
  have tg := tgx
  have td := tdx
  clear stx kx ttx tax tgx tdx
  have al : (bfl ns d c ++ [0]).length = c + 1 := by rw [List.length_append, fl]; rfl
  have e0 : atI ((bfl ns d c ++ [0]).map V.int) 0 = some (.int (fn (bfl ns d c ++ [0]) 0)) := atI_nat (j := 0) (by rw [List.getElem?_map, at_fn (by omega)]; rfl)
  obtain ⟨ys, es, yl⟩ := setI_int (ms := bfl ns d c ++ [0]) (r := 0) (z := fn (bfl ns d c ++ [0]) 0 + 1) (by omega) (by omega)
  refine ⟨_, rfl, t, 0, rfl, rfl, _, itsO_ofL tt.ob, _, e0, _, _, rfl, rfl, _, rfl, t, 0, rfl, rfl, _, tt.hl, _, es, ?_⟩
  obtain ⟨stx, kx⟩ := Sto.mut (o := .lst ((ys).map V.int)) hS ht0 kA st
  have ttx : Tbl K sr (upd H6 t (.lst ((ys).map V.int))) t (ys) := ⟨upd_same, tt.kl, tt.nl⟩
  have tax := ta.put (o := .lst ((ys).map V.int)) nat
  have tgx := tg.put (o := .lst ((ys).map V.int)) ngt
  have tdx := td.put (o := .lst ((ys).map V.int)) nut
  clear st kA tt ta tg td
  generalize upd H6 t (.lst ((ys).map V.int)) = H7 at stx kx ttx tax tgx tdx ⊢
  have st := stx
  have kA := kx
  have tt := ttx
  have ta := tax
  have tg := tgx
  have td := tdx
  clear stx kx ttx tax tgx tdx
  clear tt es e0 al em
  refine ⟨_, rfl, _, rfl, _, rfl, rfl, rfl, g, ns, d, c, true, rfl, tg.hl, tg.kl, n60, d8, dl, c60, fun q H8 s8 hq kq hq8 => ?_⟩
  rw [if_pos rfl] at hq8
  have tq : Tbl K sr H8 q (bfl ns d c) := ⟨hq8, kq, st.ne hq⟩
  have st := st.same s8
  have kA := kA.trans (Kp.same (s := sr) s8)
  have ta := ta.kp (Kp.same (s := sr) s8)
  have tg := tg.kp (Kp.same (s := sr) s8)
  have td := td.kp (Kp.same (s := sr) s8)
  refine ⟨_, rfl, _, _, rfl, eqv_t tq td (by omega), fun H9 s9 => ⟨true, rfl, if_no rfl ?_⟩⟩
  have st := st.same s9
  have kA := kA.trans (Kp.same (s := sr) s9)
  have ta := ta.kp (Kp.same (s := sr) s9)
  have tg := tg.kp (Kp.same (s := sr) s9)
  have td := td.kp (Kp.same (s := sr) s9)
  clear tg tq s8 hq hq8 s9
  refine ⟨_, rfl, _, rfl, _, rfl, a, rfl, _, itsO_ofL ta.ob, _, _, rfl, rfl, _, _, rfl, _, _, rfl, rfl, sr, _, rfl, st, by split <;> omega, fun r H10 r0 r1 kp10 st10 => ?_⟩
  have st := st10
  have kA := kA.trans kp10
  have ta := ta.kp kp10
  have td := td.kp kp10
  obtain ⟨sN, rfl, sc, s60⟩ : ∃ sN : Nat, r = (sN : Int) ∧ sN ≤ c ∧ ns.length + sN ≤ 60 := ⟨r.toNat, by omega, by split at r1 <;> omega, by split at r1 <;> omega⟩
  clear kp10 st10 r0 r1
  refine ⟨_, rfl, _, rfl, _, rfl, _, _, rfl, rfl, _, rfl, u, _, rfl, .of td.hl, ?_⟩
  have md : ((bfl ns d c).map V.int).length = c := by rw [List.length_map, fl]
  have ec : cutV ((bfl ns d c).map V.int) (some ((c : Int) - (sN : Int))) none = ((bfl ns d c).drop (c - sN)).map V.int := by rw [show (c : Int) - (sN : Int) = ((c - sN : Nat) : Int) by omega, cut_from _ _ (by omega), List.map_drop]
  rw [show cutV ((bfl ns d c).map V.int) (some ((fun i j => i - j) (c : Int) (sN : Int))) none = ((bfl ns d c).drop (c - sN)).map V.int from ec]
  refine fun w1 hw1 frw1 => ?_
  have s11 := Same.new hw1 (.lst (((bfl ns d c).drop (c - sN)).map V.int))
  have hw2 : upd H10 w1 (.lst (((bfl ns d c).drop (c - sN)).map V.int)) w1 = some (.lst (((bfl ns d c).drop (c - sN)).map V.int)) := upd_same
  have st := st.same s11
  have kA := kA.trans (Kp.same (s := sr) s11)
  have ta := ta.kp (Kp.same (s := sr) s11)
  have td := td.kp (Kp.same (s := sr) s11)
  generalize upd H10 w1 (.lst (((bfl ns d c).drop (c - sN)).map V.int)) = H11 at s11 hw2 st kA ta td ⊢
  have tl : ((bfl ns d c).drop (c - sN)).length = sN := by rw [List.length_drop]; omega
  refine ⟨_, rfl, w1, a, _, _, rfl, rfl, hw2, ta.hl, by rw [ml, List.length_map, tl, sizeLine_eq]; omega, fun x hx frx => ?_⟩
  rw [← List.map_append] at frx ⊢
  have s12 := Same.new hx (.lst (((bfl ns d c).drop (c - sN) ++ ns).map V.int))
  have tx : Tbl K sr (upd H11 x (.lst (((bfl ns d c).drop (c - sN) ++ ns).map V.int))) x ((bfl ns d c).drop (c - sN) ++ ns) := ⟨upd_same, frx x (by rw [upd_same]; simp), st.ne hx⟩
  have st := st.same s12
  have kA := kA.trans (Kp.same (s := sr) s12)
  have ta := ta.kp (Kp.same (s := sr) s12)
  have td := td.kp (Kp.same (s := sr) s12)
  generalize upd H11 x (.lst (((bfl ns d c).drop (c - sN) ++ ns).map V.int)) = H12 at s12 tx st kA ta td ⊢
  have xl : ((bfl ns d c).drop (c - sN) ++ ns).length = sN + ns.length := by rw [List.length_append, tl]
  refine ⟨_, rfl, _, rfl, _, rfl, _, _, rfl, rfl, rfl, rfl, x, (bfl ns d c).drop (c - sN) ++ ns, d, c - sN, true, ?_, tx.hl, tx.kl, by omega, d8, by omega, by omega, fun q H13 s13 hq kq hq13 => ?_⟩
  · show [V.ref x, V.int (d : Int), V.int ((c : Int) - (sN : Int)), V.bl true] = _
    rw [show (c : Int) - (sN : Int) = ((c - sN : Nat) : Int) by omega]
  rw [if_pos rfl, bfl_step dl sc] at hq13
  have tq : Tbl K sr H13 q ((bfl ns d c).take (c - sN)) := ⟨hq13, kq, st.ne hq⟩
  have st := st.same s13
  have kA := kA.trans (Kp.same (s := sr) s13)
  have ta := ta.kp (Kp.same (s := sr) s13)
  have td := td.kp (Kp.same (s := sr) s13)
  refine ⟨_, rfl, _, rfl, _, rfl, _, rfl, _, _, rfl, rfl, _, rfl, u, _, rfl, .of td.hl, ?_⟩
  have ec2 : cutV ((bfl ns d c).map V.int) none (some ((c : Int) - (sN : Int))) = ((bfl ns d c).take (c - sN)).map V.int := by rw [show (c : Int) - (sN : Int) = ((c - sN : Nat) : Int) by omega, cut_to _ _ (by omega), List.map_take]
  rw [show cutV ((bfl ns d c).map V.int) none (some ((fun i j => i - j) (c : Int) (sN : Int))) = ((bfl ns d c).take (c - sN)).map V.int from ec2]
  refine fun v hv frv => ?_
  have s14 := Same.new hv (.lst (((bfl ns d c).take (c - sN)).map V.int))
  have tv : Tbl K sr (upd H13 v (.lst (((bfl ns d c).take (c - sN)).map V.int))) v ((bfl ns d c).take (c - sN)) := ⟨upd_same, frv v (by rw [upd_same]; simp), st.ne hv⟩
  have st := st.same s14
  have kA := kA.trans (Kp.same (s := sr) s14)
  have ta := ta.kp (Kp.same (s := sr) s14)
  have td := td.kp (Kp.same (s := sr) s14)
  have tq := tq.kp (Kp.same (s := sr) s14)
  generalize upd H13 v (.lst (((bfl ns d c).take (c - sN)).map V.int)) = H14 at s14 tv st kA ta td tq ⊢
  refine ⟨_, _, rfl, eqv_t tq tv (by rw [List.length_take]; omega), fun H15 s15 => ⟨true, rfl, if_no rfl ?_⟩⟩
  have st := st.same s15
  have kA := kA.trans (Kp.same (s := sr) s15)
  have ta := ta.kp (Kp.same (s := sr) s15)
  have td := td.kp (Kp.same (s := sr) s15)
  refine ⟨_, rfl, _, rfl, _, _, rfl, rfl, _, rfl, ite2 (fun h => k _ kA st) (fun h => ?_)⟩
  have h : ¬ ((c : Int) ≤ (d : Int)) := fun z => h (decide_eq_true z)
  refine ⟨_, rfl, _, _, rfl, rfl, ?_⟩
  refine ⟨_, rfl, a, ns, rfl, ta.hl, ta.kl, by omega, by omega, fun od H17 odl hz s17 => ?_⟩
  have st := st.same s17
  have kA := kA.trans (Kp.same (s := sr) s17)
  have ta := ta.kp (Kp.same (s := sr) s17)
  have td := td.kp (Kp.same (s := sr) s17)
  have gen : ∀ kn : Nat, kn ≤ ns.length → (kn ≤ d + 1 ∨ zl (d + 1) ns) → ∀ m : Nat, m ≤ kn → ffl (bfl ns d c) d m = ns.take m := fun kn h1 h2 m hm => ffl_bfl dl (by omega) (by omega) (h2.imp (fun z => by omega) id)
  refine ⟨_, rfl, _, _, rfl, rfl, _, rfl, ite2 (fun ho => ?_) (fun ho => ?_)⟩
  · have ho : (od : Int) ≤ (d : Int) := of_decide_eq_true ho
    have hk1 : ns.length ≤ ns.length := Nat.le_refl _
    have hk2 : ns.length ≤ d + 1 ∨ zl (d + 1) ns := by
      rcases hz with hz | hz
      · exact .inl (by omega)
      · exact .inr (zr_mono hz (d + 1) (by omega))
    refine ⟨_, rfl, a, rfl, _, itsO_ofL ta.ob, ?_⟩
    refine ⟨_, rfl, _, rfl, _, rfl, _, rfl, _, _, rfl, rfl, sr, _, rfl, st, by omega, fun r H18 r0 r1 kp18 st18 => ⟨sz2 (by show 2 ≤ 100; decide), fun p hp kp => ?_⟩⟩
    have st := st18
    have kA := kA.trans kp18
    have ta := ta.kp kp18
    have td := td.kp kp18
    have sp := Same.new hp (.lst [V.int (((ns.map V.int).length : Int)), .int r])
    have nep := st.ne hp
    have st := st.same sp
    have kA := kA.trans (Kp.same (s := sr) sp)
    have ta := ta.kp (Kp.same (s := sr) sp)
    have td := td.kp (Kp.same (s := sr) sp)
    refine ⟨sr, p, _, rfl, st, upd_same, Ne.symm nep, by show 0 < 2; decide, by show 2 < 1000; decide, fun x H19 hx kp19 st19 => ?_⟩
    have st := st19
    have kA := kA.trans kp19
    have ta := ta.kp kp19
    have td := td.kp kp19
    obtain ⟨m, rfl, em⟩ : ∃ m : Nat, x = .int (m : Int) ∧ (m : Int) ≤ ((ns.map V.int).length : Int) := by
      simp only [List.mem_cons, List.not_mem_nil, or_false] at hx
      rcases hx with rfl | rfl
      · exact ⟨(((ns.map V.int).length : Int) : Int).toNat, congrArg V.int (by omega), by omega⟩
      · exact ⟨r.toNat, congrArg V.int (by omega), by omega⟩
    have eb := gen _ hk1 hk2 m (by omega)
    refine ⟨_, rfl, _, rfl, _, rfl, _, rfl, sr, u, bfl ns d c, d, m, rfl, st, td.hl, td.kl, td.nl, by omega, d8, by omega, by omega, fun q H20 kp20 st20 hq kq hq20 => ?_⟩
    rw [eb] at hq20
    have tq : Tbl K sr H20 q (ns.take m) := ⟨hq20, kq, st.ne hq⟩
    have st := st20
    have kA := kA.trans kp20
    have ta := ta.kp kp20
    have td := td.kp kp20
    refine ⟨_, rfl, _, rfl, _, rfl, a, _, rfl, .of ta.hl, ?_⟩
    rw [show cutV (ns.map V.int) none (some (m : Int)) = (ns.take m).map V.int by rw [cut_to _ m (by omega), List.map_take]]
    refine fun v2 hv2 frv2 => ?_
    have s21 := Same.new hv2 (.lst ((ns.take m).map V.int))
    have tv2 : Tbl K sr (upd H20 v2 (.lst ((ns.take m).map V.int))) v2 (ns.take m) := ⟨upd_same, frv2 v2 (by rw [upd_same]; simp), st.ne hv2⟩
    have st := st.same s21
    have kA := kA.trans (Kp.same (s := sr) s21)
    have ta := ta.kp (Kp.same (s := sr) s21)
    have td := td.kp (Kp.same (s := sr) s21)
    have tq := tq.kp (Kp.same (s := sr) s21)
    refine ⟨_, _, rfl, eqv_t tq tv2 (by rw [List.length_take]; omega), fun H22 s22 => ?_⟩
    have st := st.same s22
    have kA := kA.trans (Kp.same (s := sr) s22)
    have ta := ta.kp (Kp.same (s := sr) s22)
    have td := td.kp (Kp.same (s := sr) s22)
    exact k _ kA st
  · have ho : ¬ ((od : Int) ≤ (d : Int)) := fun z => ho (decide_eq_true z)
    have hk1 : d + 1 ≤ ns.length := dl
    have hk2 : d + 1 ≤ d + 1 ∨ zl (d + 1) ns := .inl (Nat.le_refl _)
    refine ⟨_, rfl, _, rfl, _, rfl, _, rfl, _, _, rfl, rfl, sr, _, rfl, st, by omega, fun r H18 r0 r1 kp18 st18 => ⟨sz2 (by show 2 ≤ 100; decide), fun p hp kp => ?_⟩⟩
    have st := st18
    have kA := kA.trans kp18
    have ta := ta.kp kp18
    have td := td.kp kp18
    have sp := Same.new hp (.lst [V.int (((d : Int) + 1)), .int r])
    have nep := st.ne hp
    have st := st.same sp
    have kA := kA.trans (Kp.same (s := sr) sp)
    have ta := ta.kp (Kp.same (s := sr) sp)
    have td := td.kp (Kp.same (s := sr) sp)
    refine ⟨sr, p, _, rfl, st, upd_same, Ne.symm nep, by show 0 < 2; decide, by show 2 < 1000; decide, fun x H19 hx kp19 st19 => ?_⟩
    have st := st19
    have kA := kA.trans kp19
    have ta := ta.kp kp19
    have td := td.kp kp19
    obtain ⟨m, rfl, em⟩ : ∃ m : Nat, x = .int (m : Int) ∧ (m : Int) ≤ ((d : Int) + 1) := by
      simp only [List.mem_cons, List.not_mem_nil, or_false] at hx
      rcases hx with rfl | rfl
      · exact ⟨(((d : Int) + 1) : Int).toNat, congrArg V.int (by omega), by omega⟩
      · exact ⟨r.toNat, congrArg V.int (by omega), by omega⟩
    have eb := gen _ hk1 hk2 m (by omega)
    refine ⟨_, rfl, _, rfl, _, rfl, _, rfl, sr, u, bfl ns d c, d, m, rfl, st, td.hl, td.kl, td.nl, by omega, d8, by omega, by omega, fun q H20 kp20 st20 hq kq hq20 => ?_⟩
    rw [eb] at hq20
    have tq : Tbl K sr H20 q (ns.take m) := ⟨hq20, kq, st.ne hq⟩
    have st := st20
    have kA := kA.trans kp20
    have ta := ta.kp kp20
    have td := td.kp kp20
    refine ⟨_, rfl, _, rfl, _, rfl, a, _, rfl, .of ta.hl, ?_⟩
    rw [show cutV (ns.map V.int) none (some (m : Int)) = (ns.take m).map V.int by rw [cut_to _ m (by omega), List.map_take]]
    refine fun v2 hv2 frv2 => ?_
    have s21 := Same.new hv2 (.lst ((ns.take m).map V.int))
    have tv2 : Tbl K sr (upd H20 v2 (.lst ((ns.take m).map V.int))) v2 (ns.take m) := ⟨upd_same, frv2 v2 (by rw [upd_same]; simp), st.ne hv2⟩
    have st := st.same s21
    have kA := kA.trans (Kp.same (s := sr) s21)
    have ta := ta.kp (Kp.same (s := sr) s21)
    have td := td.kp (Kp.same (s := sr) s21)
    have tq := tq.kp (Kp.same (s := sr) s21)
    refine ⟨_, _, rfl, eqv_t tq tv2 (by rw [List.length_take]; omega), fun H22 s22 => ?_⟩
    have st := st.same s22
    have kA := kA.trans (Kp.same (s := sr) s22)
    have ta := ta.kp (Kp.same (s := sr) s22)
    have td := td.kp (Kp.same (s := sr) s22)
    exact k _ kA st

end
end My

namespace My
open PySem PySem.Spec PyProof.Rows L2
section
variable {P : Program} {w : World} {K : PySem.W.Frag} {mg : Str → Option Value} {base : Heap}
/-! ### the tables, while the draws go on -/
theorem tabs_kp {T : List (Addr × Str)} {H H' : Hp} {s : Addr} {ys : List V} (e : Kp s H H') (hs : H s = some (.lst ys)) (t : LamX.Tabs T H) : LamX.Tabs T H' := fun p hp => by
  obtain ⟨ps, h1, h2, h3⟩ := t p hp
  refine ⟨ps, e _ _ (by rintro z; rw [z, hs] at h1; cases h1) h1, h2, fun pos cv hc => ?_⟩
  obtain ⟨c, e1, e2⟩ := h3 pos cv hc
  exact ⟨c, e1, e _ _ (by rintro z; rw [z, hs] at e2; unfold LamX.CodeO at e2; cases e2) e2⟩
theorem tabs_same {T : List (Addr × Str)} {H H' : Hp} (e : Same H H') (t : LamX.Tabs T H) : LamX.Tabs T H' := t.ext e
/-- all but the store and the tables stands -/
def Bg (s : Addr) (H H' : Hp) : Prop := ∀ b o, b ≠ s → (∀ ps, o ≠ .tbl ps) → H b = some o → H' b = some o
theorem Bg.refl (s : Addr) (H : Hp) : Bg s H H := fun _ _ _ _ h => h
theorem Bg.trans {s : Addr} {H H1 H2 : Hp} (a : Bg s H H1) (b : Bg s H1 H2) : Bg s H H2 := fun c o n m h => b c o n m (a c o n m h)
theorem Bg.kp {s : Addr} {H H1 : Hp} (a : Kp s H H1) : Bg s H H1 := fun c o n _ h => a c o n h
theorem Bg.same {s : Addr} {H H1 : Hp} (a : Same H H1) : Bg s H H1 := fun c o _ _ h => a c o h
theorem Bg.ext {s : Addr} {H H1 : Hp} (a : LamX.ExtN H H1) : Bg s H H1 := fun c o _ m h => a c o h m
theorem ob_bg {H H' : Hp} {s a : Addr} {ys xs : List V} (e : Bg s H H') (hs : H s = some (.lst ys)) (h : ob K H a = some (.tup xs)) : ob K H' a = some (.tup xs) := by
  unfold ob at h ⊢
  split
  · rename_i o q
    rw [q] at h
    exact h
  · rename_i q
    rw [q] at h
    exact e _ _ (by rintro rfl; rw [hs] at h; cases h) (fun ps z => by cases z) h
theorem Fq.bg {H H' : Hp} {s a : Addr} {n : Nat} {ys : List V} {q : Qt} (h : Fq K H n a q) (e : Bg s H H') (hs : H s = some (.lst ys)) : Fq K H' n a q := ⟨ob_bg e hs h.o, h.nf, h.sz⟩
theorem Sto.ext {H H' : Hp} {s : Addr} (h : Sto K H s) (e : LamX.ExtN H H') : Sto K H' s := by
  obtain ⟨sc, ns, i, b, c, d, x, f, h1, h2, h3⟩ := h
  exact ⟨sc, ns, i, b, c, d, x, f, e _ _ h1 (fun ps z => by cases z), e _ _ h2 (fun ps z => by cases z), h3⟩
theorem ob_ext {H H' : Hp} {a : Addr} {z : HO} (e : LamX.ExtN H H') (n : ∀ ps, z ≠ .tbl ps) (h : ob K H a = some z) : ob K H' a = some z := by
  unfold ob at h ⊢
  split
  · rename_i o q
    rw [q] at h
    exact h
  · rename_i q
    rw [q] at h
    exact e _ _ h n
theorem tyO_ntbl {z : HO} (h : (tyO (some z)).isSome) : ∀ ps, z ≠ .tbl ps := fun ps e => by subst e; cases h
theorem tyS_ext {H H' : Hp} {v : V} (e : LamX.ExtN H H') (h : (tyN K H v).isSome) : (tyN K H' v).isSome := by
  cases v with
  | ref a =>
    cases hz : ob K H a with
    | none => rw [tyN_ref, hz] at h; cases h
    | some z =>
      rw [tyN_ref, hz] at h
      rw [tyN_ref, ob_ext e (tyO_ntbl h) hz]
      exact h
  | _ => exact h
theorem Gd.ext {H H' : Hp} {v : V} (e : LamX.ExtN H H') (h : Gd K H v) : Gd K H' v := by
  cases v with
  | ref a =>
    cases hz : ob K H a with
    | none =>
      have := h.ty.1
      rw [tyN_ref, hz] at this
      cases this
    | some z =>
      have nz : ∀ ps, z ≠ .tbl ps := tyO_ntbl (by have := h.ty.1; rw [tyN_ref, hz] at this; exact this)
      have hz' := ob_ext e nz hz
      refine ⟨⟨tyS_ext e h.ty.1, fun b xs ev o x hx => ?_⟩, ?_⟩
      · cases ev
        rw [hz'] at o
        exact tyS_ext e (h.ty.2 a xs rfl (hz.trans o) x hx)
      · have e2 : frOk K H' (.ref a) = frOk K H (.ref a) := by simp only [frOk, hz, hz']
        rw [e2]
        exact h.no
  | _ => exact ⟨⟨h.ty.1, fun _ _ e => by cases e⟩, h.no⟩
structure LawS (K : PySem.W.Frag) (T : List (Addr × Str)) (H : Hp) (s : Addr) : Prop where
  st : Sto K H s
  tb : LamX.Tabs T H
theorem LawS.same {T : List (Addr × Str)} {H H' : Hp} {s : Addr} (h : LawS K T H s) (e : Same H H') : LawS K T H' s := ⟨h.st.same e, tabs_same e h.tb⟩
theorem LawS.kp {T : List (Addr × Str)} {H H' : Hp} {s : Addr} (h : LawS K T H s) (e : Kp s H H') (st : Sto K H' s) : LawS K T H' s := by
  obtain ⟨ys, hy⟩ := h.st.at
  exact ⟨st, tabs_kp e hy h.tb⟩
end
/-! ### a captured name that holds one of the four -/
def tCallX (i : Nat) (S : Addr → Prop) (sp : Sp) (E : XK) (t : TA) : TE := fun σ H Q => ∃ f, σ[i]? = some (some (.ref f)) ∧ S f ∧ t σ H fun vs H1 => sp (vs ++ []) H1 Q E
section
variable {X : Cx}
theorem pe_callX {k i : Nat} {S : Addr → Prop} {sp : Sp} {x : Str} {p pos : Pos} {e : Expr} {es : List Expr} {t : TA} {W : WX} (E : XK) (A : ∀ f, S f → ∃ fd ps, FnOk X.prog X.w X.K X.mg X.base (L2.CX X.prog X.w) k f fd ps sp ∧ PySem.W.keepIn X.K (.ref f) = true ∧ Binds X.K fd ps []) (hr : Room k X.A) (hN : X.N[i]? = some x) (hv : Vis X.env.scope x)
    (tk : Takes X W) (hW : ∀ cls d σ H, E cls d H → W cls d σ H) (ha : PA X (e :: es) t) (hdb : (x == ("__debug__" : Str)) = false := by decide) (hcd : (x == ("__classdict__" : Str)) = false := by decide)
    (he : starEach (e :: es) X.env = (false, eval e X.env) :: starEach es X.env := by rfl) (hpl : (backTo pos (starEach es X.env)).any (·.1) = false := by rfl) : PE X (.Call (.Name x p) (e :: es) [] pos) (tCallX i S sp E t) := ⟨fun pins s σ H Q I h => by
  obtain ⟨f, hs, hS, ht⟩ := h
  obtain ⟨fd, ps, F, hk, hb⟩ := A f hS
  exact (pe_callL (i := i) (f := f) (sp := sp) (dvs := []) (E := E) F hr hN hv hk hb .nil (passes_call tk hW) ha hdb hcd he hpl).run pins s σ H Q I ⟨hs, ht⟩⟩
end
section
variable {P : Program} {w : World} {K : PySem.W.Frag} {mg : Str → Option Value} {base : Heap}
theorem tyN_ext {H H' : Hp} {v : V} {t : String} (e : LamX.ExtN H H') (h : tyN K H v = some t) : tyN K H' v = some t := by
  cases v with
  | ref a =>
    have h1 : tyO (ob K H a) = some t := h
    show tyO (ob K H' a) = some t
    cases hz : ob K H a with
    | none => rw [hz] at h1; cases h1
    | some z =>
      rw [hz] at h1
      rw [ob_ext e (fun ps ez => by rw [ez] at h1; cases h1) hz]
      exact h1
  | _ => exact h
theorem eqv_tup {H : Hp} {a b : Addr} {xs : List V} (oa : ob K H a = some (.tup xs)) (ob' : ob K H b = some (.tup xs)) (hs : xs.all scv = true) (hl : xs.length ≤ 1000) : Eqv K H 1 (.ref a) (.ref b) := by
  refine .inr (.inl ⟨a, b, xs, xs, rfl, rfl, .inl ⟨oa, ob'⟩, rfl, hl, fun i x y hx hy => ?_⟩)
  rw [hx] at hy
  cases hy
  exact ⟨rfl, List.all_eq_true.mp hs x (List.mem_of_getElem? hx)⟩
/-- the store grows nothing but its own number, the tables grow -/
def Bk (s : Addr) (H H' : Hp) : Prop := Bg s H H' ∧ ∀ x r, H s = some (.lst (x :: r)) → ∃ r', H' s = some (.lst (x :: r'))
theorem Bk.trans {s : Addr} {H H1 H2 : Hp} (a : Bk s H H1) (b : Bk s H1 H2) : Bk s H H2 := ⟨a.1.trans b.1, fun x r e => by
  obtain ⟨r', e'⟩ := a.2 x r e
  exact b.2 x r' e'⟩
theorem Bk.kp {s : Addr} {H H1 : Hp} (a : Kp s H H1) : Bk s H H1 := ⟨Bg.kp a, a.2⟩
theorem Bk.same {s : Addr} {H H1 : Hp} (a : Same H H1) : Bk s H H1 := Bk.kp (Kp.same a)
theorem Bk.ext {s : Addr} {H H1 : Hp} (a : LamX.ExtN H H1) : Bk s H H1 := ⟨Bg.ext a, fun x r e => ⟨r, a _ _ e (fun ps z => by cases z)⟩⟩
theorem Sto.mutB {H0 H' : Hp} {s l : Addr} {o : HO} (st0 : Sto K H0 s) (hl : H0 l = none) (kp : Bk s H0 H') (st : Sto K H' s) : Sto K (upd H' l o) s ∧ Bk s H0 (upd H' l o) := by
  obtain ⟨sc0, ns0, i0, b0, c0, d0, e0, f0, g1, g2, g3⟩ := st0
  obtain ⟨sc, ns, i, b, c, d, e, f, h1, h2, h3⟩ := st
  obtain ⟨r', hr⟩ := kp.2 _ _ g1
  rw [h1] at hr
  cases hr
  have n1 : s ≠ l := by rintro rfl; rw [g1] at hl; cases hl
  have n2 : sc0 ≠ l := by rintro rfl; rw [g2] at hl; cases hl
  refine ⟨⟨sc0, ns, i, b, c, d, e, f, by rw [upd_ne n1]; exact h1, by rw [upd_ne n2]; exact h2, h3⟩, fun b o n m e => ?_, fun x r e => ?_⟩
  · rw [upd_ne (ne_of_none e hl)]
    exact kp.1 b o n m e
  · obtain ⟨r2, hr2⟩ := kp.2 x r e
    exact ⟨r2, by rw [upd_ne n1]; exact hr2⟩
theorem BadR.ext {hi : Int} {s : Addr} {H H' : Hp} {v : V} (h : BadR K hi s H v) (e : LamX.ExtN H H') : BadR K hi s H' v := by
  refine ⟨?_, h.2⟩
  rcases h.1 with ⟨t, ht, nt⟩ | ⟨a, xs, rfl, o, hx⟩
  · exact .inl ⟨t, tyN_ext e ht, nt⟩
  · exact .inr ⟨a, xs, rfl, ob_ext e (fun ps z => by cases z) o, hx.imp id fun ⟨l1, l2, ty, x, hm, g⟩ => ⟨l1, l2, fun y hy => tyS_ext e (ty y hy), x, hm, g⟩⟩
structure AskD (K : PySem.W.Frag) (mg : Str → Option Value) (g : Addr) (oc : Value) (od : Option Addr) (dV kV doc pm : Value) (an : Option Addr) (cdv ct : Value) (osl : Array (Option Value)) : Prop where
  m : mg "_law_asked" = some (.ref g)
  kp : PySem.W.keepIn K (.ref g) = true
  lk : K.lookup g = some ⟨oc, od, .func (PySem.W.fnOf "_law_asked" "_law_asked" (defArgs sAsked) (defBody sAsked) (defScope sAsked) dV kV doc pm an cdv ct), osl⟩
  cd : PySem.W.codeIn K cdv "_law_asked" = true
  b : Binds K (PySem.W.fnOf "_law_asked" "_law_asked" (defArgs sAsked) (defBody sAsked) (defScope sAsked) dV kV doc pm an cdv ct) ["_law_call"] []
theorem Tbl.bg {H H' : Hp} {s l : Addr} {ns : List Int} (h : Tbl K s H l ns) (e : Bk s H H') : Tbl K s H' l ns := ⟨e.1 _ _ h.nl (fun ps z => by cases z) h.hl, h.kl, h.nl⟩
/-- no bool, and no list -/
def OddR (K : PySem.W.Frag) (H : Hp) (v : V) : Prop := ∃ t, tyN K H v = some t ∧ isB t "bool" = false ∧ t ≠ "list"
theorem OddR.same {H H' : Hp} {v : V} (h : OddR K H v) (e : Same H H') : OddR K H' v := h.imp fun _ h => ⟨tyN_same e h.1, h.2⟩
theorem OddR.kp {s : Addr} {H H' : Hp} {v : V} (h : OddR K H v) (n : v ≠ .ref s) (e : Kp s H H') : OddR K H' v := h.imp fun _ h => ⟨tyN_kp e n h.1, h.2⟩
theorem OddR.ext {H H' : Hp} {v : V} (h : OddR K H v) (e : LamX.ExtN H H') : OddR K H' v := h.imp fun _ h => ⟨tyN_ext e h.1, h.2⟩
theorem OddR.ne {s : Addr} {H : Hp} {v : V} (h : OddR K H v) (st : Sto K H s) : v ≠ .ref s := fun e => by
  obtain ⟨t, ht, _, nl⟩ := h
  obtain ⟨ys, hys⟩ := st.ob
  rw [e, tyN_ref, hys] at ht
  cases ht
  exact nl rfl
def OdS (K : PySem.W.Frag) (s : Addr) (H : Hp) (v : V) : Prop := OddR K H v ∧ v ≠ .ref s
theorem OdS.same {s : Addr} {H H' : Hp} {v : V} (h : OdS K s H v) (e : Same H H') : OdS K s H' v := ⟨h.1.same e, h.2⟩
theorem OdS.kp {s : Addr} {H H' : Hp} {v : V} (h : OdS K s H v) (e : Kp s H H') : OdS K s H' v := ⟨h.1.kp h.2 e, h.2⟩
theorem OdS.ext {s : Addr} {H H' : Hp} {v : V} (h : OdS K s H v) (e : LamX.ExtN H H') : OdS K s H' v := ⟨h.1.ext e, h.2⟩
def qTR : Str := ("_law_table_right" ++ ".<locals>.") ++ "<lambda>"
def qRf : Str := ("_law_refused" ++ ".<locals>.") ++ "<lambda>"
def Tt (P1 P2 : Addr) : List (Addr × Str) := [(P1, qTR), (P2, qRf)]
def spRefused (K : PySem.W.Frag) (TT : List (Addr × Str)) : Sp := fun vs H Q _ => ∃ (sr a : Addr) (ns : List Int), vs = [.ref sr, .ref a] ∧ LawS K TT H sr ∧ Tbl K sr H a ns ∧ 1 ≤ ns.length ∧ ns.length ≤ 60 ∧ ∀ H', Bk sr H H' → LawS K TT H' sr → Q (.bl true) H'
abbrev sRefused : Stmt := topS 60
theorem scRefused : FnScope ["_law_store_here", "_law_values", "_law_told", "_law_many", "_law_none", "_law_odd", "_law_over", "_law_some", "_law_way", "_law_worse"] ["_law_store_here", "_law_values"] (defScope sRefused) := ⟨rfl, rfl, rfl, by decide +kernel, rfl, by decide +kernel, by decide +kernel⟩
theorem ok_Refused {CB MM S fa g c P1 P2 : Addr} {A : String → Addr} {oc dV kV doc pm cdv ct oc' dV' kV' doc' pm' ct' : Value} {od an od' an' : Option Addr} {osl osl' : Array (Option Value)} (T : Bt K mg) (B : BvT K mg CB) (AT : AskT K mg CB S A) (AM : AskM K MM S A) (AS : AskD K mg g oc od dV kV doc pm an cdv ct osl)
    (lkR : K.lookup fa = some ⟨oc', od', .func (PySem.W.fnOf "_law_refused" "_law_refused" (defArgs sRefused) (defBody sRefused) (defScope sRefused) dV' kV' doc' pm' an' (.ref c) ct'), osl'⟩) (cdR : PySem.W.codeIn K (.ref c) "_law_refused" = true) (TB : LamX.TabB base mg c P2) (n12 : P1 ≠ P2)
    (XCO : KnC P w K mg base (L2.CX P w) 4 "continued" ["values", "degree", "count", "back"] (spCoX K CB MM))
    (d__law_beyond : Kn P w K mg base 5 "_law_beyond" ["_law_store_here", "_law_low", "_law_high"] (spBy K)) (d__law_no_table : Kn P w K mg base 5 "_law_no_table" ["_law_store_here", "_law_values"] (spNT K)) (d__law_pick : Kn P w K mg base 3 "_law_pick" ["_law_store_here", "_law_row"] (spPick K)) (d__law_same : Kn P w K mg base 6 "_law_same" ["_law_told", "_law_due"] (spSame K 5)) : FnOk P w K mg base CX0 8 fa (PySem.W.fnOf "_law_refused" "_law_refused" (defArgs sRefused) (defBody sRefused) (defScope sRefused) dV' kV' doc' pm' an' (.ref c) ct') ["_law_store_here", "_law_values"] (spRefused K (Tt P1 P2)) := by
  refine fn_of lkR cdR scRefused (fun vs H Q E h => ?_) fun A outer s H vs Q E hr h => ?_
  · obtain ⟨sr, a, ns, rfl, _⟩ := h
    rfl
  obtain ⟨sr, a, ns, rfl, LS0, ta, n1, n60, k⟩ := h
  refine ⟨_, PSs.nox (pss_cons (ps_set (i := 4) scRefused.nd rfl (.inr rfl) (pe_kn d__law_no_table hr (by rfl) (pa_cons (pv 0) (pa_cons (pv 1) pa_nil))))
      (pss_cons (ps_set (i := 9) scRefused.nd rfl (.inr rfl) (pe_kn d__law_beyond hr (by rfl) (pa_cons (pv 0) (pa_cons pe_int (pa_cons pe_int pa_nil)))))
      (pss_cons (ps_set (i := 6) scRefused.nd rfl (.inr rfl) (pe_kn d__law_beyond hr (by rfl) (pa_cons (pv 0) (pa_cons pe_int (pa_cons pe_int pa_nil)))))
      (pss_cons (ps_set (i := 5) scRefused.nd rfl (.inr rfl) (pe_kn d__law_pick hr (by rfl) (pa_cons (pv 0) (pa_cons (pe_ls (pa_cons pe_int (pa_cons pe_int (pa_cons pe_non (pa_cons pe_str (pa_cons (pe_tp pa_nil) (pa_cons pe_str pa_nil))))))) pa_nil))))
      (pss_cons (ps_set (i := 7) scRefused.nd rfl (.inr rfl) (pe_kn d__law_pick hr (by rfl) (pa_cons (pv 0) (pa_cons (pe_ls (pa_cons pe_int (pa_cons pe_int (pa_cons (pv 9) pa_nil)))) pa_nil))))
      (pss_cons (ps_set (i := 3) scRefused.nd rfl (.inr rfl) (pe_kn d__law_pick hr (by rfl) (pa_cons (pv 0) (pa_cons (pe_ls (pa_cons pe_int (pa_cons pe_int (pa_cons (pv 6) pa_nil)))) pa_nil))))
      (pss_cons (ps_set (i := 8) scRefused.nd rfl (.inr rfl) (pe_kn d__law_pick hr (by rfl) (pa_cons (pv 0) (pa_cons (pe_ls (pa_cons pe_bl (pa_cons pe_bl (pa_cons (pv 5) pa_nil)))) pa_nil))))
      (pss_cons (ps_set (i := 2) scRefused.nd rfl (.inl rfl) (LamX.pe_lamcall (T := Tt P1 P2) (TT := TAsk2 K CB MM) (t := fun E => tCallN 1 3 (spCoX K CB MM) (fun vs zs => app3 vs [] zs) E (tCons (tVar 4) L2.tNil) (tCons (tVar 7) (tCons (tVar 3) (tCons (tVar 8) L2.tNil)))) (by rfl) AS.m AS.kp AS.lk AS.cd AS.b scAsked rfl (.inl rfl) (asked_gives2 T B AT AM) TB rfl (List.mem_cons_of_mem _ (List.mem_cons_self ..)) (fun p hp hh => by
      simp only [Tt, List.mem_cons, List.not_mem_nil, or_false] at hp
      rcases hp with rfl | rfl
      · exact absurd hh n12
      · exact rfl
) hr (LamX.lamS_by (by show LamX.lamSB (defScope sRefused) _ = true; decide +kernel)) rfl (fun _ _ _ _ _ => rfl) (fun A outer s H E f c' hr' => pe_cx3 E XCO hr' (by rfl) (takes_of rfl rfl rfl rfl) (fun _ _ _ _ h => h) (pa_cons (pv 4) pa_nil) (pk_cons (pv 7) (pk_cons (pv 3) (pk_cons (pv 8) pk_nil))))))
      (pss_cons (ps_if (pt_not (pt_val (pe_kn d__law_same hr (by rfl) (pa_cons (pv 2) (pa_cons (pe_tp (pa_cons pe_str (pa_cons pe_str pa_nil))) pa_nil))))) (pss_one (ps_ret pe_bl)) pss_nil)
      (pss_cons (ps_set (i := 2) scRefused.nd rfl (.inl rfl) (LamX.pe_lamcall (T := Tt P1 P2) (TT := TAsk2 K CB MM) (t := fun E => tCallN 1 3 (spCoX K CB MM) (fun vs zs => app3 vs [] zs) E (tCons (tVar 1) L2.tNil) (tCons (tVar 9) (tCons (tVar 3) (tCons (tVar 8) L2.tNil)))) (by rfl) AS.m AS.kp AS.lk AS.cd AS.b scAsked rfl (.inl rfl) (asked_gives2 T B AT AM) TB rfl (List.mem_cons_of_mem _ (List.mem_cons_self ..)) (fun p hp hh => by
      simp only [Tt, List.mem_cons, List.not_mem_nil, or_false] at hp
      rcases hp with rfl | rfl
      · exact absurd hh n12
      · exact rfl
) hr (LamX.lamS_by (by show LamX.lamSB (defScope sRefused) _ = true; decide +kernel)) rfl (fun _ _ _ _ _ => rfl) (fun A outer s H E f c' hr' => pe_cx3 E XCO hr' (by rfl) (takes_of rfl rfl rfl rfl) (fun _ _ _ _ h => h) (pa_cons (pv 1) pa_nil) (pk_cons (pv 9) (pk_cons (pv 3) (pk_cons (pv 8) pk_nil))))))
      (pss_cons (ps_if (pt_not (pt_val (pe_kn d__law_same hr (by rfl) (pa_cons (pv 2) (pa_cons (pe_tp (pa_cons pe_str (pa_cons pe_str pa_nil))) pa_nil))))) (pss_one (ps_ret pe_bl)) pss_nil)
      (pss_cons (ps_set (i := 7) scRefused.nd rfl (.inr rfl) (pe_kn d__law_pick hr (by rfl) (pa_cons (pv 0) (pa_cons (pe_ls (pa_cons pe_int (pa_cons pe_int pa_nil))) pa_nil))))
      (pss_cons (ps_set (i := 2) scRefused.nd rfl (.inl rfl) (LamX.pe_lamcall (T := Tt P1 P2) (TT := TAsk2 K CB MM) (t := fun E => tCallN 1 3 (spCoX K CB MM) (fun vs zs => app3 vs [] zs) E (tCons (tVar 1) L2.tNil) (tCons (tVar 7) (tCons (tVar 6) (tCons (tVar 8) L2.tNil)))) (by rfl) AS.m AS.kp AS.lk AS.cd AS.b scAsked rfl (.inl rfl) (asked_gives2 T B AT AM) TB rfl (List.mem_cons_of_mem _ (List.mem_cons_self ..)) (fun p hp hh => by
      simp only [Tt, List.mem_cons, List.not_mem_nil, or_false] at hp
      rcases hp with rfl | rfl
      · exact absurd hh n12
      · exact rfl
) hr (LamX.lamS_by (by show LamX.lamSB (defScope sRefused) _ = true; decide +kernel)) rfl (fun _ _ _ _ _ => rfl) (fun A outer s H E f c' hr' => pe_cx3 E XCO hr' (by rfl) (takes_of rfl rfl rfl rfl) (fun _ _ _ _ h => h) (pa_cons (pv 1) pa_nil) (pk_cons (pv 7) (pk_cons (pv 6) (pk_cons (pv 8) pk_nil))))))
      (pss_cons (ps_if (pt_not (pt_val (pe_kn d__law_same hr (by rfl) (pa_cons (pv 2) (pa_cons (pe_tp (pa_cons pe_str (pa_cons pe_str pa_nil))) pa_nil))))) (pss_one (ps_ret pe_bl)) pss_nil)
      (pss_cons (ps_set (i := 2) scRefused.nd rfl (.inl rfl) (LamX.pe_lamcall (T := Tt P1 P2) (TT := TAsk2 K CB MM) (t := fun E => tCallN 1 3 (spCoX K CB MM) (fun vs zs => app3 vs [] zs) E (tCons (tVar 1) L2.tNil) (tCons (tVar 7) (tCons (tC (.int 1)) (tCons (tVar 5) L2.tNil)))) (by rfl) AS.m AS.kp AS.lk AS.cd AS.b scAsked rfl (.inl rfl) (asked_gives2 T B AT AM) TB rfl (List.mem_cons_of_mem _ (List.mem_cons_self ..)) (fun p hp hh => by
      simp only [Tt, List.mem_cons, List.not_mem_nil, or_false] at hp
      rcases hp with rfl | rfl
      · exact absurd hh n12
      · exact rfl
) hr (LamX.lamS_by (by show LamX.lamSB (defScope sRefused) _ = true; decide +kernel)) rfl (fun _ _ _ _ _ => rfl) (fun A outer s H E f c' hr' => pe_cx3 E XCO hr' (by rfl) (takes_of rfl rfl rfl rfl) (fun _ _ _ _ h => h) (pa_cons (pv 1) pa_nil) (pk_cons (pv 7) (pk_cons pe_int (pk_cons (pv 5) pk_nil))))))
      (pss_one (ps_ret (pe_kn d__law_same hr (by rfl) (pa_cons (pv 2) (pa_cons (pe_tp (pa_cons pe_str (pa_cons pe_str pa_nil))) pa_nil)))))))))))))))))))), ?_⟩
  simp only [cx_K]
  have LS := LS0
  have bk : Bk sr H H := Bk.same (Same.refl H)
  refine ⟨_, rfl, _, rfl, sr, a, ns, rfl, LS.st, ta.hl, ta.kl, ta.nl, n1, n60, fun none H1 bn kp1 st1 => ?_⟩
  have LS := LS.kp kp1 st1
  have bk := bk.trans (Bk.kp kp1)
  have ta := ta.bg (Bk.kp kp1)
  refine ⟨_, rfl, sr, 8, rfl, LS.st, by decide, by decide, fun worse H2 tyw inw kp2 st2 => ?_⟩
  have LS := LS.kp kp2 st2
  have bk := bk.trans (Bk.kp kp2)
  have ta := ta.bg (Bk.kp kp2)
  have bn := bn.kp kp2 st2
  refine ⟨_, rfl, sr, 60, rfl, LS.st, by decide, by decide, fun over H3 tyo ino kp3 st3 => ?_⟩
  have LS := LS.kp kp3 st3
  have bk := bk.trans (Bk.kp kp3)
  have ta := ta.bg (Bk.kp kp3)
  have bn := bn.kp kp3 st3
  have tyw := tyS_kp kp3 st3 tyw
  clear kp1 kp2 kp3 st1 st2 st3
  refine ⟨_, rfl, sz2 (by show 0 ≤ 100; decide), fun q0 hq0 kq0 => ?_⟩
  have s0 := Same.new hq0 (.tup [])
  have LS := LS.same s0
  have bk := bk.trans (Bk.same s0)
  have ta := ta.bg (Bk.same s0)
  have bn := bn.same s0
  have tyw := tyS_same s0 tyw
  have tyo := tyS_same s0 tyo
  have oq : OddR K (upd H3 q0 (.tup [])) (.ref q0) := ⟨"tuple", by rw [tyN_ref, ob_new kq0]; rfl, rfl, by decide⟩
  refine ⟨sz2 (by show 6 ≤ 100; decide), fun p hp kp => ?_⟩
  have sp := Same.new hp (.lst [.int 0, .int 1, .non, .str "", .ref q0, .str "True"])
  have stp := LS.st.same sp
  have nep := LS.st.ne hp
  have LS := LS.same sp
  have bk := bk.trans (Bk.same sp)
  have ta := ta.bg (Bk.same sp)
  have bn := bn.same sp
  have tyw := tyS_same sp tyw
  have tyo := tyS_same sp tyo
  have oq := oq.same sp
  refine ⟨sr, p, _, rfl, stp, upd_same, Ne.symm nep, by show 0 < 6; decide, by show 6 < 1000; decide, fun odd Hq hx kq stq => ?_⟩
  have noq : V.ref q0 ≠ .ref sr := oq.ne stp
  have oq := oq.kp noq kq
  have LS := LS.kp kq stq
  have bk := bk.trans (Bk.kp kq)
  have ta := ta.bg (Bk.kp kq)
  have bn := bn.kp kq stq
  have tyw := tyS_kp kq stq tyw
  have tyo := tyS_kp kq stq tyo
  have od : OddR K Hq odd := by
    simp only [List.mem_cons, List.not_mem_nil, or_false] at hx
    rcases hx with rfl | rfl | rfl | rfl | rfl | rfl
    · exact ⟨"int", rfl, rfl, by decide⟩
    · exact ⟨"int", rfl, rfl, by decide⟩
    · exact ⟨"NoneType", rfl, rfl, by decide⟩
    · exact ⟨"str", rfl, rfl, by decide⟩
    · exact oq
    · exact ⟨"str", rfl, rfl, by decide⟩
  clear hp kp sp stp nep kq stq hx oq s0 hq0 noq kq0
  have od : OdS K sr Hq odd := ⟨od, od.ne LS.st⟩
  refine ⟨_, rfl, _, rfl, sz2 (by show 3 ≤ 100; decide), fun p hp kp => ?_⟩
  have sp := Same.new hp (.lst [.int 0, .int 8, worse])
  have stp := LS.st.same sp
  have nep := LS.st.ne hp
  have LS := LS.same sp
  have bk := bk.trans (Bk.same sp)
  have ta := ta.bg (Bk.same sp)
  have bn := bn.same sp
  have tyw := tyS_same sp tyw
  have tyo := tyS_same sp tyo
  have od := od.same sp
  refine ⟨sr, p, _, rfl, stp, upd_same, Ne.symm nep, by show 0 < 3; decide, by show 3 < 1000; decide, fun some0 Hq hx kq stq => ?_⟩
  have LS := LS.kp kq stq
  have bk := bk.trans (Bk.kp kq)
  have ta := ta.bg (Bk.kp kq)
  have bn := bn.kp kq stq
  have tyw := tyS_kp kq stq tyw
  have tyo := tyS_kp kq stq tyo
  have od := od.kp kq
  clear hp kp sp stp nep kq stq hx
  refine ⟨_, rfl, _, rfl, sz2 (by show 3 ≤ 100; decide), fun p hp kp => ?_⟩
  have sp := Same.new hp (.lst [.int 0, .int 60, over])
  have stp := LS.st.same sp
  have nep := LS.st.ne hp
  have LS := LS.same sp
  have bk := bk.trans (Bk.same sp)
  have ta := ta.bg (Bk.same sp)
  have bn := bn.same sp
  have tyw := tyS_same sp tyw
  have tyo := tyS_same sp tyo
  have od := od.same sp
  refine ⟨sr, p, _, rfl, stp, upd_same, Ne.symm nep, by show 0 < 3; decide, by show 3 < 1000; decide, fun many Hq hx kq stq => ?_⟩
  have LS := LS.kp kq stq
  have bk := bk.trans (Bk.kp kq)
  have ta := ta.bg (Bk.kp kq)
  have bn := bn.kp kq stq
  have tyw := tyS_kp kq stq tyw
  have tyo := tyS_kp kq stq tyo
  have od := od.kp kq
  clear hp kp sp stp nep kq stq hx
  refine ⟨_, rfl, _, rfl, sz2 (by show 3 ≤ 100; decide), fun p hp kp => ?_⟩
  have sp := Same.new hp (.lst [.bl true, .bl false, odd])
  have stp := LS.st.same sp
  have nep := LS.st.ne hp
  have LS := LS.same sp
  have bk := bk.trans (Bk.same sp)
  have ta := ta.bg (Bk.same sp)
  have bn := bn.same sp
  have tyw := tyS_same sp tyw
  have tyo := tyS_same sp tyo
  have od := od.same sp
  refine ⟨sr, p, _, rfl, stp, upd_same, Ne.symm nep, by show 0 < 3; decide, by show 3 < 1000; decide, fun way Hq hx kq stq => ?_⟩
  have LS := LS.kp kq stq
  have bk := bk.trans (Bk.kp kq)
  have ta := ta.bg (Bk.kp kq)
  have bn := bn.kp kq stq
  have tyw := tyS_kp kq stq tyw
  have tyo := tyS_kp kq stq tyo
  have od := od.kp kq
  clear hp kp sp stp nep kq stq hx
  refine ⟨LS.tb, fun Ha ea tt => ?_⟩
  have LS : LawS K (Tt P1 P2) _ sr := ⟨LS.st.ext ea, tt⟩
  have bk := bk.trans (Bk.ext ea)
  have ta := ta.bg (Bk.ext ea)
  have bn := bn.ext ea
  have tyw := tyS_ext ea tyw
  have tyo := tyS_ext ea tyo
  have od := od.ext ea
  refine ⟨_, rfl, _, rfl, _, rfl, _, rfl, rfl, rfl, .inl ⟨none, some0, many, way, rfl, bn.1, fun dd Hb sb hb => .inl ⟨rfl, dd, _, rfl, hb, fun c2 Hc sc oc => ?_⟩⟩⟩
  refine ⟨_, rfl, sz2 (by show 2 ≤ 100; decide), fun p hp kp => ?_⟩
  have sd := Same.new hp (.tup [.str "BadValue", .str "values"])
  refine ⟨_, _, rfl, (eqv_tup (ob_same sd oc) (ob_new kp) rfl (by show 2 ≤ 1000; omega)).up.up.up, fun He se => ?_⟩
  have sY := (sb.trans sc).trans (sd.trans se)
  have LS := LS.same sY
  have bk := bk.trans (Bk.same sY)
  have ta := ta.bg (Bk.same sY)
  have bn := bn.same sY
  have tyw := tyS_same sY tyw
  have tyo := tyS_same sY tyo
  have od := od.same sY
  refine ⟨true, rfl, if_no rfl ?_⟩
  clear ea tt sb hb sc oc sd se sY hp kp
  refine ⟨LS.tb, fun Ha ea tt => ?_⟩
  have LS : LawS K (Tt P1 P2) _ sr := ⟨LS.st.ext ea, tt⟩
  have bk := bk.trans (Bk.ext ea)
  have ta := ta.bg (Bk.ext ea)
  have tyw := tyS_ext ea tyw
  have tyo := tyS_ext ea tyo
  have od := od.ext ea
  refine ⟨_, rfl, _, rfl, _, rfl, _, rfl, rfl, rfl, .inr (.inl ⟨_, worse, many, way, rfl, ⟨a, ns, rfl, ta.hl, ta.kl, n1, n60⟩, tyw, inw, fun dd Hb sb hb => .inl ⟨rfl, dd, _, rfl, hb, fun c2 Hc sc oc => ?_⟩⟩)⟩
  refine ⟨_, rfl, sz2 (by show 2 ≤ 100; decide), fun p hp kp => ?_⟩
  have sd := Same.new hp (.tup [.str "BadValue", .str "degree"])
  refine ⟨_, _, rfl, (eqv_tup (ob_same sd oc) (ob_new kp) rfl (by show 2 ≤ 1000; omega)).up.up.up, fun He se => ?_⟩
  have sY := (sb.trans sc).trans (sd.trans se)
  have LS := LS.same sY
  have bk := bk.trans (Bk.same sY)
  have ta := ta.bg (Bk.same sY)
  have tyw := tyS_same sY tyw
  have tyo := tyS_same sY tyo
  have od := od.same sY
  refine ⟨true, rfl, if_no rfl ?_⟩
  clear ea tt sb hb sc oc sd se sY hp kp
  refine ⟨_, rfl, sz2 (by show 2 ≤ 100; decide), fun p hp kp => ?_⟩
  have sp := Same.new hp (.lst [.int 0, .int 8])
  have stp := LS.st.same sp
  have nep := LS.st.ne hp
  have LS := LS.same sp
  have bk := bk.trans (Bk.same sp)
  have ta := ta.bg (Bk.same sp)
  have tyo := tyS_same sp tyo
  have od := od.same sp
  refine ⟨sr, p, _, rfl, stp, upd_same, Ne.symm nep, by show 0 < 2; decide, by show 2 < 1000; decide, fun some1 Hq hx kq stq => ?_⟩
  have LS := LS.kp kq stq
  have bk := bk.trans (Bk.kp kq)
  have ta := ta.bg (Bk.kp kq)
  have tyo := tyS_kp kq stq tyo
  have od := od.kp kq
  obtain ⟨d, rfl, d8⟩ : ∃ d : Nat, some1 = .int (d : Int) ∧ d ≤ 8 := by
    simp only [List.mem_cons, List.not_mem_nil, or_false] at hx
    rcases hx with rfl | rfl
    · exact ⟨0, rfl, by omega⟩
    · exact ⟨8, rfl, by omega⟩
  clear hp kp sp stp nep kq stq hx
  refine ⟨LS.tb, fun Ha ea tt => ?_⟩
  have LS : LawS K (Tt P1 P2) _ sr := ⟨LS.st.ext ea, tt⟩
  have bk := bk.trans (Bk.ext ea)
  have ta := ta.bg (Bk.ext ea)
  have tyo := tyS_ext ea tyo
  have od := od.ext ea
  refine ⟨_, rfl, _, rfl, _, rfl, _, rfl, rfl, rfl, .inr (.inr (.inl ⟨_, _, over, way, rfl, ⟨a, ns, rfl, ta.hl, ta.kl, n1, n60⟩, rfl, inB_nat (by omega), tyo, ino, fun dd Hb sb hb => .inl ⟨rfl, dd, _, rfl, hb, fun c2 Hc sc oc => ?_⟩⟩))⟩
  refine ⟨_, rfl, sz2 (by show 2 ≤ 100; decide), fun p hp kp => ?_⟩
  have sd := Same.new hp (.tup [.str "BadValue", .str "count"])
  refine ⟨_, _, rfl, (eqv_tup (ob_same sd oc) (ob_new kp) rfl (by show 2 ≤ 1000; omega)).up.up.up, fun He se => ?_⟩
  have sY := (sb.trans sc).trans (sd.trans se)
  have LS := LS.same sY
  have bk := bk.trans (Bk.same sY)
  have ta := ta.bg (Bk.same sY)
  have tyo := tyS_same sY tyo
  have od := od.same sY
  refine ⟨true, rfl, if_no rfl ?_⟩
  clear ea tt sb hb sc oc sd se sY hp kp
  refine ⟨LS.tb, fun Ha ea tt => ?_⟩
  have LS : LawS K (Tt P1 P2) _ sr := ⟨LS.st.ext ea, tt⟩
  have bk := bk.trans (Bk.ext ea)
  have ta := ta.bg (Bk.ext ea)
  have od := od.ext ea
  refine ⟨_, rfl, _, rfl, _, rfl, rfl, rfl, .inr (.inr (.inr (.inl ⟨_, _, _, odd, od.1.choose, rfl, ⟨a, ns, rfl, ta.hl, ta.kl, n1, n60⟩, rfl, inB_nat (by omega), rfl, inB_nat (d := 1) (by omega), od.1.choose_spec.1, od.1.choose_spec.2.1, fun dd Hb sb hb => .inl ⟨rfl, dd, _, rfl, hb, fun c2 Hc sc oc => ?_⟩⟩)))⟩
  refine ⟨_, rfl, sz2 (by show 2 ≤ 100; decide), fun p hp kp => ?_⟩
  have sd := Same.new hp (.tup [.str "BadValue", .str "back"])
  refine ⟨_, _, rfl, (eqv_tup (ob_same sd oc) (ob_new kp) rfl (by show 2 ≤ 1000; omega)).up.up.up, fun He se => ?_⟩
  have sY := (sb.trans sc).trans (sd.trans se)
  have LS := LS.same sY
  have bk := bk.trans (Bk.same sY)
  have ta := ta.bg (Bk.same sY)
  have od := od.same sY
  exact k He bk LS
end
end My

namespace My
open PySem PySem.Spec PyProof.Rows L2
section
variable {P : Program} {w : World} {K : PySem.W.Frag} {mg : Str → Option Value} {base : Heap}
def spTR (K : PySem.W.Frag) (TT : List (Addr × Str)) : Sp := fun vs H Q _ => ∃ (sr a : Addr) (ns : List Int) (d : Nat), vs = [.ref sr, .ref a, .int d] ∧ LawS K TT H sr ∧ Tbl K sr H a ns ∧ 1 ≤ ns.length ∧ ns.length ≤ 60 ∧ d ≤ 8 ∧ ∀ H', Bk sr H H' → LawS K TT H' sr → Q (.bl true) H'
abbrev sTR : Stmt := topS 58
theorem scTR : FnScope ["_law_store_here", "_law_values", "_law_some", "_law_counts", "_law_told", "_law_many", "_law_other"] ["_law_store_here", "_law_values", "_law_some"] (defScope sTR) := ⟨rfl, rfl, rfl, by decide +kernel, rfl, by decide +kernel, by decide +kernel⟩
theorem ok_TR {CB MM S fa g c P1 P2 : Addr} {A : String → Addr} {oc dV kV doc pm cdv ct oc' dV' kV' doc' pm' ct' : Value} {od an od' an' : Option Addr} {osl osl' : Array (Option Value)} (T : Bt K mg) (B : BvT K mg CB) (AT : AskT K mg CB S A) (AM : AskM K MM S A) (AS : AskD K mg g oc od dV kV doc pm an cdv ct osl)
    (lkR : K.lookup fa = some ⟨oc', od', .func (PySem.W.fnOf "_law_table_right" "_law_table_right" (defArgs sTR) (defBody sTR) (defScope sTR) dV' kV' doc' pm' an' (.ref c) ct'), osl'⟩) (cdR : PySem.W.codeIn K (.ref c) "_law_table_right" = true) (TB : LamX.TabB base mg c P1) (n12 : P1 ≠ P2)
    (XCO : KnC P w K mg base (L2.CX P w) 4 "continued" ["values", "degree", "count", "back"] (spCoX K CB MM))
    (d__law_size : Kn P w K mg base 3 "_law_size" ["_law_store_here", "_law_top"] (spSize K)) (d__law_pick : Kn P w K mg base 3 "_law_pick" ["_law_store_here", "_law_row"] (spPick K)) (d__law_on_right : Kn P w K mg base 7 "_law_on_right" ["_law_store_here", "_law_values", "_law_some", "_law_many"] (spOn K)) (d__law_back_right : Kn P w K mg base 7 "_law_back_right" ["_law_store_here", "_law_values", "_law_some", "_law_many"] (spOn K)) (d__law_same : Kn P w K mg base 6 "_law_same" ["_law_told", "_law_due"] (spSame K 5)) : FnOk P w K mg base CX0 8 fa (PySem.W.fnOf "_law_table_right" "_law_table_right" (defArgs sTR) (defBody sTR) (defScope sTR) dV' kV' doc' pm' an' (.ref c) ct') ["_law_store_here", "_law_values", "_law_some"] (spTR K (Tt P1 P2)) := by
  refine fn_of lkR cdR scTR (fun vs H Q E h => ?_) fun A outer s H vs Q E hr h => ?_
  · obtain ⟨sr, a, ns, d, rfl, _⟩ := h
    rfl
  obtain ⟨sr, a, ns, d, rfl, LS0, ta, n1, n60, d8, k⟩ := h
  refine ⟨_, PSs.nox (pss_cons (ps_set (i := 3) scTR.nd rfl (.inl rfl) (pe_ls (pa_cons pe_int (pa_cons pe_int (pa_cons (pv 2) (pa_cons (pe_op op_add (pv 2) pe_int) (pa_cons pe_int (pa_cons (pe_kn d__law_size hr (by rfl) (pa_cons (pv 0) (pa_cons pe_int pa_nil))) pa_nil))))))))
      (pss_cons (ps_set (i := 5) scTR.nd rfl (.inr rfl) (pe_kn d__law_pick hr (by rfl) (pa_cons (pv 0) (pa_cons (pv 3) pa_nil))))
      (pss_cons (ps_set (i := 6) scTR.nd rfl (.inr rfl) (pe_kn d__law_pick hr (by rfl) (pa_cons (pv 0) (pa_cons (pv 3) pa_nil))))
      (pss_cons (ps_if (pt_cmpR op_gt (pe_callB call_lenA (by rfl) T.b_len PySem.boot_len (pa_cons (pv 1) pa_nil)) (pv 2) (nomark _)) (pss_one (ps_ret (pe_and (pe_kn d__law_on_right hr (by rfl) (pa_cons (pv 0) (pa_cons (pv 1) (pa_cons (pv 2) (pa_cons (pv 5) pa_nil))))) (pe_one (pe_kn d__law_back_right hr (by rfl) (pa_cons (pv 0) (pa_cons (pv 1) (pa_cons (pv 2) (pa_cons (pv 6) pa_nil))))))))) pss_nil)
      (pss_cons (ps_set (i := 4) scTR.nd rfl (.inl rfl) (LamX.pe_lamcall (T := Tt P1 P2) (TT := TAsk2 K CB MM) (t := fun E => tCallN 1 2 (spCoX K CB MM) (fun vs zs => app3 vs [.bl false] zs) E (tCons (tVar 1) L2.tNil) (tCons (tVar 2) (tCons (tVar 5) L2.tNil))) (by rfl) AS.m AS.kp AS.lk AS.cd AS.b scAsked rfl (.inl rfl) (asked_gives2 T B AT AM) TB rfl (List.mem_cons_self ..) (fun p hp hh => by
      simp only [Tt, List.mem_cons, List.not_mem_nil, or_false] at hp
      rcases hp with rfl | rfl
      · exact rfl
      · exact absurd hh n12.symm
) hr (LamX.lamS_by (by show LamX.lamSB (defScope sTR) _ = true; decide +kernel)) rfl (fun _ _ _ _ _ => rfl) (fun A outer s H E f c' hr' => pe_cx2 E XCO hr' (by rfl) (takes_of rfl rfl rfl rfl) (fun _ _ _ _ h => h) (pa_cons (pv 1) pa_nil) (pk_cons (pv 2) (pk_cons (pv 5) pk_nil)))))
      (pss_cons (ps_if (pt_not (pt_val (pe_kn d__law_same hr (by rfl) (pa_cons (pv 4) (pa_cons (pe_tp (pa_cons pe_str (pa_cons pe_non pa_nil))) pa_nil))))) (pss_one (ps_ret pe_bl)) pss_nil)
      (pss_cons (ps_set (i := 4) scTR.nd rfl (.inl rfl) (LamX.pe_lamcall (T := Tt P1 P2) (TT := TAsk2 K CB MM) (t := fun E => tCallN 1 3 (spCoX K CB MM) (fun vs zs => app3 vs [] zs) E (tCons (tVar 1) L2.tNil) (tCons (tVar 2) (tCons (tVar 6) (tCons (tC (.bl true)) L2.tNil)))) (by rfl) AS.m AS.kp AS.lk AS.cd AS.b scAsked rfl (.inl rfl) (asked_gives2 T B AT AM) TB rfl (List.mem_cons_self ..) (fun p hp hh => by
      simp only [Tt, List.mem_cons, List.not_mem_nil, or_false] at hp
      rcases hp with rfl | rfl
      · exact rfl
      · exact absurd hh n12.symm
) hr (LamX.lamS_by (by show LamX.lamSB (defScope sTR) _ = true; decide +kernel)) rfl (fun _ _ _ _ _ => rfl) (fun A outer s H E f c' hr' => pe_cx3 E XCO hr' (by rfl) (takes_of rfl rfl rfl rfl) (fun _ _ _ _ h => h) (pa_cons (pv 1) pa_nil) (pk_cons (pv 2) (pk_cons (pv 6) (pk_cons pe_bl pk_nil))))))
      (pss_one (ps_ret (pe_kn d__law_same hr (by rfl) (pa_cons (pv 4) (pa_cons (pe_tp (pa_cons pe_str (pa_cons pe_non pa_nil))) pa_nil)))))))))))), ?_⟩
  simp only [cx_K]
  have ml : (ns.map V.int).length = ns.length := List.length_map _
  have LS := LS0
  have bk : Bk sr H H := Bk.same (Same.refl H)
  refine ⟨_, rfl, _, rfl, _, _, rfl, rfl, _, rfl, sr, 60, rfl, LS.st, by decide, by decide, fun z H1 z0 z1 kp1 st1 => ?_⟩
  have LS := LS.kp kp1 st1
  have bk := bk.trans (Bk.kp kp1)
  have ta := ta.bg (Bk.kp kp1)
  refine ⟨sz2 (by show 6 ≤ 100; decide), fun p hp kp => ?_⟩
  have sp := Same.new hp (.lst [.int 0, .int 1, .int (d : Int), .int ((d : Int) + 1), .int 60, .int z])
  have nep := LS.st.ne hp
  have LS := LS.same sp
  have bk := bk.trans (Bk.same sp)
  have ta := ta.bg (Bk.same sp)
  have hp2 : upd H1 p (.lst [.int 0, .int 1, .int (d : Int), .int ((d : Int) + 1), .int 60, .int z]) p = some (.lst [.int 0, .int 1, .int (d : Int), .int ((d : Int) + 1), .int 60, .int z]) := upd_same
  generalize upd H1 p (.lst [.int 0, .int 1, .int (d : Int), .int ((d : Int) + 1), .int 60, .int z]) = H2 at LS bk ta hp2 ⊢
  have cnt : ∀ x ∈ [V.int 0, .int 1, .int (d : Int), .int ((d : Int) + 1), .int 60, .int z], ∃ c : Nat, x = .int (c : Int) ∧ c ≤ 60 := by
    intro x hx
    simp only [List.mem_cons, List.not_mem_nil, or_false] at hx
    rcases hx with rfl | rfl | rfl | rfl | rfl | rfl
    · exact ⟨0, rfl, by omega⟩
    · exact ⟨1, rfl, by omega⟩
    · exact ⟨d, rfl, by omega⟩
    · exact ⟨d + 1, rfl, by omega⟩
    · exact ⟨60, rfl, by omega⟩
    · exact ⟨z.toNat, by rw [Int.toNat_of_nonneg z0], by omega⟩
  clear sp kp1 st1
  refine ⟨_, rfl, _, rfl, sr, p, _, rfl, LS.st, hp2, Ne.symm nep, by show 0 < 6; decide, by show 6 < 1000; decide, fun x H3 hx kp3 st3 => ?_⟩
  obtain ⟨c, rfl, c60⟩ := cnt x hx
  have LS := LS.kp kp3 st3
  have bk := bk.trans (Bk.kp kp3)
  have ta := ta.bg (Bk.kp kp3)
  have hp3 := kp3.1 _ _ nep hp2
  refine ⟨_, rfl, _, rfl, sr, p, _, rfl, LS.st, hp3, Ne.symm nep, by show 0 < 6; decide, by show 6 < 1000; decide, fun y H4 hy kp4 st4 => ?_⟩
  obtain ⟨c2, rfl, c260⟩ := cnt y hy
  have LS := LS.kp kp4 st4
  have bk := bk.trans (Bk.kp kp4)
  have ta := ta.bg (Bk.kp kp4)
  clear cnt hx hy kp3 st3 kp4 st4 hp hp2 hp3 nep kp
  refine ⟨_, rfl, a, rfl, _, itsO_ofL ta.ob, _, rfl, _, _, rfl, rfl, _, rfl, ite2 (fun h => ?_) (fun h => ?_)⟩
  · have h : (d : Int) < ((ns.map V.int).length : Int) := of_decide_eq_true h
    refine ⟨_, rfl, _, rfl, _, rfl, _, rfl, sr, a, ns, d, c, rfl, LS.st, ta, n60, d8, by omega, c60, fun H5 kp5 st5 => ⟨true, rfl, if_yes rfl ?_⟩⟩
    have LS := LS.kp kp5 st5
    have bk := bk.trans (Bk.kp kp5)
    have ta := ta.bg (Bk.kp kp5)
    exact ⟨_, rfl, _, rfl, _, rfl, _, rfl, sr, a, ns, d, c2, rfl, LS.st, ta, n60, d8, by omega, c260, fun H6 kp6 st6 => k H6 (bk.trans (Bk.kp kp6)) (LS.kp kp6 st6)⟩
  · have h : ¬ (d : Int) < ((ns.map V.int).length : Int) := fun z => h (decide_eq_true z)
    refine ⟨LS.tb, fun Ha ea tt => ?_⟩
    have LS : LawS K (Tt P1 P2) _ sr := ⟨LS.st.ext ea, tt⟩
    have bk := bk.trans (Bk.ext ea)
    have ta := ta.bg (Bk.ext ea)
    refine ⟨_, rfl, _, rfl, _, rfl, rfl, rfl, .inr (.inr (.inr (.inr ⟨a, ns, d, c, false, rfl, ta.hl, ta.kl, n1, n60, d8, c60, by omega, fun Hb sb => .inr ⟨rfl, rfl, fun q2 Hc sc oc => ?_⟩⟩)))⟩
    refine ⟨_, rfl, sz2 (by show 2 ≤ 100; decide), fun p2 hp kp => ?_⟩
    have sd := Same.new hp (.tup [.str "Mismatch", .non])
    refine ⟨_, _, rfl, (eqv_tup (ob_same sd oc) (ob_new kp) rfl (by show 2 ≤ 1000; omega)).up.up.up, fun He se => ⟨true, rfl, if_no rfl ?_⟩⟩
    have sY := (sb.trans sc).trans (sd.trans se)
    have LS := LS.same sY
    have bk := bk.trans (Bk.same sY)
    have ta := ta.bg (Bk.same sY)
    clear ea tt sb sc oc sd se sY hp kp
    refine ⟨LS.tb, fun Ha ea tt => ?_⟩
    have LS : LawS K (Tt P1 P2) _ sr := ⟨LS.st.ext ea, tt⟩
    have bk := bk.trans (Bk.ext ea)
    have ta := ta.bg (Bk.ext ea)
    refine ⟨_, rfl, _, rfl, _, rfl, rfl, rfl, .inr (.inr (.inr (.inr ⟨a, ns, d, c2, true, rfl, ta.hl, ta.kl, n1, n60, d8, c260, by omega, fun Hb sb => .inr ⟨rfl, rfl, fun q2 Hc sc oc => ?_⟩⟩)))⟩
    refine ⟨_, rfl, sz2 (by show 2 ≤ 100; decide), fun p2 hp kp => ?_⟩
    have sd := Same.new hp (.tup [.str "Mismatch", .non])
    refine ⟨_, _, rfl, (eqv_tup (ob_same sd oc) (ob_new kp) rfl (by show 2 ≤ 1000; omega)).up.up.up, fun He se => ?_⟩
    have sY := (sb.trans sc).trans (sd.trans se)
    exact k He (bk.trans (Bk.same sY)) (LS.same sY)
end
end My

namespace My
open PySem PySem.Spec PyProof.Rows L2
section
variable {P : Program} {w : World} {K : PySem.W.Frag} {mg : Str → Option Value} {base : Heap}
def spLaw (K : PySem.W.Frag) (P1 P2 : Addr) : Sp := fun vs H Q _ => ∃ (a : Addr) (ns : List Int), vs = [.ref a] ∧ SqL K H a (ns.map V.int) ∧ H P1 = some (.tbl #[]) ∧ H P2 = some (.tbl #[]) ∧ ∀ H', Q (.bl true) H'
abbrev sLaw : Stmt := topS 61
theorem scLaw : FnScope ["_law_script", "_law_store_here", "_law_first", "_law_some", "_law_second", "_law_other"] ["_law_script"] (defScope sLaw) := ⟨rfl, rfl, rfl, by decide +kernel, rfl, by decide +kernel, by decide +kernel⟩
theorem ok_law {fa P1 P2 : Addr} {fd : FuncData} (F : Fun K "law" "law" sLaw fa fd) (T : Bt K mg) (d__law_store : Kn P w K mg base 1 "_law_store" ["_law_script"] (spStore K)) (d__law_take : Kn P w K mg base 2 "_law_take" ["_law_store_here", "_law_many"] (spTake K)) (d__law_table : Kn P w K mg base 5 "_law_table" ["_law_store_here"] (spTab K)) (d__law_refused : Kn P w K mg base 8 "_law_refused" ["_law_store_here", "_law_values"] (spRefused K (Tt P1 P2))) (d__law_table_right : Kn P w K mg base 8 "_law_table_right" ["_law_store_here", "_law_values", "_law_some"] (spTR K (Tt P1 P2))) : FnOk P w K mg base CX0 9 fa fd ["_law_script"] (spLaw K P1 P2) := by
  refine F.ok scLaw (fun vs H Q E h => ?_) (fun cdv A outer s H vs Q E hr h => ?_)
  · obtain ⟨sa, ns, rfl, _⟩ := h
    rfl
  obtain ⟨sa, ns, rfl, hsa, hP1, hP2, q⟩ := h
  refine ⟨_, (pss_cons (ps_set (i := 1) scLaw.nd rfl (.inl rfl) (pe_kn d__law_store hr (by rfl) (pa_cons (pv 0) pa_nil)))
      (pss_cons (ps_asg (pe_kn d__law_table hr (by rfl) (pa_cons (pv 1) pa_nil)) (pg_tp 2 (by rfl) (pgs_cons (pg_name (i := 2) scLaw.nd rfl (.inl rfl)) (pgs_cons (pg_name (i := 3) scLaw.nd rfl (.inl rfl)) pgs_nil))))
      (pss_cons (ps_asg (pe_kn d__law_table hr (by rfl) (pa_cons (pv 1) pa_nil)) (pg_tp 2 (by rfl) (pgs_cons (pg_name (i := 4) scLaw.nd rfl (.inl rfl)) (pgs_cons (pg_name (i := 5) scLaw.nd rfl (.inl rfl)) pgs_nil))))
      (pss_cons (ps_if (PW.pt (pw_or (pt_not (pt_val (pe_kn d__law_refused hr (by rfl) (pa_cons (pv 1) (pa_cons (pe_fr (pe_callTy call_list_of (by rfl) T.b_list (by decide +kernel) (pa_cons (pv 4) pa_nil))) pa_nil))))) (pw_or1 (pt_not (pt_val (pe_kn d__law_table_right hr (by rfl) (pa_cons (pv 1) (pa_cons (pv 2) (pa_cons (pv 3) pa_nil))))))))) (pss_one (ps_ret pe_bl)) pss_nil)
      (pss_cons (ps_if (pt_cmpR op_eq (pe_kn d__law_take hr (by rfl) (pa_cons (pv 1) (pa_cons pe_int pa_nil))) pe_int (nomark _)) (pss_one (ps_set (i := 5) scLaw.nd rfl (.inl rfl) (pv 3))) pss_nil)
      (pss_one (ps_ret (pe_and (pe_kn d__law_table_right hr (by rfl) (pa_cons (pv 1) (pa_cons (pv 4) (pa_cons (pv 5) pa_nil)))) (pe_one (pe_kn d__law_table_right hr (by rfl) (pa_cons (pv 1) (pa_cons (pv 2) (pa_cons (pv 3) pa_nil))))))))))))), ?_⟩
  have TBL : ∀ H1, Same H H1 → LamX.Tabs (Tt P1 P2) H1 := fun H1 s1 p hp => by
    simp only [Tt, List.mem_cons, List.not_mem_nil, or_false] at hp
    rcases hp with rfl | rfl
    · exact LamX.TabS.nil (s1 _ _ hP1)
    · exact LamX.TabS.nil (s1 _ _ hP2)
  simp only [cx_K]
  refine ⟨_, rfl, sa, ns, rfl, hsa, fun s H1 s1 st1 => ?_⟩
  have LS : LawS K (Tt P1 P2) H1 s := LawS.mk st1 (TBL H1 s1)
  refine ⟨_, rfl, s, rfl, LS.st, fun c l1 n1 d1 H2 oc b1 a1 c1 e1 e2 f1 k1 h1 kp2 st2 => ⟨c, rfl, _, oc, rfl, _, _, rfl, _, _, rfl, rfl, ?_⟩⟩
  obtain ⟨dM, rfl⟩ : ∃ dM : Nat, d1 = (dM : Int) := ⟨d1.toNat, by omega⟩
  have V1 : Tbl K s H2 l1 n1 := ⟨h1, k1, LS.st.ne f1⟩
  have LS := LS.kp kp2 st2
  refine ⟨_, rfl, s, rfl, LS.st, fun cc l2 n2 d2 H3 oc2 b2 a2 c2 e3 e4 f2 k2 h2 kp3 st3 => ⟨cc, rfl, _, oc2, rfl, _, _, rfl, _, _, rfl, rfl, ?_⟩⟩
  obtain ⟨dN, rfl⟩ : ∃ dN : Nat, d2 = (dN : Int) := ⟨d2.toNat, by omega⟩
  have V2 : Tbl K s H3 l2 n2 := ⟨h2, k2, LS.st.ne f2⟩
  have LS := LS.kp kp3 st3
  have V1 := V1.bg (Bk.kp kp3)
  clear TBL st1 st2 st3 kp2 kp3 hsa hP1 hP2 s1 f1 f2 h1 h2 oc oc2
  refine ⟨_, rfl, _, rfl, l2, _, rfl, .inl (.of V2.hl), fun g hg frg => ?_⟩
  have s8 := Same.new hg (.lst (n2.map V.int))
  have V4 : Tbl K s (upd H3 g (.lst (n2.map V.int))) g n2 := ⟨upd_same, frg g (by rw [upd_same]; simp), LS.st.ne hg⟩
  have LS := LS.same s8
  have V1 := V1.bg (Bk.same s8)
  have V2 := V2.bg (Bk.same s8)
  generalize upd H3 g (.lst (n2.map V.int)) = H4 at V4 LS V1 V2 ⊢
  refine ⟨s, g, n2, rfl, LS, V4, a2, c2, fun H5 bk5 LS => ⟨true, rfl, if_no rfl ?_⟩⟩
  have V1 := V1.bg bk5
  have V2 := V2.bg bk5
  refine ⟨_, rfl, _, rfl, _, rfl, s, l1, n1, dM, rfl, LS, V1, a1, c1, by omega, fun H6 bk6 LS => ⟨true, rfl, if_no rfl ?_⟩⟩
  have V1 := V1.bg bk6
  have V2 := V2.bg bk6
  refine ⟨_, rfl, s, 3, rfl, LS.st, by decide, fun r H7 r0 r1 kp7 st7 => ⟨rfl, _, rfl, ite2 (fun h => ?_) (fun h => ?_)⟩⟩
  · have LS := LS.kp kp7 st7
    have V1 := V1.bg (Bk.kp kp7)
    have V2 := V2.bg (Bk.kp kp7)
    refine ⟨_, rfl, ?_⟩
    exact ⟨_, rfl, _, rfl, _, rfl, s, l2, n2, dM, rfl, LS, V2, a2, c2, by omega, fun H8 bk8 LS => ⟨true, rfl, if_yes rfl ⟨_, rfl, _, rfl, _, rfl, s, l1, n1, dM, rfl, LS, V1.bg bk8, a1, c1, by omega, fun H9 _ _ => q H9⟩⟩⟩
  · have LS := LS.kp kp7 st7
    have V1 := V1.bg (Bk.kp kp7)
    have V2 := V2.bg (Bk.kp kp7)
    exact ⟨_, rfl, _, rfl, _, rfl, s, l2, n2, dN, rfl, LS, V2, a2, c2, by omega, fun H8 bk8 LS => ⟨true, rfl, if_yes rfl ⟨_, rfl, _, rfl, _, rfl, s, l1, n1, dM, rfl, LS, V1.bg bk8, a1, c1, by omega, fun H9 _ _ => q H9⟩⟩⟩

end
end My

namespace My
open PySem PySem.Spec PyProof.Rows L2
/-! ### the end: what the top has written -/
theorem dfn_mk {K : PySem.W.Frag} {h : Heap} {mg : Str → Option Value} {x : Str} {st : Stmt} {ps : List Str} {f : Addr} {oc kV doc pm cd ct : Value} {od an : Option Addr} {sl : Array (Option Value)} (X : K.In h) (G : h.Ns mainGlobals mg)
    (a : PySem.W.nsIn K mainGlobals x = some (some (.ref f))) (l : K.lookup f = some ⟨oc, od, .func (PySem.W.fnOf x x (defArgs st) (defBody st) (defScope st) .none kV doc pm an cd ct), sl⟩) (c : PySem.W.codeIn K cd x = true) (k : PySem.W.keepIn K (.ref f) = true)
    (hb : ∀ (kV doc pm : Value) (an : Option Addr) (cdv ct : Value) (us : List Value), us.length = ps.length → bindArgs (PySem.W.fnOf x x (defArgs st) (defBody st) (defScope st) .none kV doc pm an cdv ct) ⟨us, []⟩ = pure (ps.zip us)) : Dfn K mg x st ps :=
  ⟨f, _, fun_mk l c k, PySem.W.mg_of X G a, (fun_mk l c k).binds hb⟩
theorem all_mk {P : Program} {w : World} {K : PySem.W.Frag} {h : Heap} {mg : Str → Option Value} {fa : Addr} (X : K.In h) (G : h.Ns mainGlobals mg) (hfa : mg "law" = some (.ref fa)) {C S fI : Addr} {nm qn : Str} {N0 : Addr} {bs bm : List Value} {sn : List Str} {sub : List Value} {ab : Bool} {col : Option Bool} {dd : Option Addr} {m0 m1 m2 m3 m5 : Option Value} {ocI kVI dcI pmI cdI ctI : Value} {odI anI : Option Addr} {slI : Array (Option Value)} {C_Mismatch : Addr} {C_Still : Addr} {C_Endless : Addr} {C_TooMany : Addr} {C_NoName : Addr} {C_Taken : Addr} {C_Locked : Addr} {C_Looped : Addr} {C_Broken : Addr} {C_ReadError : Addr} {f_A : Addr} {oc_A kV_A dc_A pm_A cd_A ct_A : Value} {od_A an_A : Option Addr} {sl_A : Array (Option Value)} {f_R1 c_R1 : Addr} {oc_R1 kV_R1 dc_R1 pm_R1 ct_R1 : Value} {od_R1 an_R1 : Option Addr} {sl_R1 : Array (Option Value)} {f_R2 c_R2 : Addr} {oc_R2 kV_R2 dc_R2 pm_R2 ct_R2 : Value} {od_R2 an_R2 : Option Addr} {sl_R2 : Array (Option Value)} {fL : Addr} {ocL kVL dcL pmL cdvL ctL : Value} {odL anL : Option Addr} {slL : Array (Option Value)} {f0Store : Addr} {oc0Store kV0Store dc0Store pm0Store cd0Store ct0Store : Value} {od0Store an0Store : Option Addr} {sl0Store : Array (Option Value)} {f0Take : Addr} {oc0Take kV0Take dc0Take pm0Take cd0Take ct0Take : Value} {od0Take an0Take : Option Addr} {sl0Take : Array (Option Value)} {f0Mixed : Addr} {oc0Mixed kV0Mixed dc0Mixed pm0Mixed cd0Mixed ct0Mixed : Value} {od0Mixed an0Mixed : Option Addr} {sl0Mixed : Array (Option Value)} {f0Tab : Addr} {oc0Tab kV0Tab dc0Tab pm0Tab cd0Tab ct0Tab : Value} {od0Tab an0Tab : Option Addr} {sl0Tab : Array (Option Value)} {f0Pick : Addr} {oc0Pick kV0Pick dc0Pick pm0Pick cd0Pick ct0Pick : Value} {od0Pick an0Pick : Option Addr} {sl0Pick : Array (Option Value)} {f0Size : Addr} {oc0Size kV0Size dc0Size pm0Size cd0Size ct0Size : Value} {od0Size an0Size : Option Addr} {sl0Size : Array (Option Value)} {f0Great : Addr} {oc0Great kV0Great dc0Great pm0Great cd0Great ct0Great : Value} {od0Great an0Great : Option Addr} {sl0Great : Array (Option Value)} {f0LInt : Addr} {oc0LInt kV0LInt dc0LInt pm0LInt cd0LInt ct0LInt : Value} {od0LInt an0LInt : Option Addr} {sl0LInt : Array (Option Value)} {f0Hd : Addr} {oc0Hd kV0Hd dc0Hd pm0Hd cd0Hd ct0Hd : Value} {od0Hd an0Hd : Option Addr} {sl0Hd : Array (Option Value)} {f0Ro : Addr} {oc0Ro kV0Ro dc0Ro pm0Ro cd0Ro ct0Ro : Value} {od0Ro an0Ro : Option Addr} {sl0Ro : Array (Option Value)} {dK : Addr} {f0Co : Addr} {oc0Co dc0Co pm0Co cd0Co ct0Co : Value} {od0Co an0Co : Option Addr} {sl0Co : Array (Option Value)} {f0Require : Addr} {oc0Require kV0Require dc0Require pm0Require cd0Require ct0Require : Value} {od0Require an0Require : Option Addr} {sl0Require : Array (Option Value)} {tkMOST_ROWS : Tok} {f0Tb : Addr} {oc0Tb kV0Tb dc0Tb pm0Tb cd0Tb ct0Tb : Value} {od0Tb an0Tb : Option Addr} {sl0Tb : Array (Option Value)} {f0ListA : Addr} {oc0ListA kV0ListA dc0ListA pm0ListA cd0ListA ct0ListA : Value} {od0ListA an0ListA : Option Addr} {sl0ListA : Array (Option Value)} {f0Whole : Addr} {oc0Whole kV0Whole dc0Whole pm0Whole cd0Whole ct0Whole : Value} {od0Whole an0Whole : Option Addr} {sl0Whole : Array (Option Value)} {tkMOST_DEGREE : Tok} {f0Dgr : Addr} {oc0Dgr kV0Dgr dc0Dgr pm0Dgr cd0Dgr ct0Dgr : Value} {od0Dgr an0Dgr : Option Addr} {sl0Dgr : Array (Option Value)} {f0WithinA : Addr} {oc0WithinA kV0WithinA dc0WithinA pm0WithinA cd0WithinA ct0WithinA : Value} {od0WithinA an0WithinA : Option Addr} {sl0WithinA : Array (Option Value)} {f0Cnt : Addr} {oc0Cnt kV0Cnt dc0Cnt pm0Cnt cd0Cnt ct0Cnt : Value} {od0Cnt an0Cnt : Option Addr} {sl0Cnt : Array (Option Value)} {f0RS : Addr} {oc0RS kV0RS dc0RS pm0RS cd0RS ct0RS : Value} {od0RS an0RS : Option Addr} {sl0RS : Array (Option Value)} {f0By : Addr} {oc0By kV0By dc0By pm0By cd0By ct0By : Value} {od0By an0By : Option Addr} {sl0By : Array (Option Value)} {f0BW : Addr} {oc0BW kV0BW dc0BW pm0BW cd0BW ct0BW : Value} {od0BW an0BW : Option Addr} {sl0BW : Array (Option Value)} {f0NT : Addr} {oc0NT kV0NT dc0NT pm0NT cd0NT ct0NT : Value} {od0NT an0NT : Option Addr} {sl0NT : Array (Option Value)} {f0With : Addr} {oc0With kV0With dc0With pm0With cd0With ct0With : Value} {od0With an0With : Option Addr} {sl0With : Array (Option Value)} {f0WL : Addr} {oc0WL kV0WL dc0WL pm0WL cd0WL ct0WL : Value} {od0WL an0WL : Option Addr} {sl0WL : Array (Option Value)} {f0BL : Addr} {oc0BL kV0BL dc0BL pm0BL cd0BL ct0BL : Value} {od0BL an0BL : Option Addr} {sl0BL : Array (Option Value)} {f0Same : Addr} {oc0Same kV0Same dc0Same pm0Same cd0Same ct0Same : Value} {od0Same an0Same : Option Addr} {sl0Same : Array (Option Value)} {f0LWhole : Addr} {oc0LWhole kV0LWhole dc0LWhole pm0LWhole cd0LWhole ct0LWhole : Value} {od0LWhole an0LWhole : Option Addr} {sl0LWhole : Array (Option Value)} {f0On : Addr} {oc0On kV0On dc0On pm0On cd0On ct0On : Value} {od0On an0On : Option Addr} {sl0On : Array (Option Value)} {f0Ah : Addr} {oc0Ah kV0Ah dc0Ah pm0Ah cd0Ah ct0Ah : Value} {od0Ah an0Ah : Option Addr} {sl0Ah : Array (Option Value)} {f0Fo : Addr} {oc0Fo kV0Fo dc0Fo pm0Fo cd0Fo ct0Fo : Value} {od0Fo an0Fo : Option Addr} {sl0Fo : Array (Option Value)} {f0Hs : Addr} {oc0Hs kV0Hs dc0Hs pm0Hs cd0Hs ct0Hs : Value} {od0Hs an0Hs : Option Addr} {sl0Hs : Array (Option Value)} {f0Dfs : Addr} {oc0Dfs kV0Dfs dc0Dfs pm0Dfs cd0Dfs ct0Dfs : Value} {od0Dfs an0Dfs : Option Addr} {sl0Dfs : Array (Option Value)} {f0Rf : Addr} {oc0Rf kV0Rf dc0Rf pm0Rf cd0Rf ct0Rf : Value} {od0Rf an0Rf : Option Addr} {sl0Rf : Array (Option Value)} {f0Mv : Addr} {oc0Mv kV0Mv dc0Mv pm0Mv cd0Mv ct0Mv : Value} {od0Mv an0Mv : Option Addr} {sl0Mv : Array (Option Value)} {f0Fi : Addr} {oc0Fi kV0Fi dc0Fi pm0Fi cd0Fi ct0Fi : Value} {od0Fi an0Fi : Option Addr} {sl0Fi : Array (Option Value)} {f0St : Addr} {oc0St kV0St dc0St pm0St cd0St ct0St : Value} {od0St an0St : Option Addr} {sl0St : Array (Option Value)} {f0Deg : Addr} {oc0Deg kV0Deg dc0Deg pm0Deg cd0Deg ct0Deg : Value} {od0Deg an0Deg : Option Addr} {sl0Deg : Array (Option Value)} {f0Ow : Addr} {oc0Ow kV0Ow dc0Ow pm0Ow cd0Ow ct0Ow : Value} {od0Ow an0Ow : Option Addr} {sl0Ow : Array (Option Value)} {f0Di : Addr} {oc0Di kV0Di dc0Di pm0Di cd0Di ct0Di : Value} {od0Di an0Di : Option Addr} {sl0Di : Array (Option Value)} {f0Ba : Addr} {oc0Ba kV0Ba dc0Ba pm0Ba cd0Ba ct0Ba : Value} {od0Ba an0Ba : Option Addr} {sl0Ba : Array (Option Value)}
    (z_int : PySem.W.nsIn K mainGlobals "int" = some none)
    (z_len : PySem.W.nsIn K mainGlobals "len" = some none)
    (z_list : PySem.W.nsIn K mainGlobals "list" = some none)
    (z_abs : PySem.W.nsIn K mainGlobals "abs" = some none)
    (z_range : PySem.W.nsIn K mainGlobals "range" = some none)
    (z_min : PySem.W.nsIn K mainGlobals "min" = some none)
    (z_max : PySem.W.nsIn K mainGlobals "max" = some none)
    (z_isinstance : PySem.W.nsIn K mainGlobals "isinstance" = some none)
    (z_bool : PySem.W.nsIn K mainGlobals "bool" = some none)
    (z_str : PySem.W.nsIn K mainGlobals "str" = some none)
    (z_dict : PySem.W.nsIn K mainGlobals "dict" = some none)
    (z_tuple : PySem.W.nsIn K mainGlobals "tuple" = some none)
    (z_VE : PySem.W.nsIn K mainGlobals "ValueError" = some none)
    (aC : PySem.W.nsIn K mainGlobals "BadValue" = some (some (.ref C)))
    (aS : PySem.W.nsIn K mainGlobals "SkyError" = some (some (.ref S)))
    (xL : K.lookup C = some (excClassObj nm qn C N0 bs bm true sn sub ab col dd m0 m1 m2 m3 m5 "ValueError.__new__"))
    (hbm : PySem.HandSPX.refsVE bm = true)
    (sa : PySem.W.findIn K (.ref C) "__setattr__" = some (some (.builtin "object.__setattr__")))
    (ga : PySem.W.findIn K (.ref C) "__getattribute__" = some (some (.builtin "BaseException.__getattribute__")))
    (gg : PySem.W.findIn K (.ref C) "__getattr__" = some none)
    (gc : PySem.W.findIn K (.ref C) "__class__" = some (some (.builtin "object.__class__")))
    (nw : PySem.W.findIn K (.ref C) "what" = some none)
    (aI : PySem.W.findIn K (.ref C) "__init__" = some (some (.ref fI)))
    (tI : PySem.W.typeIn K (.ref fI) = some (.type "function"))
    (lI : K.lookup fI = some ⟨ocI, odI, .func (PySem.W.fnOf "__init__" "BadValue.__init__" (defArgs sInitB) (defBody sInitB) (defScope sInitB) .none kVI dcI pmI anI cdI ctI), slI⟩)
    (cI : PySem.W.codeIn K cdI "BadValue.__init__" = true)
    (kI : PySem.W.keepIn K (.ref fI) = true)
    (kC : PySem.W.keepIn K (.ref C) = true)
    (eC : PySem.W.subIn K (.ref C) (.type "BaseException") = some true)
    (tC : PySem.W.typeIn K (.ref C) = some (.type "type"))
    (hC : PySem.W.hasDictIn K C = true)
    (mC : PySem.W.mroIn K C (.type "object") = some true)
    (vC : PySem.W.subIn K (.ref C) (.type "ValueError") = some true)
    (spc : PySem.W.specialIn K (.builtin "object.__class__") "__get__" = some (some (.builtin "getset_descriptor.__get__")))
    (tkc : PySem.W.takesIn K (.builtin "object.__class__") = some true)
    (eS : PySem.W.subIn K (.ref S) (.type "BaseException") = some true)
    (hS : PySem.W.hasDictIn K S = true)
    (tS : PySem.W.typeIn K (.ref S) = some (.type "type"))
    (cS : PySem.W.subIn K (.ref C) (.ref S) = some true)
    (a_Mismatch : PySem.W.nsIn K mainGlobals "Mismatch" = some (some (.ref C_Mismatch)))
    (t_Mismatch : PySem.W.typeIn K (.ref C_Mismatch) = some (.type "type"))
    (h_Mismatch : PySem.W.hasDictIn K C_Mismatch = true)
    (s_Mismatch : PySem.W.subIn K (.ref C) (.ref C_Mismatch) = some false)
    (n_Mismatch : (Value.ref C == Value.ref C_Mismatch) = false)
    (a_Still : PySem.W.nsIn K mainGlobals "Still" = some (some (.ref C_Still)))
    (t_Still : PySem.W.typeIn K (.ref C_Still) = some (.type "type"))
    (h_Still : PySem.W.hasDictIn K C_Still = true)
    (s_Still : PySem.W.subIn K (.ref C) (.ref C_Still) = some false)
    (n_Still : (Value.ref C == Value.ref C_Still) = false)
    (a_Endless : PySem.W.nsIn K mainGlobals "Endless" = some (some (.ref C_Endless)))
    (t_Endless : PySem.W.typeIn K (.ref C_Endless) = some (.type "type"))
    (h_Endless : PySem.W.hasDictIn K C_Endless = true)
    (s_Endless : PySem.W.subIn K (.ref C) (.ref C_Endless) = some false)
    (n_Endless : (Value.ref C == Value.ref C_Endless) = false)
    (a_TooMany : PySem.W.nsIn K mainGlobals "TooMany" = some (some (.ref C_TooMany)))
    (t_TooMany : PySem.W.typeIn K (.ref C_TooMany) = some (.type "type"))
    (h_TooMany : PySem.W.hasDictIn K C_TooMany = true)
    (s_TooMany : PySem.W.subIn K (.ref C) (.ref C_TooMany) = some false)
    (n_TooMany : (Value.ref C == Value.ref C_TooMany) = false)
    (a_NoName : PySem.W.nsIn K mainGlobals "NoName" = some (some (.ref C_NoName)))
    (t_NoName : PySem.W.typeIn K (.ref C_NoName) = some (.type "type"))
    (h_NoName : PySem.W.hasDictIn K C_NoName = true)
    (s_NoName : PySem.W.subIn K (.ref C) (.ref C_NoName) = some false)
    (n_NoName : (Value.ref C == Value.ref C_NoName) = false)
    (a_Taken : PySem.W.nsIn K mainGlobals "Taken" = some (some (.ref C_Taken)))
    (t_Taken : PySem.W.typeIn K (.ref C_Taken) = some (.type "type"))
    (h_Taken : PySem.W.hasDictIn K C_Taken = true)
    (s_Taken : PySem.W.subIn K (.ref C) (.ref C_Taken) = some false)
    (n_Taken : (Value.ref C == Value.ref C_Taken) = false)
    (a_Locked : PySem.W.nsIn K mainGlobals "Locked" = some (some (.ref C_Locked)))
    (t_Locked : PySem.W.typeIn K (.ref C_Locked) = some (.type "type"))
    (h_Locked : PySem.W.hasDictIn K C_Locked = true)
    (s_Locked : PySem.W.subIn K (.ref C) (.ref C_Locked) = some false)
    (n_Locked : (Value.ref C == Value.ref C_Locked) = false)
    (a_Looped : PySem.W.nsIn K mainGlobals "Looped" = some (some (.ref C_Looped)))
    (t_Looped : PySem.W.typeIn K (.ref C_Looped) = some (.type "type"))
    (h_Looped : PySem.W.hasDictIn K C_Looped = true)
    (s_Looped : PySem.W.subIn K (.ref C) (.ref C_Looped) = some false)
    (n_Looped : (Value.ref C == Value.ref C_Looped) = false)
    (a_Broken : PySem.W.nsIn K mainGlobals "Broken" = some (some (.ref C_Broken)))
    (t_Broken : PySem.W.typeIn K (.ref C_Broken) = some (.type "type"))
    (h_Broken : PySem.W.hasDictIn K C_Broken = true)
    (s_Broken : PySem.W.subIn K (.ref C) (.ref C_Broken) = some false)
    (n_Broken : (Value.ref C == Value.ref C_Broken) = false)
    (a_ReadError : PySem.W.nsIn K mainGlobals "ReadError" = some (some (.ref C_ReadError)))
    (t_ReadError : PySem.W.typeIn K (.ref C_ReadError) = some (.type "type"))
    (h_ReadError : PySem.W.hasDictIn K C_ReadError = true)
    (s_ReadError : PySem.W.subIn K (.ref C) (.ref C_ReadError) = some false)
    (n_ReadError : (Value.ref C == Value.ref C_ReadError) = false)
    (a_A : PySem.W.nsIn K mainGlobals "_law_asked" = some (some (.ref f_A)))
    (l_A : K.lookup f_A = some ⟨oc_A, od_A, .func (PySem.W.fnOf "_law_asked" "_law_asked" (defArgs sAsked) (defBody sAsked) (defScope sAsked) .none kV_A dc_A pm_A an_A cd_A ct_A), sl_A⟩)
    (c_A : PySem.W.codeIn K cd_A "_law_asked" = true)
    (k_A : PySem.W.keepIn K (.ref f_A) = true)
    (a_R1 : PySem.W.nsIn K mainGlobals "_law_table_right" = some (some (.ref f_R1)))
    (l_R1 : K.lookup f_R1 = some ⟨oc_R1, od_R1, .func (PySem.W.fnOf "_law_table_right" "_law_table_right" (defArgs sTR) (defBody sTR) (defScope sTR) .none kV_R1 dc_R1 pm_R1 an_R1 (.ref c_R1) ct_R1), sl_R1⟩)
    (cd_R1 : PySem.W.codeIn K (.ref c_R1) "_law_table_right" = true)
    (k_R1 : PySem.W.keepIn K (.ref f_R1) = true)
    (a_R2 : PySem.W.nsIn K mainGlobals "_law_refused" = some (some (.ref f_R2)))
    (l_R2 : K.lookup f_R2 = some ⟨oc_R2, od_R2, .func (PySem.W.fnOf "_law_refused" "_law_refused" (defArgs sRefused) (defBody sRefused) (defScope sRefused) .none kV_R2 dc_R2 pm_R2 an_R2 (.ref c_R2) ct_R2), sl_R2⟩)
    (cd_R2 : PySem.W.codeIn K (.ref c_R2) "_law_refused" = true)
    (k_R2 : PySem.W.keepIn K (.ref f_R2) = true)
    (aL : PySem.W.nsIn K mainGlobals "law" = some (some (.ref fL)))
    (lL : K.lookup fL = some ⟨ocL, odL, .func (PySem.W.fnOf "law" "law" (defArgs sLaw) (defBody sLaw) (defScope sLaw) .none kVL dcL pmL anL cdvL ctL), slL⟩)
    (cL : PySem.W.codeIn K cdvL "law" = true)
    (kL : PySem.W.keepIn K (.ref fL) = true)
    (a0Store : PySem.W.nsIn K mainGlobals "_law_store" = some (some (.ref f0Store)))
    (l0Store : K.lookup f0Store = some ⟨oc0Store, od0Store, .func (PySem.W.fnOf "_law_store" "_law_store" (defArgs sStore) (defBody sStore) (defScope sStore) .none kV0Store dc0Store pm0Store an0Store cd0Store ct0Store), sl0Store⟩)
    (c0Store : PySem.W.codeIn K cd0Store "_law_store" = true)
    (k0Store : PySem.W.keepIn K (.ref f0Store) = true)
    (a0Take : PySem.W.nsIn K mainGlobals "_law_take" = some (some (.ref f0Take)))
    (l0Take : K.lookup f0Take = some ⟨oc0Take, od0Take, .func (PySem.W.fnOf "_law_take" "_law_take" (defArgs sTake) (defBody sTake) (defScope sTake) .none kV0Take dc0Take pm0Take an0Take cd0Take ct0Take), sl0Take⟩)
    (c0Take : PySem.W.codeIn K cd0Take "_law_take" = true)
    (k0Take : PySem.W.keepIn K (.ref f0Take) = true)
    (a0Mixed : PySem.W.nsIn K mainGlobals "_law_mixed" = some (some (.ref f0Mixed)))
    (l0Mixed : K.lookup f0Mixed = some ⟨oc0Mixed, od0Mixed, .func (PySem.W.fnOf "_law_mixed" "_law_mixed" (defArgs sMixed) (defBody sMixed) (defScope sMixed) .none kV0Mixed dc0Mixed pm0Mixed an0Mixed cd0Mixed ct0Mixed), sl0Mixed⟩)
    (c0Mixed : PySem.W.codeIn K cd0Mixed "_law_mixed" = true)
    (k0Mixed : PySem.W.keepIn K (.ref f0Mixed) = true)
    (a0Tab : PySem.W.nsIn K mainGlobals "_law_table" = some (some (.ref f0Tab)))
    (l0Tab : K.lookup f0Tab = some ⟨oc0Tab, od0Tab, .func (PySem.W.fnOf "_law_table" "_law_table" (defArgs sTab) (defBody sTab) (defScope sTab) .none kV0Tab dc0Tab pm0Tab an0Tab cd0Tab ct0Tab), sl0Tab⟩)
    (c0Tab : PySem.W.codeIn K cd0Tab "_law_table" = true)
    (k0Tab : PySem.W.keepIn K (.ref f0Tab) = true)
    (a0Pick : PySem.W.nsIn K mainGlobals "_law_pick" = some (some (.ref f0Pick)))
    (l0Pick : K.lookup f0Pick = some ⟨oc0Pick, od0Pick, .func (PySem.W.fnOf "_law_pick" "_law_pick" (defArgs sPick) (defBody sPick) (defScope sPick) .none kV0Pick dc0Pick pm0Pick an0Pick cd0Pick ct0Pick), sl0Pick⟩)
    (c0Pick : PySem.W.codeIn K cd0Pick "_law_pick" = true)
    (k0Pick : PySem.W.keepIn K (.ref f0Pick) = true)
    (a0Size : PySem.W.nsIn K mainGlobals "_law_size" = some (some (.ref f0Size)))
    (l0Size : K.lookup f0Size = some ⟨oc0Size, od0Size, .func (PySem.W.fnOf "_law_size" "_law_size" (defArgs sSize) (defBody sSize) (defScope sSize) .none kV0Size dc0Size pm0Size an0Size cd0Size ct0Size), sl0Size⟩)
    (c0Size : PySem.W.codeIn K cd0Size "_law_size" = true)
    (k0Size : PySem.W.keepIn K (.ref f0Size) = true)
    (a0Great : PySem.W.nsIn K mainGlobals "_law_great" = some (some (.ref f0Great)))
    (l0Great : K.lookup f0Great = some ⟨oc0Great, od0Great, .func (PySem.W.fnOf "_law_great" "_law_great" (defArgs sGreat) (defBody sGreat) (defScope sGreat) .none kV0Great dc0Great pm0Great an0Great cd0Great ct0Great), sl0Great⟩)
    (c0Great : PySem.W.codeIn K cd0Great "_law_great" = true)
    (k0Great : PySem.W.keepIn K (.ref f0Great) = true)
    (a0LInt : PySem.W.nsIn K mainGlobals "_law_whole" = some (some (.ref f0LInt)))
    (l0LInt : K.lookup f0LInt = some ⟨oc0LInt, od0LInt, .func (PySem.W.fnOf "_law_whole" "_law_whole" (defArgs sLInt) (defBody sLInt) (defScope sLInt) .none kV0LInt dc0LInt pm0LInt an0LInt cd0LInt ct0LInt), sl0LInt⟩)
    (c0LInt : PySem.W.codeIn K cd0LInt "_law_whole" = true)
    (k0LInt : PySem.W.keepIn K (.ref f0LInt) = true)
    (a0Hd : PySem.W.nsIn K mainGlobals "_law_heads" = some (some (.ref f0Hd)))
    (l0Hd : K.lookup f0Hd = some ⟨oc0Hd, od0Hd, .func (PySem.W.fnOf "_law_heads" "_law_heads" (defArgs sHd) (defBody sHd) (defScope sHd) .none kV0Hd dc0Hd pm0Hd an0Hd cd0Hd ct0Hd), sl0Hd⟩)
    (c0Hd : PySem.W.codeIn K cd0Hd "_law_heads" = true)
    (k0Hd : PySem.W.keepIn K (.ref f0Hd) = true)
    (a0Ro : PySem.W.nsIn K mainGlobals "_law_rows_of" = some (some (.ref f0Ro)))
    (l0Ro : K.lookup f0Ro = some ⟨oc0Ro, od0Ro, .func (PySem.W.fnOf "_law_rows_of" "_law_rows_of" (defArgs sRo) (defBody sRo) (defScope sRo) .none kV0Ro dc0Ro pm0Ro an0Ro cd0Ro ct0Ro), sl0Ro⟩)
    (c0Ro : PySem.W.codeIn K cd0Ro "_law_rows_of" = true)
    (k0Ro : PySem.W.keepIn K (.ref f0Ro) = true)
    (mm_k : PySem.W.keepIn K (.ref C_Mismatch) = true)
    (mm_x : PySem.W.excIn K C_Mismatch [.type "ValueError", .type "Exception", .type "BaseException", .type "object"] "ValueError.__new__" = true)
    (mm_s : PySem.W.subIn K (.ref C_Mismatch) (.type "BaseException") = some true)
    (mm_v : PySem.W.subIn K (.ref C_Mismatch) (.type "ValueError") = some true)
    (mm_y : PySem.W.subIn K (.ref C_Mismatch) (.ref S) = some true)
    (mm_g : PySem.W.findIn K (.ref C_Mismatch) "__getattribute__" = some (some (.builtin "BaseException.__getattribute__")))
    (mm_t : PySem.W.findIn K (.ref C_Mismatch) "__getattr__" = some none)
    (mm_c : PySem.W.findIn K (.ref C_Mismatch) "__class__" = some (some (.builtin "object.__class__")))
    (mm_o : PySem.W.mroIn K C_Mismatch (.type "object") = some true)
    (ms_BadValue : PySem.W.subIn K (.ref C_Mismatch) (.ref C) = some false)
    (n_mBadValue : (Value.ref C_Mismatch == Value.ref C) = false)
    (ms_Still : PySem.W.subIn K (.ref C_Mismatch) (.ref C_Still) = some false)
    (n_mStill : (Value.ref C_Mismatch == Value.ref C_Still) = false)
    (ms_Endless : PySem.W.subIn K (.ref C_Mismatch) (.ref C_Endless) = some false)
    (n_mEndless : (Value.ref C_Mismatch == Value.ref C_Endless) = false)
    (ms_TooMany : PySem.W.subIn K (.ref C_Mismatch) (.ref C_TooMany) = some false)
    (n_mTooMany : (Value.ref C_Mismatch == Value.ref C_TooMany) = false)
    (ms_NoName : PySem.W.subIn K (.ref C_Mismatch) (.ref C_NoName) = some false)
    (n_mNoName : (Value.ref C_Mismatch == Value.ref C_NoName) = false)
    (ms_Taken : PySem.W.subIn K (.ref C_Mismatch) (.ref C_Taken) = some false)
    (n_mTaken : (Value.ref C_Mismatch == Value.ref C_Taken) = false)
    (ms_Locked : PySem.W.subIn K (.ref C_Mismatch) (.ref C_Locked) = some false)
    (n_mLocked : (Value.ref C_Mismatch == Value.ref C_Locked) = false)
    (ms_Looped : PySem.W.subIn K (.ref C_Mismatch) (.ref C_Looped) = some false)
    (n_mLooped : (Value.ref C_Mismatch == Value.ref C_Looped) = false)
    (ms_Broken : PySem.W.subIn K (.ref C_Mismatch) (.ref C_Broken) = some false)
    (n_mBroken : (Value.ref C_Mismatch == Value.ref C_Broken) = false)
    (ms_ReadError : PySem.W.subIn K (.ref C_Mismatch) (.ref C_ReadError) = some false)
    (n_mReadError : (Value.ref C_Mismatch == Value.ref C_ReadError) = false)
    (a0Co : PySem.W.nsIn K mainGlobals "continued" = some (some (.ref f0Co)))
    (l0Co : K.lookup f0Co = some ⟨oc0Co, od0Co, .func (PySem.W.fnOf "continued" "continued" (defArgs sCo) (defBody sCo) (defScope sCo) .none (.ref dK) dc0Co pm0Co an0Co cd0Co ct0Co), sl0Co⟩)
    (c0Co : PySem.W.codeIn K cd0Co "continued" = true)
    (k0Co : PySem.W.keepIn K (.ref f0Co) = true)
    (nK : PySem.W.nsIn K dK "back" = some (some (.bool false)))
    (a0Require : PySem.W.nsIn K mainGlobals "require" = some (some (.ref f0Require)))
    (l0Require : K.lookup f0Require = some ⟨oc0Require, od0Require, .func (PySem.W.fnOf "require" "require" (defArgs sRequire) (defBody sRequire) (defScope sRequire) .none kV0Require dc0Require pm0Require an0Require cd0Require ct0Require), sl0Require⟩)
    (c0Require : PySem.W.codeIn K cd0Require "require" = true)
    (k0Require : PySem.W.keepIn K (.ref f0Require) = true)
    (z_all : PySem.W.nsIn K mainGlobals "all" = some none)
    (g_MOST_ROWS : PySem.W.nsIn K mainGlobals "MOST_ROWS" = some (some (.int 60 tkMOST_ROWS)))
    (a0Tb : PySem.W.nsIn K mainGlobals "is_table" = some (some (.ref f0Tb)))
    (l0Tb : K.lookup f0Tb = some ⟨oc0Tb, od0Tb, .func (PySem.W.fnOf "is_table" "is_table" (defArgs sTb) (defBody sTb) (defScope sTb) .none kV0Tb dc0Tb pm0Tb an0Tb cd0Tb ct0Tb), sl0Tb⟩)
    (c0Tb : PySem.W.codeIn K cd0Tb "is_table" = true)
    (k0Tb : PySem.W.keepIn K (.ref f0Tb) = true)
    (a0ListA : PySem.W.nsIn K mainGlobals "is_list_within" = some (some (.ref f0ListA)))
    (l0ListA : K.lookup f0ListA = some ⟨oc0ListA, od0ListA, .func (PySem.W.fnOf "is_list_within" "is_list_within" (defArgs sListA) (defBody sListA) (defScope sListA) .none kV0ListA dc0ListA pm0ListA an0ListA cd0ListA ct0ListA), sl0ListA⟩)
    (c0ListA : PySem.W.codeIn K cd0ListA "is_list_within" = true)
    (k0ListA : PySem.W.keepIn K (.ref f0ListA) = true)
    (a0Whole : PySem.W.nsIn K mainGlobals "is_whole" = some (some (.ref f0Whole)))
    (l0Whole : K.lookup f0Whole = some ⟨oc0Whole, od0Whole, .func (PySem.W.fnOf "is_whole" "is_whole" (defArgs sWhole) (defBody sWhole) (defScope sWhole) .none kV0Whole dc0Whole pm0Whole an0Whole cd0Whole ct0Whole), sl0Whole⟩)
    (c0Whole : PySem.W.codeIn K cd0Whole "is_whole" = true)
    (k0Whole : PySem.W.keepIn K (.ref f0Whole) = true)
    (g_MOST_DEGREE : PySem.W.nsIn K mainGlobals "MOST_DEGREE" = some (some (.int 8 tkMOST_DEGREE)))
    (a0Dgr : PySem.W.nsIn K mainGlobals "is_degree" = some (some (.ref f0Dgr)))
    (l0Dgr : K.lookup f0Dgr = some ⟨oc0Dgr, od0Dgr, .func (PySem.W.fnOf "is_degree" "is_degree" (defArgs sDgr) (defBody sDgr) (defScope sDgr) .none kV0Dgr dc0Dgr pm0Dgr an0Dgr cd0Dgr ct0Dgr), sl0Dgr⟩)
    (c0Dgr : PySem.W.codeIn K cd0Dgr "is_degree" = true)
    (k0Dgr : PySem.W.keepIn K (.ref f0Dgr) = true)
    (a0WithinA : PySem.W.nsIn K mainGlobals "is_whole_within" = some (some (.ref f0WithinA)))
    (l0WithinA : K.lookup f0WithinA = some ⟨oc0WithinA, od0WithinA, .func (PySem.W.fnOf "is_whole_within" "is_whole_within" (defArgs sWithinA) (defBody sWithinA) (defScope sWithinA) .none kV0WithinA dc0WithinA pm0WithinA an0WithinA cd0WithinA ct0WithinA), sl0WithinA⟩)
    (c0WithinA : PySem.W.codeIn K cd0WithinA "is_whole_within" = true)
    (k0WithinA : PySem.W.keepIn K (.ref f0WithinA) = true)
    (a0Cnt : PySem.W.nsIn K mainGlobals "_is_count" = some (some (.ref f0Cnt)))
    (l0Cnt : K.lookup f0Cnt = some ⟨oc0Cnt, od0Cnt, .func (PySem.W.fnOf "_is_count" "_is_count" (defArgs sCnt) (defBody sCnt) (defScope sCnt) .none kV0Cnt dc0Cnt pm0Cnt an0Cnt cd0Cnt ct0Cnt), sl0Cnt⟩)
    (c0Cnt : PySem.W.codeIn K cd0Cnt "_is_count" = true)
    (k0Cnt : PySem.W.keepIn K (.ref f0Cnt) = true)
    (a0RS : PySem.W.nsIn K mainGlobals "_refuse_short" = some (some (.ref f0RS)))
    (l0RS : K.lookup f0RS = some ⟨oc0RS, od0RS, .func (PySem.W.fnOf "_refuse_short" "_refuse_short" (defArgs sRS) (defBody sRS) (defScope sRS) .none kV0RS dc0RS pm0RS an0RS cd0RS ct0RS), sl0RS⟩)
    (c0RS : PySem.W.codeIn K cd0RS "_refuse_short" = true)
    (k0RS : PySem.W.keepIn K (.ref f0RS) = true)
    (a0By : PySem.W.nsIn K mainGlobals "_law_beyond" = some (some (.ref f0By)))
    (l0By : K.lookup f0By = some ⟨oc0By, od0By, .func (PySem.W.fnOf "_law_beyond" "_law_beyond" (defArgs sBy) (defBody sBy) (defScope sBy) .none kV0By dc0By pm0By an0By cd0By ct0By), sl0By⟩)
    (c0By : PySem.W.codeIn K cd0By "_law_beyond" = true)
    (k0By : PySem.W.keepIn K (.ref f0By) = true)
    (a0BW : PySem.W.nsIn K mainGlobals "_law_bad_whole" = some (some (.ref f0BW)))
    (l0BW : K.lookup f0BW = some ⟨oc0BW, od0BW, .func (PySem.W.fnOf "_law_bad_whole" "_law_bad_whole" (defArgs sBW) (defBody sBW) (defScope sBW) .none kV0BW dc0BW pm0BW an0BW cd0BW ct0BW), sl0BW⟩)
    (c0BW : PySem.W.codeIn K cd0BW "_law_bad_whole" = true)
    (k0BW : PySem.W.keepIn K (.ref f0BW) = true)
    (a0NT : PySem.W.nsIn K mainGlobals "_law_no_table" = some (some (.ref f0NT)))
    (l0NT : K.lookup f0NT = some ⟨oc0NT, od0NT, .func (PySem.W.fnOf "_law_no_table" "_law_no_table" (defArgs sNT) (defBody sNT) (defScope sNT) .none kV0NT dc0NT pm0NT an0NT cd0NT ct0NT), sl0NT⟩)
    (c0NT : PySem.W.codeIn K cd0NT "_law_no_table" = true)
    (k0NT : PySem.W.keepIn K (.ref f0NT) = true)
    (a0With : PySem.W.nsIn K mainGlobals "_law_with" = some (some (.ref f0With)))
    (l0With : K.lookup f0With = some ⟨oc0With, od0With, .func (PySem.W.fnOf "_law_with" "_law_with" (defArgs sWith) (defBody sWith) (defScope sWith) .none kV0With dc0With pm0With an0With cd0With ct0With), sl0With⟩)
    (c0With : PySem.W.codeIn K cd0With "_law_with" = true)
    (k0With : PySem.W.keepIn K (.ref f0With) = true)
    (a0WL : PySem.W.nsIn K mainGlobals "_law_wrong_length" = some (some (.ref f0WL)))
    (l0WL : K.lookup f0WL = some ⟨oc0WL, od0WL, .func (PySem.W.fnOf "_law_wrong_length" "_law_wrong_length" (defArgs sWL) (defBody sWL) (defScope sWL) .none kV0WL dc0WL pm0WL an0WL cd0WL ct0WL), sl0WL⟩)
    (c0WL : PySem.W.codeIn K cd0WL "_law_wrong_length" = true)
    (k0WL : PySem.W.keepIn K (.ref f0WL) = true)
    (a0BL : PySem.W.nsIn K mainGlobals "_law_bad_list" = some (some (.ref f0BL)))
    (l0BL : K.lookup f0BL = some ⟨oc0BL, od0BL, .func (PySem.W.fnOf "_law_bad_list" "_law_bad_list" (defArgs sBL) (defBody sBL) (defScope sBL) .none kV0BL dc0BL pm0BL an0BL cd0BL ct0BL), sl0BL⟩)
    (c0BL : PySem.W.codeIn K cd0BL "_law_bad_list" = true)
    (k0BL : PySem.W.keepIn K (.ref f0BL) = true)
    (a0Same : PySem.W.nsIn K mainGlobals "_law_same" = some (some (.ref f0Same)))
    (l0Same : K.lookup f0Same = some ⟨oc0Same, od0Same, .func (PySem.W.fnOf "_law_same" "_law_same" (defArgs sSame) (defBody sSame) (defScope sSame) .none kV0Same dc0Same pm0Same an0Same cd0Same ct0Same), sl0Same⟩)
    (c0Same : PySem.W.codeIn K cd0Same "_law_same" = true)
    (k0Same : PySem.W.keepIn K (.ref f0Same) = true)
    (a0LWhole : PySem.W.nsIn K mainGlobals "_law_is_whole" = some (some (.ref f0LWhole)))
    (l0LWhole : K.lookup f0LWhole = some ⟨oc0LWhole, od0LWhole, .func (PySem.W.fnOf "_law_is_whole" "_law_is_whole" (defArgs sLWhole) (defBody sLWhole) (defScope sLWhole) .none kV0LWhole dc0LWhole pm0LWhole an0LWhole cd0LWhole ct0LWhole), sl0LWhole⟩)
    (c0LWhole : PySem.W.codeIn K cd0LWhole "_law_is_whole" = true)
    (k0LWhole : PySem.W.keepIn K (.ref f0LWhole) = true)
    (a0On : PySem.W.nsIn K mainGlobals "_law_on_right" = some (some (.ref f0On)))
    (l0On : K.lookup f0On = some ⟨oc0On, od0On, .func (PySem.W.fnOf "_law_on_right" "_law_on_right" (defArgs sOn) (defBody sOn) (defScope sOn) .none kV0On dc0On pm0On an0On cd0On ct0On), sl0On⟩)
    (c0On : PySem.W.codeIn K cd0On "_law_on_right" = true)
    (k0On : PySem.W.keepIn K (.ref f0On) = true)
    (a0Ah : PySem.W.nsIn K mainGlobals "_law_ahead" = some (some (.ref f0Ah)))
    (l0Ah : K.lookup f0Ah = some ⟨oc0Ah, od0Ah, .func (PySem.W.fnOf "_law_ahead" "_law_ahead" (defArgs sAh) (defBody sAh) (defScope sAh) .none kV0Ah dc0Ah pm0Ah an0Ah cd0Ah ct0Ah), sl0Ah⟩)
    (c0Ah : PySem.W.codeIn K cd0Ah "_law_ahead" = true)
    (k0Ah : PySem.W.keepIn K (.ref f0Ah) = true)
    (a0Fo : PySem.W.nsIn K mainGlobals "_followers" = some (some (.ref f0Fo)))
    (l0Fo : K.lookup f0Fo = some ⟨oc0Fo, od0Fo, .func (PySem.W.fnOf "_followers" "_followers" (defArgs sFo) (defBody sFo) (defScope sFo) .none kV0Fo dc0Fo pm0Fo an0Fo cd0Fo ct0Fo), sl0Fo⟩)
    (c0Fo : PySem.W.codeIn K cd0Fo "_followers" = true)
    (k0Fo : PySem.W.keepIn K (.ref f0Fo) = true)
    (a0Hs : PySem.W.nsIn K mainGlobals "_heads" = some (some (.ref f0Hs)))
    (l0Hs : K.lookup f0Hs = some ⟨oc0Hs, od0Hs, .func (PySem.W.fnOf "_heads" "_heads" (defArgs sHs) (defBody sHs) (defScope sHs) .none kV0Hs dc0Hs pm0Hs an0Hs cd0Hs ct0Hs), sl0Hs⟩)
    (c0Hs : PySem.W.codeIn K cd0Hs "_heads" = true)
    (k0Hs : PySem.W.keepIn K (.ref f0Hs) = true)
    (z_zip : PySem.W.nsIn K mainGlobals "zip" = some none)
    (a0Dfs : PySem.W.nsIn K mainGlobals "_differences" = some (some (.ref f0Dfs)))
    (l0Dfs : K.lookup f0Dfs = some ⟨oc0Dfs, od0Dfs, .func (PySem.W.fnOf "_differences" "_differences" (defArgs sDfs) (defBody sDfs) (defScope sDfs) .none kV0Dfs dc0Dfs pm0Dfs an0Dfs cd0Dfs ct0Dfs), sl0Dfs⟩)
    (c0Dfs : PySem.W.codeIn K cd0Dfs "_differences" = true)
    (k0Dfs : PySem.W.keepIn K (.ref f0Dfs) = true)
    (a0Rf : PySem.W.nsIn K mainGlobals "_rows_from" = some (some (.ref f0Rf)))
    (l0Rf : K.lookup f0Rf = some ⟨oc0Rf, od0Rf, .func (PySem.W.fnOf "_rows_from" "_rows_from" (defArgs sRf) (defBody sRf) (defScope sRf) .none kV0Rf dc0Rf pm0Rf an0Rf cd0Rf ct0Rf), sl0Rf⟩)
    (c0Rf : PySem.W.codeIn K cd0Rf "_rows_from" = true)
    (k0Rf : PySem.W.keepIn K (.ref f0Rf) = true)
    (a0Mv : PySem.W.nsIn K mainGlobals "_moved_on" = some (some (.ref f0Mv)))
    (l0Mv : K.lookup f0Mv = some ⟨oc0Mv, od0Mv, .func (PySem.W.fnOf "_moved_on" "_moved_on" (defArgs sMv) (defBody sMv) (defScope sMv) .none kV0Mv dc0Mv pm0Mv an0Mv cd0Mv ct0Mv), sl0Mv⟩)
    (c0Mv : PySem.W.codeIn K cd0Mv "_moved_on" = true)
    (k0Mv : PySem.W.keepIn K (.ref f0Mv) = true)
    (a0Fi : PySem.W.nsIn K mainGlobals "_law_fits_on" = some (some (.ref f0Fi)))
    (l0Fi : K.lookup f0Fi = some ⟨oc0Fi, od0Fi, .func (PySem.W.fnOf "_law_fits_on" "_law_fits_on" (defArgs sFi) (defBody sFi) (defScope sFi) .none kV0Fi dc0Fi pm0Fi an0Fi cd0Fi ct0Fi), sl0Fi⟩)
    (c0Fi : PySem.W.codeIn K cd0Fi "_law_fits_on" = true)
    (k0Fi : PySem.W.keepIn K (.ref f0Fi) = true)
    (a0St : PySem.W.nsIn K mainGlobals "_law_straight" = some (some (.ref f0St)))
    (l0St : K.lookup f0St = some ⟨oc0St, od0St, .func (PySem.W.fnOf "_law_straight" "_law_straight" (defArgs sSt) (defBody sSt) (defScope sSt) .none kV0St dc0St pm0St an0St cd0St ct0St), sl0St⟩)
    (c0St : PySem.W.codeIn K cd0St "_law_straight" = true)
    (k0St : PySem.W.keepIn K (.ref f0St) = true)
    (z_any : PySem.W.nsIn K mainGlobals "any" = some none)
    (a0Deg : PySem.W.nsIn K mainGlobals "degree_of" = some (some (.ref f0Deg)))
    (l0Deg : K.lookup f0Deg = some ⟨oc0Deg, od0Deg, .func (PySem.W.fnOf "degree_of" "degree_of" (defArgs sDeg) (defBody sDeg) (defScope sDeg) .none kV0Deg dc0Deg pm0Deg an0Deg cd0Deg ct0Deg), sl0Deg⟩)
    (c0Deg : PySem.W.codeIn K cd0Deg "degree_of" = true)
    (k0Deg : PySem.W.keepIn K (.ref f0Deg) = true)
    (a0Ow : PySem.W.nsIn K mainGlobals "_law_own_degree" = some (some (.ref f0Ow)))
    (l0Ow : K.lookup f0Ow = some ⟨oc0Ow, od0Ow, .func (PySem.W.fnOf "_law_own_degree" "_law_own_degree" (defArgs sOw) (defBody sOw) (defScope sOw) .none kV0Ow dc0Ow pm0Ow an0Ow cd0Ow ct0Ow), sl0Ow⟩)
    (c0Ow : PySem.W.codeIn K cd0Ow "_law_own_degree" = true)
    (k0Ow : PySem.W.keepIn K (.ref f0Ow) = true)
    (a0Di : PySem.W.nsIn K mainGlobals "_law_diffs" = some (some (.ref f0Di)))
    (l0Di : K.lookup f0Di = some ⟨oc0Di, od0Di, .func (PySem.W.fnOf "_law_diffs" "_law_diffs" (defArgs sDi) (defBody sDi) (defScope sDi) .none kV0Di dc0Di pm0Di an0Di cd0Di ct0Di), sl0Di⟩)
    (c0Di : PySem.W.codeIn K cd0Di "_law_diffs" = true)
    (k0Di : PySem.W.keepIn K (.ref f0Di) = true)
    (a0Ba : PySem.W.nsIn K mainGlobals "_law_back_right" = some (some (.ref f0Ba)))
    (l0Ba : K.lookup f0Ba = some ⟨oc0Ba, od0Ba, .func (PySem.W.fnOf "_law_back_right" "_law_back_right" (defArgs sBa) (defBody sBa) (defScope sBa) .none kV0Ba dc0Ba pm0Ba an0Ba cd0Ba ct0Ba), sl0Ba⟩)
    (c0Ba : PySem.W.codeIn K cd0Ba "_law_back_right" = true)
    (k0Ba : PySem.W.keepIn K (.ref f0Ba) = true) :
    ∃ fd : FuncData, (∀ (s : Shared) (v : Value), BindsTo s fd ⟨[v], []⟩ [("_law_script", v)]) ∧ ∀ base : Heap, K.In base → base.Ns mainGlobals mg → ∀ P1 : Addr, ∀ P2 : Addr, LamX.TabB base mg c_R1 P1 → LamX.TabB base mg c_R2 P2 → P1 ≠ P2 → FnOk P w K mg base CX0 9 fa fd ["_law_script"] (spLaw K P1 P2) := by
  have T : Bt K mg := ⟨PySem.W.mg_none_of X G z_int, PySem.W.mg_none_of X G z_len, PySem.W.mg_none_of X G z_list, PySem.W.mg_none_of X G z_abs, PySem.W.mg_none_of X G z_range, PySem.W.mg_none_of X G z_min, PySem.W.mg_none_of X G z_max, PySem.W.mg_none_of X G z_isinstance, PySem.W.mg_none_of X G z_bool, PySem.W.mg_none_of X G z_str, PySem.W.mg_none_of X G z_dict, PySem.W.mg_none_of X G z_tuple⟩
  have FI := fun_mk (st := sInitB) lI cI kI
  have bI := FI.binds (ps := ["self", "what"]) fun _ _ _ _ _ _ us hl => match us, hl with | [_, _], _ => rfl
  have B : BvT K mg C := ⟨PySem.W.mg_of X G aC, ⟨⟨nm, qn, N0, bs, bm, sn, sub, ab, col, dd, m0, m1, m2, m3, m5, xL, hbm⟩, sa, eC, tC, kC⟩, nw, fI, _, aI, tI, FI, bI⟩
  have icC : (PySem.W.clsIn K C).isSome = true := by
    obtain ⟨cd, hc, _⟩ := PySem.W.any_some hC
    rw [hc]; rfl
  let A : String → Addr := fun n => if n = "Mismatch" then C_Mismatch else if n = "Still" then C_Still else if n = "Endless" then C_Endless else if n = "TooMany" then C_TooMany else if n = "NoName" then C_NoName else if n = "Taken" then C_Taken else if n = "Locked" then C_Locked else if n = "Looped" then C_Looped else if n = "Broken" then C_Broken else if n = "ReadError" then C_ReadError else C
  have kit : ∀ D : Addr, PySem.W.typeIn K (.ref D) = some (.type "type") → PySem.W.hasDictIn K D = true → PySem.W.subIn K (.ref C) (.ref D) = some false → (Value.ref C == Value.ref D) = false → PySem.W.kitOne K (.ref C) (.ref D) = some false := fun D h1 h2 h3 h4 => by
    obtain ⟨cd, hc, _⟩ := PySem.W.any_some h2
    unfold PySem.W.kitOne PySem.W.kitCls
    rw [h4, if_neg Bool.false_ne_true]
    show (if ((PySem.W.clsIn K D).isSome && PySem.W.typeIn K (.ref D) == some (.type "type")) = true then PySem.W.subIn K (.ref C) (.ref D) else none) = some false
    rw [hc, h1, if_pos (by rfl)]
    exact h3
  have AT : AskT K mg C S A := {
    sky := PySem.W.mg_of X G aS
    exm := PySem.W.exm_ref eS hS tS cS
    g := fun n hn => by
      simp only [List.mem_cons, List.not_mem_nil, or_false] at hn
      rcases hn with rfl | rfl | rfl | rfl | rfl | rfl | rfl | rfl | rfl | rfl | rfl
      · exact PySem.W.mg_of X G aC
      · exact PySem.W.mg_of X G a_Mismatch
      · exact PySem.W.mg_of X G a_Still
      · exact PySem.W.mg_of X G a_Endless
      · exact PySem.W.mg_of X G a_TooMany
      · exact PySem.W.mg_of X G a_NoName
      · exact PySem.W.mg_of X G a_Taken
      · exact PySem.W.mg_of X G a_Locked
      · exact PySem.W.mg_of X G a_Looped
      · exact PySem.W.mg_of X G a_Broken
      · exact PySem.W.mg_of X G a_ReadError
    k := fun n hn => by
      simp only [List.mem_cons, List.not_mem_nil, or_false] at hn
      rcases hn with rfl | rfl | rfl | rfl | rfl | rfl | rfl | rfl | rfl | rfl | rfl
      · show PySem.W.kitOne K (.ref C) (.ref C) = some true
        unfold PySem.W.kitOne
        rw [if_pos (by simp)]
      · exact kit C_Mismatch t_Mismatch h_Mismatch s_Mismatch n_Mismatch
      · exact kit C_Still t_Still h_Still s_Still n_Still
      · exact kit C_Endless t_Endless h_Endless s_Endless n_Endless
      · exact kit C_TooMany t_TooMany h_TooMany s_TooMany n_TooMany
      · exact kit C_NoName t_NoName h_NoName s_NoName n_NoName
      · exact kit C_Taken t_Taken h_Taken s_Taken n_Taken
      · exact kit C_Locked t_Locked h_Locked s_Locked n_Locked
      · exact kit C_Looped t_Looped h_Looped s_Looped n_Looped
      · exact kit C_Broken t_Broken h_Broken s_Broken n_Broken
      · exact kit C_ReadError t_ReadError h_ReadError s_ReadError n_ReadError
    ve := by
      unfold PySem.W.kitOne PySem.W.kitCls
      rw [if_neg (by simp)]
      show (if PySem.W.kitMeta "ValueError" = true then PySem.W.subIn K (.ref C) (.type "ValueError") else none) = some true
      rw [if_pos (by decide +kernel)]
      exact vC
    b_VE := PySem.W.mg_none_of X G z_VE
    hcl := icC
    hga := ga
    hgt := gg
    hsub := eC
    ha := gc
    hn := spc
    htk := tkc
    hm := mC
    xf := ⟨ga, gg, eC, hC⟩ }
  have FA := fun_mk (st := sAsked) l_A c_A k_A
  have AS : AskD K mg f_A oc_A od_A .none kV_A dc_A pm_A an_A cd_A ct_A sl_A := ⟨PySem.W.mg_of X G a_A, k_A, l_A, c_A, FA.binds (ps := ["_law_call"]) fun _ _ _ _ _ _ us hl => match us, hl with | [_], _ => rfl⟩
  have F_R1 := fun_mk (st := sTR) l_R1 cd_R1 k_R1
  have b_R1 := F_R1.binds (ps := ["_law_store_here", "_law_values", "_law_some"]) fun _ _ _ _ _ _ us hl => match us, hl with | [_, _, _], _ => rfl
  have F_R2 := fun_mk (st := sRefused) l_R2 cd_R2 k_R2
  have b_R2 := F_R2.binds (ps := ["_law_store_here", "_law_values"]) fun _ _ _ _ _ _ us hl => match us, hl with | [_, _], _ => rfl
  have DStore : Dfn K mg "_law_store" sStore ["_law_script"] := dfn_mk X G a0Store l0Store c0Store k0Store fun _ _ _ _ _ _ us hl => match us, hl with | [_], _ => rfl
  have DTake : Dfn K mg "_law_take" sTake ["_law_store_here", "_law_many"] := dfn_mk X G a0Take l0Take c0Take k0Take fun _ _ _ _ _ _ us hl => match us, hl with | [_, _], _ => rfl
  have DMixed : Dfn K mg "_law_mixed" sMixed ["_law_number", "_law_turn"] := dfn_mk X G a0Mixed l0Mixed c0Mixed k0Mixed fun _ _ _ _ _ _ us hl => match us, hl with | [_, _], _ => rfl
  have DTab : Dfn K mg "_law_table" sTab ["_law_store_here"] := dfn_mk X G a0Tab l0Tab c0Tab k0Tab fun _ _ _ _ _ _ us hl => match us, hl with | [_], _ => rfl
  have DPick : Dfn K mg "_law_pick" sPick ["_law_store_here", "_law_row"] := dfn_mk X G a0Pick l0Pick c0Pick k0Pick fun _ _ _ _ _ _ us hl => match us, hl with | [_, _], _ => rfl
  have DSize : Dfn K mg "_law_size" sSize ["_law_store_here", "_law_top"] := dfn_mk X G a0Size l0Size c0Size k0Size fun _ _ _ _ _ _ us hl => match us, hl with | [_, _], _ => rfl
  have DGreat : Dfn K mg "_law_great" sGreat ["_law_store_here"] := dfn_mk X G a0Great l0Great c0Great k0Great fun _ _ _ _ _ _ us hl => match us, hl with | [_], _ => rfl
  have DLInt : Dfn K mg "_law_whole" sLInt ["_law_store_here", "_law_reach"] := dfn_mk X G a0LInt l0LInt c0LInt k0LInt fun _ _ _ _ _ _ us hl => match us, hl with | [_, _], _ => rfl
  have DHd : Dfn K mg "_law_heads" sHd ["_law_store_here", "_law_many"] := dfn_mk X G a0Hd l0Hd c0Hd k0Hd fun _ _ _ _ _ _ us hl => match us, hl with | [_, _], _ => rfl
  have DRo : Dfn K mg "_law_rows_of" sRo ["_law_heads_here", "_law_many"] := dfn_mk X G a0Ro l0Ro c0Ro k0Ro fun _ _ _ _ _ _ us hl => match us, hl with | [_, _], _ => rfl
  have Mi : MiT K mg C_Mismatch := ⟨PySem.W.mg_of X G a_Mismatch, mm_k, ⟨_, _, _, _, PySem.F.excBase_ValueError, mm_x⟩, mm_s, t_Mismatch⟩
  have kitM : ∀ D : Addr, PySem.W.typeIn K (.ref D) = some (.type "type") → PySem.W.hasDictIn K D = true → PySem.W.subIn K (.ref C_Mismatch) (.ref D) = some false → (Value.ref C_Mismatch == Value.ref D) = false → PySem.W.kitOne K (.ref C_Mismatch) (.ref D) = some false := fun D h1 h2 h3 h4 => by
    obtain ⟨cd, hc, _⟩ := PySem.W.any_some h2
    unfold PySem.W.kitOne PySem.W.kitCls
    rw [h4, if_neg Bool.false_ne_true]
    show (if ((PySem.W.clsIn K D).isSome && PySem.W.typeIn K (.ref D) == some (.type "type")) = true then PySem.W.subIn K (.ref C_Mismatch) (.ref D) else none) = some false
    rw [hc, h1, if_pos (by rfl)]
    exact h3
  have AM : AskM K C_Mismatch S A := {
    exm := PySem.W.exm_ref eS hS tS mm_y
    k := fun n hn => by
      simp only [List.mem_cons, List.not_mem_nil, or_false] at hn
      rcases hn with rfl | rfl | rfl | rfl | rfl | rfl | rfl | rfl | rfl | rfl | rfl
      · exact kitM C tC hC ms_BadValue n_mBadValue
      · show PySem.W.kitOne K (.ref C_Mismatch) (.ref C_Mismatch) = some true
        unfold PySem.W.kitOne
        rw [if_pos (by simp)]
      · exact kitM C_Still t_Still h_Still ms_Still n_mStill
      · exact kitM C_Endless t_Endless h_Endless ms_Endless n_mEndless
      · exact kitM C_TooMany t_TooMany h_TooMany ms_TooMany n_mTooMany
      · exact kitM C_NoName t_NoName h_NoName ms_NoName n_mNoName
      · exact kitM C_Taken t_Taken h_Taken ms_Taken n_mTaken
      · exact kitM C_Locked t_Locked h_Locked ms_Locked n_mLocked
      · exact kitM C_Looped t_Looped h_Looped ms_Looped n_mLooped
      · exact kitM C_Broken t_Broken h_Broken ms_Broken n_mBroken
      · exact kitM C_ReadError t_ReadError h_ReadError ms_ReadError n_mReadError
    ve := by
      unfold PySem.W.kitOne PySem.W.kitCls
      rw [if_neg (by simp)]
      show (if PySem.W.kitMeta "ValueError" = true then PySem.W.subIn K (.ref C_Mismatch) (.type "ValueError") else none) = some true
      rw [if_pos (by decide +kernel)]
      exact mm_v
    e := ⟨mm_g, mm_t, mm_s, h_Mismatch, mm_c, spc, tkc, mm_o⟩ }
  have FC : FunD K "continued" "continued" (defArgs sCo) (defBody sCo) (defScope sCo) [] [("back", .bl false)] f0Co _ := ⟨⟨oc0Co, od0Co, _, _, dc0Co, pm0Co, an0Co, cd0Co, ct0Co, sl0Co, rfl, l0Co, c0Co, .inl ⟨rfl, rfl⟩, .inr ⟨dK, rfl, fun q hq => by
    simp only [List.mem_cons, List.not_mem_nil, or_false] at hq
    subst hq
    exact ⟨_, nK, rfl⟩⟩⟩, k0Co⟩
  have DCo : DfnC K mg "continued" sCo ["values", "degree", "count", "back"] := ⟨f0Co, _, FC, PySem.W.mg_of X G a0Co, kc_of FC⟩
  have DRequire : Dfn K mg "require" sRequire ["well_formed", "what"] := dfn_mk X G a0Require l0Require c0Require k0Require fun _ _ _ _ _ _ us hl => match us, hl with | [_, _], _ => rfl
  have DTb : Dfn K mg "is_table" sTb ["value"] := dfn_mk X G a0Tb l0Tb c0Tb k0Tb fun _ _ _ _ _ _ us hl => match us, hl with | [_], _ => rfl
  have DListA : Dfn K mg "is_list_within" sListA ["value", "least", "most"] := dfn_mk X G a0ListA l0ListA c0ListA k0ListA fun _ _ _ _ _ _ us hl => match us, hl with | [_, _, _], _ => rfl
  have DWhole : Dfn K mg "is_whole" sWhole ["value"] := dfn_mk X G a0Whole l0Whole c0Whole k0Whole fun _ _ _ _ _ _ us hl => match us, hl with | [_], _ => rfl
  have DDgr : Dfn K mg "is_degree" sDgr ["value"] := dfn_mk X G a0Dgr l0Dgr c0Dgr k0Dgr fun _ _ _ _ _ _ us hl => match us, hl with | [_], _ => rfl
  have DWithinA : Dfn K mg "is_whole_within" sWithinA ["value", "least", "most"] := dfn_mk X G a0WithinA l0WithinA c0WithinA k0WithinA fun _ _ _ _ _ _ us hl => match us, hl with | [_, _, _], _ => rfl
  have DCnt : Dfn K mg "_is_count" sCnt ["value"] := dfn_mk X G a0Cnt l0Cnt c0Cnt k0Cnt fun _ _ _ _ _ _ us hl => match us, hl with | [_], _ => rfl
  have DRS : Dfn K mg "_refuse_short" sRS ["values", "degree"] := dfn_mk X G a0RS l0RS c0RS k0RS fun _ _ _ _ _ _ us hl => match us, hl with | [_, _], _ => rfl
  have DBy : Dfn K mg "_law_beyond" sBy ["_law_store_here", "_law_low", "_law_high"] := dfn_mk X G a0By l0By c0By k0By fun _ _ _ _ _ _ us hl => match us, hl with | [_, _, _], _ => rfl
  have DBW : Dfn K mg "_law_bad_whole" sBW ["_law_store_here"] := dfn_mk X G a0BW l0BW c0BW k0BW fun _ _ _ _ _ _ us hl => match us, hl with | [_], _ => rfl
  have DNT : Dfn K mg "_law_no_table" sNT ["_law_store_here", "_law_values"] := dfn_mk X G a0NT l0NT c0NT k0NT fun _ _ _ _ _ _ us hl => match us, hl with | [_, _], _ => rfl
  have DWith : Dfn K mg "_law_with" sWith ["_law_store_here", "_law_row", "_law_item"] := dfn_mk X G a0With l0With c0With k0With fun _ _ _ _ _ _ us hl => match us, hl with | [_, _, _], _ => rfl
  have DWL : Dfn K mg "_law_wrong_length" sWL ["_law_store_here", "_law_row", "_law_low", "_law_high"] := dfn_mk X G a0WL l0WL c0WL k0WL fun _ _ _ _ _ _ us hl => match us, hl with | [_, _, _, _], _ => rfl
  have DBL : Dfn K mg "_law_bad_list" sBL ["_law_store_here", "_law_row"] := dfn_mk X G a0BL l0BL c0BL k0BL fun _ _ _ _ _ _ us hl => match us, hl with | [_, _], _ => rfl
  have DSame : Dfn K mg "_law_same" sSame ["_law_told", "_law_due"] := dfn_mk X G a0Same l0Same c0Same k0Same fun _ _ _ _ _ _ us hl => match us, hl with | [_, _], _ => rfl
  have DLWhole : Dfn K mg "_law_is_whole" sLWhole ["_law_told"] := dfn_mk X G a0LWhole l0LWhole c0LWhole k0LWhole fun _ _ _ _ _ _ us hl => match us, hl with | [_], _ => rfl
  have DOn : Dfn K mg "_law_on_right" sOn ["_law_store_here", "_law_values", "_law_some", "_law_many"] := dfn_mk X G a0On l0On c0On k0On fun _ _ _ _ _ _ us hl => match us, hl with | [_, _, _, _], _ => rfl
  have DAh : Dfn K mg "_law_ahead" sAh ["_law_store_here", "_law_values", "_law_some", "_law_many"] := dfn_mk X G a0Ah l0Ah c0Ah k0Ah fun _ _ _ _ _ _ us hl => match us, hl with | [_, _, _, _], _ => rfl
  have DFo : Dfn K mg "_followers" sFo ["values", "count"] := dfn_mk X G a0Fo l0Fo c0Fo k0Fo fun _ _ _ _ _ _ us hl => match us, hl with | [_, _], _ => rfl
  have DHs : Dfn K mg "_heads" sHs ["values"] := dfn_mk X G a0Hs l0Hs c0Hs k0Hs fun _ _ _ _ _ _ us hl => match us, hl with | [_], _ => rfl
  have DDfs : Dfn K mg "_differences" sDfs ["values"] := dfn_mk X G a0Dfs l0Dfs c0Dfs k0Dfs fun _ _ _ _ _ _ us hl => match us, hl with | [_], _ => rfl
  have DRf : Dfn K mg "_rows_from" sRf ["heads", "count"] := dfn_mk X G a0Rf l0Rf c0Rf k0Rf fun _ _ _ _ _ _ us hl => match us, hl with | [_, _], _ => rfl
  have DMv : Dfn K mg "_moved_on" sMv ["heads"] := dfn_mk X G a0Mv l0Mv c0Mv k0Mv fun _ _ _ _ _ _ us hl => match us, hl with | [_], _ => rfl
  have DFi : Dfn K mg "_law_fits_on" sFi ["_law_values", "_law_some", "_law_many", "_law_told", "_law_behind"] := dfn_mk X G a0Fi l0Fi c0Fi k0Fi fun _ _ _ _ _ _ us hl => match us, hl with | [_, _, _, _, _], _ => rfl
  have DSt : Dfn K mg "_law_straight" sSt ["_law_rows", "_law_degree"] := dfn_mk X G a0St l0St c0St k0St fun _ _ _ _ _ _ us hl => match us, hl with | [_, _], _ => rfl
  have DDeg : Dfn K mg "degree_of" sDeg ["values"] := dfn_mk X G a0Deg l0Deg c0Deg k0Deg fun _ _ _ _ _ _ us hl => match us, hl with | [_], _ => rfl
  have DOw : Dfn K mg "_law_own_degree" sOw ["_law_values"] := dfn_mk X G a0Ow l0Ow c0Ow k0Ow fun _ _ _ _ _ _ us hl => match us, hl with | [_], _ => rfl
  have DDi : Dfn K mg "_law_diffs" sDi ["_law_values"] := dfn_mk X G a0Di l0Di c0Di k0Di fun _ _ _ _ _ _ us hl => match us, hl with | [_], _ => rfl
  have DBa : Dfn K mg "_law_back_right" sBa ["_law_store_here", "_law_values", "_law_some", "_law_many"] := dfn_mk X G a0Ba l0Ba c0Ba k0Ba fun _ _ _ _ _ _ us hl => match us, hl with | [_, _, _, _], _ => rfl
  have FL := fun_mk (st := sLaw) lL cL kL
  refine ⟨PySem.W.fnOf "law" "law" (defArgs sLaw) (defBody sLaw) (defScope sLaw) .none kVL dcL pmL anL cdvL ctL, fun s v => .of_eq rfl, fun base _ _ P1 P2 TB1 TB2 n12 => ?_⟩
  have e := hfa.symm.trans (PySem.W.mg_of X G aL)
  cases e
  have kStore := k_Store (P := P) (w := w) (base := base) T DStore
  have kMixed := k_Mixed (P := P) (w := w) (base := base) T DMixed
  have kTake := k_Take (P := P) (w := w) (base := base) T DTake kMixed
  have kPick := k_Pick (P := P) (w := w) (base := base) T DPick kTake
  have kSize := k_Size (P := P) (w := w) (base := base) T DSize kTake
  have kGreat := k_Great (P := P) (w := w) (base := base) T DGreat kTake
  have kLInt := k_LInt (P := P) (w := w) (base := base) T DLInt kTake
  have kHd := k_Hd (P := P) (w := w) (base := base) T DHd kTake kLInt
  have kRo := k_Ro (P := P) (w := w) (base := base) T DRo
  have kTab := k_Tab (P := P) (w := w) (base := base) T DTab kTake kPick kSize kGreat kLInt kHd kRo
  have kxRequire := kx_Require (P := P) (w := w) (base := base) B DRequire
  have kRequire := k_Require (P := P) (w := w) (base := base) T DRequire
  have kListA := k_ListA (P := P) (w := w) (base := base) T DListA
  have kWhole := k_Whole (P := P) (w := w) (base := base) T DWhole
  have kTb := k_Tb (P := P) (w := w) (base := base) (PySem.W.mg_none_of X G z_all) (PySem.W.mg_of X G g_MOST_ROWS) T DTb kListA kWhole
  have kWithinA := k_WithinA (P := P) (w := w) (base := base) T DWithinA kWhole
  have kDgr := k_Dgr (P := P) (w := w) (base := base) (PySem.W.mg_of X G g_MOST_DEGREE) T DDgr kWithinA
  have kCnt := k_Cnt (P := P) (w := w) (base := base) (PySem.W.mg_of X G g_MOST_ROWS) T DCnt kWithinA
  have kxRS := kx_RS (P := P) (w := w) (base := base) T Mi DRS
  have kxCo := kx_Co (P := P) (w := w) (base := base) T DCo kxRequire kRequire kTb kDgr kCnt kxRS
  have kBW := k_BW (P := P) (w := w) (base := base) T DBW kPick
  have kBy := k_By (P := P) (w := w) (base := base) T DBy kTake kPick kBW
  have kWith := k_With (P := P) (w := w) (base := base) T DWith kTake
  have kWL := k_WL (P := P) (w := w) (base := base) T DWL kTake
  have kBL := k_BL (P := P) (w := w) (base := base) T DBL kPick
  have kNT := k_NT (P := P) (w := w) (base := base) T DNT kPick kWith kBW kWL kBL
  have kLWhole := k_LWhole (P := P) (w := w) (base := base) T DLWhole
  have kSame5 := k_same (P := P) (w := w) (base := base) T DSame kLWhole 5
  have kR2 : Kn P w K mg base 8 "_law_refused" ["_law_store_here", "_law_values"] (spRefused K (Tt P1 P2)) := ⟨f_R2, _, PySem.W.mg_of X G a_R2, k_R2, b_R2, ok_Refused T B AT AM AS l_R2 cd_R2 TB2 n12 kxCo kBy kNT kPick kSame5⟩
  have kRS := k_RS (P := P) (w := w) (base := base) T DRS
  have kDfs := k_Dfs (P := P) (w := w) (base := base) (PySem.W.mg_none_of X G z_zip) T DDfs
  have kHs := k_Hs (P := P) (w := w) (base := base) T DHs kDfs
  have kMv := k_Mv (P := P) (w := w) (base := base) (PySem.W.mg_none_of X G z_zip) T DMv
  have kRf := k_Rf (P := P) (w := w) (base := base) T DRf kMv
  have kFo := k_Fo (P := P) (w := w) (base := base) T DFo kHs kRf
  have kCoC := k_CoC (P := P) (w := w) (base := base) T DCo kRequire kTb kDgr kCnt kRS kFo
  have kAh := k_Ah (P := P) (w := w) (base := base) T DAh kTake kCoC
  have kSt := k_St (P := P) (w := w) (base := base) T DSt
  have kFi := k_Fi (P := P) (w := w) (base := base) T DFi kLWhole kSt
  have kDeg := k_Deg (P := P) (w := w) (base := base) (PySem.W.mg_none_of X G z_any) T DDeg kRequire kTb kDfs
  have kDi := k_Di (P := P) (w := w) (base := base) T DDi
  have kOw := k_Ow (P := P) (w := w) (base := base) T DOw kDi
  have kOn := k_On (P := P) (w := w) (base := base) T DOn kAh kFi kSame5 kTake kPick kDeg kLWhole kOw kCoC
  have kBa := k_Ba (P := P) (w := w) (base := base) T DBa kCoC kFi kSame5 kTake kPick kOw kAh
  have kR1 : Kn P w K mg base 8 "_law_table_right" ["_law_store_here", "_law_values", "_law_some"] (spTR K (Tt P1 P2)) := ⟨f_R1, _, PySem.W.mg_of X G a_R1, k_R1, b_R1, ok_TR T B AT AM AS l_R1 cd_R1 TB1 n12 kxCo kSize kPick kOn kBa kSame5⟩
  exact ok_law FL T kStore kTake kTab kR2 kR1
end My

namespace My
open PySem PySem.Spec PyProof.Rows L2
/-- the end as the head asks for it -/
theorem law_at {l : PySem.W.OpenLaw} {w : World} {K : PySem.W.Frag} {h : Heap} {mg : Str → Option Value} {fa c1 c2 P1 P2 : Addr} (hT1 : h.get? P1 = some { cls := .none, data := .fields #[] }) (hT2 : h.get? P2 = some { cls := .none, data := .fields #[] }) (nP1 : K.lookup P1 = none) (nP2 : K.lookup P2 = none)
    (C1 : PySem.W.CodeHd h c1 P1) (C2 : PySem.W.CodeHd h c2 P2) (n12 : P1 ≠ P2)
    (R : ∃ fd : FuncData, (∀ (s : Shared) (v : Value), BindsTo s fd ⟨[v], []⟩ [("_law_script", v)]) ∧ ∀ base : Heap, K.In base → base.Ns mainGlobals mg → ∀ P1 : Addr, ∀ P2 : Addr, LamX.TabB base mg c1 P1 → LamX.TabB base mg c2 P2 → P1 ≠ P2 → FnOk l.prog w K mg base CX0 9 fa fd ["_law_script"] (spLaw K P1 P2)) :
    LamX.LawAtS l w K CX0 9 63 "_law_script" mg fa h := by
  obtain ⟨fd, hb, F⟩ := R
  have m1 : (c1, P1) ∈ [(c1, P1), (c2, P2)] := List.mem_cons_self ..
  have m2 : (c2, P2) ∈ [(c1, P1), (c2, P2)] := List.mem_cons_of_mem _ (List.mem_cons_self ..)
  have all : ∀ {p : Addr × Addr} {q : Addr × Addr → Prop}, q (c1, P1) → q (c2, P2) → p ∈ [(c1, P1), (c2, P2)] → q p := fun {p q} h1 h2 hp => by
    simp only [List.mem_cons, List.not_mem_nil, or_false] at hp
    rcases hp with rfl | rfl
    · exact h1
    · exact h2
  refine ⟨fd, [(c1, P1), (c2, P2)], spLaw K P1 P2, fun p hp => all (q := fun p => h.get? p.2 = _) hT1 hT2 hp, fun p hp => all (q := fun p => K.lookup p.2 = none) nP1 nP2 hp, fun p hp => all (q := fun p => PySem.W.CodeHd h p.1 p.2) C1 C2 hp, hb, fun H a ns hl hbits hH hS => ?_, fun base X G TB => F base X G P1 P2 (TB _ m1) (TB _ m2) n12⟩
  exact ⟨a, ns, rfl, hS, hH _ m1, hH _ m2, fun _ => rfl⟩
theorem walk_mk {l : PySem.W.OpenLaw} {q : Program} {loose : List Str} {XP : (Str → Option Value) → Heap → Prop} {YP : World → Heap → Prop} {d : DefRec} {K : Params → PySem.W.Frag} (hn : l.most = some 63) (hdf : d.params.defaults = [])
    (hY : ∀ (w : World) (h : Heap), YP w h → (K w.params).In h)
    (F : ∀ (w : World) (mg : Str → Option Value) (fa : Addr) (h : Heap), YP w h → (K w.params).In h → h.Ns mainGlobals mg → mg d.name = some (.ref fa) → LamX.LawAtS l w (K w.params) CX0 9 63 "_law_script" mg fa h) :
    PySem.W.WalkO q loose XP YP l.row.toRowW d [] (fun f vs => PySem.call f vs) :=
  LamX.walk_ofTs (CX := fun _ => CX0) hn (by decide) hdf ⟨rfl, by decide, by decide⟩ hY F fun _ _ _ _ _ z => z
end My
open PySem PySem.W PyProof.Rows
set_option maxRecDepth 100000 in
set_option maxHeartbeats 0 in
theorem PySem.Challenge.cw_wheelsky_k58_tables_continued_holds : PySem.Challenge.rw_wheelsky_k58_tables_continued.Holds := by
  w_on; o_law; k_head; (case hw => w_witness2)
  k_fill
  refine My.walk_mk (l := PySem.Challenge.rw_wheelsky_k58_tables_continued) rfl rfl (fun w h Y => km_in_of Y) ?F
  case F =>
    intro w mg fa h Y KX G hmg
    refine' My.law_at (km_tabs_of Y _ (List.mem_cons_of_mem _ (List.mem_cons_self ..))) (km_tabs_of Y _ (List.mem_cons_self ..)) ?nP1 ?nP2 ?cH1 ?cH2 ?d12 (My.all_mk KX G hmg ?z_int ?z_len ?z_list ?z_abs ?z_range ?z_min ?z_max ?z_isinstance ?z_bool ?z_str ?z_dict ?z_tuple ?z_VE ?aC ?aS ?xL ?hbm ?sa ?ga ?gg ?gc ?nw ?aI ?tI ?lI ?cI ?kI ?kC ?eC ?tC ?hC ?mC ?vC ?spc ?tkc ?eS ?hS ?tS ?cS ?a_Mismatch ?t_Mismatch ?h_Mismatch ?s_Mismatch ?n_Mismatch ?a_Still ?t_Still ?h_Still ?s_Still ?n_Still ?a_Endless ?t_Endless ?h_Endless ?s_Endless ?n_Endless ?a_TooMany ?t_TooMany ?h_TooMany ?s_TooMany ?n_TooMany ?a_NoName ?t_NoName ?h_NoName ?s_NoName ?n_NoName ?a_Taken ?t_Taken ?h_Taken ?s_Taken ?n_Taken ?a_Locked ?t_Locked ?h_Locked ?s_Locked ?n_Locked ?a_Looped ?t_Looped ?h_Looped ?s_Looped ?n_Looped ?a_Broken ?t_Broken ?h_Broken ?s_Broken ?n_Broken ?a_ReadError ?t_ReadError ?h_ReadError ?s_ReadError ?n_ReadError ?a_A ?l_A ?c_A ?k_A ?a_R1 ?l_R1 ?cd_R1 ?k_R1 ?a_R2 ?l_R2 ?cd_R2 ?k_R2 ?aL ?lL ?cL ?kL ?a0Store ?l0Store ?c0Store ?k0Store ?a0Take ?l0Take ?c0Take ?k0Take ?a0Mixed ?l0Mixed ?c0Mixed ?k0Mixed ?a0Tab ?l0Tab ?c0Tab ?k0Tab ?a0Pick ?l0Pick ?c0Pick ?k0Pick ?a0Size ?l0Size ?c0Size ?k0Size ?a0Great ?l0Great ?c0Great ?k0Great ?a0LInt ?l0LInt ?c0LInt ?k0LInt ?a0Hd ?l0Hd ?c0Hd ?k0Hd ?a0Ro ?l0Ro ?c0Ro ?k0Ro ?mm_k ?mm_x ?mm_s ?mm_v ?mm_y ?mm_g ?mm_t ?mm_c ?mm_o ?ms_BadValue ?n_mBadValue ?ms_Still ?n_mStill ?ms_Endless ?n_mEndless ?ms_TooMany ?n_mTooMany ?ms_NoName ?n_mNoName ?ms_Taken ?n_mTaken ?ms_Locked ?n_mLocked ?ms_Looped ?n_mLooped ?ms_Broken ?n_mBroken ?ms_ReadError ?n_mReadError ?a0Co ?l0Co ?c0Co ?k0Co ?nK ?a0Require ?l0Require ?c0Require ?k0Require ?z_all ?g_MOST_ROWS ?a0Tb ?l0Tb ?c0Tb ?k0Tb ?a0ListA ?l0ListA ?c0ListA ?k0ListA ?a0Whole ?l0Whole ?c0Whole ?k0Whole ?g_MOST_DEGREE ?a0Dgr ?l0Dgr ?c0Dgr ?k0Dgr ?a0WithinA ?l0WithinA ?c0WithinA ?k0WithinA ?a0Cnt ?l0Cnt ?c0Cnt ?k0Cnt ?a0RS ?l0RS ?c0RS ?k0RS ?a0By ?l0By ?c0By ?k0By ?a0BW ?l0BW ?c0BW ?k0BW ?a0NT ?l0NT ?c0NT ?k0NT ?a0With ?l0With ?c0With ?k0With ?a0WL ?l0WL ?c0WL ?k0WL ?a0BL ?l0BL ?c0BL ?k0BL ?a0Same ?l0Same ?c0Same ?k0Same ?a0LWhole ?l0LWhole ?c0LWhole ?k0LWhole ?a0On ?l0On ?c0On ?k0On ?a0Ah ?l0Ah ?c0Ah ?k0Ah ?a0Fo ?l0Fo ?c0Fo ?k0Fo ?a0Hs ?l0Hs ?c0Hs ?k0Hs ?z_zip ?a0Dfs ?l0Dfs ?c0Dfs ?k0Dfs ?a0Rf ?l0Rf ?c0Rf ?k0Rf ?a0Mv ?l0Mv ?c0Mv ?k0Mv ?a0Fi ?l0Fi ?c0Fi ?k0Fi ?a0St ?l0St ?c0St ?k0St ?z_any ?a0Deg ?l0Deg ?c0Deg ?k0Deg ?a0Ow ?l0Ow ?c0Ow ?k0Ow ?a0Di ?l0Di ?c0Di ?k0Di ?a0Ba ?l0Ba ?c0Ba ?k0Ba)
    (case z_int => k_is); (case z_len => k_is); (case z_list => k_is); (case z_abs => k_is); (case z_range => k_is); (case z_min => k_is); (case z_max => k_is); (case z_isinstance => k_is)
    (case z_bool => k_is); (case z_str => k_is); (case z_dict => k_is); (case z_tuple => k_is); (case z_VE => k_is); (case aC => k_is); (case aS => k_is); (case xL => k_is)
    (case hbm => decide +kernel); (case sa => k_is); (case ga => k_is); (case gg => k_is); (case gc => k_is); (case nw => k_is); (case aI => k_is); (case tI => k_is)
    (case lI => k_is); (case cI => k_is); (case kI => k_is); (case kC => k_is); (case eC => k_is); (case tC => k_is); (case hC => k_is); (case mC => k_is)
    (case vC => k_is); (case spc => k_is); (case tkc => k_is); (case eS => k_is); (case hS => k_is); (case tS => k_is); (case cS => k_is); (case a_Mismatch => k_is)
    (case t_Mismatch => k_is); (case h_Mismatch => k_is); (case s_Mismatch => k_is); (case n_Mismatch => decide +kernel); (case a_Still => k_is); (case t_Still => k_is); (case h_Still => k_is); (case s_Still => k_is)
    (case n_Still => decide +kernel); (case a_Endless => k_is); (case t_Endless => k_is); (case h_Endless => k_is); (case s_Endless => k_is); (case n_Endless => decide +kernel); (case a_TooMany => k_is); (case t_TooMany => k_is)
    (case h_TooMany => k_is); (case s_TooMany => k_is); (case n_TooMany => decide +kernel); (case a_NoName => k_is); (case t_NoName => k_is); (case h_NoName => k_is); (case s_NoName => k_is); (case n_NoName => decide +kernel)
    (case a_Taken => k_is); (case t_Taken => k_is); (case h_Taken => k_is); (case s_Taken => k_is); (case n_Taken => decide +kernel); (case a_Locked => k_is); (case t_Locked => k_is); (case h_Locked => k_is)
    (case s_Locked => k_is); (case n_Locked => decide +kernel); (case a_Looped => k_is); (case t_Looped => k_is); (case h_Looped => k_is); (case s_Looped => k_is); (case n_Looped => decide +kernel); (case a_Broken => k_is)
    (case t_Broken => k_is); (case h_Broken => k_is); (case s_Broken => k_is); (case n_Broken => decide +kernel); (case a_ReadError => k_is); (case t_ReadError => k_is); (case h_ReadError => k_is); (case s_ReadError => k_is)
    (case n_ReadError => decide +kernel); (case a_A => k_is); (case l_A => k_is); (case c_A => k_is); (case k_A => k_is); (case a_R1 => k_is); (case l_R1 => k_is); (case cd_R1 => k_is)
    (case k_R1 => k_is); (case a_R2 => k_is); (case l_R2 => k_is); (case cd_R2 => k_is); (case k_R2 => k_is); (case aL => k_is); (case lL => k_is); (case cL => k_is)
    (case kL => k_is); (case a0Store => k_is); (case l0Store => k_is); (case c0Store => k_is); (case k0Store => k_is); (case a0Take => k_is); (case l0Take => k_is); (case c0Take => k_is)
    (case k0Take => k_is); (case a0Mixed => k_is); (case l0Mixed => k_is); (case c0Mixed => k_is); (case k0Mixed => k_is); (case a0Tab => k_is); (case l0Tab => k_is); (case c0Tab => k_is)
    (case k0Tab => k_is); (case a0Pick => k_is); (case l0Pick => k_is); (case c0Pick => k_is); (case k0Pick => k_is); (case a0Size => k_is); (case l0Size => k_is); (case c0Size => k_is)
    (case k0Size => k_is); (case a0Great => k_is); (case l0Great => k_is); (case c0Great => k_is); (case k0Great => k_is); (case a0LInt => k_is); (case l0LInt => k_is); (case c0LInt => k_is)
    (case k0LInt => k_is); (case a0Hd => k_is); (case l0Hd => k_is); (case c0Hd => k_is); (case k0Hd => k_is); (case a0Ro => k_is); (case l0Ro => k_is); (case c0Ro => k_is)
    (case k0Ro => k_is); (case mm_k => k_is); (case mm_x => k_exc); (case mm_s => k_is); (case mm_v => k_is); (case mm_y => k_is); (case mm_g => k_is); (case mm_t => k_is)
    (case mm_c => k_is); (case mm_o => k_is); (case ms_BadValue => k_is); (case n_mBadValue => decide +kernel); (case ms_Still => k_is); (case n_mStill => decide +kernel); (case ms_Endless => k_is); (case n_mEndless => decide +kernel)
    (case ms_TooMany => k_is); (case n_mTooMany => decide +kernel); (case ms_NoName => k_is); (case n_mNoName => decide +kernel); (case ms_Taken => k_is); (case n_mTaken => decide +kernel); (case ms_Locked => k_is); (case n_mLocked => decide +kernel)
    (case ms_Looped => k_is); (case n_mLooped => decide +kernel); (case ms_Broken => k_is); (case n_mBroken => decide +kernel); (case ms_ReadError => k_is); (case n_mReadError => decide +kernel); (case a0Co => k_is); (case l0Co => k_is)
    (case c0Co => k_is); (case k0Co => k_is); (case nK => k_is); (case a0Require => k_is); (case l0Require => k_is); (case c0Require => k_is); (case k0Require => k_is); (case z_all => k_is)
    (case g_MOST_ROWS => k_is); (case a0Tb => k_is); (case l0Tb => k_is); (case c0Tb => k_is); (case k0Tb => k_is); (case a0ListA => k_is); (case l0ListA => k_is); (case c0ListA => k_is)
    (case k0ListA => k_is); (case a0Whole => k_is); (case l0Whole => k_is); (case c0Whole => k_is); (case k0Whole => k_is); (case g_MOST_DEGREE => k_is); (case a0Dgr => k_is); (case l0Dgr => k_is)
    (case c0Dgr => k_is); (case k0Dgr => k_is); (case a0WithinA => k_is); (case l0WithinA => k_is); (case c0WithinA => k_is); (case k0WithinA => k_is); (case a0Cnt => k_is); (case l0Cnt => k_is)
    (case c0Cnt => k_is); (case k0Cnt => k_is); (case a0RS => k_is); (case l0RS => k_is); (case c0RS => k_is); (case k0RS => k_is); (case a0By => k_is); (case l0By => k_is)
    (case c0By => k_is); (case k0By => k_is); (case a0BW => k_is); (case l0BW => k_is); (case c0BW => k_is); (case k0BW => k_is); (case a0NT => k_is); (case l0NT => k_is)
    (case c0NT => k_is); (case k0NT => k_is); (case a0With => k_is); (case l0With => k_is); (case c0With => k_is); (case k0With => k_is); (case a0WL => k_is); (case l0WL => k_is)
    (case c0WL => k_is); (case k0WL => k_is); (case a0BL => k_is); (case l0BL => k_is); (case c0BL => k_is); (case k0BL => k_is); (case a0Same => k_is); (case l0Same => k_is)
    (case c0Same => k_is); (case k0Same => k_is); (case a0LWhole => k_is); (case l0LWhole => k_is); (case c0LWhole => k_is); (case k0LWhole => k_is); (case a0On => k_is); (case l0On => k_is)
    (case c0On => k_is); (case k0On => k_is); (case a0Ah => k_is); (case l0Ah => k_is); (case c0Ah => k_is); (case k0Ah => k_is); (case a0Fo => k_is); (case l0Fo => k_is)
    (case c0Fo => k_is); (case k0Fo => k_is); (case a0Hs => k_is); (case l0Hs => k_is); (case c0Hs => k_is); (case k0Hs => k_is); (case z_zip => k_is); (case a0Dfs => k_is)
    (case l0Dfs => k_is); (case c0Dfs => k_is); (case k0Dfs => k_is); (case a0Rf => k_is); (case l0Rf => k_is); (case c0Rf => k_is); (case k0Rf => k_is); (case a0Mv => k_is)
    (case l0Mv => k_is); (case c0Mv => k_is); (case k0Mv => k_is); (case a0Fi => k_is); (case l0Fi => k_is); (case c0Fi => k_is); (case k0Fi => k_is); (case a0St => k_is)
    (case l0St => k_is); (case c0St => k_is); (case k0St => k_is); (case z_any => k_is); (case a0Deg => k_is); (case l0Deg => k_is); (case c0Deg => k_is); (case k0Deg => k_is)
    (case a0Ow => k_is); (case l0Ow => k_is); (case c0Ow => k_is); (case k0Ow => k_is); (case a0Di => k_is); (case l0Di => k_is); (case c0Di => k_is); (case k0Di => k_is)
    (case a0Ba => k_is); (case l0Ba => k_is); (case c0Ba => k_is); (case k0Ba => k_is)
    (case cH1 => exact codeHd_of_K KX (by kernel_rfl))
    (case cH2 => exact codeHd_of_K KX (by kernel_rfl))
    (case nP1 => kernel_rfl)
    (case nP2 => kernel_rfl)
    (case d12 => decide +kernel)

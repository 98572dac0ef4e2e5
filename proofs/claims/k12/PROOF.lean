import PyProof.Rows.All
import Wide.All
import OpenK.AllK
import Wide.FinOn
import HandS.ForMost
import HandS.Exc
import HandS.Codes
import HandS.Wide
import HandS.WideBits
import HandS.Gcd
import HandS.IsInst
import HandS.Defaults
import HandS.ClsMeth
import HandS.SlotsOwn
import KE.KOpsOwn
import HandS.TupLe
import HandS.ForExc
import HandS.ExcInit
import HandS.ExcField
import HandS.ExcIs
import KE.KExcIs
import HandS.Lambda
import HandS.CallLocal
import HandS.Comp
import HandS.EndTab
import PySem.Challenge.RW_wheelsky_k12_turned_geared_later
set_option Elab.async false
set_option linter.all false
set_option maxRecDepth 100000
set_option maxHeartbeats 4000000
namespace My
open PySem PySem.Spec PyProof.Rows L2
def topS (i : Nat) : Stmt := PySem.Challenge.pw_wheelsky_k12_turned_geared_later.main.body.getD i (.Pass ⟨0, 0, 0, 0⟩)
/-! ### a def of the top, and what it is known to keep -/
structure Dfn (K : PySem.W.Frag) (mg : Str → Option Value) (x : Str) (st : Stmt) (ps : List Str) : Prop where
  ex : ∃ f fd, Fun K x x st f fd ∧ mg x = some (.ref f) ∧ Binds K fd ps []
structure Kn (P : Program) (w : World) (K : PySem.W.Frag) (mg : Str → Option Value) (base : Heap) (k : Nat) (x : Str) (ps : List Str) (sp : Sp) : Prop where
  ex : ∃ f fd, mg x = some (.ref f) ∧ PySem.W.keepIn K (.ref f) = true ∧ Binds K fd ps [] ∧ FnOk P w K mg base CX0 k f fd ps sp
theorem Kn.mk' {P : Program} {w : World} {K : PySem.W.Frag} {mg : Str → Option Value} {base : Heap} {x : Str} {st : Stmt} {N ps : List Str} {k : Nat} {sp : Sp} (D : Dfn K mg x st ps) (S : FnScope N ps (defScope st)) (len : ∀ vs H Q E, sp vs H Q E → vs.length = ps.length)
    (hbody : ∀ (f : Addr) (cdv : Value) (A : Around) (outer : List Env) (s : Shared) (H : Hp) (vs : List V) (Q : VK) (E : XK), Room k (A.deeper (envOfC x (defScope st) s.heap.objs.size f cdv)) → sp vs H Q E →
      ∃ t, PSs (cxOf CX0 P w K mg base N x (defScope st) f cdv A outer s H E).nox (defBody st) t ∧ t { nx := fun _ H' => Q .non H', rt := Q } (start N vs) H) : Kn P w K mg base (k + 1) x ps sp := by
  obtain ⟨f, fd, F, m, b⟩ := D.ex
  exact ⟨f, fd, m, F.kp, b, F.ok S len (hbody f)⟩
section
variable {X : Cx}
theorem pe_kn {j k : Nat} {x : Str} {ps : List Str} {sp : Sp} {p pos : Pos} {e : Expr} {es : List Expr} {t : TA} (F : Kn X.prog X.w X.K X.mg X.base k x ps sp) (hr : Room j X.A) (hg : Gl X x) (ha : PA X (e :: es) t) (hj : k ≤ j := by omega)
    (hdb : (x == ("__debug__" : Str)) = false := by decide) (he : starEach (e :: es) X.env = (false, eval e X.env) :: starEach es X.env := by rfl) (hpl : (backTo pos (starEach es X.env)).any (·.1) = false := by rfl) :
    PE X (.Call (.Name x p) (e :: es) [] pos) (tCall sp [] E0 t) := by
  obtain ⟨f, fd, m, kp, b, G⟩ := F.ex
  exact pe_call G (hr.mono hj) hg m kp b .nil pass0 ha hdb he hpl
end
/-! ### heaps -/
/-- all but s stands -/
def Kp (s : Addr) (H H' : Hp) : Prop := ∀ b o, b ≠ s → H b = some o → H' b = some o
theorem Kp.refl (s : Addr) (H : Hp) : Kp s H H := fun _ _ _ e => e
theorem Kp.trans {s : Addr} {H H1 H2 : Hp} (a : Kp s H H1) (b : Kp s H1 H2) : Kp s H H2 := fun c o n e => b c o n (a c o n e)
theorem Kp.same {s : Addr} {H H1 : Hp} (a : Same H H1) : Kp s H H1 := fun b o _ e => a b o e
theorem Same.new {H : Hp} {p : Addr} (h : H p = none) (o : HO) : Same H (upd H p o) := fun b u q => by rw [upd_ne (ne_of_none q h)]; exact q
theorem Kp.upd {s : Addr} {H : Hp} {o : HO} : Kp s H (upd H s o) := fun b u n e => by rw [upd_ne n]; exact e
/-- the store of the draws at s -/
def Sr (K : PySem.W.Frag) (H : Hp) (s : Addr) (sc : Addr) (ns : List Int) (i b c d e f : Int) : Prop :=
  H s = some (.lst [.ref sc, .int i, .int b, .int c, .int d, .int e, .int f]) ∧ H sc = some (.lst (ns.map V.int)) ∧ s ≠ sc ∧ 0 ≤ i ∧ K.lookup s = none ∧ K.lookup sc = none
def Sto (K : PySem.W.Frag) (H : Hp) (s : Addr) : Prop := ∃ sc ns i b c d e f, Sr K H s sc ns i b c d e f
theorem Sr.same {K : PySem.W.Frag} {H H1 : Hp} {s sc : Addr} {ns : List Int} {i b c d e f : Int} (h : Sr K H s sc ns i b c d e f) (a : Same H H1) : Sr K H1 s sc ns i b c d e f := ⟨a _ _ h.1, a _ _ h.2.1, h.2.2⟩
theorem Sto.same {K : PySem.W.Frag} {H H1 : Hp} {s : Addr} (h : Sto K H s) (a : Same H H1) : Sto K H1 s := by
  obtain ⟨sc, ns, i, b, c, d, e, f, h⟩ := h
  exact ⟨sc, ns, i, b, c, d, e, f, h.same a⟩
theorem Sr.put {K : PySem.W.Frag} {H : Hp} {s sc : Addr} {ns : List Int} {i b c d e f i' b' c' d' e' f' : Int} (h : Sr K H s sc ns i b c d e f) (hi : 0 ≤ i') :
    Sr K (upd H s (.lst [.ref sc, .int i', .int b', .int c', .int d', .int e', .int f'])) s sc ns i' b' c' d' e' f' :=
  ⟨upd_same, by rw [upd_ne (Ne.symm h.2.2.1)]; exact h.2.1, h.2.2.1, hi, h.2.2.2.2⟩
theorem Kp.seqT {s : Addr} {K : PySem.W.Frag} {H H' : Hp} {a : Addr} {xs ys : List V} (e : Kp s H H') (hs : H s = some (.lst ys)) (h : SqT K H a xs) : SqT K H' a xs := by
  rcases h with (h | ⟨o, h⟩) | h
  · exact .inl (.inl (e _ _ (by rintro rfl; rw [hs] at h; cases h) h))
  · exact .inl (.inr ⟨o, e _ _ (by rintro rfl; rw [hs] at h; cases h) h⟩)
  · exact .inr h
theorem Same.seqT {K : PySem.W.Frag} {H H' : Hp} {a : Addr} {xs : List V} (e : Same H H') (h : SqT K H a xs) : SqT K H' a xs := by
  rcases h with (h | ⟨o, h⟩) | h
  · exact .inl (.inl (e _ _ h))
  · exact .inl (.inr ⟨o, e _ _ h⟩)
  · exact .inr h
/-- the built-ins' names, unbound -/
structure Bt (K : PySem.W.Frag) (mg : Str → Option Value) : Prop where
  b_int : mg "int" = none
  b_len : mg "len" = none
  b_list : mg "list" = none
  b_abs : mg "abs" = none
  b_range : mg "range" = none
  b_min : mg "min" = none
  b_max : mg "max" = none
  b_isinstance : mg "isinstance" = none
  b_bool : mg "bool" = none
  b_str : mg "str" = none
  b_dict : mg "dict" = none
  b_tuple : mg "tuple" = none
  g_gcd : mg "gcd" = some (.builtin "math.gcd")
end My

namespace My
open PySem PySem.Spec PyProof.Rows L2
theorem cx_K {CX : CXT} {P : Program} {w : World} {K : PySem.W.Frag} {mg : Str → Option Value} {base : Heap} {N : List Str} {qual : Str} {scope : Scope} {f : Addr} {cd : Value} {A : Around} {outer : List Env} {s : Shared} {H : Hp} {E : XK} : (cxOf CX P w K mg base N qual scope f cd A outer s H E).K = K := rfl
/-! ### what stands at an address, the written part first -/
def obK (o : Obj) : Option HO := match o.cls, o.data with
  | .type "tuple", .seq its _ => if its.size ≤ sizeLine then (its.toList.mapM absV).map HO.tup else none
  | _, _ => none
def ob (K : PySem.W.Frag) (H : Hp) (a : Addr) : Option HO := match K.lookup a with
  | some o => obK o
  | none => H a
theorem absV_rel {u : Value} {x : V} (h : absV u = some x) : RelV x u := by
  cases u <;> simp only [absV, Option.some.injEq, reduceCtorEq] at h <;> subst h
  all_goals first | exact rfl | exact ⟨_, rfl⟩
theorem absV_all : ∀ {us : List Value} {xs : List V}, us.mapM absV = some xs → Vals xs us
  | [], xs, h => by
    simp at h
    subst h
    exact .nil
  | u :: us, xs, h => by
    rw [List.mapM_cons] at h
    cases e1 : absV u with
    | none => simp [e1] at h
    | some x =>
      cases e2 : us.mapM absV with
      | none => simp [e1, e2] at h
      | some r =>
        simp [e1, e2] at h
        subst h
        exact .cons (absV_rel e1) (absV_all e2)
theorem obK_tup {o : Obj} {z : HO} (h : obK o = some z) : ∃ xs its n, z = .tup xs ∧ o.cls = .type "tuple" ∧ o.data = .seq its n ∧ its.size ≤ sizeLine ∧ Vals xs its.toList := by
  unfold obK at h
  split at h
  · rename_i its n e1 e2
    split at h
    · rename_i hz
      cases e : its.toList.mapM absV with
      | none => rw [e] at h; cases h
      | some xs =>
        rw [e] at h
        exact ⟨xs, its, n, (Option.some.inj h).symm, e1, e2, hz, absV_all e⟩
    · cases h
  · cases h
theorem ob_none {K : PySem.W.Frag} {H : Hp} {a : Addr} (h : K.lookup a = none) : ob K H a = H a := by unfold ob; rw [h]
theorem ob_tup {K : PySem.W.Frag} {H : Hp} {a : Addr} {xs : List V} (h : ob K H a = some (.tup xs)) : SqT K H a xs := by
  unfold ob at h
  split at h
  · rename_i o e
    obtain ⟨ys, its, n, z, h1, h2, h3, h4⟩ := obK_tup h
    cases z
    exact .inr ⟨o, its, n, e, h1, h2, h3, h4⟩
  · exact .inl (.inl h)
theorem ob_H {K : PySem.W.Frag} {H : Hp} {a : Addr} {z : HO} (h : ob K H a = some z) (n : ∀ xs, z ≠ .tup xs) : H a = some z ∧ K.lookup a = none := by
  unfold ob at h
  split at h
  · obtain ⟨ys, its, n', z', _⟩ := obK_tup h
    exact absurd z' (n ys)
  · rename_i e
    exact ⟨h, e⟩
theorem ob_lst {K : PySem.W.Frag} {H : Hp} {a : Addr} {xs : List V} (h : ob K H a = some (.lst xs)) : SqL K H a xs := .of (ob_H h (fun _ z => by cases z)).1
theorem ob_same {K : PySem.W.Frag} {H H' : Hp} {a : Addr} {z : HO} (e : Same H H') (h : ob K H a = some z) : ob K H' a = some z := by
  unfold ob at h ⊢
  split
  · rename_i o q
    rw [q] at h
    exact h
  · rename_i q
    rw [q] at h
    exact e _ _ h
theorem ob_kp {K : PySem.W.Frag} {H H' : Hp} {s a : Addr} {ys : List V} {z : HO} (e : Kp s H H') (hs : H s = some (.lst ys)) (n : ∀ ys, z ≠ .lst ys) (h : ob K H a = some z) : ob K H' a = some z := by
  unfold ob at h ⊢
  split
  · rename_i o q
    rw [q] at h
    exact h
  · rename_i q
    rw [q] at h
    exact e _ _ (by rintro rfl; rw [hs] at h; exact n _ (Option.some.inj h).symm) h
theorem ob_new {K : PySem.W.Frag} {H : Hp} {p : Addr} {o : HO} (k : K.lookup p = none) : ob K (upd H p o) p = some o := by rw [ob_none k, upd_same]
/-- a built-in type's name, of what stands somewhere -/
def tyO : Option HO → Option String
  | some (.tup _) => some "tuple"
  | some (.lst _) => some "list"
  | some (.dK _) => some "dict"
  | _ => none
def tyN (K : PySem.W.Frag) (H : Hp) : V → Option String
  | .non => some "NoneType"
  | .bl _ => some "bool"
  | .int _ => some "int"
  | .str _ => some "str"
  | .ref a => tyO (ob K H a)
  | _ => none
theorem tyO_tup (xs : List V) : tyO (some (.tup xs)) = some "tuple" := rfl
theorem tyO_lst (xs : List V) : tyO (some (.lst xs)) = some "list" := rfl
theorem tyO_dK (xs : List (Key × V)) : tyO (some (.dK xs)) = some "dict" := rfl
theorem tyN_non {K : PySem.W.Frag} {H : Hp} : tyN K H .non = some "NoneType" := rfl
theorem tyN_bl {K : PySem.W.Frag} {H : Hp} (b : Bool) : tyN K H (.bl b) = some "bool" := rfl
theorem tyN_int {K : PySem.W.Frag} {H : Hp} (b : Int) : tyN K H (.int b) = some "int" := rfl
theorem tyN_str {K : PySem.W.Frag} {H : Hp} (b : Str) : tyN K H (.str b) = some "str" := rfl
theorem tyN_ref {K : PySem.W.Frag} {H : Hp} (a : Addr) : tyN K H (.ref a) = tyO (ob K H a) := rfl
theorem tyN_X {K : PySem.W.Frag} {H : Hp} {x : V} {t : String} (h : tyN K H x = some t) : TyX K H x (.type t) := by
  cases x with
  | non => cases h; exact .base .non
  | bl b => cases h; exact .base (.bl b)
  | int i => cases h; exact .base (.int i)
  | str z => cases h; exact .base (.str z)
  | byt _ => cases h
  | flt _ => cases h
  | ty _ => cases h
  | ref a =>
    have h1 : tyO (ob K H a) = some t := h
    cases e : ob K H a with
    | none => rw [e] at h1; cases h1
    | some z =>
      rw [e] at h1
      cases z with
      | tup xs =>
        cases h1
        unfold ob at e
        split at e
        · rename_i o q
          obtain ⟨_, _, _, _, c, _⟩ := obK_tup e
          exact .kTuple q c
        · exact .base (.tup e)
      | lst xs => cases h1; exact .base (.lst (ob_H e (fun _ z => by cases z)).1)
      | dK kvs => cases h1; exact .base (.dK (ob_H e (fun _ z => by cases z)).1)
      | _ => cases h1
/-- isinstance(x, T) by names -/
def isB (a b : String) : Bool := a == b || (a == "bool" && b == "int")
def rIsN (K : PySem.W.Frag) : List V → Hp → VK → Prop := fun xs H Q => ∃ x n, xs = [x, .ty n] ∧ n ∈ ["int", "bool", "str", "list", "tuple", "dict"] ∧ ∃ t, tyN K H x = some t ∧ Q (.bl (isB t n)) H
theorem tyN_mem {K : PySem.W.Frag} {H : Hp} {x : V} {t : String} (h : tyN K H x = some t) : t ∈ ["NoneType", "bool", "int", "str", "tuple", "list", "dict"] := by
  cases x with
  | non => cases h; decide
  | bl b => cases h; decide
  | int i => cases h; decide
  | str z => cases h; decide
  | byt _ => cases h
  | flt _ => cases h
  | ty _ => cases h
  | ref a =>
    have h1 : tyO (ob K H a) = some t := h
    unfold tyO at h1
    split at h1 <;> first | (cases h1; decide) | cases h1
theorem kit_all : ∀ t ∈ ["NoneType", "bool", "int", "str", "tuple", "list", "dict"], ∀ n ∈ ["int", "bool", "str", "list", "tuple", "dict"], kitB t n = some (isB t n) := by decide +kernel
/-- isinstance(x, (T, ..)) -/
def tyNs : List V → Option (List String)
  | [] => some []
  | .ty n :: r => if n ∈ ["int", "bool", "str", "list", "tuple", "dict"] then (tyNs r).map (n :: ·) else none
  | _ :: _ => none
theorem tyNs_of : ∀ {cs : List V} {ns : List String}, tyNs cs = some ns → cs = ns.map V.ty ∧ ∀ n ∈ ns, n ∈ ["int", "bool", "str", "list", "tuple", "dict"]
  | [], ns, h => by cases h; exact ⟨rfl, fun _ z => absurd z (by simp)⟩
  | c :: r, ns, h => by
    cases c with
    | ty n =>
      unfold tyNs at h
      split at h
      · rename_i hn
        cases e : tyNs r with
        | none => rw [e] at h; cases h
        | some ms =>
          rw [e] at h
          cases h
          obtain ⟨h1, h2⟩ := tyNs_of e
          refine ⟨by rw [h1]; rfl, fun m hm => ?_⟩
          rcases List.mem_cons.mp hm with z | z
          · rw [z]; exact hn
          · exact h2 m z
      · cases h
    | _ => cases h
theorem tyNs_lt : tyNs [.ty "list", .ty "tuple"] = some ["list", "tuple"] := by decide
def rIsT (K : PySem.W.Frag) : List V → Hp → VK → Prop := fun xs H Q => ∃ x tp, xs = [x, .ref tp] ∧ ∃ cs, H tp = some (.tup cs) ∧ ∃ ns, tyNs cs = some ns ∧ ∃ t, tyN K H x = some t ∧ Q (.bl (ns.any (isB t))) H
section
variable {X : Cx}
theorem call_isN : CallR X (.builtin "isinstance") (rIsN X.K) := fun pins s σ H xs us Q I r h => by
  obtain ⟨x, n, rfl, hn, t, ht, q⟩ := h
  exact call_isi pins s σ H _ us Q I r ⟨x, .ty n, .type t, .type n, isB t n, rfl, .ty n, tyN_X ht, kit_ty (kit_all t (tyN_mem ht) n hn), q⟩
theorem kitAny_of {K : PySem.W.Frag} {t : String} (ht : t ∈ ["NoneType", "bool", "int", "str", "tuple", "list", "dict"]) : ∀ {ns : List String}, (∀ n ∈ ns, n ∈ ["int", "bool", "str", "list", "tuple", "dict"]) → PySem.W.kitAny K (.type t) (ns.map Value.type) = some (ns.any (isB t))
  | [], _ => rfl
  | n :: ns, h => by
    have e1 : PySem.W.kitOne K (.type t) (.type n) = some (isB t n) := kit_ty (kit_all t ht n (h n List.mem_cons_self))
    have e2 := kitAny_of (K := K) ht (ns := ns) fun m hm => h m (List.mem_cons_of_mem _ hm)
    rw [List.map_cons, List.any_cons]
    unfold PySem.W.kitAny
    rw [e1]
    cases isB t n
    · simpa using e2
    · rfl
theorem clsV_all : ∀ ns : List String, Paired ClsV (ns.map V.ty) (ns.map Value.type)
  | [] => .nil
  | n :: ns => .cons (.ty n) (clsV_all ns)
theorem call_isT : CallR X (.builtin "isinstance") (rIsT X.K) := fun pins s σ H xs us Q I r h => by
  obtain ⟨x, tp, rfl, cs, hT, ns, hns, t, ht, q⟩ := h
  obtain ⟨rfl, hn⟩ := tyNs_of hns
  exact call_isiT pins s σ H _ us Q I r ⟨x, tp, _, .type t, _, _, rfl, hT, clsV_all ns, tyN_X ht, kitAny_of (tyN_mem ht) hn, q⟩
/-- xs[i], t[i] -/
def itsO : Option HO → Option (List V)
  | some (.tup xs) => some xs
  | some (.lst xs) => some xs
  | _ => none
theorem itsO_tup (xs : List V) : itsO (some (.tup xs)) = some xs := rfl
theorem itsO_lst (xs : List V) : itsO (some (.lst xs)) = some xs := rfl
theorem itsO_or {K : PySem.W.Frag} {H : Hp} {a : Addr} {xs : List V} (h : itsO (ob K H a) = some xs) : SqL K H a xs ∨ SqT K H a xs := by
  cases e : ob K H a with
  | none => rw [e] at h; cases h
  | some z =>
    rw [e] at h
    cases z with
    | tup ys => cases h; exact .inr (ob_tup e)
    | lst ys => cases h; exact .inl (ob_lst e)
    | _ => cases h
def rIxA (K : PySem.W.Frag) : R2 := fun x y H Q => ∃ p i, x = .ref p ∧ y = .int i ∧ ∃ xs, itsO (ob K H p) = some xs ∧ ∃ v, atI xs i = some v ∧ Q v H
theorem ix_any : IxR X (rIxA X.K) := fun value slice pins s σ H x y v u Q I rx ry h hs => by
  obtain ⟨p, i, rfl, rfl, xs, hx, w, hw, q⟩ := h
  rcases itsO_or hx with z | z
  · exact ix_list value slice pins s σ H _ _ v u Q I rx ry ⟨p, xs, i, w, rfl, rfl, z, hw, q⟩ hs
  · exact ix_tup value slice pins s σ H _ _ v u Q I rx ry ⟨p, xs, i, w, rfl, rfl, z, hw, q⟩ hs
theorem call_lenA : CallR X (.builtin "len") (fun xs H Q => ∃ p, xs = [.ref p] ∧ ∃ ys, itsO (ob X.K H p) = some ys ∧ Q (.int ys.length) H) := fun pins s σ H xs us Q I r h => by
  obtain ⟨p, rfl, ys, hy, q⟩ := h
  exact call_len_seq pins s σ H _ us Q I r ⟨p, ys, rfl, itsO_or hy, q⟩
/-! new tuples and lists, away from the written part -/
variable {es : List Expr} {t : TA} {pos : Pos}
def tTp (K : PySem.W.Frag) (t : TA) : TE := fun σ H Q => t σ H fun xs H1 => xs.length ≤ sizeLine ∧ ∀ p, H1 p = none → K.lookup p = none → Q (.ref p) (upd H1 p (.tup xs))
def tLs (K : PySem.W.Frag) (t : TA) : TE := fun σ H Q => t σ H fun xs H1 => xs.length ≤ sizeLine ∧ ∀ p, H1 p = none → K.lookup p = none → Q (.ref p) (upd H1 p (.lst xs))
theorem new_K {pins : List (Addr × Obj)} {σ : L2.St} {H : Hp} {s : Shared} (I : Inv X pins σ H s) : X.K.lookup s.heap.objs.size = none := by
  cases e : X.K.lookup s.heap.objs.size with
  | none => rfl
  | some o => exact absurd (Heap.lt_size (I.kIn _ _ e)) (Nat.lt_irrefl _)
theorem pe_tp {x1} (h : PA X es t) : PE X (.Tuple es x1 pos) (tTp X.K t) := by
  refine ⟨fun pins s σ H Q I hq => ?_⟩
  refine wpAny_Tuple_spliced (thn (h.run pos pins s σ H _ I hq) fun us s1 ⟨xs, H1, I1, r, z, q⟩ => ⟨by rw [← r.length]; exact z, ?_⟩)
  have hf : H1 s1.heap.objs.size = none := I1.hok.fresh (Nat.le_refl _)
  refine ⟨.ref s1.heap.objs.size, upd H1 s1.heap.objs.size (.tup xs), I1.laid (t' := s1.toks) (fun b u e => Heap.get?_push_of_some _ e) (Nat.le_refl _) ?_, rfl, q _ hf (new_K I1)⟩
  exact ⟨z, us, r, ⟨_, Heap.get?_push_size _ rfl, rfl, _, rfl⟩⟩
theorem pe_ls (h : PA X es t) : PE X (.List es pos) (tLs X.K t) := by
  refine ⟨fun pins s σ H Q I hq => ?_⟩
  refine wpAny_List_spliced (thn (h.run pos pins s σ H _ I hq) fun us s1 ⟨xs, H1, I1, r, z, q⟩ => ⟨by rw [← r.length]; exact z, ?_⟩)
  have hf : H1 s1.heap.objs.size = none := I1.hok.fresh (Nat.le_refl _)
  refine ⟨.ref s1.heap.objs.size, upd H1 s1.heap.objs.size (.lst xs), I1.laid (t' := s1.toks) (fun b u e => Heap.get?_push_of_some _ e) (Nat.le_refl _) ?_, rfl, q _ hf (new_K I1)⟩
  exact ⟨z, us, 0, r, Heap.get?_push_size _ rfl⟩
end
/-- a, b = t -/
def gTp (K : PySem.W.Frag) (n : Nat) (t : TGs) : TG := fun v σ H Q => ∃ a, v = .ref a ∧ ∃ xs, ob K H a = some (.tup xs) ∧ xs.length = n ∧ t xs σ H Q
theorem pg_tp {X : Cx} {pos : Pos} {es : List Expr} {k : Nat} {t : TGs} (n : Nat) (hc : X.calm = true) (h : PGs X es t) (hn : (assignEach es X.env).length = n := by rfl) (hst : (assignEach es X.env).findIdx? (·.1) = none := by rfl) : PG X (.Tuple es k pos) (gTp X.K n t) :=
  ⟨fun pins s σ H v u Q I r hw => by
    obtain ⟨a, e, xs, hx, hl, q⟩ := hw
    exact (pg_tup (n := n) hc h hn hst).run pins s σ H v u Q I r ⟨a, xs, e, ob_tup hx, hl, q⟩⟩
/-- {} -/
def tDn (K : PySem.W.Frag) : TE := fun _ H Q => ∀ p, H p = none → K.lookup p = none → Q (.ref p) (upd H p (.dK []))
theorem pe_dn {X : Cx} {pos : Pos} : PE X (.Dict [] [] pos) (tDn X.K) := ⟨fun pins s σ H Q I h => by
  refine wpAny_Dict_empty ⟨.ref s.heap.objs.size, upd H s.heap.objs.size (.dK []), ?_, rfl, h _ (I.hok.fresh (Nat.le_refl _)) (new_K I)⟩
  exact I.laid (t' := s.toks) (fun _ _ e => Heap.get?_push_of_some _ e) (Nat.le_refl _) (dk_empty s.heap I.big)⟩
/-! ### loops -/
def ForI (J : It) (g : TG) (tb : TS) (D : Ends) (σ : L2.St) (H : Hp) : Prop := ∃ W : Nat → Nat → L2.St → Hp → Prop, (∃ m, W 0 m σ H) ∧ ∀ i m σ H, W i m σ H →
  (J.stop i H ∧ D.nx σ H) ∨ (J.go i H ∧ ∃ N : L2.St → Hp → Prop, (∀ σ' H', N σ' H' → ∃ m', m' < m ∧ W (i + 1) m' σ' H') ∧ ∀ x H', J.yld i H x H' → g x σ H' fun σ2 H2 => tb { D with nx := N, ct := N, bk := D.nx } σ2 H2)
theorem tFor_eq (wi : TI) (g : TG) (tb : TS) (D : Ends) (σ : L2.St) (H : Hp) : tFor wi g tb D σ H = wi σ H fun J H1 => ForI J g tb D σ H1 := rfl
section
variable {g : TG} {tb : TS} {D : Ends} {σ : L2.St} {H : Hp}
theorem forI_range {lo : Int} {n : Nat} (Pv : Nat → L2.St → Hp → Prop) (h0 : Pv 0 σ H)
    (hs : ∀ i σ H, i < n → Pv i σ H → g (.int (lo + i)) σ H fun σ2 H2 => tb { D with nx := Pv (i + 1), ct := Pv (i + 1), bk := D.nx } σ2 H2) (hd : ∀ σ H, Pv n σ H → D.nx σ H) : ForI (Itr lo n) g tb D σ H := for_range Pv h0 hs hd
theorem forI_list {K : PySem.W.Frag} {a : Addr} {xs : List V} (Pv : Nat → L2.St → Hp → Prop) (h0 : Pv 0 σ H) (hl : ∀ i σ H, i ≤ xs.length → Pv i σ H → SqL K H a xs)
    (hs : ∀ i x σ H, xs[i]? = some x → Pv i σ H → g x σ H fun σ2 H2 => tb { D with nx := Pv (i + 1), ct := Pv (i + 1), bk := D.nx } σ2 H2) (hd : ∀ σ H, Pv xs.length σ H → D.nx σ H) : ForI (Itl K a) g tb D σ H := for_list Pv h0 hl hs hd
theorem forI_tup {K : PySem.W.Frag} {a : Addr} {xs : List V} (Pv : Nat → L2.St → Hp → Prop) (h0 : Pv 0 σ H) (hl : ∀ i σ H, i ≤ xs.length → Pv i σ H → SqT K H a xs)
    (hs : ∀ i x σ H, xs[i]? = some x → Pv i σ H → g x σ H fun σ2 H2 => tb { D with nx := Pv (i + 1), ct := Pv (i + 1), bk := D.nx } σ2 H2) (hd : ∀ σ H, Pv xs.length σ H → D.nx σ H) : ForI (Itt K a) g tb D σ H := for_tup Pv h0 hl hs hd
end
theorem ca_0 : ((0 : Nat) : Int) = 0 := rfl
theorem ca_1 : ((1 : Nat) : Int) = 1 := rfl
theorem ca_2 : ((2 : Nat) : Int) = 2 := rfl
theorem ca_3 : ((3 : Nat) : Int) = 3 := rfl
theorem ca_4 : ((4 : Nat) : Int) = 4 := rfl
theorem ca_5 : ((5 : Nat) : Int) = 5 := rfl
theorem ca_6 : ((6 : Nat) : Int) = 6 := rfl
theorem ca_7 : ((7 : Nat) : Int) = 7 := rfl
theorem ca_8 : ((8 : Nat) : Int) = 8 := rfl
theorem ca_9 : ((9 : Nat) : Int) = 9 := rfl
theorem ca_10 : ((10 : Nat) : Int) = 10 := rfl
theorem ca_11 : ((11 : Nat) : Int) = 11 := rfl
theorem ca_12 : ((12 : Nat) : Int) = 12 := rfl
theorem ca_13 : ((13 : Nat) : Int) = 13 := rfl
theorem ca_14 : ((14 : Nat) : Int) = 14 := rfl
theorem ca_15 : ((15 : Nat) : Int) = 15 := rfl
theorem ca_16 : ((16 : Nat) : Int) = 16 := rfl
theorem ca_17 : ((17 : Nat) : Int) = 17 := rfl
theorem ca_18 : ((18 : Nat) : Int) = 18 := rfl
theorem ca_19 : ((19 : Nat) : Int) = 19 := rfl
theorem ca_20 : ((20 : Nat) : Int) = 20 := rfl
theorem ca_21 : ((21 : Nat) : Int) = 21 := rfl
theorem ca_22 : ((22 : Nat) : Int) = 22 := rfl
theorem ca_23 : ((23 : Nat) : Int) = 23 := rfl
theorem ca_24 : ((24 : Nat) : Int) = 24 := rfl
theorem ca_25 : ((25 : Nat) : Int) = 25 := rfl
theorem ca_26 : ((26 : Nat) : Int) = 26 := rfl
theorem ca_27 : ((27 : Nat) : Int) = 27 := rfl
theorem ca_28 : ((28 : Nat) : Int) = 28 := rfl
theorem ca_29 : ((29 : Nat) : Int) = 29 := rfl
theorem ca_30 : ((30 : Nat) : Int) = 30 := rfl
theorem nat10 : (10 : Int).natAbs = 10 := rfl
/-- list(xs), away from the written part -/
theorem call_listK {X : Cx} : CallR X (.type "list") (fun xs H Q => ∃ p, xs = [.ref p] ∧ ∃ ys, (SqL X.K H p ys ∨ SqT X.K H p ys) ∧ ∀ l, H l = none → X.K.lookup l = none → Q (.ref l) (upd H l (.lst ys))) := fun pins s σ H xs us Q I r h => by
  obtain ⟨p, e0, ys, hy, k⟩ := h
  subst e0
  obtain ⟨u, e1, ru⟩ := vals1 r
  subst e1
  cases ru
  have laid (its : List Value) (rv : Vals ys its) (hz : ys.length ≤ sizeLine) (hh : Heap) (cap : Nat) (kp : ∀ b o, s.heap.get? b = some o → hh.get? b = some o)
      (e : hh.get? s.heap.objs.size = some { cls := .type "list", dict := none, data := .seq its.toArray cap, slots := #[] }) : EP X pins σ Q (.ref s.heap.objs.size) { s with heap := hh } := by
    have ok : ObjOk X.prog X.w (upd H s.heap.objs.size (.lst ys)) hh s.heap.objs.size (.lst ys) := ⟨hz, its, cap, rv, e⟩
    exact ⟨.ref s.heap.objs.size, _, I.laid (t' := s.toks) kp (Nat.le_refl _) ok, rfl, k _ (I.hok.fresh (Nat.le_refl _)) (new_K I)⟩
  cases hy with
  | inl hy =>
    obtain ⟨its, rv, pl, hz⟩ := I.list hy
    obtain ⟨o, ho, hc, n, hd⟩ := pl.isList
    have hl := rv.length
    exact call_list_seq p (.inl rfl) ho hc hd (laid its rv hz) (by simp only [List.size_toArray]; omega)
  | inr hy =>
    obtain ⟨its, rv, pl, hz⟩ := I.tuple hy
    obtain ⟨o, ho, hc, n, hd⟩ := pl
    have hl := rv.length
    exact call_list_seq p (.inr rfl) ho hc hd (laid its rv hz) (by simp only [List.size_toArray]; omega)
/-- xs[i] = v -/
def setI (xs : List V) (i : Int) (v : V) : Option (List V) := (ixN xs.length i).map fun j => xs.set j v
theorem setI_nat {xs ys : List V} {j : Nat} {v : V} (h : j < xs.length) (e : xs.set j v = ys) : setI xs (j : Int) v = some ys := by
  have e1 : ixN xs.length (j : Int) = some j := by
    unfold ixN
    rw [if_pos (by omega), if_pos (by omega)]
    simp
  unfold setI
  rw [e1, ← e]
  rfl
def rSetA : V → V → V → Hp → (Hp → Prop) → Prop := fun o i v H Q => ∃ p k, o = .ref p ∧ i = .int k ∧ ∃ xs, H p = some (.lst xs) ∧ ∃ ys, setI xs k v = some ys ∧ Q (upd H p (.lst ys))
section
variable {X : Cx}
theorem set_any : PSet X rSetA := by
  intro pins s σ H o i v uo ui uv Q I ro ri rv h
  obtain ⟨p, k, rfl, rfl, xs, hx, ys, hy, q⟩ := h
  unfold setI at hy
  cases e : ixN xs.length k with
  | none => rw [e] at hy; cases hy
  | some j =>
    rw [e] at hy
    cases hy
    exact set_list pins s σ H _ _ _ uo ui uv Q I ro ri rv ⟨p, xs, k, j, rfl, rfl, hx, e, q⟩
end
theorem atI_0 {α : Type} (x0 : α) (l : List α) : atI (x0 :: l) 0 = some x0 := atI_nat (j := 0) rfl
theorem setI_0 (x0 v : V) (l : List V) : setI (x0 :: l) 0 v = some (v :: l) := setI_nat (j := 0) (by simp) (by rfl)
theorem atI_1 {α : Type} (x0 x1 : α) (l : List α) : atI (x0 :: x1 :: l) 1 = some x1 := atI_nat (j := 1) rfl
theorem setI_1 (x0 x1 v : V) (l : List V) : setI (x0 :: x1 :: l) 1 v = some (x0 :: v :: l) := setI_nat (j := 1) (by simp) (by rfl)
theorem atI_2 {α : Type} (x0 x1 x2 : α) (l : List α) : atI (x0 :: x1 :: x2 :: l) 2 = some x2 := atI_nat (j := 2) rfl
theorem setI_2 (x0 x1 x2 v : V) (l : List V) : setI (x0 :: x1 :: x2 :: l) 2 v = some (x0 :: x1 :: v :: l) := setI_nat (j := 2) (by simp) (by rfl)
theorem atI_3 {α : Type} (x0 x1 x2 x3 : α) (l : List α) : atI (x0 :: x1 :: x2 :: x3 :: l) 3 = some x3 := atI_nat (j := 3) rfl
theorem setI_3 (x0 x1 x2 x3 v : V) (l : List V) : setI (x0 :: x1 :: x2 :: x3 :: l) 3 v = some (x0 :: x1 :: x2 :: v :: l) := setI_nat (j := 3) (by simp) (by rfl)
theorem atI_4 {α : Type} (x0 x1 x2 x3 x4 : α) (l : List α) : atI (x0 :: x1 :: x2 :: x3 :: x4 :: l) 4 = some x4 := atI_nat (j := 4) rfl
theorem setI_4 (x0 x1 x2 x3 x4 v : V) (l : List V) : setI (x0 :: x1 :: x2 :: x3 :: x4 :: l) 4 v = some (x0 :: x1 :: x2 :: x3 :: v :: l) := setI_nat (j := 4) (by simp) (by rfl)
theorem atI_5 {α : Type} (x0 x1 x2 x3 x4 x5 : α) (l : List α) : atI (x0 :: x1 :: x2 :: x3 :: x4 :: x5 :: l) 5 = some x5 := atI_nat (j := 5) rfl
theorem setI_5 (x0 x1 x2 x3 x4 x5 v : V) (l : List V) : setI (x0 :: x1 :: x2 :: x3 :: x4 :: x5 :: l) 5 v = some (x0 :: x1 :: x2 :: x3 :: x4 :: v :: l) := setI_nat (j := 5) (by simp) (by rfl)
theorem atI_6 {α : Type} (x0 x1 x2 x3 x4 x5 x6 : α) (l : List α) : atI (x0 :: x1 :: x2 :: x3 :: x4 :: x5 :: x6 :: l) 6 = some x6 := atI_nat (j := 6) rfl
theorem setI_6 (x0 x1 x2 x3 x4 x5 x6 v : V) (l : List V) : setI (x0 :: x1 :: x2 :: x3 :: x4 :: x5 :: x6 :: l) 6 v = some (x0 :: x1 :: x2 :: x3 :: x4 :: x5 :: v :: l) := setI_nat (j := 6) (by simp) (by rfl)
end My

namespace My
open PySem PySem.Spec PyProof.Rows L2
/-! ### numbers: fractions in lowest terms -/
abbrev Qt := Int × Int
def Nf (q : Qt) : Prop := 1 ≤ q.2 ∧ Int.gcd q.1 q.2 = 1
/-- q is t / b in lowest terms -/
def Is (q : Qt) (t b : Int) : Prop := Nf q ∧ q.1 * b = t * q.2
def Sz (k : Nat) (q : Qt) : Prop := q.1.natAbs < 2 ^ k ∧ q.2.natAbs < 2 ^ k
theorem nf_cop {q : Qt} (h : Nf q) : Nat.Coprime q.1.natAbs q.2.natAbs := h.2
theorem nf_unique {p q : Qt} (hp : Nf p) (hq : Nf q) (h : p.1 * q.2 = q.1 * p.2) : p = q := by
  have h1 : p.1.natAbs * q.2.natAbs = q.1.natAbs * p.2.natAbs := by rw [← Int.natAbs_mul, ← Int.natAbs_mul, h]
  have d1 : p.2.natAbs ∣ q.2.natAbs := (nf_cop hp).symm.dvd_of_dvd_mul_left (n := q.2.natAbs) (m := p.1.natAbs) (by rw [h1]; exact Nat.dvd_mul_left _ _)
  have d2 : q.2.natAbs ∣ p.2.natAbs := (nf_cop hq).symm.dvd_of_dvd_mul_left (n := p.2.natAbs) (m := q.1.natAbs) (by rw [← h1]; exact Nat.dvd_mul_left _ _)
  have e := Nat.dvd_antisymm d1 d2
  have a1 := hp.1
  have a2 := hq.1
  have e2 : p.2 = q.2 := by omega
  rw [e2] at h
  have e1 : p.1 = q.1 := Int.eq_of_mul_eq_mul_right (show q.2 ≠ 0 by omega) h
  exact Prod.ext e1 e2
theorem is_unique {p q : Qt} {t b : Int} (hb : b ≠ 0) (hp : Is p t b) (hq : Is q t b) : p = q := by
  refine nf_unique hp.1 hq.1 ?_
  have h1 := hp.2
  have h2 := hq.2
  have h3 : b * (p.1 * q.2) = b * (q.1 * p.2) := by
    have e1 : b * (p.1 * q.2) = (p.1 * b) * q.2 := by rw [Int.mul_comm p.1 b, Int.mul_assoc]
    have e2 : b * (q.1 * p.2) = (q.1 * b) * p.2 := by rw [Int.mul_comm q.1 b, Int.mul_assoc]
    rw [e1, e2, h1, h2, Int.mul_assoc, Int.mul_assoc, Int.mul_comm p.2 q.2]
  exact Int.eq_of_mul_eq_mul_left hb h3
theorem is_le {q : Qt} {t b : Int} (hb : b ≠ 0) (h : Is q t b) : q.1.natAbs ≤ t.natAbs ∧ q.2.natAbs ≤ b.natAbs := by
  have h1 : q.1.natAbs * b.natAbs = t.natAbs * q.2.natAbs := by rw [← Int.natAbs_mul, ← Int.natAbs_mul, h.2]
  have d : q.2.natAbs ∣ b.natAbs := (nf_cop h.1).symm.dvd_of_dvd_mul_left (n := b.natAbs) (m := q.1.natAbs) (by rw [h1]; exact Nat.dvd_mul_left _ _)
  have hb' : 0 < b.natAbs := by omega
  have le2 := Nat.le_of_dvd hb' d
  refine ⟨?_, le2⟩
  have q2 : 0 < q.2.natAbs := by have := h.1.1; omega
  have h2 : q.1.natAbs * q.2.natAbs ≤ t.natAbs * q.2.natAbs := by rw [← h1]; exact Nat.mul_le_mul_left _ le2
  exact Nat.le_of_mul_le_mul_right h2 q2
theorem is_sz {q : Qt} {t b : Int} {k : Nat} (hb : b ≠ 0) (h : Is q t b) (ht : t.natAbs < 2 ^ k) (hk : b.natAbs < 2 ^ k) : Sz k q :=
  ⟨Nat.lt_of_le_of_lt (is_le hb h).1 ht, Nat.lt_of_le_of_lt (is_le hb h).2 hk⟩
/-- exact division by the greatest common divisor -/
theorem gcd_pos {t b : Int} (hb : b ≠ 0) : 0 < Int.gcd t b := Nat.gcd_pos_of_pos_right _ (by omega)
theorem gcd_le {t b : Int} (hb : b ≠ 0) : Int.gcd t b ≤ b.natAbs := Nat.le_of_dvd (by omega) (Nat.gcd_dvd_right _ _)
theorem is_div {t b : Int} (hb : 0 < b) : Is (t / (Int.gcd t b : Nat), b / (Int.gcd t b : Nat)) t b := by
  have hg := gcd_pos (t := t) (b := b) (by omega)
  obtain ⟨x, hx⟩ := Int.gcd_dvd_left (a := t) (b := b)
  obtain ⟨y, hy⟩ := Int.gcd_dvd_right (a := t) (b := b)
  have hg' : ((Int.gcd t b : Nat) : Int) ≠ 0 := by omega
  have e1 : t / (Int.gcd t b : Nat) = x := by conv => lhs; lhs; rw [hx]
                                              exact Int.mul_ediv_cancel_left _ hg'
  have e2 : b / (Int.gcd t b : Nat) = y := by conv => lhs; lhs; rw [hy]
                                              exact Int.mul_ediv_cancel_left _ hg'
  rw [e1, e2]
  have hy0 : 0 < y := by
    rcases Int.lt_trichotomy y 0 with z | z | z
    · have := Int.mul_neg_of_pos_of_neg (show (0 : Int) < (Int.gcd t b : Nat) by omega) z
      omega
    · rw [z, Int.mul_zero] at hy
      omega
    · exact z
  refine ⟨⟨by show 1 ≤ y; omega, ?_⟩, ?_⟩
  · show Int.gcd x y = 1
    have h : Int.gcd t b = Int.gcd t b * Int.gcd x y := by
      have k : Int.gcd (((Int.gcd t b : Nat) : Int) * x) (((Int.gcd t b : Nat) : Int) * y) = Int.gcd t b * Int.gcd x y := by rw [Int.gcd_mul_left, Int.natAbs_natCast]
      rwa [← hx, ← hy] at k
    exact Nat.eq_of_mul_eq_mul_left hg (by rw [← h, Nat.mul_one])
  · show x * b = t * y
    conv => lhs; rw [hy]
    conv => rhs; rw [hx]
    rw [← Int.mul_assoc, Int.mul_comm x]
theorem is_neg {q : Qt} {t b : Int} (h : Is q (-t) (-b)) : Is q t b := ⟨h.1, by have := h.2; rw [Int.mul_neg, Int.neg_mul] at this; omega⟩
theorem gcd_neg2 (t b : Int) : Int.gcd (-t) (-b) = Int.gcd t b := by rw [Int.gcd_neg, Int.neg_gcd]
/-- what fraction hands back -/
theorem is_fdiv {t b : Int} (hb : b ≠ 0) : Is (t.fdiv (if b < 0 then -((Int.gcd t b : Nat) : Int) else (Int.gcd t b : Nat)), b.fdiv (if b < 0 then -((Int.gcd t b : Nat) : Int) else (Int.gcd t b : Nat))) t b := by
  by_cases h : b < 0
  · rw [if_pos h]
    have e := is_div (t := -t) (b := -b) (by omega)
    rw [gcd_neg2] at e
    have k : ∀ x : Int, x.fdiv (-((Int.gcd t b : Nat) : Int)) = (-x) / ((Int.gcd t b : Nat) : Int) := fun x => by
      rw [← Int.fdiv_eq_ediv_of_nonneg _ (by omega), ← Int.neg_fdiv_neg (-x), Int.neg_neg]
    rw [k, k]
    exact is_neg e
  · rw [if_neg h, Int.fdiv_eq_ediv_of_nonneg _ (by omega), Int.fdiv_eq_ediv_of_nonneg _ (by omega)]
    exact is_div (by omega)
theorem mulW {i j : Int} {a b : Nat} (ha : i.natAbs < 2 ^ a) (hb : j.natAbs < 2 ^ b) (h : a + b ≤ 900000) : CMulW i j := by
  refine wide_mul (a := a + 1) (b := b + 1) (Nat.lt_of_lt_of_le ha (Nat.pow_le_pow_right (by omega) (by omega))) (Nat.lt_of_lt_of_le hb (Nat.pow_le_pow_right (by omega) (by omega))) (by omega) (by omega) (by omega)
theorem szMul {i j : Int} {a b : Nat} (ha : i.natAbs < 2 ^ a) (hb : j.natAbs < 2 ^ b) : (i * j).natAbs < 2 ^ (a + b) := wide_lt ha hb
theorem szAdd {i j : Int} {a b c : Nat} (ha : i.natAbs < 2 ^ a) (hb : j.natAbs < 2 ^ b) (h1 : a + 1 ≤ c) (h2 : b + 1 ≤ c) : (i + j).natAbs < 2 ^ c := by
  have e1 : 2 ^ (a + 1) ≤ 2 ^ c := Nat.pow_le_pow_right (by omega) h1
  have e2 : 2 ^ (b + 1) ≤ 2 ^ c := Nat.pow_le_pow_right (by omega) h2
  rw [Nat.pow_succ] at e1 e2
  have := Int.natAbs_add_le i j
  omega
theorem szSub {i j : Int} {a b c : Nat} (ha : i.natAbs < 2 ^ a) (hb : j.natAbs < 2 ^ b) (h1 : a + 1 ≤ c) (h2 : b + 1 ≤ c) : (i - j).natAbs < 2 ^ c := by
  rw [Int.sub_eq_add_neg]
  exact szAdd ha (by rw [Int.natAbs_neg]; exact hb) h1 h2
theorem szMono {i : Int} {a b : Nat} (ha : i.natAbs < 2 ^ a) (h : a ≤ b) : i.natAbs < 2 ^ b := Nat.lt_of_lt_of_le ha (Nat.pow_le_pow_right (by omega) h)
theorem Sz.mono {q : Qt} {a b : Nat} (ha : Sz a q) (h : a ≤ b) : Sz b q := ⟨szMono ha.1 h, szMono ha.2 h⟩
/-- // by any number of a bounded size -/
def CDivX (_ j : Int) : Prop := j ≠ 0 ∧ j.natAbs < 2 ^ 8999
theorem op_fdivX {X : Cx} : OpR X (binaryOp .FloorDiv) (rI CDivX fun i j => .int (i.fdiv j)) := by
  intro pins s σ H x y v u Q I rx ry h
  obtain ⟨i, j, rfl, rfl, hc, q⟩ := h
  obtain ⟨t, rfl⟩ := rx
  obtain ⟨t', rfl⟩ := ry
  exact floordiv_int hc.1 ⟨.int _, H, I.tok _, ⟨_, rfl⟩, q⟩ (.inl (PyProof.noPylong_of_log2 (Nat.lt_of_lt_of_le (PySem.Flt.log2_lt_of (by omega) hc.2) (by omega))))
/-! ### fractions as values -/
def frt (q : Qt) : HO := .tup [.int q.1, .int q.2]
end My

namespace My
open PySem PySem.Spec PyProof.Rows L2
section
variable {P : Program} {w : World} {K : PySem.W.Frag} {mg : Str → Option Value} {base : Heap}
def spMixed : Sp := fun vs H Q _ => ∃ a b : Int, vs = [.int a, .int b] ∧ ∀ r : Int, Q (.int r) H
theorem mulW_mod {i : Int} {n : Int} (h0 : 0 < n) (h : n < 2 ^ 64) : CMulW (i % n) (i % n) := by
  have h1 := Int.emod_nonneg i (show n ≠ 0 by omega)
  have h2 := Int.emod_lt_of_pos i h0
  exact wide_mul (a := 64) (b := 64) (by omega) (by omega) (by omega) (by omega) (by omega)
abbrev sMixed : Stmt := topS 35
theorem scMixed : FnScope ["_law_number", "_law_turn", "_law_value"] ["_law_number", "_law_turn"] (defScope sMixed) := ⟨rfl, rfl, rfl, by decide +kernel, rfl, by decide +kernel, by decide +kernel⟩
theorem k_Mixed (T : Bt K mg) (D : Dfn K mg "_law_mixed" sMixed ["_law_number", "_law_turn"]) : Kn P w K mg base 1 "_law_mixed" ["_law_number", "_law_turn"] spMixed := by
  refine Kn.mk' D scMixed (fun vs H Q E h => ?_) (fun f cdv A outer s H vs Q E hr h => ?_)
  · obtain ⟨a, b, rfl, _⟩ := h
    rfl
  obtain ⟨a, b, rfl, q⟩ := h
  refine ⟨_, (pss_cons (ps_set (i := 2) scMixed.nd rfl (.inl rfl) (pe_op op_mod (pe_op op_add (pe_op op_add (pe_op op_mul (pe_op op_mod (pe_callTy call_int1 (by rfl) T.b_int (by decide +kernel) (pa_cons (pv 0) pa_nil)) pe_int) pe_int) (pe_op op_mul (pv 1) pe_int)) pe_int) pe_int))
      (pss_cons (ps_set (i := 2) scMixed.nd rfl (.inl rfl) (pe_op op_mod (pe_op op_add (pe_op op_add (pe_op op_add (pe_op op_mulW (pv 2) (pv 2)) (pe_op op_mul (pv 2) pe_int)) (pe_op op_mul (pv 1) pe_int)) pe_int) pe_int))
      (pss_cons (ps_set (i := 2) scMixed.nd rfl (.inl rfl) (pe_op op_mod (pe_op op_add (pe_op op_add (pe_op op_mul (pv 2) pe_int) (pe_op op_fdiv (pv 2) pe_int)) pe_int) pe_int))
      (pss_cons (ps_set (i := 2) scMixed.nd rfl (.inl rfl) (pe_op op_mod (pe_op op_add (pe_op op_mulW (pv 2) (pv 2)) (pv 1)) pe_int))
      (pss_one (ps_ret (pe_op op_fdiv (pv 2) pe_int))))))), ?_⟩
  simp only [cx_K, decide_true, decide_false, reduceCtorEq, gTp, gCons, gNil, ca_0, ca_1, ca_2, ca_3, ca_4, ca_5, ca_6, ca_7, ca_8, ca_9, ca_10, ca_11, ca_12, ca_13, ca_14, ca_15, ca_16, ca_17, ca_18, ca_19, ca_20, ca_21, ca_22, ca_23, ca_24, ca_25, ca_26, ca_27, ca_28, ca_29, ca_30, not_true_eq_false, not_false_eq_true, Int.reduceEq, Nat.reduceEqDiff, Nat.reduceLeDiff, rGcd, V.ty.injEq, eq_self, List.not_mem_nil, beq_self_eq_true, HO.lst.injEq, HO.tup.injEq, tFor_eq, iRng1, iList, iTup, nat10, tSeq, rIxA, rSetA, rIsN, rIsT, tTp, tLs, itsO_tup, itsO_lst, tyO_tup, tyO_lst, tyO_dK, tyN_non, tyN_bl, tyN_int, tyN_str, tyN_ref, tyNs_lt, isB, upd_same, upd_upd, sizeLine_eq, List.mem_cons, String.reduceBEq, String.reduceEq, Bool.or_false, Bool.or_true, Bool.and_false, Bool.false_or, Bool.and_self, Bool.false_and, Bool.not_false, Bool.not_true, List.any_cons, List.any_nil, atI_0, setI_0, atI_1, setI_1, atI_2, setI_2, atI_3, setI_3, atI_4, setI_4, atI_5, setI_5, atI_6, setI_6, tAsg, gName, tOp, tUn, tVar, tC, tCons, L2.tNil, tRet, tIfS, tTest, tCB, tCall, rI, rI0, rU, tNext, tB, tAnd, tOr, tNot, tAndV, tOrV, tNotV, tDrop, tIf, tPar, gSub, rIxL, rIxT, rEq, rNe, rSetL, tBits,
    L2.start, List.map_cons, List.map_nil, List.cons_append, List.nil_append, List.append_nil, List.length_cons, List.length_nil, List.replicate, Nat.reduceAdd, Nat.reduceSub, Nat.zero_add, List.getElem?_cons_zero, List.getElem?_cons_succ, List.set_cons_zero, List.set_cons_succ,
    Option.some.injEq, exists_eq_left', exists_eq_left, V.int.injEq, V.bl.injEq, V.ref.injEq, V.str.injEq, List.cons.injEq, reduceCtorEq, and_true, true_and, false_and, and_false, exists_false, or_false, false_or, or_true, true_or, exists_const, CMul, CDiv, CPow, and_assoc, exists_and_left, exists_and_right, Int.reducePow, Int.reduceNeg, Int.reduceLT, Int.reduceLE, Nat.reducePow, Nat.reduceLT, Int.reduceToNat, gt_iff_lt, ge_iff_le, decide_eq_true_eq, Bool.not_eq_true', decide_eq_false_iff_not, scal, ↓reduceIte, Bool.false_eq_true]
  exact ⟨mulW_mod (by omega) (by omega), mulW_mod (by omega) (by omega), q _⟩
theorem at_ints {ns : List Int} {i : Int} (h0 : 0 ≤ i) (h : i < (ns.length : Int)) : ∃ z, atI (ns.map V.int) i = some (.int z) := by
  have hk : i.toNat < ns.length := by omega
  have q : atI (ns.map V.int) ((i.toNat : Nat) : Int) = some (.int ns[i.toNat]) := atI_nat (by rw [List.getElem?_map, List.getElem?_eq_getElem hk] <;> rfl)
  rw [show ((i.toNat : Nat) : Int) = i by omega] at q
  exact ⟨_, q⟩
theorem bits_le {m : Int} (h : m.natAbs < 2 ^ 200) : Builtin.Int.intBits m ≤ 200 := by
  unfold Builtin.Int.intBits
  split
  · omega
  · have := PySem.Flt.log2_lt_of (show 0 < 200 by omega) h
    omega
def TakeA (K : PySem.W.Frag) (s : Addr) (m : Int) (H : Hp) (σ' : L2.St) (H' : Hp) : Prop := ∃ x, σ' = [some (.ref s), some (.int m), x, none, none, none, none] ∧ Kp s H H' ∧ Sto K H' s
def TakeB (K : PySem.W.Frag) (s : Addr) (m : Int) (H : Hp) (σ' : L2.St) (H' : Hp) : Prop := ∃ x n, σ' = [some (.ref s), some (.int m), x, none, some (.int n), none, none] ∧ Kp s H H' ∧ Sto K H' s
def TakeC (s : Addr) (m : Int) (x : Option V) (n : Int) (H3 : Hp) (k : Nat) (σ : L2.St) (H' : Hp) : Prop := ∃ v y, σ = [some (.ref s), some (.int m), x, none, some (.int n), some (.int v), y] ∧ H' = H3
def spTake (K : PySem.W.Frag) : Sp := fun vs H Q _ => ∃ (s : Addr) (m : Int), vs = [.ref s, .int m] ∧ Sto K H s ∧ m < 2 ^ 200 ∧ ∀ r H', 0 ≤ r → (r < m ∨ r = 0) → Kp s H H' → Sto K H' s → Q (.int r) H'
abbrev sTake : Stmt := topS 37
theorem scTake : FnScope ["_law_store_here", "_law_many", "_law_cell", "_law_digit", "_law_number", "_law_value", "_law_k"] ["_law_store_here", "_law_many"] (defScope sTake) := ⟨rfl, rfl, rfl, by decide +kernel, rfl, by decide +kernel, by decide +kernel⟩
theorem k_Take (T : Bt K mg) (D : Dfn K mg "_law_take" sTake ["_law_store_here", "_law_many"]) (d__law_mixed : Kn P w K mg base 1 "_law_mixed" ["_law_number", "_law_turn"] spMixed) : Kn P w K mg base 2 "_law_take" ["_law_store_here", "_law_many"] (spTake K) := by
  refine Kn.mk' D scTake (fun vs H Q E h => ?_) (fun f cdv A outer s H vs Q E hr h => ?_)
  · obtain ⟨a, m, rfl, _⟩ := h
    rfl
  obtain ⟨s, m, rfl, hS, hm, q⟩ := h
  refine ⟨_, (pss_cons (ps_if (pt_cmpR op_lt (pv 1) pe_int (nomark _)) (pss_one (ps_ret pe_int)) pss_nil)
      (pss_cons (ps_asg (pe_op op_add (pe_ix ix_any (pv 0) pe_int (fun _ _ => rfl)) pe_int) (pg_sub (pv 0) pe_int set_any))
      (C8.pss_cut (ps_if (PW.pt (pw_and (pt_cmpR op_lt (pe_ix ix_any (pv 0) pe_int (fun _ _ => rfl)) pe_int (nomark _)) (pw_and (pt_cmpR op_lt (pe_ix ix_any (pv 0) pe_int (fun _ _ => rfl)) pe_int (nomark _)) (pw_and1 (pt_cmpR op_lt (pe_ix ix_any (pv 0) pe_int (fun _ _ => rfl)) (pe_callB call_lenA (by rfl) T.b_len PySem.boot_len (pa_cons (pe_ix ix_any (pv 0) pe_int (fun _ _ => rfl)) pa_nil)) (nomark _)))))) (pss_cons (ps_set (i := 2) scTake.nd rfl (.inl rfl) (pe_callTy call_int1 (by rfl) T.b_int (by decide +kernel) (pa_cons (pe_ix ix_any (pe_ix ix_any (pv 0) pe_int (fun _ _ => rfl)) (pe_ix ix_any (pv 0) pe_int (fun _ _ => rfl)) (fun _ _ => rfl)) pa_nil)))
      (pss_cons (ps_asg (pe_op op_add (pe_ix ix_any (pv 0) pe_int (fun _ _ => rfl)) pe_int) (pg_sub (pv 0) pe_int set_any))
      (pss_one (ps_if (pt_cmpR op_lt (pe_callB call_abs (by rfl) T.b_abs (by decide +kernel) (pa_cons (pv 2) pa_nil)) (pe_op op_pow pe_int pe_int) (nomark _)) (pss_cons (ps_asg pe_int (pg_sub (pv 0) pe_int set_any))
      (pss_one (ps_asg (pv 2) (pg_sub (pv 0) pe_int set_any)))) (pss_one (ps_asg (pe_callB call_abs (by rfl) T.b_abs (by decide +kernel) (pa_cons (pv 2) pa_nil)) (pg_sub (pv 0) pe_int set_any))))))) pss_nil)
      (pss_cons (ps_if (pt_cmpR op_gt (pe_ix ix_any (pv 0) pe_int (fun _ _ => rfl)) pe_int (nomark _)) (pss_cons (ps_set (i := 3) scTake.nd rfl (.inl rfl) (pe_op op_modN (pe_callTy call_int1 (by rfl) T.b_int (by decide +kernel) (pa_cons (pe_ix ix_any (pv 0) pe_int (fun _ _ => rfl)) pa_nil)) (pv 1)))
      (pss_cons (ps_asg (pe_op op_fdivW (pe_ix ix_any (pv 0) pe_int (fun _ _ => rfl)) (pv 1)) (pg_sub (pv 0) pe_int set_any))
      (pss_one (ps_ret (pv 3))))) pss_nil)
      (pss_cons (ps_set (i := 4) scTake.nd rfl (.inl rfl) (pe_ix ix_any (pv 0) pe_int (fun _ _ => rfl)))
      (C8.pss_cut (ps_if (pt_cmpR op_gt (pe_ix ix_any (pv 0) pe_int (fun _ _ => rfl)) pe_int (nomark _)) (pss_cons (ps_asg (pe_op op_sub (pe_ix ix_any (pv 0) pe_int (fun _ _ => rfl)) pe_int) (pg_sub (pv 0) pe_int set_any))
      (pss_one (ps_set (i := 4) scTake.nd rfl (.inl rfl) (pe_ix ix_any (pv 0) pe_int (fun _ _ => rfl))))) pss_nil)
      (pss_cons (ps_set (i := 5) scTake.nd rfl (.inl rfl) pe_int)
      (pss_cons (ps_for PassesOwn.never rfl (pi_range1 (by rfl) T.b_range (pa_cons (pe_op op_add pe_int (pe_op op_fdiv (pe_bits (pv 1)) pe_int)) pa_nil)) (pg_name (i := 6) scTake.nd rfl (.inl rfl)) (pss_one (ps_set (i := 5) scTake.nd rfl (.inl rfl) (pe_op op_add (pe_op op_mul (pv 5) pe_int) (pe_kn d__law_mixed hr (by rfl) (pa_cons (pv 4) (pa_cons (pe_op op_add (pe_op op_mul (pe_ix ix_any (pv 0) pe_int (fun _ _ => rfl)) pe_int) (pv 6)) pa_nil)))))))
      (pss_one (ps_ret (pe_op op_modN (pv 5) (pv 1)))))))))))), ?_⟩
  obtain ⟨sc, ns, i, b, c, d, e, f, hs, hsc, hne, hi, ks, ksc⟩ := hS
  have o1 := (ob_none ks).trans hs
  simp only [o1, hs, cx_K, decide_true, decide_false, reduceCtorEq, gTp, gCons, gNil, ca_0, ca_1, ca_2, ca_3, ca_4, ca_5, ca_6, ca_7, ca_8, ca_9, ca_10, ca_11, ca_12, ca_13, ca_14, ca_15, ca_16, ca_17, ca_18, ca_19, ca_20, ca_21, ca_22, ca_23, ca_24, ca_25, ca_26, ca_27, ca_28, ca_29, ca_30, not_true_eq_false, not_false_eq_true, Int.reduceEq, Nat.reduceEqDiff, Nat.reduceLeDiff, rGcd, V.ty.injEq, eq_self, List.not_mem_nil, beq_self_eq_true, HO.lst.injEq, HO.tup.injEq, tFor_eq, iRng1, iList, iTup, nat10, tSeq, rIxA, rSetA, rIsN, rIsT, tTp, tLs, itsO_tup, itsO_lst, tyO_tup, tyO_lst, tyO_dK, tyN_non, tyN_bl, tyN_int, tyN_str, tyN_ref, tyNs_lt, isB, upd_same, upd_upd, sizeLine_eq, List.mem_cons, String.reduceBEq, String.reduceEq, Bool.or_false, Bool.or_true, Bool.and_false, Bool.false_or, Bool.and_self, Bool.false_and, Bool.not_false, Bool.not_true, List.any_cons, List.any_nil, atI_0, setI_0, atI_1, setI_1, atI_2, setI_2, atI_3, setI_3, atI_4, setI_4, atI_5, setI_5, atI_6, setI_6, tAsg, gName, tOp, tUn, tVar, tC, tCons, L2.tNil, tRet, tIfS, tTest, tCB, tCall, rI, rI0, rU, tNext, tB, tAnd, tOr, tNot, tAndV, tOrV, tNotV, tDrop, tIf, tPar, gSub, rIxL, rIxT, rEq, rNe, rSetL, tBits,
    L2.start, List.map_cons, List.map_nil, List.cons_append, List.nil_append, List.append_nil, List.length_cons, List.length_nil, List.replicate, Nat.reduceAdd, Nat.reduceSub, Nat.zero_add, List.getElem?_cons_zero, List.getElem?_cons_succ, List.set_cons_zero, List.set_cons_succ,
    Option.some.injEq, exists_eq_left', exists_eq_left, V.int.injEq, V.bl.injEq, V.ref.injEq, V.str.injEq, List.cons.injEq, reduceCtorEq, and_true, true_and, false_and, and_false, exists_false, or_false, false_or, or_true, true_or, exists_const, CMul, CDiv, CPow, and_assoc, exists_and_left, exists_and_right, Int.reducePow, Int.reduceNeg, Int.reduceLT, Int.reduceLE, Nat.reducePow, Nat.reduceLT, Int.reduceToNat, gt_iff_lt, ge_iff_le, decide_eq_true_eq, Bool.not_eq_true', decide_eq_false_iff_not, scal, ↓reduceIte, Bool.false_eq_true]
  refine ite2 (fun h2 => ?_) (fun h2 => ?_)
  · exact q 0 H (Int.le_refl 0) (.inr rfl) (Kp.refl _ _) ⟨sc, ns, i, b, c, d, e, f, hs, hsc, hne, hi, ks, ksc⟩
  have S1 := Sr.put (i' := i) (b' := b) (c' := c + 1) (d' := d) (e' := e) (f' := f) (⟨hs, hsc, hne, hi, ks, ksc⟩ : Sr K H s sc ns i b c d e f) hi
  have kp1 : Kp s H (upd H s (.lst [.ref sc, .int i, .int b, .int (c + 1), .int d, .int e, .int f])) := Kp.upd
  generalize upd H s (.lst [.ref sc, .int i, .int b, .int (c + 1), .int d, .int e, .int f]) = H1 at S1 kp1 ⊢
  refine ⟨TakeA K s m H, ?_, ?_⟩
  · obtain ⟨hs, hsc, hne, hi, ks, ksc⟩ := id S1
    have o1 := (ob_none ks).trans hs
    have o2 := (ob_none ksc).trans hsc
    have no : TakeA K s m H [some (.ref s), some (.int m), none, none, none, none, none] H1 := ⟨none, rfl, kp1, _, _, _, _, _, _, _, _, S1⟩
    simp only [o1, o2, hs, List.length_map, cx_K, decide_true, decide_false, reduceCtorEq, gTp, gCons, gNil, ca_0, ca_1, ca_2, ca_3, ca_4, ca_5, ca_6, ca_7, ca_8, ca_9, ca_10, ca_11, ca_12, ca_13, ca_14, ca_15, ca_16, ca_17, ca_18, ca_19, ca_20, ca_21, ca_22, ca_23, ca_24, ca_25, ca_26, ca_27, ca_28, ca_29, ca_30, not_true_eq_false, not_false_eq_true, Int.reduceEq, Nat.reduceEqDiff, Nat.reduceLeDiff, rGcd, V.ty.injEq, eq_self, List.not_mem_nil, beq_self_eq_true, HO.lst.injEq, HO.tup.injEq, tFor_eq, iRng1, iList, iTup, nat10, tSeq, rIxA, rSetA, rIsN, rIsT, tTp, tLs, itsO_tup, itsO_lst, tyO_tup, tyO_lst, tyO_dK, tyN_non, tyN_bl, tyN_int, tyN_str, tyN_ref, tyNs_lt, isB, upd_same, upd_upd, sizeLine_eq, List.mem_cons, String.reduceBEq, String.reduceEq, Bool.or_false, Bool.or_true, Bool.and_false, Bool.false_or, Bool.and_self, Bool.false_and, Bool.not_false, Bool.not_true, List.any_cons, List.any_nil, atI_0, setI_0, atI_1, setI_1, atI_2, setI_2, atI_3, setI_3, atI_4, setI_4, atI_5, setI_5, atI_6, setI_6, tAsg, gName, tOp, tUn, tVar, tC, tCons, L2.tNil, tRet, tIfS, tTest, tCB, tCall, rI, rI0, rU, tNext, tB, tAnd, tOr, tNot, tAndV, tOrV, tNotV, tDrop, tIf, tPar, gSub, rIxL, rIxT, rEq, rNe, rSetL, tBits,
    L2.start, List.map_cons, List.map_nil, List.cons_append, List.nil_append, List.append_nil, List.length_cons, List.length_nil, List.replicate, Nat.reduceAdd, Nat.reduceSub, Nat.zero_add, List.getElem?_cons_zero, List.getElem?_cons_succ, List.set_cons_zero, List.set_cons_succ,
    Option.some.injEq, exists_eq_left', exists_eq_left, V.int.injEq, V.bl.injEq, V.ref.injEq, V.str.injEq, List.cons.injEq, reduceCtorEq, and_true, true_and, false_and, and_false, exists_false, or_false, false_or, or_true, true_or, exists_const, CMul, CDiv, CPow, and_assoc, exists_and_left, exists_and_right, Int.reducePow, Int.reduceNeg, Int.reduceLT, Int.reduceLE, Nat.reducePow, Nat.reduceLT, Int.reduceToNat, gt_iff_lt, ge_iff_le, decide_eq_true_eq, Bool.not_eq_true', decide_eq_false_iff_not, scal, ↓reduceIte, Bool.false_eq_true]
    refine ite2 (fun _ => ?_) (fun _ => no)
    refine ite2 (fun _ => ?_) (fun _ => no)
    refine ite2 (fun hlt => ?_) (fun _ => no)
    obtain ⟨z, hz⟩ := at_ints hi hlt
    simp only [hz, cx_K, decide_true, decide_false, reduceCtorEq, gTp, gCons, gNil, ca_0, ca_1, ca_2, ca_3, ca_4, ca_5, ca_6, ca_7, ca_8, ca_9, ca_10, ca_11, ca_12, ca_13, ca_14, ca_15, ca_16, ca_17, ca_18, ca_19, ca_20, ca_21, ca_22, ca_23, ca_24, ca_25, ca_26, ca_27, ca_28, ca_29, ca_30, not_true_eq_false, not_false_eq_true, Int.reduceEq, Nat.reduceEqDiff, Nat.reduceLeDiff, rGcd, V.ty.injEq, eq_self, List.not_mem_nil, beq_self_eq_true, HO.lst.injEq, HO.tup.injEq, tFor_eq, iRng1, iList, iTup, nat10, tSeq, rIxA, rSetA, rIsN, rIsT, tTp, tLs, itsO_tup, itsO_lst, tyO_tup, tyO_lst, tyO_dK, tyN_non, tyN_bl, tyN_int, tyN_str, tyN_ref, tyNs_lt, isB, upd_same, upd_upd, sizeLine_eq, List.mem_cons, String.reduceBEq, String.reduceEq, Bool.or_false, Bool.or_true, Bool.and_false, Bool.false_or, Bool.and_self, Bool.false_and, Bool.not_false, Bool.not_true, List.any_cons, List.any_nil, atI_0, setI_0, atI_1, setI_1, atI_2, setI_2, atI_3, setI_3, atI_4, setI_4, atI_5, setI_5, atI_6, setI_6, tAsg, gName, tOp, tUn, tVar, tC, tCons, L2.tNil, tRet, tIfS, tTest, tCB, tCall, rI, rI0, rU, tNext, tB, tAnd, tOr, tNot, tAndV, tOrV, tNotV, tDrop, tIf, tPar, gSub, rIxL, rIxT, rEq, rNe, rSetL, tBits,
    L2.start, List.map_cons, List.map_nil, List.cons_append, List.nil_append, List.append_nil, List.length_cons, List.length_nil, List.replicate, Nat.reduceAdd, Nat.reduceSub, Nat.zero_add, List.getElem?_cons_zero, List.getElem?_cons_succ, List.set_cons_zero, List.set_cons_succ,
    Option.some.injEq, exists_eq_left', exists_eq_left, V.int.injEq, V.bl.injEq, V.ref.injEq, V.str.injEq, List.cons.injEq, reduceCtorEq, and_true, true_and, false_and, and_false, exists_false, or_false, false_or, or_true, true_or, exists_const, CMul, CDiv, CPow, and_assoc, exists_and_left, exists_and_right, Int.reducePow, Int.reduceNeg, Int.reduceLT, Int.reduceLE, Nat.reducePow, Nat.reduceLT, Int.reduceToNat, gt_iff_lt, ge_iff_le, decide_eq_true_eq, Bool.not_eq_true', decide_eq_false_iff_not, scal, ↓reduceIte, Bool.false_eq_true]
    refine ite2 (fun _ => ?_) (fun _ => ?_)
    · have S2 := S1.put (i' := i + 1) (b' := b) (c' := c + 1) (d' := d) (e' := 2) (f' := z) (by omega)
      exact ⟨_, rfl, kp1.trans Kp.upd, _, _, _, _, _, _, _, _, S2⟩
    · have S2 := S1.put (i' := i + 1) (b' := if z < 0 then -z else z) (c' := c + 1) (d' := d) (e' := e) (f' := f) (by omega)
      exact ⟨_, rfl, kp1.trans Kp.upd, _, _, _, _, _, _, _, _, S2⟩
  rintro σ' H2 ⟨x, rfl, kp2, sc, ns, i, b, c, d, e, f, S2⟩
  obtain ⟨hs, hsc, hne, hi, ks, ksc⟩ := id S2
  have o1 := (ob_none ks).trans hs
  simp only [o1, hs, cx_K, decide_true, decide_false, reduceCtorEq, gTp, gCons, gNil, ca_0, ca_1, ca_2, ca_3, ca_4, ca_5, ca_6, ca_7, ca_8, ca_9, ca_10, ca_11, ca_12, ca_13, ca_14, ca_15, ca_16, ca_17, ca_18, ca_19, ca_20, ca_21, ca_22, ca_23, ca_24, ca_25, ca_26, ca_27, ca_28, ca_29, ca_30, not_true_eq_false, not_false_eq_true, Int.reduceEq, Nat.reduceEqDiff, Nat.reduceLeDiff, rGcd, V.ty.injEq, eq_self, List.not_mem_nil, beq_self_eq_true, HO.lst.injEq, HO.tup.injEq, tFor_eq, iRng1, iList, iTup, nat10, tSeq, rIxA, rSetA, rIsN, rIsT, tTp, tLs, itsO_tup, itsO_lst, tyO_tup, tyO_lst, tyO_dK, tyN_non, tyN_bl, tyN_int, tyN_str, tyN_ref, tyNs_lt, isB, upd_same, upd_upd, sizeLine_eq, List.mem_cons, String.reduceBEq, String.reduceEq, Bool.or_false, Bool.or_true, Bool.and_false, Bool.false_or, Bool.and_self, Bool.false_and, Bool.not_false, Bool.not_true, List.any_cons, List.any_nil, atI_0, setI_0, atI_1, setI_1, atI_2, setI_2, atI_3, setI_3, atI_4, setI_4, atI_5, setI_5, atI_6, setI_6, tAsg, gName, tOp, tUn, tVar, tC, tCons, L2.tNil, tRet, tIfS, tTest, tCB, tCall, rI, rI0, rU, tNext, tB, tAnd, tOr, tNot, tAndV, tOrV, tNotV, tDrop, tIf, tPar, gSub, rIxL, rIxT, rEq, rNe, rSetL, tBits,
    L2.start, List.map_cons, List.map_nil, List.cons_append, List.nil_append, List.append_nil, List.length_cons, List.length_nil, List.replicate, Nat.reduceAdd, Nat.reduceSub, Nat.zero_add, List.getElem?_cons_zero, List.getElem?_cons_succ, List.set_cons_zero, List.set_cons_succ,
    Option.some.injEq, exists_eq_left', exists_eq_left, V.int.injEq, V.bl.injEq, V.ref.injEq, V.str.injEq, List.cons.injEq, reduceCtorEq, and_true, true_and, false_and, and_false, exists_false, or_false, false_or, or_true, true_or, exists_const, CMul, CDiv, CPow, and_assoc, exists_and_left, exists_and_right, Int.reducePow, Int.reduceNeg, Int.reduceLT, Int.reduceLE, Nat.reducePow, Nat.reduceLT, Int.reduceToNat, gt_iff_lt, ge_iff_le, decide_eq_true_eq, Bool.not_eq_true', decide_eq_false_iff_not, scal, ↓reduceIte, Bool.false_eq_true]
  have hm0 : m ≠ 0 := by omega
  refine ite2 (fun hb => ?_) (fun hb => ?_)
  · have S3 := S2.put (i' := i) (b' := b / m) (c' := c) (d' := d) (e' := e) (f' := f) hi
    refine ⟨hm0, wide_div (b := 200) (by omega) (by omega) (by omega) (by omega), q _ _ ?_ (.inl ?_) (kp2.trans Kp.upd) ⟨_, _, _, _, _, _, _, _, S3⟩⟩
    · rw [Int.fmod_eq_emod_of_nonneg b (by omega)]
      exact Int.emod_nonneg _ hm0
    · rw [Int.fmod_eq_emod_of_nonneg b (by omega)]
      exact Int.emod_lt_of_pos _ (by omega)
  refine ⟨TakeB K s m H, ?_, ?_⟩
  · simp only [o1, hs, cx_K, decide_true, decide_false, reduceCtorEq, gTp, gCons, gNil, ca_0, ca_1, ca_2, ca_3, ca_4, ca_5, ca_6, ca_7, ca_8, ca_9, ca_10, ca_11, ca_12, ca_13, ca_14, ca_15, ca_16, ca_17, ca_18, ca_19, ca_20, ca_21, ca_22, ca_23, ca_24, ca_25, ca_26, ca_27, ca_28, ca_29, ca_30, not_true_eq_false, not_false_eq_true, Int.reduceEq, Nat.reduceEqDiff, Nat.reduceLeDiff, rGcd, V.ty.injEq, eq_self, List.not_mem_nil, beq_self_eq_true, HO.lst.injEq, HO.tup.injEq, tFor_eq, iRng1, iList, iTup, nat10, tSeq, rIxA, rSetA, rIsN, rIsT, tTp, tLs, itsO_tup, itsO_lst, tyO_tup, tyO_lst, tyO_dK, tyN_non, tyN_bl, tyN_int, tyN_str, tyN_ref, tyNs_lt, isB, upd_same, upd_upd, sizeLine_eq, List.mem_cons, String.reduceBEq, String.reduceEq, Bool.or_false, Bool.or_true, Bool.and_false, Bool.false_or, Bool.and_self, Bool.false_and, Bool.not_false, Bool.not_true, List.any_cons, List.any_nil, atI_0, setI_0, atI_1, setI_1, atI_2, setI_2, atI_3, setI_3, atI_4, setI_4, atI_5, setI_5, atI_6, setI_6, tAsg, gName, tOp, tUn, tVar, tC, tCons, L2.tNil, tRet, tIfS, tTest, tCB, tCall, rI, rI0, rU, tNext, tB, tAnd, tOr, tNot, tAndV, tOrV, tNotV, tDrop, tIf, tPar, gSub, rIxL, rIxT, rEq, rNe, rSetL, tBits,
    L2.start, List.map_cons, List.map_nil, List.cons_append, List.nil_append, List.append_nil, List.length_cons, List.length_nil, List.replicate, Nat.reduceAdd, Nat.reduceSub, Nat.zero_add, List.getElem?_cons_zero, List.getElem?_cons_succ, List.set_cons_zero, List.set_cons_succ,
    Option.some.injEq, exists_eq_left', exists_eq_left, V.int.injEq, V.bl.injEq, V.ref.injEq, V.str.injEq, List.cons.injEq, reduceCtorEq, and_true, true_and, false_and, and_false, exists_false, or_false, false_or, or_true, true_or, exists_const, CMul, CDiv, CPow, and_assoc, exists_and_left, exists_and_right, Int.reducePow, Int.reduceNeg, Int.reduceLT, Int.reduceLE, Nat.reducePow, Nat.reduceLT, Int.reduceToNat, gt_iff_lt, ge_iff_le, decide_eq_true_eq, Bool.not_eq_true', decide_eq_false_iff_not, scal, ↓reduceIte, Bool.false_eq_true]
    refine ite2 (fun he => ?_) (fun he => ?_)
    · have S3 := S2.put (i' := i) (b' := b) (c' := c) (d' := d) (e' := e - 1) (f' := f) hi
      have o3 := (ob_none ks).trans S3.1
      simp only [o3, cx_K, decide_true, decide_false, reduceCtorEq, gTp, gCons, gNil, ca_0, ca_1, ca_2, ca_3, ca_4, ca_5, ca_6, ca_7, ca_8, ca_9, ca_10, ca_11, ca_12, ca_13, ca_14, ca_15, ca_16, ca_17, ca_18, ca_19, ca_20, ca_21, ca_22, ca_23, ca_24, ca_25, ca_26, ca_27, ca_28, ca_29, ca_30, not_true_eq_false, not_false_eq_true, Int.reduceEq, Nat.reduceEqDiff, Nat.reduceLeDiff, rGcd, V.ty.injEq, eq_self, List.not_mem_nil, beq_self_eq_true, HO.lst.injEq, HO.tup.injEq, tFor_eq, iRng1, iList, iTup, nat10, tSeq, rIxA, rSetA, rIsN, rIsT, tTp, tLs, itsO_tup, itsO_lst, tyO_tup, tyO_lst, tyO_dK, tyN_non, tyN_bl, tyN_int, tyN_str, tyN_ref, tyNs_lt, isB, upd_same, upd_upd, sizeLine_eq, List.mem_cons, String.reduceBEq, String.reduceEq, Bool.or_false, Bool.or_true, Bool.and_false, Bool.false_or, Bool.and_self, Bool.false_and, Bool.not_false, Bool.not_true, List.any_cons, List.any_nil, atI_0, setI_0, atI_1, setI_1, atI_2, setI_2, atI_3, setI_3, atI_4, setI_4, atI_5, setI_5, atI_6, setI_6, tAsg, gName, tOp, tUn, tVar, tC, tCons, L2.tNil, tRet, tIfS, tTest, tCB, tCall, rI, rI0, rU, tNext, tB, tAnd, tOr, tNot, tAndV, tOrV, tNotV, tDrop, tIf, tPar, gSub, rIxL, rIxT, rEq, rNe, rSetL, tBits,
    L2.start, List.map_cons, List.map_nil, List.cons_append, List.nil_append, List.append_nil, List.length_cons, List.length_nil, List.replicate, Nat.reduceAdd, Nat.reduceSub, Nat.zero_add, List.getElem?_cons_zero, List.getElem?_cons_succ, List.set_cons_zero, List.set_cons_succ,
    Option.some.injEq, exists_eq_left', exists_eq_left, V.int.injEq, V.bl.injEq, V.ref.injEq, V.str.injEq, List.cons.injEq, reduceCtorEq, and_true, true_and, false_and, and_false, exists_false, or_false, false_or, or_true, true_or, exists_const, CMul, CDiv, CPow, and_assoc, exists_and_left, exists_and_right, Int.reducePow, Int.reduceNeg, Int.reduceLT, Int.reduceLE, Nat.reducePow, Nat.reduceLT, Int.reduceToNat, gt_iff_lt, ge_iff_le, decide_eq_true_eq, Bool.not_eq_true', decide_eq_false_iff_not, scal, ↓reduceIte, Bool.false_eq_true]
      exact ⟨_, _, rfl, kp2.trans Kp.upd, _, _, _, _, _, _, _, _, S3⟩
    · exact ⟨_, _, rfl, kp2, _, _, _, _, _, _, _, _, S2⟩
  rintro σ' H3 ⟨x, n, rfl, kp3, sc, ns, i, b, c, d, e, f, S3⟩
  obtain ⟨hs, hsc, hne, hi, ks, ksc⟩ := id S3
  have o1 := (ob_none ks).trans hs
  simp only [o1, hs, cx_K, decide_true, decide_false, reduceCtorEq, gTp, gCons, gNil, ca_0, ca_1, ca_2, ca_3, ca_4, ca_5, ca_6, ca_7, ca_8, ca_9, ca_10, ca_11, ca_12, ca_13, ca_14, ca_15, ca_16, ca_17, ca_18, ca_19, ca_20, ca_21, ca_22, ca_23, ca_24, ca_25, ca_26, ca_27, ca_28, ca_29, ca_30, not_true_eq_false, not_false_eq_true, Int.reduceEq, Nat.reduceEqDiff, Nat.reduceLeDiff, rGcd, V.ty.injEq, eq_self, List.not_mem_nil, beq_self_eq_true, HO.lst.injEq, HO.tup.injEq, tFor_eq, iRng1, iList, iTup, nat10, tSeq, rIxA, rSetA, rIsN, rIsT, tTp, tLs, itsO_tup, itsO_lst, tyO_tup, tyO_lst, tyO_dK, tyN_non, tyN_bl, tyN_int, tyN_str, tyN_ref, tyNs_lt, isB, upd_same, upd_upd, sizeLine_eq, List.mem_cons, String.reduceBEq, String.reduceEq, Bool.or_false, Bool.or_true, Bool.and_false, Bool.false_or, Bool.and_self, Bool.false_and, Bool.not_false, Bool.not_true, List.any_cons, List.any_nil, atI_0, setI_0, atI_1, setI_1, atI_2, setI_2, atI_3, setI_3, atI_4, setI_4, atI_5, setI_5, atI_6, setI_6, tAsg, gName, tOp, tUn, tVar, tC, tCons, L2.tNil, tRet, tIfS, tTest, tCB, tCall, rI, rI0, rU, tNext, tB, tAnd, tOr, tNot, tAndV, tOrV, tNotV, tDrop, tIf, tPar, gSub, rIxL, rIxT, rEq, rNe, rSetL, tBits,
    L2.start, List.map_cons, List.map_nil, List.cons_append, List.nil_append, List.append_nil, List.length_cons, List.length_nil, List.replicate, Nat.reduceAdd, Nat.reduceSub, Nat.zero_add, List.getElem?_cons_zero, List.getElem?_cons_succ, List.set_cons_zero, List.set_cons_succ,
    Option.some.injEq, exists_eq_left', exists_eq_left, V.int.injEq, V.bl.injEq, V.ref.injEq, V.str.injEq, List.cons.injEq, reduceCtorEq, and_true, true_and, false_and, and_false, exists_false, or_false, false_or, or_true, true_or, exists_const, CMul, CDiv, CPow, and_assoc, exists_and_left, exists_and_right, Int.reducePow, Int.reduceNeg, Int.reduceLT, Int.reduceLE, Nat.reducePow, Nat.reduceLT, Int.reduceToNat, gt_iff_lt, ge_iff_le, decide_eq_true_eq, Bool.not_eq_true', decide_eq_false_iff_not, scal, ↓reduceIte, Bool.false_eq_true]
  have hbits : Builtin.Int.intBits m ≤ 200 := bits_le (by omega)
  refine ⟨by omega, by omega, forI_range (TakeC s m x n H3) ⟨0, none, rfl, rfl⟩ ?_ ?_⟩
  · rintro k σ H' hk ⟨v, y, rfl, rfl⟩
    simp only [o1, hs, cx_K, decide_true, decide_false, reduceCtorEq, gTp, gCons, gNil, ca_0, ca_1, ca_2, ca_3, ca_4, ca_5, ca_6, ca_7, ca_8, ca_9, ca_10, ca_11, ca_12, ca_13, ca_14, ca_15, ca_16, ca_17, ca_18, ca_19, ca_20, ca_21, ca_22, ca_23, ca_24, ca_25, ca_26, ca_27, ca_28, ca_29, ca_30, not_true_eq_false, not_false_eq_true, Int.reduceEq, Nat.reduceEqDiff, Nat.reduceLeDiff, rGcd, V.ty.injEq, eq_self, List.not_mem_nil, beq_self_eq_true, HO.lst.injEq, HO.tup.injEq, tFor_eq, iRng1, iList, iTup, nat10, tSeq, rIxA, rSetA, rIsN, rIsT, tTp, tLs, itsO_tup, itsO_lst, tyO_tup, tyO_lst, tyO_dK, tyN_non, tyN_bl, tyN_int, tyN_str, tyN_ref, tyNs_lt, isB, upd_same, upd_upd, sizeLine_eq, List.mem_cons, String.reduceBEq, String.reduceEq, Bool.or_false, Bool.or_true, Bool.and_false, Bool.false_or, Bool.and_self, Bool.false_and, Bool.not_false, Bool.not_true, List.any_cons, List.any_nil, atI_0, setI_0, atI_1, setI_1, atI_2, setI_2, atI_3, setI_3, atI_4, setI_4, atI_5, setI_5, atI_6, setI_6, tAsg, gName, tOp, tUn, tVar, tC, tCons, L2.tNil, tRet, tIfS, tTest, tCB, tCall, rI, rI0, rU, tNext, tB, tAnd, tOr, tNot, tAndV, tOrV, tNotV, tDrop, tIf, tPar, gSub, rIxL, rIxT, rEq, rNe, rSetL, tBits,
    L2.start, List.map_cons, List.map_nil, List.cons_append, List.nil_append, List.append_nil, List.length_cons, List.length_nil, List.replicate, Nat.reduceAdd, Nat.reduceSub, Nat.zero_add, List.getElem?_cons_zero, List.getElem?_cons_succ, List.set_cons_zero, List.set_cons_succ,
    Option.some.injEq, exists_eq_left', exists_eq_left, V.int.injEq, V.bl.injEq, V.ref.injEq, V.str.injEq, List.cons.injEq, reduceCtorEq, and_true, true_and, false_and, and_false, exists_false, or_false, false_or, or_true, true_or, exists_const, CMul, CDiv, CPow, and_assoc, exists_and_left, exists_and_right, Int.reducePow, Int.reduceNeg, Int.reduceLT, Int.reduceLE, Nat.reducePow, Nat.reduceLT, Int.reduceToNat, gt_iff_lt, ge_iff_le, decide_eq_true_eq, Bool.not_eq_true', decide_eq_false_iff_not, scal, ↓reduceIte, Bool.false_eq_true]
    refine ⟨_, _, rfl, fun r => ?_⟩
    simp only [cx_K, decide_true, decide_false, reduceCtorEq, gTp, gCons, gNil, ca_0, ca_1, ca_2, ca_3, ca_4, ca_5, ca_6, ca_7, ca_8, ca_9, ca_10, ca_11, ca_12, ca_13, ca_14, ca_15, ca_16, ca_17, ca_18, ca_19, ca_20, ca_21, ca_22, ca_23, ca_24, ca_25, ca_26, ca_27, ca_28, ca_29, ca_30, not_true_eq_false, not_false_eq_true, Int.reduceEq, Nat.reduceEqDiff, Nat.reduceLeDiff, rGcd, V.ty.injEq, eq_self, List.not_mem_nil, beq_self_eq_true, HO.lst.injEq, HO.tup.injEq, tFor_eq, iRng1, iList, iTup, nat10, tSeq, rIxA, rSetA, rIsN, rIsT, tTp, tLs, itsO_tup, itsO_lst, tyO_tup, tyO_lst, tyO_dK, tyN_non, tyN_bl, tyN_int, tyN_str, tyN_ref, tyNs_lt, isB, upd_same, upd_upd, sizeLine_eq, List.mem_cons, String.reduceBEq, String.reduceEq, Bool.or_false, Bool.or_true, Bool.and_false, Bool.false_or, Bool.and_self, Bool.false_and, Bool.not_false, Bool.not_true, List.any_cons, List.any_nil, atI_0, setI_0, atI_1, setI_1, atI_2, setI_2, atI_3, setI_3, atI_4, setI_4, atI_5, setI_5, atI_6, setI_6, tAsg, gName, tOp, tUn, tVar, tC, tCons, L2.tNil, tRet, tIfS, tTest, tCB, tCall, rI, rI0, rU, tNext, tB, tAnd, tOr, tNot, tAndV, tOrV, tNotV, tDrop, tIf, tPar, gSub, rIxL, rIxT, rEq, rNe, rSetL, tBits,
    L2.start, List.map_cons, List.map_nil, List.cons_append, List.nil_append, List.append_nil, List.length_cons, List.length_nil, List.replicate, Nat.reduceAdd, Nat.reduceSub, Nat.zero_add, List.getElem?_cons_zero, List.getElem?_cons_succ, List.set_cons_zero, List.set_cons_succ,
    Option.some.injEq, exists_eq_left', exists_eq_left, V.int.injEq, V.bl.injEq, V.ref.injEq, V.str.injEq, List.cons.injEq, reduceCtorEq, and_true, true_and, false_and, and_false, exists_false, or_false, false_or, or_true, true_or, exists_const, CMul, CDiv, CPow, and_assoc, exists_and_left, exists_and_right, Int.reducePow, Int.reduceNeg, Int.reduceLT, Int.reduceLE, Nat.reducePow, Nat.reduceLT, Int.reduceToNat, gt_iff_lt, ge_iff_le, decide_eq_true_eq, Bool.not_eq_true', decide_eq_false_iff_not, scal, ↓reduceIte, Bool.false_eq_true]
    exact ⟨_, _, rfl, rfl⟩
  · rintro σ H' ⟨v, y, rfl, rfl⟩
    simp only [cx_K, decide_true, decide_false, reduceCtorEq, gTp, gCons, gNil, ca_0, ca_1, ca_2, ca_3, ca_4, ca_5, ca_6, ca_7, ca_8, ca_9, ca_10, ca_11, ca_12, ca_13, ca_14, ca_15, ca_16, ca_17, ca_18, ca_19, ca_20, ca_21, ca_22, ca_23, ca_24, ca_25, ca_26, ca_27, ca_28, ca_29, ca_30, not_true_eq_false, not_false_eq_true, Int.reduceEq, Nat.reduceEqDiff, Nat.reduceLeDiff, rGcd, V.ty.injEq, eq_self, List.not_mem_nil, beq_self_eq_true, HO.lst.injEq, HO.tup.injEq, tFor_eq, iRng1, iList, iTup, nat10, tSeq, rIxA, rSetA, rIsN, rIsT, tTp, tLs, itsO_tup, itsO_lst, tyO_tup, tyO_lst, tyO_dK, tyN_non, tyN_bl, tyN_int, tyN_str, tyN_ref, tyNs_lt, isB, upd_same, upd_upd, sizeLine_eq, List.mem_cons, String.reduceBEq, String.reduceEq, Bool.or_false, Bool.or_true, Bool.and_false, Bool.false_or, Bool.and_self, Bool.false_and, Bool.not_false, Bool.not_true, List.any_cons, List.any_nil, atI_0, setI_0, atI_1, setI_1, atI_2, setI_2, atI_3, setI_3, atI_4, setI_4, atI_5, setI_5, atI_6, setI_6, tAsg, gName, tOp, tUn, tVar, tC, tCons, L2.tNil, tRet, tIfS, tTest, tCB, tCall, rI, rI0, rU, tNext, tB, tAnd, tOr, tNot, tAndV, tOrV, tNotV, tDrop, tIf, tPar, gSub, rIxL, rIxT, rEq, rNe, rSetL, tBits,
    L2.start, List.map_cons, List.map_nil, List.cons_append, List.nil_append, List.append_nil, List.length_cons, List.length_nil, List.replicate, Nat.reduceAdd, Nat.reduceSub, Nat.zero_add, List.getElem?_cons_zero, List.getElem?_cons_succ, List.set_cons_zero, List.set_cons_succ,
    Option.some.injEq, exists_eq_left', exists_eq_left, V.int.injEq, V.bl.injEq, V.ref.injEq, V.str.injEq, List.cons.injEq, reduceCtorEq, and_true, true_and, false_and, and_false, exists_false, or_false, false_or, or_true, true_or, exists_const, CMul, CDiv, CPow, and_assoc, exists_and_left, exists_and_right, Int.reducePow, Int.reduceNeg, Int.reduceLT, Int.reduceLE, Nat.reducePow, Nat.reduceLT, Int.reduceToNat, gt_iff_lt, ge_iff_le, decide_eq_true_eq, Bool.not_eq_true', decide_eq_false_iff_not, scal, ↓reduceIte, Bool.false_eq_true]
    refine ⟨hm0, q _ _ ?_ (.inl ?_) kp3 ⟨_, _, _, _, _, _, _, _, S3⟩⟩
    · rw [Int.fmod_eq_emod_of_nonneg v (by omega)]
      exact Int.emod_nonneg _ hm0
    · rw [Int.fmod_eq_emod_of_nonneg v (by omega)]
      exact Int.emod_lt_of_pos _ (by omega)
end
end My

namespace My
open PySem PySem.Spec PyProof.Rows L2
section
variable {P : Program} {w : World} {K : PySem.W.Frag} {mg : Str → Option Value} {base : Heap}
theorem abs_if (n : Int) : (if n < 0 then -n else n) = (n.natAbs : Int) := by split <;> omega
def spGcd : Sp := fun vs H Q _ => ∃ a b : Int, vs = [.int a, .int b] ∧ Q (.int ((Int.gcd a b : Nat) : Int)) H
def GcdW (a b : Int) (H : Hp) (σ : L2.St) (H' : Hp) : Prop := ∃ l r : Int, σ = [some (.int l), some (.int r)] ∧ H' = H ∧ 0 ≤ l ∧ 0 ≤ r ∧ Int.gcd l r = Int.gcd a b
def GcdM (σ : L2.St) (_ : Hp) : Nat := match σ with
  | [_, some (.int r)] => r.toNat
  | _ => 0
abbrev sGcd : Stmt := topS 39
theorem scGcd : FnScope ["_law_left", "_law_right"] ["_law_left", "_law_right"] (defScope sGcd) := ⟨rfl, rfl, rfl, by decide +kernel, rfl, by decide +kernel, by decide +kernel⟩
theorem k_Gcd (T : Bt K mg) (D : Dfn K mg "_law_gcd" sGcd ["_law_left", "_law_right"]) : Kn P w K mg base 1 "_law_gcd" ["_law_left", "_law_right"] spGcd := by
  refine Kn.mk' D scGcd (fun vs H Q E h => ?_) (fun f cdv A outer s H vs Q E hr h => ?_)
  · obtain ⟨a, b, rfl, _⟩ := h
    rfl
  obtain ⟨a, b, rfl, q⟩ := h
  refine ⟨_, (pss_cons (ps_set (i := 0) scGcd.nd rfl (.inl rfl) (pe_callB call_abs (by rfl) T.b_abs (by decide +kernel) (pa_cons (pv 0) pa_nil)))
      (pss_cons (ps_set (i := 1) scGcd.nd rfl (.inl rfl) (pe_callB call_abs (by rfl) T.b_abs (by decide +kernel) (pa_cons (pv 1) pa_nil)))
      (pss_cons (ps_while PassesOwn.never (pt_cmpR op_gt (pv 1) pe_int (nomark _)) (pss_one (ps_par (i := 0) (j := 1) (by rfl) scGcd.nd rfl rfl (by decide) rfl rfl (pa_cons (pv 1) (pa_cons (pe_op op_modN (pe_callTy call_int1 (by rfl) T.b_int (by decide +kernel) (pa_cons (pv 0) pa_nil)) (pv 1)) pa_nil)) (by rfl))))
      (pss_one (ps_ret (pv 0)))))), ?_⟩
  simp only [abs_if, cx_K, decide_true, decide_false, reduceCtorEq, gTp, gCons, gNil, ca_0, ca_1, ca_2, ca_3, ca_4, ca_5, ca_6, ca_7, ca_8, ca_9, ca_10, ca_11, ca_12, ca_13, ca_14, ca_15, ca_16, ca_17, ca_18, ca_19, ca_20, ca_21, ca_22, ca_23, ca_24, ca_25, ca_26, ca_27, ca_28, ca_29, ca_30, not_true_eq_false, not_false_eq_true, Int.reduceEq, Nat.reduceEqDiff, Nat.reduceLeDiff, rGcd, V.ty.injEq, eq_self, List.not_mem_nil, beq_self_eq_true, HO.lst.injEq, HO.tup.injEq, tFor_eq, iRng1, iList, iTup, nat10, tSeq, rIxA, rSetA, rIsN, rIsT, tTp, tLs, itsO_tup, itsO_lst, tyO_tup, tyO_lst, tyO_dK, tyN_non, tyN_bl, tyN_int, tyN_str, tyN_ref, tyNs_lt, isB, upd_same, upd_upd, sizeLine_eq, List.mem_cons, String.reduceBEq, String.reduceEq, Bool.or_false, Bool.or_true, Bool.and_false, Bool.false_or, Bool.and_self, Bool.false_and, Bool.not_false, Bool.not_true, List.any_cons, List.any_nil, atI_0, setI_0, atI_1, setI_1, atI_2, setI_2, atI_3, setI_3, atI_4, setI_4, atI_5, setI_5, atI_6, setI_6, tAsg, gName, tOp, tUn, tVar, tC, tCons, L2.tNil, tRet, tIfS, tTest, tCB, tCall, rI, rI0, rU, tNext, tB, tAnd, tOr, tNot, tAndV, tOrV, tNotV, tDrop, tIf, tPar, gSub, rIxL, rIxT, rEq, rNe, rSetL, tBits,
    L2.start, List.map_cons, List.map_nil, List.cons_append, List.nil_append, List.append_nil, List.length_cons, List.length_nil, List.replicate, Nat.reduceAdd, Nat.reduceSub, Nat.zero_add, List.getElem?_cons_zero, List.getElem?_cons_succ, List.set_cons_zero, List.set_cons_succ,
    Option.some.injEq, exists_eq_left', exists_eq_left, V.int.injEq, V.bl.injEq, V.ref.injEq, V.str.injEq, List.cons.injEq, reduceCtorEq, and_true, true_and, false_and, and_false, exists_false, or_false, false_or, or_true, true_or, exists_const, CMul, CDiv, CPow, and_assoc, exists_and_left, exists_and_right, Int.reducePow, Int.reduceNeg, Int.reduceLT, Int.reduceLE, Nat.reducePow, Nat.reduceLT, Int.reduceToNat, gt_iff_lt, ge_iff_le, decide_eq_true_eq, Bool.not_eq_true', decide_eq_false_iff_not, scal, ↓reduceIte, Bool.false_eq_true]
  refine while_by (GcdW a b H) GcdM ⟨_, _, rfl, rfl, by omega, by omega, rfl⟩ ?_ ?_
  · rintro σ H' ⟨l, r, rfl, rfl, hl, hr, e⟩
    simp only [cx_K, decide_true, decide_false, reduceCtorEq, gTp, gCons, gNil, ca_0, ca_1, ca_2, ca_3, ca_4, ca_5, ca_6, ca_7, ca_8, ca_9, ca_10, ca_11, ca_12, ca_13, ca_14, ca_15, ca_16, ca_17, ca_18, ca_19, ca_20, ca_21, ca_22, ca_23, ca_24, ca_25, ca_26, ca_27, ca_28, ca_29, ca_30, not_true_eq_false, not_false_eq_true, Int.reduceEq, Nat.reduceEqDiff, Nat.reduceLeDiff, rGcd, V.ty.injEq, eq_self, List.not_mem_nil, beq_self_eq_true, HO.lst.injEq, HO.tup.injEq, tFor_eq, iRng1, iList, iTup, nat10, tSeq, rIxA, rSetA, rIsN, rIsT, tTp, tLs, itsO_tup, itsO_lst, tyO_tup, tyO_lst, tyO_dK, tyN_non, tyN_bl, tyN_int, tyN_str, tyN_ref, tyNs_lt, isB, upd_same, upd_upd, sizeLine_eq, List.mem_cons, String.reduceBEq, String.reduceEq, Bool.or_false, Bool.or_true, Bool.and_false, Bool.false_or, Bool.and_self, Bool.false_and, Bool.not_false, Bool.not_true, List.any_cons, List.any_nil, atI_0, setI_0, atI_1, setI_1, atI_2, setI_2, atI_3, setI_3, atI_4, setI_4, atI_5, setI_5, atI_6, setI_6, tAsg, gName, tOp, tUn, tVar, tC, tCons, L2.tNil, tRet, tIfS, tTest, tCB, tCall, rI, rI0, rU, tNext, tB, tAnd, tOr, tNot, tAndV, tOrV, tNotV, tDrop, tIf, tPar, gSub, rIxL, rIxT, rEq, rNe, rSetL, tBits,
    L2.start, List.map_cons, List.map_nil, List.cons_append, List.nil_append, List.append_nil, List.length_cons, List.length_nil, List.replicate, Nat.reduceAdd, Nat.reduceSub, Nat.zero_add, List.getElem?_cons_zero, List.getElem?_cons_succ, List.set_cons_zero, List.set_cons_succ,
    Option.some.injEq, exists_eq_left', exists_eq_left, V.int.injEq, V.bl.injEq, V.ref.injEq, V.str.injEq, List.cons.injEq, reduceCtorEq, and_true, true_and, false_and, and_false, exists_false, or_false, false_or, or_true, true_or, exists_const, CMul, CDiv, CPow, and_assoc, exists_and_left, exists_and_right, Int.reducePow, Int.reduceNeg, Int.reduceLT, Int.reduceLE, Nat.reducePow, Nat.reduceLT, Int.reduceToNat, gt_iff_lt, ge_iff_le, decide_eq_true_eq, Bool.not_eq_true', decide_eq_false_iff_not, scal, ↓reduceIte, Bool.false_eq_true]
    refine ite2 (fun h => ?_) (fun h => ?_)
    · refine ⟨by omega, ⟨_, _, rfl, rfl, hr, ?_, ?_⟩, ?_⟩
      · rw [Int.fmod_eq_emod_of_nonneg l hr]
        exact Int.emod_nonneg _ (by omega)
      · rw [Int.fmod_eq_emod_of_nonneg l hr, ← e]
        show Nat.gcd r.natAbs (l % r).natAbs = Nat.gcd l.natAbs r.natAbs
        rw [Int.natAbs_emod_of_nonneg hl, Nat.gcd_comm l.natAbs, Nat.gcd_rec r.natAbs l.natAbs, Nat.gcd_comm]
      · show (l.fmod r).toNat < r.toNat
        rw [Int.fmod_eq_emod_of_nonneg l hr]
        have := Int.emod_lt_of_pos l h
        omega
    · have hr0 : r = 0 := by omega
      subst hr0
      have e2 : l = ((Int.gcd a b : Nat) : Int) := by
        rw [← e, Int.gcd_zero_right]
        omega
      rw [e2]
      exact q
  · rintro σ H' Q' Q2 hq ⟨v, e, i, j, h1, h2, k, ek, h⟩
    exact ⟨v, e, i, j, h1, h2, k, ek, hq _ _ h⟩
/-- the law's own lowest terms; 0 beneath gives 0 -/
def Lw (q : Qt) (t b : Int) : Prop := (b = 0 → q = (0, 1)) ∧ (b ≠ 0 → Is q t b)
/-- hands back a fraction, all else as it was -/
def Gv (K : PySem.W.Frag) (H : Hp) (Q : VK) (q : Qt) : Prop := ∀ (p : Addr) (H' : Hp), Same H H' → ob K H' p = some (frt q) → Q (.ref p) H'
theorem Gv.new {K : PySem.W.Frag} {H : Hp} {Q : VK} {q : Qt} (h : Gv K H Q q) {p : Addr} (hp : H p = none) (kp : K.lookup p = none) : Q (.ref p) (upd H p (.tup [.int q.1, .int q.2])) := h p _ (Same.new hp _) (ob_new kp)
def spLowest (K : PySem.W.Frag) : Sp := fun vs H Q _ => ∃ t b : Int, vs = [.int t, .int b] ∧ b.natAbs < 2 ^ 8000 ∧ ∀ q, Lw q t b → Gv K H Q q
abbrev sLowest : Stmt := topS 40
theorem scLowest : FnScope ["_law_top", "_law_bottom", "_law_common"] ["_law_top", "_law_bottom"] (defScope sLowest) := ⟨rfl, rfl, rfl, by decide +kernel, rfl, by decide +kernel, by decide +kernel⟩
theorem k_Lowest (T : Bt K mg) (D : Dfn K mg "_law_lowest" sLowest ["_law_top", "_law_bottom"]) (d__law_gcd : Kn P w K mg base 1 "_law_gcd" ["_law_left", "_law_right"] spGcd) : Kn P w K mg base 2 "_law_lowest" ["_law_top", "_law_bottom"] (spLowest K) := by
  refine Kn.mk' D scLowest (fun vs H Q E h => ?_) (fun f cdv A outer s H vs Q E hr h => ?_)
  · obtain ⟨t, b, rfl, _⟩ := h
    rfl
  obtain ⟨t, b, rfl, hz, q⟩ := h
  refine ⟨_, (pss_cons (ps_if (pt_cmpR op_eq (pv 1) pe_int (nomark _)) (pss_one (ps_ret (pe_tp (pa_cons pe_int (pa_cons pe_int pa_nil))))) pss_nil)
      (pss_cons (ps_if (pt_cmpR op_lt (pv 1) pe_int (nomark _)) (pss_cons (ps_set (i := 0) scLowest.nd rfl (.inl rfl) (pe_un un_neg (pv 0)))
      (pss_one (ps_set (i := 1) scLowest.nd rfl (.inl rfl) (pe_un un_neg (pv 1))))) pss_nil)
      (pss_cons (ps_set (i := 2) scLowest.nd rfl (.inl rfl) (pe_kn d__law_gcd hr (by rfl) (pa_cons (pv 0) (pa_cons (pv 1) pa_nil))))
      (pss_one (ps_ret (pe_tp (pa_cons (pe_op op_fdivW (pv 0) (pv 2)) (pa_cons (pe_op op_fdivW (pv 1) (pv 2)) pa_nil)))))))), ?_⟩
  simp only [cx_K, decide_true, decide_false, reduceCtorEq, gTp, gCons, gNil, ca_0, ca_1, ca_2, ca_3, ca_4, ca_5, ca_6, ca_7, ca_8, ca_9, ca_10, ca_11, ca_12, ca_13, ca_14, ca_15, ca_16, ca_17, ca_18, ca_19, ca_20, ca_21, ca_22, ca_23, ca_24, ca_25, ca_26, ca_27, ca_28, ca_29, ca_30, not_true_eq_false, not_false_eq_true, Int.reduceEq, Nat.reduceEqDiff, Nat.reduceLeDiff, rGcd, V.ty.injEq, eq_self, List.not_mem_nil, beq_self_eq_true, HO.lst.injEq, HO.tup.injEq, tFor_eq, iRng1, iList, iTup, nat10, tSeq, rIxA, rSetA, rIsN, rIsT, tTp, tLs, itsO_tup, itsO_lst, tyO_tup, tyO_lst, tyO_dK, tyN_non, tyN_bl, tyN_int, tyN_str, tyN_ref, tyNs_lt, isB, upd_same, upd_upd, sizeLine_eq, List.mem_cons, String.reduceBEq, String.reduceEq, Bool.or_false, Bool.or_true, Bool.and_false, Bool.false_or, Bool.and_self, Bool.false_and, Bool.not_false, Bool.not_true, List.any_cons, List.any_nil, atI_0, setI_0, atI_1, setI_1, atI_2, setI_2, atI_3, setI_3, atI_4, setI_4, atI_5, setI_5, atI_6, setI_6, tAsg, gName, tOp, tUn, tVar, tC, tCons, L2.tNil, tRet, tIfS, tTest, tCB, tCall, rI, rI0, rU, tNext, tB, tAnd, tOr, tNot, tAndV, tOrV, tNotV, tDrop, tIf, tPar, gSub, rIxL, rIxT, rEq, rNe, rSetL, tBits,
    L2.start, List.map_cons, List.map_nil, List.cons_append, List.nil_append, List.append_nil, List.length_cons, List.length_nil, List.replicate, Nat.reduceAdd, Nat.reduceSub, Nat.zero_add, List.getElem?_cons_zero, List.getElem?_cons_succ, List.set_cons_zero, List.set_cons_succ,
    Option.some.injEq, exists_eq_left', exists_eq_left, V.int.injEq, V.bl.injEq, V.ref.injEq, V.str.injEq, List.cons.injEq, reduceCtorEq, and_true, true_and, false_and, and_false, exists_false, or_false, false_or, or_true, true_or, exists_const, CMul, CDiv, CPow, and_assoc, exists_and_left, exists_and_right, Int.reducePow, Int.reduceNeg, Int.reduceLT, Int.reduceLE, Nat.reducePow, Nat.reduceLT, Int.reduceToNat, gt_iff_lt, ge_iff_le, decide_eq_true_eq, Bool.not_eq_true', decide_eq_false_iff_not, scal, ↓reduceIte, Bool.false_eq_true]
  refine ite2 (fun h => ?_) (fun h => ?_)
  · exact fun p hp kp => (q (0, 1) ⟨fun _ => rfl, fun z => absurd h z⟩).new hp kp
  have key : ∀ t' b' : Int, 0 < b' → b'.natAbs < 2 ^ 8000 → (∀ q, Is q t' b' → Gv K H Q q) → CDivW t' ((Int.gcd t' b' : Nat) : Int) ∧ CDivW b' ((Int.gcd t' b' : Nat) : Int) ∧ ∀ p, H p = none → K.lookup p = none → Q (.ref p) (upd H p (.tup [.int (t' / ((Int.gcd t' b' : Nat) : Int)), .int (b' / ((Int.gcd t' b' : Nat) : Int))])) := fun t' b' h0 hz hq => by
    have g0 := gcd_pos (t := t') (b := b') (by omega)
    have g1 := gcd_le (t := t') (b := b') (by omega)
    have g2 : ((Int.gcd t' b' : Nat) : Int).natAbs < 2 ^ 8000 := by rw [Int.natAbs_natCast]; omega
    exact ⟨wide_div (b := 8000) (by omega) g2 (by omega) (by omega), wide_div (b := 8000) (by omega) g2 (by omega) (by omega), fun p hp kp => (hq _ (is_div h0)).new hp kp⟩
  refine ite2 (fun hb => ?_) (fun hb => ?_)
  · have k := key (-t) (-b) (by omega) (by rw [Int.natAbs_neg]; exact hz) fun z hz => q z ⟨fun e => absurd e h, fun _ => is_neg hz⟩
    refine ⟨_, _, rfl, ?_⟩
    simp only [cx_K, decide_true, decide_false, reduceCtorEq, gTp, gCons, gNil, ca_0, ca_1, ca_2, ca_3, ca_4, ca_5, ca_6, ca_7, ca_8, ca_9, ca_10, ca_11, ca_12, ca_13, ca_14, ca_15, ca_16, ca_17, ca_18, ca_19, ca_20, ca_21, ca_22, ca_23, ca_24, ca_25, ca_26, ca_27, ca_28, ca_29, ca_30, not_true_eq_false, not_false_eq_true, Int.reduceEq, Nat.reduceEqDiff, Nat.reduceLeDiff, rGcd, V.ty.injEq, eq_self, List.not_mem_nil, beq_self_eq_true, HO.lst.injEq, HO.tup.injEq, tFor_eq, iRng1, iList, iTup, nat10, tSeq, rIxA, rSetA, rIsN, rIsT, tTp, tLs, itsO_tup, itsO_lst, tyO_tup, tyO_lst, tyO_dK, tyN_non, tyN_bl, tyN_int, tyN_str, tyN_ref, tyNs_lt, isB, upd_same, upd_upd, sizeLine_eq, List.mem_cons, String.reduceBEq, String.reduceEq, Bool.or_false, Bool.or_true, Bool.and_false, Bool.false_or, Bool.and_self, Bool.false_and, Bool.not_false, Bool.not_true, List.any_cons, List.any_nil, atI_0, setI_0, atI_1, setI_1, atI_2, setI_2, atI_3, setI_3, atI_4, setI_4, atI_5, setI_5, atI_6, setI_6, tAsg, gName, tOp, tUn, tVar, tC, tCons, L2.tNil, tRet, tIfS, tTest, tCB, tCall, rI, rI0, rU, tNext, tB, tAnd, tOr, tNot, tAndV, tOrV, tNotV, tDrop, tIf, tPar, gSub, rIxL, rIxT, rEq, rNe, rSetL, tBits,
    L2.start, List.map_cons, List.map_nil, List.cons_append, List.nil_append, List.append_nil, List.length_cons, List.length_nil, List.replicate, Nat.reduceAdd, Nat.reduceSub, Nat.zero_add, List.getElem?_cons_zero, List.getElem?_cons_succ, List.set_cons_zero, List.set_cons_succ,
    Option.some.injEq, exists_eq_left', exists_eq_left, V.int.injEq, V.bl.injEq, V.ref.injEq, V.str.injEq, List.cons.injEq, reduceCtorEq, and_true, true_and, false_and, and_false, exists_false, or_false, false_or, or_true, true_or, exists_const, CMul, CDiv, CPow, and_assoc, exists_and_left, exists_and_right, Int.reducePow, Int.reduceNeg, Int.reduceLT, Int.reduceLE, Nat.reducePow, Nat.reduceLT, Int.reduceToNat, gt_iff_lt, ge_iff_le, decide_eq_true_eq, Bool.not_eq_true', decide_eq_false_iff_not, scal, ↓reduceIte, Bool.false_eq_true]
    exact k
  · have k := key t b (by omega) hz fun z hz => q z ⟨fun e => absurd e h, fun _ => hz⟩
    refine ⟨_, _, rfl, ?_⟩
    simp only [cx_K, decide_true, decide_false, reduceCtorEq, gTp, gCons, gNil, ca_0, ca_1, ca_2, ca_3, ca_4, ca_5, ca_6, ca_7, ca_8, ca_9, ca_10, ca_11, ca_12, ca_13, ca_14, ca_15, ca_16, ca_17, ca_18, ca_19, ca_20, ca_21, ca_22, ca_23, ca_24, ca_25, ca_26, ca_27, ca_28, ca_29, ca_30, not_true_eq_false, not_false_eq_true, Int.reduceEq, Nat.reduceEqDiff, Nat.reduceLeDiff, rGcd, V.ty.injEq, eq_self, List.not_mem_nil, beq_self_eq_true, HO.lst.injEq, HO.tup.injEq, tFor_eq, iRng1, iList, iTup, nat10, tSeq, rIxA, rSetA, rIsN, rIsT, tTp, tLs, itsO_tup, itsO_lst, tyO_tup, tyO_lst, tyO_dK, tyN_non, tyN_bl, tyN_int, tyN_str, tyN_ref, tyNs_lt, isB, upd_same, upd_upd, sizeLine_eq, List.mem_cons, String.reduceBEq, String.reduceEq, Bool.or_false, Bool.or_true, Bool.and_false, Bool.false_or, Bool.and_self, Bool.false_and, Bool.not_false, Bool.not_true, List.any_cons, List.any_nil, atI_0, setI_0, atI_1, setI_1, atI_2, setI_2, atI_3, setI_3, atI_4, setI_4, atI_5, setI_5, atI_6, setI_6, tAsg, gName, tOp, tUn, tVar, tC, tCons, L2.tNil, tRet, tIfS, tTest, tCB, tCall, rI, rI0, rU, tNext, tB, tAnd, tOr, tNot, tAndV, tOrV, tNotV, tDrop, tIf, tPar, gSub, rIxL, rIxT, rEq, rNe, rSetL, tBits,
    L2.start, List.map_cons, List.map_nil, List.cons_append, List.nil_append, List.append_nil, List.length_cons, List.length_nil, List.replicate, Nat.reduceAdd, Nat.reduceSub, Nat.zero_add, List.getElem?_cons_zero, List.getElem?_cons_succ, List.set_cons_zero, List.set_cons_succ,
    Option.some.injEq, exists_eq_left', exists_eq_left, V.int.injEq, V.bl.injEq, V.ref.injEq, V.str.injEq, List.cons.injEq, reduceCtorEq, and_true, true_and, false_and, and_false, exists_false, or_false, false_or, or_true, true_or, exists_const, CMul, CDiv, CPow, and_assoc, exists_and_left, exists_and_right, Int.reducePow, Int.reduceNeg, Int.reduceLT, Int.reduceLE, Nat.reducePow, Nat.reduceLT, Int.reduceToNat, gt_iff_lt, ge_iff_le, decide_eq_true_eq, Bool.not_eq_true', decide_eq_false_iff_not, scal, ↓reduceIte, Bool.false_eq_true]
    exact k
end
end My

namespace My
open PySem PySem.Spec PyProof.Rows L2
section
variable {P : Program} {w : World} {K : PySem.W.Frag} {mg : Str → Option Value} {base : Heap}
end
structure DfnD (K : PySem.W.Frag) (mg : Str → Option Value) (x : Str) (st : Stmt) (ps : List Str) : Prop where
  ex : ∃ f fd dvs, FunD K x x (defArgs st) (defBody st) (defScope st) dvs [] f fd ∧ mg x = some (.ref f) ∧ Binds K fd ps []
theorem Kn.mkD {P : Program} {w : World} {K : PySem.W.Frag} {mg : Str → Option Value} {base : Heap} {x : Str} {st : Stmt} {N ps : List Str} {k : Nat} {sp : Sp} (D : DfnD K mg x st ps) (S : FnScope N ps (defScope st)) (len : ∀ vs H Q E, sp vs H Q E → vs.length = ps.length)
    (hbody : ∀ (f : Addr) (cdv : Value) (A : Around) (outer : List Env) (s : Shared) (H : Hp) (vs : List V) (Q : VK) (E : XK), Room k (A.deeper (envOfC x (defScope st) s.heap.objs.size f cdv)) → sp vs H Q E →
      ∃ t, PSs (cxOf CX0 P w K mg base N x (defScope st) f cdv A outer s H E).nox (defBody st) t ∧ t { nx := fun _ H' => Q .non H', rt := Q } (start N vs) H) : Kn P w K mg base (k + 1) x ps sp := by
  obtain ⟨f, fd, dvs, F, m, b⟩ := D.ex
  exact ⟨f, fd, m, F.kp, b, F.ok S len fun cdv A outer s H vs Q E hr h => let ⟨t, a, c⟩ := hbody f cdv A outer s H vs Q E hr h; ⟨t, a.nox, c⟩⟩
section
variable {P : Program} {w : World} {K : PySem.W.Frag} {mg : Str → Option Value} {base : Heap}
def spRequire : Sp := fun vs H Q _ => ∃ x : V, vs = [.bl true, x] ∧ Q .non H
abbrev sRequire : Stmt := topS 16
theorem scRequire : FnScope ["well_formed", "what"] ["well_formed", "what"] (defScope sRequire) := ⟨rfl, rfl, rfl, by decide +kernel, rfl, by decide +kernel, by decide +kernel⟩
theorem k_Require (T : Bt K mg) (D : Dfn K mg "require" sRequire ["well_formed", "what"]) : Kn P w K mg base 1 "require" ["well_formed", "what"] spRequire := by
  refine Kn.mk' D scRequire (fun vs H Q E h => ?_) (fun f cdv A outer s H vs Q E hr h => ?_)
  · obtain ⟨x, rfl, _⟩ := h
    rfl
  obtain ⟨x, rfl, q⟩ := h
  refine ⟨_, (pss_one (ps_if (pt_not (pt_val (pv 0))) (pss_one ps_never) pss_nil)), ?_⟩
  simp only [cx_K, decide_true, decide_false, reduceCtorEq, gTp, gCons, gNil, ca_0, ca_1, ca_2, ca_3, ca_4, ca_5, ca_6, ca_7, ca_8, ca_9, ca_10, ca_11, ca_12, ca_13, ca_14, ca_15, ca_16, ca_17, ca_18, ca_19, ca_20, ca_21, ca_22, ca_23, ca_24, ca_25, ca_26, ca_27, ca_28, ca_29, ca_30, not_true_eq_false, not_false_eq_true, Int.reduceEq, Nat.reduceEqDiff, Nat.reduceLeDiff, rGcd, V.ty.injEq, eq_self, List.not_mem_nil, beq_self_eq_true, HO.lst.injEq, HO.tup.injEq, tFor_eq, iRng1, iList, iTup, nat10, tSeq, rIxA, rSetA, rIsN, rIsT, tTp, tLs, itsO_tup, itsO_lst, tyO_tup, tyO_lst, tyO_dK, tyN_non, tyN_bl, tyN_int, tyN_str, tyN_ref, tyNs_lt, isB, upd_same, upd_upd, sizeLine_eq, List.mem_cons, String.reduceBEq, String.reduceEq, Bool.or_false, Bool.or_true, Bool.and_false, Bool.false_or, Bool.and_self, Bool.false_and, Bool.not_false, Bool.not_true, List.any_cons, List.any_nil, atI_0, setI_0, atI_1, setI_1, atI_2, setI_2, atI_3, setI_3, atI_4, setI_4, atI_5, setI_5, atI_6, setI_6, tAsg, gName, tOp, tUn, tVar, tC, tCons, L2.tNil, tRet, tIfS, tTest, tCB, tCall, rI, rI0, rU, tNext, tB, tAnd, tOr, tNot, tAndV, tOrV, tNotV, tDrop, tIf, tPar, gSub, rIxL, rIxT, rEq, rNe, rSetL, tBits,
    L2.start, List.map_cons, List.map_nil, List.cons_append, List.nil_append, List.append_nil, List.length_cons, List.length_nil, List.replicate, Nat.reduceAdd, Nat.reduceSub, Nat.zero_add, List.getElem?_cons_zero, List.getElem?_cons_succ, List.set_cons_zero, List.set_cons_succ,
    Option.some.injEq, exists_eq_left', exists_eq_left, V.int.injEq, V.bl.injEq, V.ref.injEq, V.str.injEq, List.cons.injEq, reduceCtorEq, and_true, true_and, false_and, and_false, exists_false, or_false, false_or, or_true, true_or, exists_const, CMul, CDiv, CPow, and_assoc, exists_and_left, exists_and_right, Int.reducePow, Int.reduceNeg, Int.reduceLT, Int.reduceLE, Nat.reducePow, Nat.reduceLT, Int.reduceToNat, gt_iff_lt, ge_iff_le, decide_eq_true_eq, Bool.not_eq_true', decide_eq_false_iff_not, scal, ↓reduceIte, Bool.false_eq_true]
  exact q
def wholeV : V → Bool
  | .int _ => true
  | _ => false
theorem wholeV_ty {H : Hp} {v : V} {t : String} (h : tyN K H v = some t) : wholeV v = (t == "int") := by
  cases v with
  | ref a =>
    have h1 : tyO (ob K H a) = some t := h
    unfold tyO at h1
    split at h1 <;> first | (cases h1; rfl) | cases h1
  | _ => first | (cases h; rfl) | cases h
def spWhole (K : PySem.W.Frag) : Sp := fun vs H Q _ => ∃ v, vs = [v] ∧ (tyN K H v).isSome ∧ Q (.bl (wholeV v)) H
abbrev sWhole : Stmt := topS 17
theorem scWhole : FnScope ["value"] ["value"] (defScope sWhole) := ⟨rfl, rfl, rfl, by decide +kernel, rfl, by decide +kernel, by decide +kernel⟩
theorem k_Whole (T : Bt K mg) (D : Dfn K mg "is_whole" sWhole ["value"]) : Kn P w K mg base 1 "is_whole" ["value"] (spWhole K) := by
  refine Kn.mk' D scWhole (fun vs H Q E h => ?_) (fun f cdv A outer s H vs Q E hr h => ?_)
  · obtain ⟨v, rfl, _⟩ := h
    rfl
  obtain ⟨v, rfl, hv, q⟩ := h
  refine ⟨_, (pss_one (ps_ret (pe_and (pe_callB call_isN (by rfl) T.b_isinstance (by decide +kernel) (pa_cons (pv 0) (pa_cons (pe_bltn (v := .ty "int") (by rfl) T.b_int (by decide +kernel) rfl) pa_nil))) (pe_one (pe_not (pe_callB call_isN (by rfl) T.b_isinstance (by decide +kernel) (pa_cons (pv 0) (pa_cons (pe_bltn (v := .ty "bool") (by rfl) T.b_bool (by decide +kernel) rfl) pa_nil)))))))), ?_⟩
  obtain ⟨t, ht⟩ := Option.isSome_iff_exists.mp hv
  rw [wholeV_ty ht] at q
  have mt := tyN_mem ht
  simp only [List.mem_cons, List.not_mem_nil, or_false] at mt
  rcases mt with rfl | rfl | rfl | rfl | rfl | rfl | rfl <;> (simp only [ht, cx_K, decide_true, decide_false, reduceCtorEq, gTp, gCons, gNil, ca_0, ca_1, ca_2, ca_3, ca_4, ca_5, ca_6, ca_7, ca_8, ca_9, ca_10, ca_11, ca_12, ca_13, ca_14, ca_15, ca_16, ca_17, ca_18, ca_19, ca_20, ca_21, ca_22, ca_23, ca_24, ca_25, ca_26, ca_27, ca_28, ca_29, ca_30, not_true_eq_false, not_false_eq_true, Int.reduceEq, Nat.reduceEqDiff, Nat.reduceLeDiff, rGcd, V.ty.injEq, eq_self, List.not_mem_nil, beq_self_eq_true, HO.lst.injEq, HO.tup.injEq, tFor_eq, iRng1, iList, iTup, nat10, tSeq, rIxA, rSetA, rIsN, rIsT, tTp, tLs, itsO_tup, itsO_lst, tyO_tup, tyO_lst, tyO_dK, tyN_non, tyN_bl, tyN_int, tyN_str, tyN_ref, tyNs_lt, isB, upd_same, upd_upd, sizeLine_eq, List.mem_cons, String.reduceBEq, String.reduceEq, Bool.or_false, Bool.or_true, Bool.and_false, Bool.false_or, Bool.and_self, Bool.false_and, Bool.not_false, Bool.not_true, List.any_cons, List.any_nil, atI_0, setI_0, atI_1, setI_1, atI_2, setI_2, atI_3, setI_3, atI_4, setI_4, atI_5, setI_5, atI_6, setI_6, tAsg, gName, tOp, tUn, tVar, tC, tCons, L2.tNil, tRet, tIfS, tTest, tCB, tCall, rI, rI0, rU, tNext, tB, tAnd, tOr, tNot, tAndV, tOrV, tNotV, tDrop, tIf, tPar, gSub, rIxL, rIxT, rEq, rNe, rSetL, tBits,
    L2.start, List.map_cons, List.map_nil, List.cons_append, List.nil_append, List.append_nil, List.length_cons, List.length_nil, List.replicate, Nat.reduceAdd, Nat.reduceSub, Nat.zero_add, List.getElem?_cons_zero, List.getElem?_cons_succ, List.set_cons_zero, List.set_cons_succ,
    Option.some.injEq, exists_eq_left', exists_eq_left, V.int.injEq, V.bl.injEq, V.ref.injEq, V.str.injEq, List.cons.injEq, reduceCtorEq, and_true, true_and, false_and, and_false, exists_false, or_false, false_or, or_true, true_or, exists_const, CMul, CDiv, CPow, and_assoc, exists_and_left, exists_and_right, Int.reducePow, Int.reduceNeg, Int.reduceLT, Int.reduceLE, Nat.reducePow, Nat.reduceLT, Int.reduceToNat, gt_iff_lt, ge_iff_le, decide_eq_true_eq, Bool.not_eq_true', decide_eq_false_iff_not, scal, ↓reduceIte, Bool.false_eq_true]; simpa using q)
abbrev sLWhole : Stmt := topS 45
theorem scLWhole : FnScope ["_law_told"] ["_law_told"] (defScope sLWhole) := ⟨rfl, rfl, rfl, by decide +kernel, rfl, by decide +kernel, by decide +kernel⟩
theorem k_LWhole (T : Bt K mg) (D : Dfn K mg "_law_is_whole" sLWhole ["_law_told"]) : Kn P w K mg base 1 "_law_is_whole" ["_law_told"] (spWhole K) := by
  refine Kn.mk' D scLWhole (fun vs H Q E h => ?_) (fun f cdv A outer s H vs Q E hr h => ?_)
  · obtain ⟨v, rfl, _⟩ := h
    rfl
  obtain ⟨v, rfl, hv, q⟩ := h
  refine ⟨_, (pss_one (ps_ret (pe_and (pe_callB call_isN (by rfl) T.b_isinstance (by decide +kernel) (pa_cons (pv 0) (pa_cons (pe_bltn (v := .ty "int") (by rfl) T.b_int (by decide +kernel) rfl) pa_nil))) (pe_one (pe_not (pe_callB call_isN (by rfl) T.b_isinstance (by decide +kernel) (pa_cons (pv 0) (pa_cons (pe_bltn (v := .ty "bool") (by rfl) T.b_bool (by decide +kernel) rfl) pa_nil)))))))), ?_⟩
  obtain ⟨t, ht⟩ := Option.isSome_iff_exists.mp hv
  rw [wholeV_ty ht] at q
  have mt := tyN_mem ht
  simp only [List.mem_cons, List.not_mem_nil, or_false] at mt
  rcases mt with rfl | rfl | rfl | rfl | rfl | rfl | rfl <;> (simp only [ht, cx_K, decide_true, decide_false, reduceCtorEq, gTp, gCons, gNil, ca_0, ca_1, ca_2, ca_3, ca_4, ca_5, ca_6, ca_7, ca_8, ca_9, ca_10, ca_11, ca_12, ca_13, ca_14, ca_15, ca_16, ca_17, ca_18, ca_19, ca_20, ca_21, ca_22, ca_23, ca_24, ca_25, ca_26, ca_27, ca_28, ca_29, ca_30, not_true_eq_false, not_false_eq_true, Int.reduceEq, Nat.reduceEqDiff, Nat.reduceLeDiff, rGcd, V.ty.injEq, eq_self, List.not_mem_nil, beq_self_eq_true, HO.lst.injEq, HO.tup.injEq, tFor_eq, iRng1, iList, iTup, nat10, tSeq, rIxA, rSetA, rIsN, rIsT, tTp, tLs, itsO_tup, itsO_lst, tyO_tup, tyO_lst, tyO_dK, tyN_non, tyN_bl, tyN_int, tyN_str, tyN_ref, tyNs_lt, isB, upd_same, upd_upd, sizeLine_eq, List.mem_cons, String.reduceBEq, String.reduceEq, Bool.or_false, Bool.or_true, Bool.and_false, Bool.false_or, Bool.and_self, Bool.false_and, Bool.not_false, Bool.not_true, List.any_cons, List.any_nil, atI_0, setI_0, atI_1, setI_1, atI_2, setI_2, atI_3, setI_3, atI_4, setI_4, atI_5, setI_5, atI_6, setI_6, tAsg, gName, tOp, tUn, tVar, tC, tCons, L2.tNil, tRet, tIfS, tTest, tCB, tCall, rI, rI0, rU, tNext, tB, tAnd, tOr, tNot, tAndV, tOrV, tNotV, tDrop, tIf, tPar, gSub, rIxL, rIxT, rEq, rNe, rSetL, tBits,
    L2.start, List.map_cons, List.map_nil, List.cons_append, List.nil_append, List.append_nil, List.length_cons, List.length_nil, List.replicate, Nat.reduceAdd, Nat.reduceSub, Nat.zero_add, List.getElem?_cons_zero, List.getElem?_cons_succ, List.set_cons_zero, List.set_cons_succ,
    Option.some.injEq, exists_eq_left', exists_eq_left, V.int.injEq, V.bl.injEq, V.ref.injEq, V.str.injEq, List.cons.injEq, reduceCtorEq, and_true, true_and, false_and, and_false, exists_false, or_false, false_or, or_true, true_or, exists_const, CMul, CDiv, CPow, and_assoc, exists_and_left, exists_and_right, Int.reducePow, Int.reduceNeg, Int.reduceLT, Int.reduceLE, Nat.reducePow, Nat.reduceLT, Int.reduceToNat, gt_iff_lt, ge_iff_le, decide_eq_true_eq, Bool.not_eq_true', decide_eq_false_iff_not, scal, ↓reduceIte, Bool.false_eq_true]; simpa using q)
def spFraction (K : PySem.W.Frag) : Sp := fun vs H Q _ => ∃ n d : Int, vs = [.int n, .int d] ∧ d ≠ 0 ∧ d.natAbs < 2 ^ 8000 ∧ ∀ q, Is q n d → Gv K H Q q
theorem gcdX {n d : Int} (h0 : d ≠ 0) (hz : d.natAbs < 2 ^ 8000) (x : Int) : CDivX x (if d < 0 then -((Int.gcd n d : Nat) : Int) else (Int.gcd n d : Nat)) := by
  have g0 := gcd_pos (t := n) (b := d) h0
  have g1 := gcd_le (t := n) (b := d) h0
  have e : 2 ^ 8000 ≤ 2 ^ 8999 := Nat.pow_le_pow_right (by omega) (by omega)
  unfold CDivX
  split <;> refine ⟨by omega, by omega⟩
abbrev sFraction : Stmt := topS 21
theorem scFraction : FnScope ["numerator", "denominator", "divisor"] ["numerator", "denominator"] (defScope sFraction) := ⟨rfl, rfl, rfl, by decide +kernel, rfl, by decide +kernel, by decide +kernel⟩
theorem k_Fraction (T : Bt K mg) (D : DfnD K mg "fraction" sFraction ["numerator", "denominator"]) (d_require : Kn P w K mg base 1 "require" ["well_formed", "what"] spRequire) (d_is_whole : Kn P w K mg base 1 "is_whole" ["value"] (spWhole K)) : Kn P w K mg base 2 "fraction" ["numerator", "denominator"] (spFraction K) := by
  refine Kn.mkD D scFraction (fun vs H Q E h => ?_) (fun f cdv A outer s H vs Q E hr h => ?_)
  · obtain ⟨n, d, rfl, _⟩ := h
    rfl
  obtain ⟨n, d, rfl, h0, hz, q⟩ := h
  refine ⟨_, (pss_cons (ps_expr (pe_kn d_require hr (by rfl) (pa_cons (pe_kn d_is_whole hr (by rfl) (pa_cons (pv 0) pa_nil)) (pa_cons pe_str pa_nil))))
      (pss_cons (ps_expr (pe_kn d_require hr (by rfl) (pa_cons (pe_and (pe_kn d_is_whole hr (by rfl) (pa_cons (pv 1) pa_nil)) (pe_one (pe_cmpR op_ne (pv 1) pe_int (nomark _)))) (pa_cons pe_str pa_nil))))
      (pss_cons (ps_set (i := 2) scFraction.nd rfl (.inl rfl) (pe_callBfun cr_gcd (by rfl) T.g_gcd (pa_cons (pv 0) (pa_cons (pv 1) pa_nil))))
      (pss_cons (ps_if (pt_cmpR op_lt (pv 1) pe_int (nomark _)) (pss_one (ps_set (i := 2) scFraction.nd rfl (.inl rfl) (pe_un un_neg (pv 2)))) pss_nil)
      (pss_one (ps_ret (pe_tp (pa_cons (pe_op op_fdivX (pv 0) (pv 2)) (pa_cons (pe_op op_fdivX (pv 1) (pv 2)) pa_nil))))))))), ?_⟩
  simp only [cx_K, decide_true, decide_false, reduceCtorEq, gTp, gCons, gNil, ca_0, ca_1, ca_2, ca_3, ca_4, ca_5, ca_6, ca_7, ca_8, ca_9, ca_10, ca_11, ca_12, ca_13, ca_14, ca_15, ca_16, ca_17, ca_18, ca_19, ca_20, ca_21, ca_22, ca_23, ca_24, ca_25, ca_26, ca_27, ca_28, ca_29, ca_30, not_true_eq_false, not_false_eq_true, Int.reduceEq, Nat.reduceEqDiff, Nat.reduceLeDiff, rGcd, V.ty.injEq, eq_self, List.not_mem_nil, beq_self_eq_true, HO.lst.injEq, HO.tup.injEq, tFor_eq, iRng1, iList, iTup, nat10, tSeq, rIxA, rSetA, rIsN, rIsT, tTp, tLs, itsO_tup, itsO_lst, tyO_tup, tyO_lst, tyO_dK, tyN_non, tyN_bl, tyN_int, tyN_str, tyN_ref, tyNs_lt, isB, upd_same, upd_upd, sizeLine_eq, List.mem_cons, String.reduceBEq, String.reduceEq, Bool.or_false, Bool.or_true, Bool.and_false, Bool.false_or, Bool.and_self, Bool.false_and, Bool.not_false, Bool.not_true, List.any_cons, List.any_nil, atI_0, setI_0, atI_1, setI_1, atI_2, setI_2, atI_3, setI_3, atI_4, setI_4, atI_5, setI_5, atI_6, setI_6, tAsg, gName, tOp, tUn, tVar, tC, tCons, L2.tNil, tRet, tIfS, tTest, tCB, tCall, rI, rI0, rU, tNext, tB, tAnd, tOr, tNot, tAndV, tOrV, tNotV, tDrop, tIf, tPar, gSub, rIxL, rIxT, rEq, rNe, rSetL, tBits,
    L2.start, List.map_cons, List.map_nil, List.cons_append, List.nil_append, List.append_nil, List.length_cons, List.length_nil, List.replicate, Nat.reduceAdd, Nat.reduceSub, Nat.zero_add, List.getElem?_cons_zero, List.getElem?_cons_succ, List.set_cons_zero, List.set_cons_succ,
    Option.some.injEq, exists_eq_left', exists_eq_left, V.int.injEq, V.bl.injEq, V.ref.injEq, V.str.injEq, List.cons.injEq, reduceCtorEq, and_true, true_and, false_and, and_false, exists_false, or_false, false_or, or_true, true_or, exists_const, CMul, CDiv, CPow, and_assoc, exists_and_left, exists_and_right, Int.reducePow, Int.reduceNeg, Int.reduceLT, Int.reduceLE, Nat.reducePow, Nat.reduceLT, Int.reduceToNat, gt_iff_lt, ge_iff_le, decide_eq_true_eq, Bool.not_eq_true', decide_eq_false_iff_not, scal, ↓reduceIte, Bool.false_eq_true]
  refine ⟨_, rfl, rfl, ⟨_, rfl, ⟨_, rfl, rfl, ⟨true, rfl, ?_⟩⟩⟩⟩
  rw [if_pos rfl]
  refine ⟨_, by rw [decide_eq_false h0]; rfl, ?_⟩
  simp only [cx_K, decide_true, decide_false, reduceCtorEq, gTp, gCons, gNil, ca_0, ca_1, ca_2, ca_3, ca_4, ca_5, ca_6, ca_7, ca_8, ca_9, ca_10, ca_11, ca_12, ca_13, ca_14, ca_15, ca_16, ca_17, ca_18, ca_19, ca_20, ca_21, ca_22, ca_23, ca_24, ca_25, ca_26, ca_27, ca_28, ca_29, ca_30, not_true_eq_false, not_false_eq_true, Int.reduceEq, Nat.reduceEqDiff, Nat.reduceLeDiff, rGcd, V.ty.injEq, eq_self, List.not_mem_nil, beq_self_eq_true, HO.lst.injEq, HO.tup.injEq, tFor_eq, iRng1, iList, iTup, nat10, tSeq, rIxA, rSetA, rIsN, rIsT, tTp, tLs, itsO_tup, itsO_lst, tyO_tup, tyO_lst, tyO_dK, tyN_non, tyN_bl, tyN_int, tyN_str, tyN_ref, tyNs_lt, isB, upd_same, upd_upd, sizeLine_eq, List.mem_cons, String.reduceBEq, String.reduceEq, Bool.or_false, Bool.or_true, Bool.and_false, Bool.false_or, Bool.and_self, Bool.false_and, Bool.not_false, Bool.not_true, List.any_cons, List.any_nil, atI_0, setI_0, atI_1, setI_1, atI_2, setI_2, atI_3, setI_3, atI_4, setI_4, atI_5, setI_5, atI_6, setI_6, tAsg, gName, tOp, tUn, tVar, tC, tCons, L2.tNil, tRet, tIfS, tTest, tCB, tCall, rI, rI0, rU, tNext, tB, tAnd, tOr, tNot, tAndV, tOrV, tNotV, tDrop, tIf, tPar, gSub, rIxL, rIxT, rEq, rNe, rSetL, tBits,
    L2.start, List.map_cons, List.map_nil, List.cons_append, List.nil_append, List.append_nil, List.length_cons, List.length_nil, List.replicate, Nat.reduceAdd, Nat.reduceSub, Nat.zero_add, List.getElem?_cons_zero, List.getElem?_cons_succ, List.set_cons_zero, List.set_cons_succ,
    Option.some.injEq, exists_eq_left', exists_eq_left, V.int.injEq, V.bl.injEq, V.ref.injEq, V.str.injEq, List.cons.injEq, reduceCtorEq, and_true, true_and, false_and, and_false, exists_false, or_false, false_or, or_true, true_or, exists_const, CMul, CDiv, CPow, and_assoc, exists_and_left, exists_and_right, Int.reducePow, Int.reduceNeg, Int.reduceLT, Int.reduceLE, Nat.reducePow, Nat.reduceLT, Int.reduceToNat, gt_iff_lt, ge_iff_le, decide_eq_true_eq, Bool.not_eq_true', decide_eq_false_iff_not, scal, ↓reduceIte, Bool.false_eq_true]
  have k := gcdX (n := n) h0 hz
  have v := is_fdiv (t := n) h0
  refine ite2 (fun h => ?_) (fun h => ?_)
  · rw [if_pos h] at v
    simp only [if_pos h] at k
    exact ⟨k _, k _, fun p hp kp => (q _ v).new hp kp⟩
  · rw [if_neg h] at v
    simp only [if_neg h] at k
    exact ⟨k _, k _, fun p hp kp => (q _ v).new hp kp⟩
def frOk (K : PySem.W.Frag) (H : Hp) : V → Bool
  | .ref a => match ob K H a with
    | some (.tup [.int n, .int d]) => decide (1 ≤ d) && decide (Int.gcd n d = 1)
    | _ => false
  | _ => false
theorem frOk_fr {H : Hp} {a : Addr} {q : Qt} (h : ob K H a = some (frt q)) (hn : Nf q) : frOk K H (.ref a) = true := by
  simp only [frOk, h, frt]
  show (decide (1 ≤ q.2) && decide (Int.gcd q.1 q.2 = 1)) = true
  rw [decide_eq_true hn.1, decide_eq_true hn.2]
  rfl
/-- v and, if it is a tuple, its items are of known kinds -/
def Tyd (K : PySem.W.Frag) (H : Hp) (v : V) : Prop := (tyN K H v).isSome ∧ ∀ a xs, v = .ref a → ob K H a = some (.tup xs) → ∀ x ∈ xs, (tyN K H x).isSome
theorem Tyd.fr {H : Hp} {a : Addr} {q : Qt} (h : ob K H a = some (frt q)) : Tyd K H (.ref a) := by
  refine ⟨by rw [tyN_ref, h]; rfl, fun b xs e hx x hm => ?_⟩
  cases e
  rw [h] at hx
  cases hx
  simp only [List.mem_cons, List.not_mem_nil, or_false] at hm
  rcases hm with rfl | rfl <;> rfl
theorem tyN_tuple {H : Hp} {v : V} (h : tyN K H v = some "tuple") : ∃ a xs, v = .ref a ∧ ob K H a = some (.tup xs) := by
  cases v with
  | ref a =>
    have h1 : tyO (ob K H a) = some "tuple" := h
    unfold tyO at h1
    split at h1 <;> first | exact ⟨a, _, rfl, by assumption⟩ | (exfalso; revert h1; decide)
  | _ => exfalso; revert h; simp only [tyN]; decide
def spIsFraction (K : PySem.W.Frag) : Sp := fun vs H Q _ => ∃ v, vs = [v] ∧ Tyd K H v ∧ Q (.bl (frOk K H v)) H
abbrev sIsFraction : Stmt := topS 22
theorem scIsFraction : FnScope ["value", "numerator", "denominator"] ["value"] (defScope sIsFraction) := ⟨rfl, rfl, rfl, by decide +kernel, rfl, by decide +kernel, by decide +kernel⟩
theorem k_IsFraction (T : Bt K mg) (D : Dfn K mg "is_fraction" sIsFraction ["value"]) (d_is_whole : Kn P w K mg base 1 "is_whole" ["value"] (spWhole K)) : Kn P w K mg base 2 "is_fraction" ["value"] (spIsFraction K) := by
  refine Kn.mk' D scIsFraction (fun vs H Q E h => ?_) (fun f cdv A outer s H vs Q E hr h => ?_)
  · obtain ⟨v, rfl, _⟩ := h
    rfl
  obtain ⟨v, rfl, hv, q⟩ := h
  refine ⟨_, (pss_cons (ps_if (PW.pt (pw_or (pt_not (pt_val (pe_callB call_isN (by rfl) T.b_isinstance (by decide +kernel) (pa_cons (pv 0) (pa_cons (pe_bltn (v := .ty "tuple") (by rfl) T.b_tuple (by decide +kernel) rfl) pa_nil))))) (pw_or1 (pt_cmpR op_ne (pe_callB call_lenA (by rfl) T.b_len PySem.boot_len (pa_cons (pv 0) pa_nil)) pe_int (nomark _))))) (pss_one (ps_ret pe_bl)) pss_nil)
      (pss_cons (ps_asg (pv 0) (pg_tp 2 (by rfl) (pgs_cons (pg_name (i := 1) scIsFraction.nd rfl (.inl rfl)) (pgs_cons (pg_name (i := 2) scIsFraction.nd rfl (.inl rfl)) pgs_nil))))
      (pss_cons (ps_if (PW.pt (pw_or (pt_not (pt_val (pe_kn d_is_whole hr (by rfl) (pa_cons (pv 1) pa_nil)))) (pw_or1 (pt_not (pt_val (pe_kn d_is_whole hr (by rfl) (pa_cons (pv 2) pa_nil))))))) (pss_one (ps_ret pe_bl)) pss_nil)
      (pss_one (ps_ret (pe_and (pe_cmpR op_ge (pv 2) pe_int (nomark _)) (pe_one (pe_cmpR op_eq (pe_callBfun cr_gcd (by rfl) T.g_gcd (pa_cons (pv 1) (pa_cons (pv 2) pa_nil))) pe_int (nomark _))))))))), ?_⟩
  obtain ⟨t, ht⟩ := Option.isSome_iff_exists.mp hv.1
  by_cases e : t = "tuple"
  · subst e
    obtain ⟨a, xs, rfl, ha⟩ := tyN_tuple ht
    have hx := hv.2 a xs rfl ha
    match xs, ha, hx with
    | [], ha, hx =>
      have e : frOk K H (.ref a) = false := by simp only [frOk, ha]
      rw [e] at q
      simp only [ha, cx_K, decide_true, decide_false, reduceCtorEq, gTp, gCons, gNil, ca_0, ca_1, ca_2, ca_3, ca_4, ca_5, ca_6, ca_7, ca_8, ca_9, ca_10, ca_11, ca_12, ca_13, ca_14, ca_15, ca_16, ca_17, ca_18, ca_19, ca_20, ca_21, ca_22, ca_23, ca_24, ca_25, ca_26, ca_27, ca_28, ca_29, ca_30, not_true_eq_false, not_false_eq_true, Int.reduceEq, Nat.reduceEqDiff, Nat.reduceLeDiff, rGcd, V.ty.injEq, eq_self, List.not_mem_nil, beq_self_eq_true, HO.lst.injEq, HO.tup.injEq, tFor_eq, iRng1, iList, iTup, nat10, tSeq, rIxA, rSetA, rIsN, rIsT, tTp, tLs, itsO_tup, itsO_lst, tyO_tup, tyO_lst, tyO_dK, tyN_non, tyN_bl, tyN_int, tyN_str, tyN_ref, tyNs_lt, isB, upd_same, upd_upd, sizeLine_eq, List.mem_cons, String.reduceBEq, String.reduceEq, Bool.or_false, Bool.or_true, Bool.and_false, Bool.false_or, Bool.and_self, Bool.false_and, Bool.not_false, Bool.not_true, List.any_cons, List.any_nil, atI_0, setI_0, atI_1, setI_1, atI_2, setI_2, atI_3, setI_3, atI_4, setI_4, atI_5, setI_5, atI_6, setI_6, tAsg, gName, tOp, tUn, tVar, tC, tCons, L2.tNil, tRet, tIfS, tTest, tCB, tCall, rI, rI0, rU, tNext, tB, tAnd, tOr, tNot, tAndV, tOrV, tNotV, tDrop, tIf, tPar, gSub, rIxL, rIxT, rEq, rNe, rSetL, tBits,
    L2.start, List.map_cons, List.map_nil, List.cons_append, List.nil_append, List.append_nil, List.length_cons, List.length_nil, List.replicate, Nat.reduceAdd, Nat.reduceSub, Nat.zero_add, List.getElem?_cons_zero, List.getElem?_cons_succ, List.set_cons_zero, List.set_cons_succ,
    Option.some.injEq, exists_eq_left', exists_eq_left, V.int.injEq, V.bl.injEq, V.ref.injEq, V.str.injEq, List.cons.injEq, reduceCtorEq, and_true, true_and, false_and, and_false, exists_false, or_false, false_or, or_true, true_or, exists_const, CMul, CDiv, CPow, and_assoc, exists_and_left, exists_and_right, Int.reducePow, Int.reduceNeg, Int.reduceLT, Int.reduceLE, Nat.reducePow, Nat.reduceLT, Int.reduceToNat, gt_iff_lt, ge_iff_le, decide_eq_true_eq, Bool.not_eq_true', decide_eq_false_iff_not, scal, ↓reduceIte, Bool.false_eq_true]
      exact q
    | [x], ha, hx =>
      have e : frOk K H (.ref a) = false := by simp only [frOk, ha]
      rw [e] at q
      simp only [ha, cx_K, decide_true, decide_false, reduceCtorEq, gTp, gCons, gNil, ca_0, ca_1, ca_2, ca_3, ca_4, ca_5, ca_6, ca_7, ca_8, ca_9, ca_10, ca_11, ca_12, ca_13, ca_14, ca_15, ca_16, ca_17, ca_18, ca_19, ca_20, ca_21, ca_22, ca_23, ca_24, ca_25, ca_26, ca_27, ca_28, ca_29, ca_30, not_true_eq_false, not_false_eq_true, Int.reduceEq, Nat.reduceEqDiff, Nat.reduceLeDiff, rGcd, V.ty.injEq, eq_self, List.not_mem_nil, beq_self_eq_true, HO.lst.injEq, HO.tup.injEq, tFor_eq, iRng1, iList, iTup, nat10, tSeq, rIxA, rSetA, rIsN, rIsT, tTp, tLs, itsO_tup, itsO_lst, tyO_tup, tyO_lst, tyO_dK, tyN_non, tyN_bl, tyN_int, tyN_str, tyN_ref, tyNs_lt, isB, upd_same, upd_upd, sizeLine_eq, List.mem_cons, String.reduceBEq, String.reduceEq, Bool.or_false, Bool.or_true, Bool.and_false, Bool.false_or, Bool.and_self, Bool.false_and, Bool.not_false, Bool.not_true, List.any_cons, List.any_nil, atI_0, setI_0, atI_1, setI_1, atI_2, setI_2, atI_3, setI_3, atI_4, setI_4, atI_5, setI_5, atI_6, setI_6, tAsg, gName, tOp, tUn, tVar, tC, tCons, L2.tNil, tRet, tIfS, tTest, tCB, tCall, rI, rI0, rU, tNext, tB, tAnd, tOr, tNot, tAndV, tOrV, tNotV, tDrop, tIf, tPar, gSub, rIxL, rIxT, rEq, rNe, rSetL, tBits,
    L2.start, List.map_cons, List.map_nil, List.cons_append, List.nil_append, List.append_nil, List.length_cons, List.length_nil, List.replicate, Nat.reduceAdd, Nat.reduceSub, Nat.zero_add, List.getElem?_cons_zero, List.getElem?_cons_succ, List.set_cons_zero, List.set_cons_succ,
    Option.some.injEq, exists_eq_left', exists_eq_left, V.int.injEq, V.bl.injEq, V.ref.injEq, V.str.injEq, List.cons.injEq, reduceCtorEq, and_true, true_and, false_and, and_false, exists_false, or_false, false_or, or_true, true_or, exists_const, CMul, CDiv, CPow, and_assoc, exists_and_left, exists_and_right, Int.reducePow, Int.reduceNeg, Int.reduceLT, Int.reduceLE, Nat.reducePow, Nat.reduceLT, Int.reduceToNat, gt_iff_lt, ge_iff_le, decide_eq_true_eq, Bool.not_eq_true', decide_eq_false_iff_not, scal, ↓reduceIte, Bool.false_eq_true]
      exact q
    | [x, y], ha, hx =>
      have hx1 := hx x (by simp)
      have hx2 := hx y (by simp)
      simp only [ha, cx_K, decide_true, decide_false, reduceCtorEq, gTp, gCons, gNil, ca_0, ca_1, ca_2, ca_3, ca_4, ca_5, ca_6, ca_7, ca_8, ca_9, ca_10, ca_11, ca_12, ca_13, ca_14, ca_15, ca_16, ca_17, ca_18, ca_19, ca_20, ca_21, ca_22, ca_23, ca_24, ca_25, ca_26, ca_27, ca_28, ca_29, ca_30, not_true_eq_false, not_false_eq_true, Int.reduceEq, Nat.reduceEqDiff, Nat.reduceLeDiff, rGcd, V.ty.injEq, eq_self, List.not_mem_nil, beq_self_eq_true, HO.lst.injEq, HO.tup.injEq, tFor_eq, iRng1, iList, iTup, nat10, tSeq, rIxA, rSetA, rIsN, rIsT, tTp, tLs, itsO_tup, itsO_lst, tyO_tup, tyO_lst, tyO_dK, tyN_non, tyN_bl, tyN_int, tyN_str, tyN_ref, tyNs_lt, isB, upd_same, upd_upd, sizeLine_eq, List.mem_cons, String.reduceBEq, String.reduceEq, Bool.or_false, Bool.or_true, Bool.and_false, Bool.false_or, Bool.and_self, Bool.false_and, Bool.not_false, Bool.not_true, List.any_cons, List.any_nil, atI_0, setI_0, atI_1, setI_1, atI_2, setI_2, atI_3, setI_3, atI_4, setI_4, atI_5, setI_5, atI_6, setI_6, tAsg, gName, tOp, tUn, tVar, tC, tCons, L2.tNil, tRet, tIfS, tTest, tCB, tCall, rI, rI0, rU, tNext, tB, tAnd, tOr, tNot, tAndV, tOrV, tNotV, tDrop, tIf, tPar, gSub, rIxL, rIxT, rEq, rNe, rSetL, tBits,
    L2.start, List.map_cons, List.map_nil, List.cons_append, List.nil_append, List.append_nil, List.length_cons, List.length_nil, List.replicate, Nat.reduceAdd, Nat.reduceSub, Nat.zero_add, List.getElem?_cons_zero, List.getElem?_cons_succ, List.set_cons_zero, List.set_cons_succ,
    Option.some.injEq, exists_eq_left', exists_eq_left, V.int.injEq, V.bl.injEq, V.ref.injEq, V.str.injEq, List.cons.injEq, reduceCtorEq, and_true, true_and, false_and, and_false, exists_false, or_false, false_or, or_true, true_or, exists_const, CMul, CDiv, CPow, and_assoc, exists_and_left, exists_and_right, Int.reducePow, Int.reduceNeg, Int.reduceLT, Int.reduceLE, Nat.reducePow, Nat.reduceLT, Int.reduceToNat, gt_iff_lt, ge_iff_le, decide_eq_true_eq, Bool.not_eq_true', decide_eq_false_iff_not, scal, ↓reduceIte, Bool.false_eq_true]
      refine ⟨_, rfl, hx1, ?_⟩
      cases x with
      | int n =>
        refine ⟨true, rfl, ?_⟩
        rw [if_neg Bool.noConfusion]
        refine ⟨_, rfl, hx2, ?_⟩
        cases y with
        | int d =>
          refine ⟨true, rfl, ?_⟩
          rw [if_neg Bool.noConfusion]
          simp only [ha, cx_K, decide_true, decide_false, reduceCtorEq, gTp, gCons, gNil, ca_0, ca_1, ca_2, ca_3, ca_4, ca_5, ca_6, ca_7, ca_8, ca_9, ca_10, ca_11, ca_12, ca_13, ca_14, ca_15, ca_16, ca_17, ca_18, ca_19, ca_20, ca_21, ca_22, ca_23, ca_24, ca_25, ca_26, ca_27, ca_28, ca_29, ca_30, not_true_eq_false, not_false_eq_true, Int.reduceEq, Nat.reduceEqDiff, Nat.reduceLeDiff, rGcd, V.ty.injEq, eq_self, List.not_mem_nil, beq_self_eq_true, HO.lst.injEq, HO.tup.injEq, tFor_eq, iRng1, iList, iTup, nat10, tSeq, rIxA, rSetA, rIsN, rIsT, tTp, tLs, itsO_tup, itsO_lst, tyO_tup, tyO_lst, tyO_dK, tyN_non, tyN_bl, tyN_int, tyN_str, tyN_ref, tyNs_lt, isB, upd_same, upd_upd, sizeLine_eq, List.mem_cons, String.reduceBEq, String.reduceEq, Bool.or_false, Bool.or_true, Bool.and_false, Bool.false_or, Bool.and_self, Bool.false_and, Bool.not_false, Bool.not_true, List.any_cons, List.any_nil, atI_0, setI_0, atI_1, setI_1, atI_2, setI_2, atI_3, setI_3, atI_4, setI_4, atI_5, setI_5, atI_6, setI_6, tAsg, gName, tOp, tUn, tVar, tC, tCons, L2.tNil, tRet, tIfS, tTest, tCB, tCall, rI, rI0, rU, tNext, tB, tAnd, tOr, tNot, tAndV, tOrV, tNotV, tDrop, tIf, tPar, gSub, rIxL, rIxT, rEq, rNe, rSetL, tBits,
    L2.start, List.map_cons, List.map_nil, List.cons_append, List.nil_append, List.append_nil, List.length_cons, List.length_nil, List.replicate, Nat.reduceAdd, Nat.reduceSub, Nat.zero_add, List.getElem?_cons_zero, List.getElem?_cons_succ, List.set_cons_zero, List.set_cons_succ,
    Option.some.injEq, exists_eq_left', exists_eq_left, V.int.injEq, V.bl.injEq, V.ref.injEq, V.str.injEq, List.cons.injEq, reduceCtorEq, and_true, true_and, false_and, and_false, exists_false, or_false, false_or, or_true, true_or, exists_const, CMul, CDiv, CPow, and_assoc, exists_and_left, exists_and_right, Int.reducePow, Int.reduceNeg, Int.reduceLT, Int.reduceLE, Nat.reducePow, Nat.reduceLT, Int.reduceToNat, gt_iff_lt, ge_iff_le, decide_eq_true_eq, Bool.not_eq_true', decide_eq_false_iff_not, scal, ↓reduceIte, Bool.false_eq_true]
          refine ite2 (fun h => ?_) (fun h => ?_)
          · have e : frOk K H (.ref a) = decide (((n.natAbs.gcd d.natAbs : Nat) : Int) = 1) := by
              simp only [frOk, ha]
              rw [decide_eq_true h, Bool.true_and]
              show decide (Nat.gcd n.natAbs d.natAbs = 1) = _
              exact decide_eq_decide.mpr (by omega)
            rw [e] at q
            exact q
          · have e : frOk K H (.ref a) = false := by
              simp only [frOk, ha]
              rw [decide_eq_false h, Bool.false_and]
            rw [e] at q
            exact q
        | _ =>
          refine ⟨false, rfl, ?_⟩
          rw [if_pos rfl]
          have e : frOk K H (.ref a) = false := by simp only [frOk, ha]
          rw [e] at q
          exact q
      | _ =>
        refine ⟨false, rfl, ?_⟩
        rw [if_pos rfl]
        have e : frOk K H (.ref a) = false := by simp only [frOk, ha]
        rw [e] at q
        exact q
    | x :: y :: z :: r, ha, hx =>
      have e : frOk K H (.ref a) = false := by simp only [frOk, ha]
      rw [e] at q
      simp only [ha, cx_K, decide_true, decide_false, reduceCtorEq, gTp, gCons, gNil, ca_0, ca_1, ca_2, ca_3, ca_4, ca_5, ca_6, ca_7, ca_8, ca_9, ca_10, ca_11, ca_12, ca_13, ca_14, ca_15, ca_16, ca_17, ca_18, ca_19, ca_20, ca_21, ca_22, ca_23, ca_24, ca_25, ca_26, ca_27, ca_28, ca_29, ca_30, not_true_eq_false, not_false_eq_true, Int.reduceEq, Nat.reduceEqDiff, Nat.reduceLeDiff, rGcd, V.ty.injEq, eq_self, List.not_mem_nil, beq_self_eq_true, HO.lst.injEq, HO.tup.injEq, tFor_eq, iRng1, iList, iTup, nat10, tSeq, rIxA, rSetA, rIsN, rIsT, tTp, tLs, itsO_tup, itsO_lst, tyO_tup, tyO_lst, tyO_dK, tyN_non, tyN_bl, tyN_int, tyN_str, tyN_ref, tyNs_lt, isB, upd_same, upd_upd, sizeLine_eq, List.mem_cons, String.reduceBEq, String.reduceEq, Bool.or_false, Bool.or_true, Bool.and_false, Bool.false_or, Bool.and_self, Bool.false_and, Bool.not_false, Bool.not_true, List.any_cons, List.any_nil, atI_0, setI_0, atI_1, setI_1, atI_2, setI_2, atI_3, setI_3, atI_4, setI_4, atI_5, setI_5, atI_6, setI_6, tAsg, gName, tOp, tUn, tVar, tC, tCons, L2.tNil, tRet, tIfS, tTest, tCB, tCall, rI, rI0, rU, tNext, tB, tAnd, tOr, tNot, tAndV, tOrV, tNotV, tDrop, tIf, tPar, gSub, rIxL, rIxT, rEq, rNe, rSetL, tBits,
    L2.start, List.map_cons, List.map_nil, List.cons_append, List.nil_append, List.append_nil, List.length_cons, List.length_nil, List.replicate, Nat.reduceAdd, Nat.reduceSub, Nat.zero_add, List.getElem?_cons_zero, List.getElem?_cons_succ, List.set_cons_zero, List.set_cons_succ,
    Option.some.injEq, exists_eq_left', exists_eq_left, V.int.injEq, V.bl.injEq, V.ref.injEq, V.str.injEq, List.cons.injEq, reduceCtorEq, and_true, true_and, false_and, and_false, exists_false, or_false, false_or, or_true, true_or, exists_const, CMul, CDiv, CPow, and_assoc, exists_and_left, exists_and_right, Int.reducePow, Int.reduceNeg, Int.reduceLT, Int.reduceLE, Nat.reducePow, Nat.reduceLT, Int.reduceToNat, gt_iff_lt, ge_iff_le, decide_eq_true_eq, Bool.not_eq_true', decide_eq_false_iff_not, scal, ↓reduceIte, Bool.false_eq_true]
      refine ite2 (fun h => q) (fun h => ?_)
      exfalso
      omega
  · have e1 : frOk K H v = false := by
      cases v with
      | ref a =>
        have h1 : tyO (ob K H a) = some t := ht
        cases hz : ob K H a with
        | none => simp only [frOk, hz]
        | some z =>
          cases z with
          | tup xs =>
            rw [hz] at h1
            exact absurd (Option.some.inj h1).symm e
          | _ => simp only [frOk, hz]
      | _ => rfl
    rw [e1] at q
    have mt := tyN_mem ht
    simp only [List.mem_cons, List.not_mem_nil, or_false] at mt
    rcases mt with rfl | rfl | rfl | rfl | rfl | rfl | rfl <;> first | exact absurd rfl e | (simp only [ht, cx_K, decide_true, decide_false, reduceCtorEq, gTp, gCons, gNil, ca_0, ca_1, ca_2, ca_3, ca_4, ca_5, ca_6, ca_7, ca_8, ca_9, ca_10, ca_11, ca_12, ca_13, ca_14, ca_15, ca_16, ca_17, ca_18, ca_19, ca_20, ca_21, ca_22, ca_23, ca_24, ca_25, ca_26, ca_27, ca_28, ca_29, ca_30, not_true_eq_false, not_false_eq_true, Int.reduceEq, Nat.reduceEqDiff, Nat.reduceLeDiff, rGcd, V.ty.injEq, eq_self, List.not_mem_nil, beq_self_eq_true, HO.lst.injEq, HO.tup.injEq, tFor_eq, iRng1, iList, iTup, nat10, tSeq, rIxA, rSetA, rIsN, rIsT, tTp, tLs, itsO_tup, itsO_lst, tyO_tup, tyO_lst, tyO_dK, tyN_non, tyN_bl, tyN_int, tyN_str, tyN_ref, tyNs_lt, isB, upd_same, upd_upd, sizeLine_eq, List.mem_cons, String.reduceBEq, String.reduceEq, Bool.or_false, Bool.or_true, Bool.and_false, Bool.false_or, Bool.and_self, Bool.false_and, Bool.not_false, Bool.not_true, List.any_cons, List.any_nil, atI_0, setI_0, atI_1, setI_1, atI_2, setI_2, atI_3, setI_3, atI_4, setI_4, atI_5, setI_5, atI_6, setI_6, tAsg, gName, tOp, tUn, tVar, tC, tCons, L2.tNil, tRet, tIfS, tTest, tCB, tCall, rI, rI0, rU, tNext, tB, tAnd, tOr, tNot, tAndV, tOrV, tNotV, tDrop, tIf, tPar, gSub, rIxL, rIxT, rEq, rNe, rSetL, tBits,
    L2.start, List.map_cons, List.map_nil, List.cons_append, List.nil_append, List.append_nil, List.length_cons, List.length_nil, List.replicate, Nat.reduceAdd, Nat.reduceSub, Nat.zero_add, List.getElem?_cons_zero, List.getElem?_cons_succ, List.set_cons_zero, List.set_cons_succ,
    Option.some.injEq, exists_eq_left', exists_eq_left, V.int.injEq, V.bl.injEq, V.ref.injEq, V.str.injEq, List.cons.injEq, reduceCtorEq, and_true, true_and, false_and, and_false, exists_false, or_false, false_or, or_true, true_or, exists_const, CMul, CDiv, CPow, and_assoc, exists_and_left, exists_and_right, Int.reducePow, Int.reduceNeg, Int.reduceLT, Int.reduceLE, Nat.reducePow, Nat.reduceLT, Int.reduceToNat, gt_iff_lt, ge_iff_le, decide_eq_true_eq, Bool.not_eq_true', decide_eq_false_iff_not, scal, ↓reduceIte, Bool.false_eq_true]; exact q)
end
end My

namespace My
open PySem PySem.Spec PyProof.Rows L2
section
variable {P : Program} {w : World} {K : PySem.W.Frag} {mg : Str → Option Value} {base : Heap}
theorem nf_part {q : Qt} (h : Nf q) : Nf (q.1 % q.2, q.2) := by
  refine ⟨h.1, ?_⟩
  show Int.gcd (q.1 % q.2) q.2 = 1
  have e : q.1 % q.2 = q.1 + (-(q.1 / q.2)) * q.2 := by
    have := Int.emod_add_mul_ediv q.1 q.2
    rw [Int.neg_mul, Int.mul_comm]
    omega
  rw [e, Int.gcd_add_mul_right_left]
  exact h.2
theorem nf_abs {q : Qt} (h : Nf q) : Nf ((q.1.natAbs : Int), q.2) := ⟨h.1, by
  show Int.gcd (q.1.natAbs : Int) q.2 = 1
  rw [← h.2]
  rfl⟩
theorem nf_neg {q : Qt} (h : Nf q) : Nf (-q.1, q.2) := ⟨h.1, by
  show Int.gcd (-q.1) q.2 = 1
  rw [Int.neg_gcd]
  exact h.2⟩
def off (q : Qt) : Qt := (if q.2 < 2 * (q.1 % q.2) then q.1 % q.2 - q.2 else q.1 % q.2, q.2)
theorem nf_off {q : Qt} (h : Nf q) : Nf (off q) := by
  have k := nf_part h
  unfold off
  split
  · refine ⟨h.1, ?_⟩
    show Int.gcd (q.1 % q.2 - q.2) q.2 = 1
    rw [show q.1 % q.2 - q.2 = q.1 % q.2 + (-1) * q.2 by omega, Int.gcd_add_mul_right_left]
    exact k.2
  · exact k
theorem is_self {q : Qt} (h : Nf q) : Is q q.1 q.2 := ⟨h, rfl⟩
def sum2 (p q : Qt) (z : Qt) : Prop := Is z (p.1 * q.2 + q.1 * p.2) (p.2 * q.2)
theorem Nf.ne {q : Qt} (h : Nf q) : q.2 ≠ 0 := by have := h.1; omega
theorem mul_ne {a b : Int} (h1 : 1 ≤ a) (h2 : 1 ≤ b) : a * b ≠ 0 := Int.mul_ne_zero (by omega) (by omega)
theorem szPart {q : Qt} {k : Nat} (h : Nf q) (hz : Sz k q) : Sz k (q.1 % q.2, q.2) := by
  refine ⟨?_, hz.2⟩
  have h1 := Int.emod_nonneg q.1 h.ne
  have h2 := Int.emod_lt_of_pos q.1 (show 0 < q.2 by have := h.1; omega)
  have := hz.2
  show (q.1 % q.2).natAbs < 2 ^ k
  omega
theorem szOff {q : Qt} {k : Nat} (h : Nf q) (hz : Sz k q) : Sz k (off q) := by
  have h1 := Int.emod_nonneg q.1 h.ne
  have h2 := Int.emod_lt_of_pos q.1 (show 0 < q.2 by have := h.1; omega)
  have h3 := hz.2
  have h4 := h.1
  unfold off
  refine ⟨?_, h3⟩
  show (if q.2 < 2 * (q.1 % q.2) then q.1 % q.2 - q.2 else q.1 % q.2).natAbs < 2 ^ k
  split <;> omega
/-- a fraction at a, in lowest terms, of a bounded size -/
structure Fq (K : PySem.W.Frag) (H : Hp) (k : Nat) (a : Addr) (q : Qt) : Prop where
  o : ob K H a = some (.tup [.int q.1, .int q.2])
  nf : Nf q
  sz : Sz k q
theorem Fq.same {H H' : Hp} {k : Nat} {a : Addr} {q : Qt} (h : Fq K H k a q) (s : Same H H') : Fq K H' k a q := ⟨ob_same s h.o, h.nf, h.sz⟩
theorem Fq.kp {H H' : Hp} {k : Nat} {a s : Addr} {q : Qt} {ys : List V} (h : Fq K H k a q) (e : Kp s H H') (hs : H s = some (.lst ys)) : Fq K H' k a q := ⟨ob_kp e hs (fun _ z => by cases z) h.o, h.nf, h.sz⟩
theorem Fq.mono {H : Hp} {j k : Nat} {a : Addr} {q : Qt} (h : Fq K H j a q) (l : j ≤ k) : Fq K H k a q := ⟨h.o, h.nf, h.sz.mono l⟩
def spBin (K : PySem.W.Frag) (R : Qt → Qt → Qt → Prop) : Sp := fun vs H Q _ => ∃ (a b : Addr) (p q : Qt), vs = [.ref a, .ref b] ∧ Fq K H 3000 a p ∧ Fq K H 3000 b q ∧ ∀ z, R p q z → Gv K H Q z
def spUn (K : PySem.W.Frag) (g : Qt → Qt) : Sp := fun vs H Q _ => ∃ (a : Addr) (q : Qt), vs = [.ref a] ∧ Fq K H 8000 a q ∧ Gv K H Q (g q)
def spFloor (K : PySem.W.Frag) : Sp := fun vs H Q _ => ∃ (a : Addr) (q : Qt), vs = [.ref a] ∧ Fq K H 8000 a q ∧ Q (.int (q.1 / q.2)) H
abbrev sPlus : Stmt := topS 24
theorem scPlus : FnScope ["left", "right"] ["left", "right"] (defScope sPlus) := ⟨rfl, rfl, rfl, by decide +kernel, rfl, by decide +kernel, by decide +kernel⟩
theorem k_Plus (T : Bt K mg) (D : Dfn K mg "plus" sPlus ["left", "right"]) (d_require : Kn P w K mg base 1 "require" ["well_formed", "what"] spRequire) (d_is_fraction : Kn P w K mg base 2 "is_fraction" ["value"] (spIsFraction K)) (d_fraction : Kn P w K mg base 2 "fraction" ["numerator", "denominator"] (spFraction K)) : Kn P w K mg base 3 "plus" ["left", "right"] (spBin K sum2) := by
  refine Kn.mk' D scPlus (fun vs H Q E h => ?_) (fun f cdv A outer s H vs Q E hr h => ?_)
  · obtain ⟨a, b, p, q, rfl, _⟩ := h
    rfl
  obtain ⟨a, b, p, q, rfl, hp, hq, k⟩ := h
  refine ⟨_, (pss_cons (ps_expr (pe_kn d_require hr (by rfl) (pa_cons (pe_kn d_is_fraction hr (by rfl) (pa_cons (pv 0) pa_nil)) (pa_cons pe_str pa_nil))))
      (pss_cons (ps_expr (pe_kn d_require hr (by rfl) (pa_cons (pe_kn d_is_fraction hr (by rfl) (pa_cons (pv 1) pa_nil)) (pa_cons pe_str pa_nil))))
      (pss_one (ps_ret (pe_kn d_fraction hr (by rfl) (pa_cons (pe_op op_add (pe_op op_mulW (pe_ix ix_any (pv 0) pe_int (fun _ _ => rfl)) (pe_ix ix_any (pv 1) pe_int (fun _ _ => rfl))) (pe_op op_mulW (pe_ix ix_any (pv 1) pe_int (fun _ _ => rfl)) (pe_ix ix_any (pv 0) pe_int (fun _ _ => rfl)))) (pa_cons (pe_op op_mulW (pe_ix ix_any (pv 0) pe_int (fun _ _ => rfl)) (pe_ix ix_any (pv 1) pe_int (fun _ _ => rfl))) pa_nil))))))), ?_⟩
  simp only [cx_K, decide_true, decide_false, reduceCtorEq, gTp, gCons, gNil, ca_0, ca_1, ca_2, ca_3, ca_4, ca_5, ca_6, ca_7, ca_8, ca_9, ca_10, ca_11, ca_12, ca_13, ca_14, ca_15, ca_16, ca_17, ca_18, ca_19, ca_20, ca_21, ca_22, ca_23, ca_24, ca_25, ca_26, ca_27, ca_28, ca_29, ca_30, not_true_eq_false, not_false_eq_true, Int.reduceEq, Nat.reduceEqDiff, Nat.reduceLeDiff, rGcd, V.ty.injEq, eq_self, List.not_mem_nil, beq_self_eq_true, HO.lst.injEq, HO.tup.injEq, tFor_eq, iRng1, iList, iTup, nat10, tSeq, rIxA, rSetA, rIsN, rIsT, tTp, tLs, itsO_tup, itsO_lst, tyO_tup, tyO_lst, tyO_dK, tyN_non, tyN_bl, tyN_int, tyN_str, tyN_ref, tyNs_lt, isB, upd_same, upd_upd, sizeLine_eq, List.mem_cons, String.reduceBEq, String.reduceEq, Bool.or_false, Bool.or_true, Bool.and_false, Bool.false_or, Bool.and_self, Bool.false_and, Bool.not_false, Bool.not_true, List.any_cons, List.any_nil, atI_0, setI_0, atI_1, setI_1, atI_2, setI_2, atI_3, setI_3, atI_4, setI_4, atI_5, setI_5, atI_6, setI_6, tAsg, gName, tOp, tUn, tVar, tC, tCons, L2.tNil, tRet, tIfS, tTest, tCB, tCall, rI, rI0, rU, tNext, tB, tAnd, tOr, tNot, tAndV, tOrV, tNotV, tDrop, tIf, tPar, gSub, rIxL, rIxT, rEq, rNe, rSetL, tBits,
    L2.start, List.map_cons, List.map_nil, List.cons_append, List.nil_append, List.append_nil, List.length_cons, List.length_nil, List.replicate, Nat.reduceAdd, Nat.reduceSub, Nat.zero_add, List.getElem?_cons_zero, List.getElem?_cons_succ, List.set_cons_zero, List.set_cons_succ,
    Option.some.injEq, exists_eq_left', exists_eq_left, V.int.injEq, V.bl.injEq, V.ref.injEq, V.str.injEq, List.cons.injEq, reduceCtorEq, and_true, true_and, false_and, and_false, exists_false, or_false, false_or, or_true, true_or, exists_const, CMul, CDiv, CPow, and_assoc, exists_and_left, exists_and_right, Int.reducePow, Int.reduceNeg, Int.reduceLT, Int.reduceLE, Nat.reducePow, Nat.reduceLT, Int.reduceToNat, gt_iff_lt, ge_iff_le, decide_eq_true_eq, Bool.not_eq_true', decide_eq_false_iff_not, scal, ↓reduceIte, Bool.false_eq_true]
  refine ⟨_, rfl, Tyd.fr hp.o, _, by rw [frOk_fr hp.o hp.nf], _, rfl, Tyd.fr hq.o, _, by rw [frOk_fr hq.o hq.nf], ?_⟩
  simp only [hp.o, hq.o, cx_K, decide_true, decide_false, reduceCtorEq, gTp, gCons, gNil, ca_0, ca_1, ca_2, ca_3, ca_4, ca_5, ca_6, ca_7, ca_8, ca_9, ca_10, ca_11, ca_12, ca_13, ca_14, ca_15, ca_16, ca_17, ca_18, ca_19, ca_20, ca_21, ca_22, ca_23, ca_24, ca_25, ca_26, ca_27, ca_28, ca_29, ca_30, not_true_eq_false, not_false_eq_true, Int.reduceEq, Nat.reduceEqDiff, Nat.reduceLeDiff, rGcd, V.ty.injEq, eq_self, List.not_mem_nil, beq_self_eq_true, HO.lst.injEq, HO.tup.injEq, tFor_eq, iRng1, iList, iTup, nat10, tSeq, rIxA, rSetA, rIsN, rIsT, tTp, tLs, itsO_tup, itsO_lst, tyO_tup, tyO_lst, tyO_dK, tyN_non, tyN_bl, tyN_int, tyN_str, tyN_ref, tyNs_lt, isB, upd_same, upd_upd, sizeLine_eq, List.mem_cons, String.reduceBEq, String.reduceEq, Bool.or_false, Bool.or_true, Bool.and_false, Bool.false_or, Bool.and_self, Bool.false_and, Bool.not_false, Bool.not_true, List.any_cons, List.any_nil, atI_0, setI_0, atI_1, setI_1, atI_2, setI_2, atI_3, setI_3, atI_4, setI_4, atI_5, setI_5, atI_6, setI_6, tAsg, gName, tOp, tUn, tVar, tC, tCons, L2.tNil, tRet, tIfS, tTest, tCB, tCall, rI, rI0, rU, tNext, tB, tAnd, tOr, tNot, tAndV, tOrV, tNotV, tDrop, tIf, tPar, gSub, rIxL, rIxT, rEq, rNe, rSetL, tBits,
    L2.start, List.map_cons, List.map_nil, List.cons_append, List.nil_append, List.append_nil, List.length_cons, List.length_nil, List.replicate, Nat.reduceAdd, Nat.reduceSub, Nat.zero_add, List.getElem?_cons_zero, List.getElem?_cons_succ, List.set_cons_zero, List.set_cons_succ,
    Option.some.injEq, exists_eq_left', exists_eq_left, V.int.injEq, V.bl.injEq, V.ref.injEq, V.str.injEq, List.cons.injEq, reduceCtorEq, and_true, true_and, false_and, and_false, exists_false, or_false, false_or, or_true, true_or, exists_const, CMul, CDiv, CPow, and_assoc, exists_and_left, exists_and_right, Int.reducePow, Int.reduceNeg, Int.reduceLT, Int.reduceLE, Nat.reducePow, Nat.reduceLT, Int.reduceToNat, gt_iff_lt, ge_iff_le, decide_eq_true_eq, Bool.not_eq_true', decide_eq_false_iff_not, scal, ↓reduceIte, Bool.false_eq_true]
  exact ⟨mulW hp.sz.1 hq.sz.2 (by omega), mulW hq.sz.1 hp.sz.2 (by omega), mulW hp.sz.2 hq.sz.2 (by omega), _, _, rfl, mul_ne hp.nf.1 hq.nf.1, szMono (szMul hp.sz.2 hq.sz.2) (by omega), k⟩
def spLFrac (K : PySem.W.Frag) : Sp := fun vs H Q _ => ∃ (a : Addr) (q : Qt), vs = [.ref a] ∧ Fq K H 8000 a q ∧ Q (.bl true) H
abbrev sLFrac : Stmt := topS 46
theorem scLFrac : FnScope ["_law_told"] ["_law_told"] (defScope sLFrac) := ⟨rfl, rfl, rfl, by decide +kernel, rfl, by decide +kernel, by decide +kernel⟩
theorem k_LFrac (T : Bt K mg) (D : Dfn K mg "_law_is_frac" sLFrac ["_law_told"]) (d__law_is_whole : Kn P w K mg base 1 "_law_is_whole" ["_law_told"] (spWhole K)) (d__law_gcd : Kn P w K mg base 1 "_law_gcd" ["_law_left", "_law_right"] spGcd) : Kn P w K mg base 2 "_law_is_frac" ["_law_told"] (spLFrac K) := by
  refine Kn.mk' D scLFrac (fun vs H Q E h => ?_) (fun f cdv A outer s H vs Q E hr h => ?_)
  · obtain ⟨a, q, rfl, _⟩ := h
    rfl
  obtain ⟨a, q, rfl, hq, k⟩ := h
  refine ⟨_, (pss_cons (ps_if (PW.pt (pw_or (pt_not (pt_val (pe_callB call_isN (by rfl) T.b_isinstance (by decide +kernel) (pa_cons (pv 0) (pa_cons (pe_bltn (v := .ty "tuple") (by rfl) T.b_tuple (by decide +kernel) rfl) pa_nil))))) (pw_or1 (pt_cmpR op_ne (pe_callB call_lenA (by rfl) T.b_len PySem.boot_len (pa_cons (pv 0) pa_nil)) pe_int (nomark _))))) (pss_one (ps_ret pe_bl)) pss_nil)
      (pss_cons (ps_if (PW.pt (pw_or (pt_not (pt_val (pe_kn d__law_is_whole hr (by rfl) (pa_cons (pe_ix ix_any (pv 0) pe_int (fun _ _ => rfl)) pa_nil)))) (pw_or1 (pt_not (pt_val (pe_kn d__law_is_whole hr (by rfl) (pa_cons (pe_ix ix_any (pv 0) pe_int (fun _ _ => rfl)) pa_nil))))))) (pss_one (ps_ret pe_bl)) pss_nil)
      (pss_one (ps_ret (pe_and (pe_cmpR op_gt (pe_ix ix_any (pv 0) pe_int (fun _ _ => rfl)) pe_int (nomark _)) (pe_one (pe_cmpR op_eq (pe_kn d__law_gcd hr (by rfl) (pa_cons (pe_ix ix_any (pv 0) pe_int (fun _ _ => rfl)) (pa_cons (pe_ix ix_any (pv 0) pe_int (fun _ _ => rfl)) pa_nil))) pe_int (nomark _)))))))), ?_⟩
  simp only [hq.o, cx_K, decide_true, decide_false, reduceCtorEq, gTp, gCons, gNil, ca_0, ca_1, ca_2, ca_3, ca_4, ca_5, ca_6, ca_7, ca_8, ca_9, ca_10, ca_11, ca_12, ca_13, ca_14, ca_15, ca_16, ca_17, ca_18, ca_19, ca_20, ca_21, ca_22, ca_23, ca_24, ca_25, ca_26, ca_27, ca_28, ca_29, ca_30, not_true_eq_false, not_false_eq_true, Int.reduceEq, Nat.reduceEqDiff, Nat.reduceLeDiff, rGcd, V.ty.injEq, eq_self, List.not_mem_nil, beq_self_eq_true, HO.lst.injEq, HO.tup.injEq, tFor_eq, iRng1, iList, iTup, nat10, tSeq, rIxA, rSetA, rIsN, rIsT, tTp, tLs, itsO_tup, itsO_lst, tyO_tup, tyO_lst, tyO_dK, tyN_non, tyN_bl, tyN_int, tyN_str, tyN_ref, tyNs_lt, isB, upd_same, upd_upd, sizeLine_eq, List.mem_cons, String.reduceBEq, String.reduceEq, Bool.or_false, Bool.or_true, Bool.and_false, Bool.false_or, Bool.and_self, Bool.false_and, Bool.not_false, Bool.not_true, List.any_cons, List.any_nil, atI_0, setI_0, atI_1, setI_1, atI_2, setI_2, atI_3, setI_3, atI_4, setI_4, atI_5, setI_5, atI_6, setI_6, tAsg, gName, tOp, tUn, tVar, tC, tCons, L2.tNil, tRet, tIfS, tTest, tCB, tCall, rI, rI0, rU, tNext, tB, tAnd, tOr, tNot, tAndV, tOrV, tNotV, tDrop, tIf, tPar, gSub, rIxL, rIxT, rEq, rNe, rSetL, tBits,
    L2.start, List.map_cons, List.map_nil, List.cons_append, List.nil_append, List.append_nil, List.length_cons, List.length_nil, List.replicate, Nat.reduceAdd, Nat.reduceSub, Nat.zero_add, List.getElem?_cons_zero, List.getElem?_cons_succ, List.set_cons_zero, List.set_cons_succ,
    Option.some.injEq, exists_eq_left', exists_eq_left, V.int.injEq, V.bl.injEq, V.ref.injEq, V.str.injEq, List.cons.injEq, reduceCtorEq, and_true, true_and, false_and, and_false, exists_false, or_false, false_or, or_true, true_or, exists_const, CMul, CDiv, CPow, and_assoc, exists_and_left, exists_and_right, Int.reducePow, Int.reduceNeg, Int.reduceLT, Int.reduceLE, Nat.reducePow, Nat.reduceLT, Int.reduceToNat, gt_iff_lt, ge_iff_le, decide_eq_true_eq, Bool.not_eq_true', decide_eq_false_iff_not, scal, ↓reduceIte, Bool.false_eq_true]
  refine ⟨_, rfl, rfl, true, rfl, ?_⟩
  rw [if_neg Bool.noConfusion]
  simp only [hq.o, cx_K, decide_true, decide_false, reduceCtorEq, gTp, gCons, gNil, ca_0, ca_1, ca_2, ca_3, ca_4, ca_5, ca_6, ca_7, ca_8, ca_9, ca_10, ca_11, ca_12, ca_13, ca_14, ca_15, ca_16, ca_17, ca_18, ca_19, ca_20, ca_21, ca_22, ca_23, ca_24, ca_25, ca_26, ca_27, ca_28, ca_29, ca_30, not_true_eq_false, not_false_eq_true, Int.reduceEq, Nat.reduceEqDiff, Nat.reduceLeDiff, rGcd, V.ty.injEq, eq_self, List.not_mem_nil, beq_self_eq_true, HO.lst.injEq, HO.tup.injEq, tFor_eq, iRng1, iList, iTup, nat10, tSeq, rIxA, rSetA, rIsN, rIsT, tTp, tLs, itsO_tup, itsO_lst, tyO_tup, tyO_lst, tyO_dK, tyN_non, tyN_bl, tyN_int, tyN_str, tyN_ref, tyNs_lt, isB, upd_same, upd_upd, sizeLine_eq, List.mem_cons, String.reduceBEq, String.reduceEq, Bool.or_false, Bool.or_true, Bool.and_false, Bool.false_or, Bool.and_self, Bool.false_and, Bool.not_false, Bool.not_true, List.any_cons, List.any_nil, atI_0, setI_0, atI_1, setI_1, atI_2, setI_2, atI_3, setI_3, atI_4, setI_4, atI_5, setI_5, atI_6, setI_6, tAsg, gName, tOp, tUn, tVar, tC, tCons, L2.tNil, tRet, tIfS, tTest, tCB, tCall, rI, rI0, rU, tNext, tB, tAnd, tOr, tNot, tAndV, tOrV, tNotV, tDrop, tIf, tPar, gSub, rIxL, rIxT, rEq, rNe, rSetL, tBits,
    L2.start, List.map_cons, List.map_nil, List.cons_append, List.nil_append, List.append_nil, List.length_cons, List.length_nil, List.replicate, Nat.reduceAdd, Nat.reduceSub, Nat.zero_add, List.getElem?_cons_zero, List.getElem?_cons_succ, List.set_cons_zero, List.set_cons_succ,
    Option.some.injEq, exists_eq_left', exists_eq_left, V.int.injEq, V.bl.injEq, V.ref.injEq, V.str.injEq, List.cons.injEq, reduceCtorEq, and_true, true_and, false_and, and_false, exists_false, or_false, false_or, or_true, true_or, exists_const, CMul, CDiv, CPow, and_assoc, exists_and_left, exists_and_right, Int.reducePow, Int.reduceNeg, Int.reduceLT, Int.reduceLE, Nat.reducePow, Nat.reduceLT, Int.reduceToNat, gt_iff_lt, ge_iff_le, decide_eq_true_eq, Bool.not_eq_true', decide_eq_false_iff_not, scal, ↓reduceIte, Bool.false_eq_true]
  refine ⟨_, rfl, rfl, true, rfl, ?_⟩
  rw [if_neg Bool.noConfusion]
  simp only [hq.o, cx_K, decide_true, decide_false, reduceCtorEq, gTp, gCons, gNil, ca_0, ca_1, ca_2, ca_3, ca_4, ca_5, ca_6, ca_7, ca_8, ca_9, ca_10, ca_11, ca_12, ca_13, ca_14, ca_15, ca_16, ca_17, ca_18, ca_19, ca_20, ca_21, ca_22, ca_23, ca_24, ca_25, ca_26, ca_27, ca_28, ca_29, ca_30, not_true_eq_false, not_false_eq_true, Int.reduceEq, Nat.reduceEqDiff, Nat.reduceLeDiff, rGcd, V.ty.injEq, eq_self, List.not_mem_nil, beq_self_eq_true, HO.lst.injEq, HO.tup.injEq, tFor_eq, iRng1, iList, iTup, nat10, tSeq, rIxA, rSetA, rIsN, rIsT, tTp, tLs, itsO_tup, itsO_lst, tyO_tup, tyO_lst, tyO_dK, tyN_non, tyN_bl, tyN_int, tyN_str, tyN_ref, tyNs_lt, isB, upd_same, upd_upd, sizeLine_eq, List.mem_cons, String.reduceBEq, String.reduceEq, Bool.or_false, Bool.or_true, Bool.and_false, Bool.false_or, Bool.and_self, Bool.false_and, Bool.not_false, Bool.not_true, List.any_cons, List.any_nil, atI_0, setI_0, atI_1, setI_1, atI_2, setI_2, atI_3, setI_3, atI_4, setI_4, atI_5, setI_5, atI_6, setI_6, tAsg, gName, tOp, tUn, tVar, tC, tCons, L2.tNil, tRet, tIfS, tTest, tCB, tCall, rI, rI0, rU, tNext, tB, tAnd, tOr, tNot, tAndV, tOrV, tNotV, tDrop, tIf, tPar, gSub, rIxL, rIxT, rEq, rNe, rSetL, tBits,
    L2.start, List.map_cons, List.map_nil, List.cons_append, List.nil_append, List.append_nil, List.length_cons, List.length_nil, List.replicate, Nat.reduceAdd, Nat.reduceSub, Nat.zero_add, List.getElem?_cons_zero, List.getElem?_cons_succ, List.set_cons_zero, List.set_cons_succ,
    Option.some.injEq, exists_eq_left', exists_eq_left, V.int.injEq, V.bl.injEq, V.ref.injEq, V.str.injEq, List.cons.injEq, reduceCtorEq, and_true, true_and, false_and, and_false, exists_false, or_false, false_or, or_true, true_or, exists_const, CMul, CDiv, CPow, and_assoc, exists_and_left, exists_and_right, Int.reducePow, Int.reduceNeg, Int.reduceLT, Int.reduceLE, Nat.reducePow, Nat.reduceLT, Int.reduceToNat, gt_iff_lt, ge_iff_le, decide_eq_true_eq, Bool.not_eq_true', decide_eq_false_iff_not, scal, ↓reduceIte, Bool.false_eq_true]
  rw [if_pos (show 0 < q.2 by have := hq.nf.1; omega)]
  refine ⟨_, _, rfl, rfl, ?_⟩
  have e : decide (V.int ((Int.gcd q.1 q.2 : Nat) : Int) = V.int 1) = true := by rw [hq.nf.2]; rfl
  rw [e]
  exact k
def dif2 (p q : Qt) (z : Qt) : Prop := Is z (p.1 * q.2 - q.1 * p.2) (p.2 * q.2)
def pro2 (p q : Qt) (z : Qt) : Prop := Is z (p.1 * q.1) (p.2 * q.2)
def quo2 (p q : Qt) (z : Qt) : Prop := Is z (p.1 * q.2) (p.2 * q.1)
def cmp2 (p q : Qt) : Int := if p.1 * q.2 = q.1 * p.2 then 0 else if p.1 * q.2 < q.1 * p.2 then -1 else 1
def spQuo (K : PySem.W.Frag) : Sp := fun vs H Q _ => ∃ (a b : Addr) (p q : Qt), vs = [.ref a, .ref b] ∧ Fq K H 3000 a p ∧ Fq K H 3000 b q ∧ q.1 ≠ 0 ∧ ∀ z, quo2 p q z → Gv K H Q z
def spCmp (K : PySem.W.Frag) : Sp := fun vs H Q _ => ∃ (a b : Addr) (p q : Qt), vs = [.ref a, .ref b] ∧ Fq K H 3000 a p ∧ Fq K H 3000 b q ∧ Q (.int (cmp2 p q)) H
abbrev sMinus : Stmt := topS 25
theorem scMinus : FnScope ["left", "right"] ["left", "right"] (defScope sMinus) := ⟨rfl, rfl, rfl, by decide +kernel, rfl, by decide +kernel, by decide +kernel⟩
theorem k_Minus (T : Bt K mg) (D : Dfn K mg "minus" sMinus ["left", "right"]) (d_require : Kn P w K mg base 1 "require" ["well_formed", "what"] spRequire) (d_is_fraction : Kn P w K mg base 2 "is_fraction" ["value"] (spIsFraction K)) (d_fraction : Kn P w K mg base 2 "fraction" ["numerator", "denominator"] (spFraction K)) : Kn P w K mg base 3 "minus" ["left", "right"] (spBin K dif2) := by
  refine Kn.mk' D scMinus (fun vs H Q E h => ?_) (fun f cdv A outer s H vs Q E hr h => ?_)
  · obtain ⟨a, b, p, q, rfl, _⟩ := h
    rfl
  obtain ⟨a, b, p, q, rfl, hp, hq, k⟩ := h
  refine ⟨_, (pss_cons (ps_expr (pe_kn d_require hr (by rfl) (pa_cons (pe_kn d_is_fraction hr (by rfl) (pa_cons (pv 0) pa_nil)) (pa_cons pe_str pa_nil))))
      (pss_cons (ps_expr (pe_kn d_require hr (by rfl) (pa_cons (pe_kn d_is_fraction hr (by rfl) (pa_cons (pv 1) pa_nil)) (pa_cons pe_str pa_nil))))
      (pss_one (ps_ret (pe_kn d_fraction hr (by rfl) (pa_cons (pe_op op_sub (pe_op op_mulW (pe_ix ix_any (pv 0) pe_int (fun _ _ => rfl)) (pe_ix ix_any (pv 1) pe_int (fun _ _ => rfl))) (pe_op op_mulW (pe_ix ix_any (pv 1) pe_int (fun _ _ => rfl)) (pe_ix ix_any (pv 0) pe_int (fun _ _ => rfl)))) (pa_cons (pe_op op_mulW (pe_ix ix_any (pv 0) pe_int (fun _ _ => rfl)) (pe_ix ix_any (pv 1) pe_int (fun _ _ => rfl))) pa_nil))))))), ?_⟩
  simp only [cx_K, decide_true, decide_false, reduceCtorEq, gTp, gCons, gNil, ca_0, ca_1, ca_2, ca_3, ca_4, ca_5, ca_6, ca_7, ca_8, ca_9, ca_10, ca_11, ca_12, ca_13, ca_14, ca_15, ca_16, ca_17, ca_18, ca_19, ca_20, ca_21, ca_22, ca_23, ca_24, ca_25, ca_26, ca_27, ca_28, ca_29, ca_30, not_true_eq_false, not_false_eq_true, Int.reduceEq, Nat.reduceEqDiff, Nat.reduceLeDiff, rGcd, V.ty.injEq, eq_self, List.not_mem_nil, beq_self_eq_true, HO.lst.injEq, HO.tup.injEq, tFor_eq, iRng1, iList, iTup, nat10, tSeq, rIxA, rSetA, rIsN, rIsT, tTp, tLs, itsO_tup, itsO_lst, tyO_tup, tyO_lst, tyO_dK, tyN_non, tyN_bl, tyN_int, tyN_str, tyN_ref, tyNs_lt, isB, upd_same, upd_upd, sizeLine_eq, List.mem_cons, String.reduceBEq, String.reduceEq, Bool.or_false, Bool.or_true, Bool.and_false, Bool.false_or, Bool.and_self, Bool.false_and, Bool.not_false, Bool.not_true, List.any_cons, List.any_nil, atI_0, setI_0, atI_1, setI_1, atI_2, setI_2, atI_3, setI_3, atI_4, setI_4, atI_5, setI_5, atI_6, setI_6, tAsg, gName, tOp, tUn, tVar, tC, tCons, L2.tNil, tRet, tIfS, tTest, tCB, tCall, rI, rI0, rU, tNext, tB, tAnd, tOr, tNot, tAndV, tOrV, tNotV, tDrop, tIf, tPar, gSub, rIxL, rIxT, rEq, rNe, rSetL, tBits,
    L2.start, List.map_cons, List.map_nil, List.cons_append, List.nil_append, List.append_nil, List.length_cons, List.length_nil, List.replicate, Nat.reduceAdd, Nat.reduceSub, Nat.zero_add, List.getElem?_cons_zero, List.getElem?_cons_succ, List.set_cons_zero, List.set_cons_succ,
    Option.some.injEq, exists_eq_left', exists_eq_left, V.int.injEq, V.bl.injEq, V.ref.injEq, V.str.injEq, List.cons.injEq, reduceCtorEq, and_true, true_and, false_and, and_false, exists_false, or_false, false_or, or_true, true_or, exists_const, CMul, CDiv, CPow, and_assoc, exists_and_left, exists_and_right, Int.reducePow, Int.reduceNeg, Int.reduceLT, Int.reduceLE, Nat.reducePow, Nat.reduceLT, Int.reduceToNat, gt_iff_lt, ge_iff_le, decide_eq_true_eq, Bool.not_eq_true', decide_eq_false_iff_not, scal, ↓reduceIte, Bool.false_eq_true]
  refine ⟨_, rfl, Tyd.fr hp.o, _, by rw [frOk_fr hp.o hp.nf], _, rfl, Tyd.fr hq.o, _, by rw [frOk_fr hq.o hq.nf], ?_⟩
  simp only [hp.o, hq.o, cx_K, decide_true, decide_false, reduceCtorEq, gTp, gCons, gNil, ca_0, ca_1, ca_2, ca_3, ca_4, ca_5, ca_6, ca_7, ca_8, ca_9, ca_10, ca_11, ca_12, ca_13, ca_14, ca_15, ca_16, ca_17, ca_18, ca_19, ca_20, ca_21, ca_22, ca_23, ca_24, ca_25, ca_26, ca_27, ca_28, ca_29, ca_30, not_true_eq_false, not_false_eq_true, Int.reduceEq, Nat.reduceEqDiff, Nat.reduceLeDiff, rGcd, V.ty.injEq, eq_self, List.not_mem_nil, beq_self_eq_true, HO.lst.injEq, HO.tup.injEq, tFor_eq, iRng1, iList, iTup, nat10, tSeq, rIxA, rSetA, rIsN, rIsT, tTp, tLs, itsO_tup, itsO_lst, tyO_tup, tyO_lst, tyO_dK, tyN_non, tyN_bl, tyN_int, tyN_str, tyN_ref, tyNs_lt, isB, upd_same, upd_upd, sizeLine_eq, List.mem_cons, String.reduceBEq, String.reduceEq, Bool.or_false, Bool.or_true, Bool.and_false, Bool.false_or, Bool.and_self, Bool.false_and, Bool.not_false, Bool.not_true, List.any_cons, List.any_nil, atI_0, setI_0, atI_1, setI_1, atI_2, setI_2, atI_3, setI_3, atI_4, setI_4, atI_5, setI_5, atI_6, setI_6, tAsg, gName, tOp, tUn, tVar, tC, tCons, L2.tNil, tRet, tIfS, tTest, tCB, tCall, rI, rI0, rU, tNext, tB, tAnd, tOr, tNot, tAndV, tOrV, tNotV, tDrop, tIf, tPar, gSub, rIxL, rIxT, rEq, rNe, rSetL, tBits,
    L2.start, List.map_cons, List.map_nil, List.cons_append, List.nil_append, List.append_nil, List.length_cons, List.length_nil, List.replicate, Nat.reduceAdd, Nat.reduceSub, Nat.zero_add, List.getElem?_cons_zero, List.getElem?_cons_succ, List.set_cons_zero, List.set_cons_succ,
    Option.some.injEq, exists_eq_left', exists_eq_left, V.int.injEq, V.bl.injEq, V.ref.injEq, V.str.injEq, List.cons.injEq, reduceCtorEq, and_true, true_and, false_and, and_false, exists_false, or_false, false_or, or_true, true_or, exists_const, CMul, CDiv, CPow, and_assoc, exists_and_left, exists_and_right, Int.reducePow, Int.reduceNeg, Int.reduceLT, Int.reduceLE, Nat.reducePow, Nat.reduceLT, Int.reduceToNat, gt_iff_lt, ge_iff_le, decide_eq_true_eq, Bool.not_eq_true', decide_eq_false_iff_not, scal, ↓reduceIte, Bool.false_eq_true]
  exact ⟨mulW hp.sz.1 hq.sz.2 (by omega), mulW hq.sz.1 hp.sz.2 (by omega), mulW hp.sz.2 hq.sz.2 (by omega), _, _, rfl, mul_ne hp.nf.1 hq.nf.1, szMono (szMul hp.sz.2 hq.sz.2) (by omega), k⟩
abbrev sTimes : Stmt := topS 26
theorem scTimes : FnScope ["left", "right"] ["left", "right"] (defScope sTimes) := ⟨rfl, rfl, rfl, by decide +kernel, rfl, by decide +kernel, by decide +kernel⟩
theorem k_Times (T : Bt K mg) (D : Dfn K mg "times" sTimes ["left", "right"]) (d_require : Kn P w K mg base 1 "require" ["well_formed", "what"] spRequire) (d_is_fraction : Kn P w K mg base 2 "is_fraction" ["value"] (spIsFraction K)) (d_fraction : Kn P w K mg base 2 "fraction" ["numerator", "denominator"] (spFraction K)) : Kn P w K mg base 3 "times" ["left", "right"] (spBin K pro2) := by
  refine Kn.mk' D scTimes (fun vs H Q E h => ?_) (fun f cdv A outer s H vs Q E hr h => ?_)
  · obtain ⟨a, b, p, q, rfl, _⟩ := h
    rfl
  obtain ⟨a, b, p, q, rfl, hp, hq, k⟩ := h
  refine ⟨_, (pss_cons (ps_expr (pe_kn d_require hr (by rfl) (pa_cons (pe_kn d_is_fraction hr (by rfl) (pa_cons (pv 0) pa_nil)) (pa_cons pe_str pa_nil))))
      (pss_cons (ps_expr (pe_kn d_require hr (by rfl) (pa_cons (pe_kn d_is_fraction hr (by rfl) (pa_cons (pv 1) pa_nil)) (pa_cons pe_str pa_nil))))
      (pss_one (ps_ret (pe_kn d_fraction hr (by rfl) (pa_cons (pe_op op_mulW (pe_ix ix_any (pv 0) pe_int (fun _ _ => rfl)) (pe_ix ix_any (pv 1) pe_int (fun _ _ => rfl))) (pa_cons (pe_op op_mulW (pe_ix ix_any (pv 0) pe_int (fun _ _ => rfl)) (pe_ix ix_any (pv 1) pe_int (fun _ _ => rfl))) pa_nil))))))), ?_⟩
  simp only [cx_K, decide_true, decide_false, reduceCtorEq, gTp, gCons, gNil, ca_0, ca_1, ca_2, ca_3, ca_4, ca_5, ca_6, ca_7, ca_8, ca_9, ca_10, ca_11, ca_12, ca_13, ca_14, ca_15, ca_16, ca_17, ca_18, ca_19, ca_20, ca_21, ca_22, ca_23, ca_24, ca_25, ca_26, ca_27, ca_28, ca_29, ca_30, not_true_eq_false, not_false_eq_true, Int.reduceEq, Nat.reduceEqDiff, Nat.reduceLeDiff, rGcd, V.ty.injEq, eq_self, List.not_mem_nil, beq_self_eq_true, HO.lst.injEq, HO.tup.injEq, tFor_eq, iRng1, iList, iTup, nat10, tSeq, rIxA, rSetA, rIsN, rIsT, tTp, tLs, itsO_tup, itsO_lst, tyO_tup, tyO_lst, tyO_dK, tyN_non, tyN_bl, tyN_int, tyN_str, tyN_ref, tyNs_lt, isB, upd_same, upd_upd, sizeLine_eq, List.mem_cons, String.reduceBEq, String.reduceEq, Bool.or_false, Bool.or_true, Bool.and_false, Bool.false_or, Bool.and_self, Bool.false_and, Bool.not_false, Bool.not_true, List.any_cons, List.any_nil, atI_0, setI_0, atI_1, setI_1, atI_2, setI_2, atI_3, setI_3, atI_4, setI_4, atI_5, setI_5, atI_6, setI_6, tAsg, gName, tOp, tUn, tVar, tC, tCons, L2.tNil, tRet, tIfS, tTest, tCB, tCall, rI, rI0, rU, tNext, tB, tAnd, tOr, tNot, tAndV, tOrV, tNotV, tDrop, tIf, tPar, gSub, rIxL, rIxT, rEq, rNe, rSetL, tBits,
    L2.start, List.map_cons, List.map_nil, List.cons_append, List.nil_append, List.append_nil, List.length_cons, List.length_nil, List.replicate, Nat.reduceAdd, Nat.reduceSub, Nat.zero_add, List.getElem?_cons_zero, List.getElem?_cons_succ, List.set_cons_zero, List.set_cons_succ,
    Option.some.injEq, exists_eq_left', exists_eq_left, V.int.injEq, V.bl.injEq, V.ref.injEq, V.str.injEq, List.cons.injEq, reduceCtorEq, and_true, true_and, false_and, and_false, exists_false, or_false, false_or, or_true, true_or, exists_const, CMul, CDiv, CPow, and_assoc, exists_and_left, exists_and_right, Int.reducePow, Int.reduceNeg, Int.reduceLT, Int.reduceLE, Nat.reducePow, Nat.reduceLT, Int.reduceToNat, gt_iff_lt, ge_iff_le, decide_eq_true_eq, Bool.not_eq_true', decide_eq_false_iff_not, scal, ↓reduceIte, Bool.false_eq_true]
  refine ⟨_, rfl, Tyd.fr hp.o, _, by rw [frOk_fr hp.o hp.nf], _, rfl, Tyd.fr hq.o, _, by rw [frOk_fr hq.o hq.nf], ?_⟩
  simp only [hp.o, hq.o, cx_K, decide_true, decide_false, reduceCtorEq, gTp, gCons, gNil, ca_0, ca_1, ca_2, ca_3, ca_4, ca_5, ca_6, ca_7, ca_8, ca_9, ca_10, ca_11, ca_12, ca_13, ca_14, ca_15, ca_16, ca_17, ca_18, ca_19, ca_20, ca_21, ca_22, ca_23, ca_24, ca_25, ca_26, ca_27, ca_28, ca_29, ca_30, not_true_eq_false, not_false_eq_true, Int.reduceEq, Nat.reduceEqDiff, Nat.reduceLeDiff, rGcd, V.ty.injEq, eq_self, List.not_mem_nil, beq_self_eq_true, HO.lst.injEq, HO.tup.injEq, tFor_eq, iRng1, iList, iTup, nat10, tSeq, rIxA, rSetA, rIsN, rIsT, tTp, tLs, itsO_tup, itsO_lst, tyO_tup, tyO_lst, tyO_dK, tyN_non, tyN_bl, tyN_int, tyN_str, tyN_ref, tyNs_lt, isB, upd_same, upd_upd, sizeLine_eq, List.mem_cons, String.reduceBEq, String.reduceEq, Bool.or_false, Bool.or_true, Bool.and_false, Bool.false_or, Bool.and_self, Bool.false_and, Bool.not_false, Bool.not_true, List.any_cons, List.any_nil, atI_0, setI_0, atI_1, setI_1, atI_2, setI_2, atI_3, setI_3, atI_4, setI_4, atI_5, setI_5, atI_6, setI_6, tAsg, gName, tOp, tUn, tVar, tC, tCons, L2.tNil, tRet, tIfS, tTest, tCB, tCall, rI, rI0, rU, tNext, tB, tAnd, tOr, tNot, tAndV, tOrV, tNotV, tDrop, tIf, tPar, gSub, rIxL, rIxT, rEq, rNe, rSetL, tBits,
    L2.start, List.map_cons, List.map_nil, List.cons_append, List.nil_append, List.append_nil, List.length_cons, List.length_nil, List.replicate, Nat.reduceAdd, Nat.reduceSub, Nat.zero_add, List.getElem?_cons_zero, List.getElem?_cons_succ, List.set_cons_zero, List.set_cons_succ,
    Option.some.injEq, exists_eq_left', exists_eq_left, V.int.injEq, V.bl.injEq, V.ref.injEq, V.str.injEq, List.cons.injEq, reduceCtorEq, and_true, true_and, false_and, and_false, exists_false, or_false, false_or, or_true, true_or, exists_const, CMul, CDiv, CPow, and_assoc, exists_and_left, exists_and_right, Int.reducePow, Int.reduceNeg, Int.reduceLT, Int.reduceLE, Nat.reducePow, Nat.reduceLT, Int.reduceToNat, gt_iff_lt, ge_iff_le, decide_eq_true_eq, Bool.not_eq_true', decide_eq_false_iff_not, scal, ↓reduceIte, Bool.false_eq_true]
  exact ⟨mulW hp.sz.1 hq.sz.1 (by omega), mulW hp.sz.2 hq.sz.2 (by omega), _, _, rfl, mul_ne hp.nf.1 hq.nf.1, szMono (szMul hp.sz.2 hq.sz.2) (by omega), k⟩
abbrev sOver : Stmt := topS 27
theorem scOver : FnScope ["left", "right"] ["left", "right"] (defScope sOver) := ⟨rfl, rfl, rfl, by decide +kernel, rfl, by decide +kernel, by decide +kernel⟩
theorem k_Over (T : Bt K mg) (D : Dfn K mg "over" sOver ["left", "right"]) (d_require : Kn P w K mg base 1 "require" ["well_formed", "what"] spRequire) (d_is_fraction : Kn P w K mg base 2 "is_fraction" ["value"] (spIsFraction K)) (d_fraction : Kn P w K mg base 2 "fraction" ["numerator", "denominator"] (spFraction K)) : Kn P w K mg base 3 "over" ["left", "right"] (spQuo K) := by
  refine Kn.mk' D scOver (fun vs H Q E h => ?_) (fun f cdv A outer s H vs Q E hr h => ?_)
  · obtain ⟨a, b, p, q, rfl, _⟩ := h
    rfl
  obtain ⟨a, b, p, q, rfl, hp, hq, h0, k⟩ := h
  refine ⟨_, (pss_cons (ps_expr (pe_kn d_require hr (by rfl) (pa_cons (pe_kn d_is_fraction hr (by rfl) (pa_cons (pv 0) pa_nil)) (pa_cons pe_str pa_nil))))
      (pss_cons (ps_expr (pe_kn d_require hr (by rfl) (pa_cons (pe_and (pe_kn d_is_fraction hr (by rfl) (pa_cons (pv 1) pa_nil)) (pe_one (pe_cmpR op_ne (pe_ix ix_any (pv 1) pe_int (fun _ _ => rfl)) pe_int (nomark _)))) (pa_cons pe_str pa_nil))))
      (pss_one (ps_ret (pe_kn d_fraction hr (by rfl) (pa_cons (pe_op op_mulW (pe_ix ix_any (pv 0) pe_int (fun _ _ => rfl)) (pe_ix ix_any (pv 1) pe_int (fun _ _ => rfl))) (pa_cons (pe_op op_mulW (pe_ix ix_any (pv 0) pe_int (fun _ _ => rfl)) (pe_ix ix_any (pv 1) pe_int (fun _ _ => rfl))) pa_nil))))))), ?_⟩
  simp only [cx_K, decide_true, decide_false, reduceCtorEq, gTp, gCons, gNil, ca_0, ca_1, ca_2, ca_3, ca_4, ca_5, ca_6, ca_7, ca_8, ca_9, ca_10, ca_11, ca_12, ca_13, ca_14, ca_15, ca_16, ca_17, ca_18, ca_19, ca_20, ca_21, ca_22, ca_23, ca_24, ca_25, ca_26, ca_27, ca_28, ca_29, ca_30, not_true_eq_false, not_false_eq_true, Int.reduceEq, Nat.reduceEqDiff, Nat.reduceLeDiff, rGcd, V.ty.injEq, eq_self, List.not_mem_nil, beq_self_eq_true, HO.lst.injEq, HO.tup.injEq, tFor_eq, iRng1, iList, iTup, nat10, tSeq, rIxA, rSetA, rIsN, rIsT, tTp, tLs, itsO_tup, itsO_lst, tyO_tup, tyO_lst, tyO_dK, tyN_non, tyN_bl, tyN_int, tyN_str, tyN_ref, tyNs_lt, isB, upd_same, upd_upd, sizeLine_eq, List.mem_cons, String.reduceBEq, String.reduceEq, Bool.or_false, Bool.or_true, Bool.and_false, Bool.false_or, Bool.and_self, Bool.false_and, Bool.not_false, Bool.not_true, List.any_cons, List.any_nil, atI_0, setI_0, atI_1, setI_1, atI_2, setI_2, atI_3, setI_3, atI_4, setI_4, atI_5, setI_5, atI_6, setI_6, tAsg, gName, tOp, tUn, tVar, tC, tCons, L2.tNil, tRet, tIfS, tTest, tCB, tCall, rI, rI0, rU, tNext, tB, tAnd, tOr, tNot, tAndV, tOrV, tNotV, tDrop, tIf, tPar, gSub, rIxL, rIxT, rEq, rNe, rSetL, tBits,
    L2.start, List.map_cons, List.map_nil, List.cons_append, List.nil_append, List.append_nil, List.length_cons, List.length_nil, List.replicate, Nat.reduceAdd, Nat.reduceSub, Nat.zero_add, List.getElem?_cons_zero, List.getElem?_cons_succ, List.set_cons_zero, List.set_cons_succ,
    Option.some.injEq, exists_eq_left', exists_eq_left, V.int.injEq, V.bl.injEq, V.ref.injEq, V.str.injEq, List.cons.injEq, reduceCtorEq, and_true, true_and, false_and, and_false, exists_false, or_false, false_or, or_true, true_or, exists_const, CMul, CDiv, CPow, and_assoc, exists_and_left, exists_and_right, Int.reducePow, Int.reduceNeg, Int.reduceLT, Int.reduceLE, Nat.reducePow, Nat.reduceLT, Int.reduceToNat, gt_iff_lt, ge_iff_le, decide_eq_true_eq, Bool.not_eq_true', decide_eq_false_iff_not, scal, ↓reduceIte, Bool.false_eq_true]
  refine ⟨_, rfl, Tyd.fr hp.o, _, by rw [frOk_fr hp.o hp.nf], _, rfl, Tyd.fr hq.o, true, by rw [frOk_fr hq.o hq.nf], ?_⟩
  rw [if_pos rfl]
  simp only [hq.o, cx_K, decide_true, decide_false, reduceCtorEq, gTp, gCons, gNil, ca_0, ca_1, ca_2, ca_3, ca_4, ca_5, ca_6, ca_7, ca_8, ca_9, ca_10, ca_11, ca_12, ca_13, ca_14, ca_15, ca_16, ca_17, ca_18, ca_19, ca_20, ca_21, ca_22, ca_23, ca_24, ca_25, ca_26, ca_27, ca_28, ca_29, ca_30, not_true_eq_false, not_false_eq_true, Int.reduceEq, Nat.reduceEqDiff, Nat.reduceLeDiff, rGcd, V.ty.injEq, eq_self, List.not_mem_nil, beq_self_eq_true, HO.lst.injEq, HO.tup.injEq, tFor_eq, iRng1, iList, iTup, nat10, tSeq, rIxA, rSetA, rIsN, rIsT, tTp, tLs, itsO_tup, itsO_lst, tyO_tup, tyO_lst, tyO_dK, tyN_non, tyN_bl, tyN_int, tyN_str, tyN_ref, tyNs_lt, isB, upd_same, upd_upd, sizeLine_eq, List.mem_cons, String.reduceBEq, String.reduceEq, Bool.or_false, Bool.or_true, Bool.and_false, Bool.false_or, Bool.and_self, Bool.false_and, Bool.not_false, Bool.not_true, List.any_cons, List.any_nil, atI_0, setI_0, atI_1, setI_1, atI_2, setI_2, atI_3, setI_3, atI_4, setI_4, atI_5, setI_5, atI_6, setI_6, tAsg, gName, tOp, tUn, tVar, tC, tCons, L2.tNil, tRet, tIfS, tTest, tCB, tCall, rI, rI0, rU, tNext, tB, tAnd, tOr, tNot, tAndV, tOrV, tNotV, tDrop, tIf, tPar, gSub, rIxL, rIxT, rEq, rNe, rSetL, tBits,
    L2.start, List.map_cons, List.map_nil, List.cons_append, List.nil_append, List.append_nil, List.length_cons, List.length_nil, List.replicate, Nat.reduceAdd, Nat.reduceSub, Nat.zero_add, List.getElem?_cons_zero, List.getElem?_cons_succ, List.set_cons_zero, List.set_cons_succ,
    Option.some.injEq, exists_eq_left', exists_eq_left, V.int.injEq, V.bl.injEq, V.ref.injEq, V.str.injEq, List.cons.injEq, reduceCtorEq, and_true, true_and, false_and, and_false, exists_false, or_false, false_or, or_true, true_or, exists_const, CMul, CDiv, CPow, and_assoc, exists_and_left, exists_and_right, Int.reducePow, Int.reduceNeg, Int.reduceLT, Int.reduceLE, Nat.reducePow, Nat.reduceLT, Int.reduceToNat, gt_iff_lt, ge_iff_le, decide_eq_true_eq, Bool.not_eq_true', decide_eq_false_iff_not, scal, ↓reduceIte, Bool.false_eq_true]
  refine ⟨_, by rw [decide_eq_false h0]; rfl, ?_⟩
  simp only [hp.o, hq.o, cx_K, decide_true, decide_false, reduceCtorEq, gTp, gCons, gNil, ca_0, ca_1, ca_2, ca_3, ca_4, ca_5, ca_6, ca_7, ca_8, ca_9, ca_10, ca_11, ca_12, ca_13, ca_14, ca_15, ca_16, ca_17, ca_18, ca_19, ca_20, ca_21, ca_22, ca_23, ca_24, ca_25, ca_26, ca_27, ca_28, ca_29, ca_30, not_true_eq_false, not_false_eq_true, Int.reduceEq, Nat.reduceEqDiff, Nat.reduceLeDiff, rGcd, V.ty.injEq, eq_self, List.not_mem_nil, beq_self_eq_true, HO.lst.injEq, HO.tup.injEq, tFor_eq, iRng1, iList, iTup, nat10, tSeq, rIxA, rSetA, rIsN, rIsT, tTp, tLs, itsO_tup, itsO_lst, tyO_tup, tyO_lst, tyO_dK, tyN_non, tyN_bl, tyN_int, tyN_str, tyN_ref, tyNs_lt, isB, upd_same, upd_upd, sizeLine_eq, List.mem_cons, String.reduceBEq, String.reduceEq, Bool.or_false, Bool.or_true, Bool.and_false, Bool.false_or, Bool.and_self, Bool.false_and, Bool.not_false, Bool.not_true, List.any_cons, List.any_nil, atI_0, setI_0, atI_1, setI_1, atI_2, setI_2, atI_3, setI_3, atI_4, setI_4, atI_5, setI_5, atI_6, setI_6, tAsg, gName, tOp, tUn, tVar, tC, tCons, L2.tNil, tRet, tIfS, tTest, tCB, tCall, rI, rI0, rU, tNext, tB, tAnd, tOr, tNot, tAndV, tOrV, tNotV, tDrop, tIf, tPar, gSub, rIxL, rIxT, rEq, rNe, rSetL, tBits,
    L2.start, List.map_cons, List.map_nil, List.cons_append, List.nil_append, List.append_nil, List.length_cons, List.length_nil, List.replicate, Nat.reduceAdd, Nat.reduceSub, Nat.zero_add, List.getElem?_cons_zero, List.getElem?_cons_succ, List.set_cons_zero, List.set_cons_succ,
    Option.some.injEq, exists_eq_left', exists_eq_left, V.int.injEq, V.bl.injEq, V.ref.injEq, V.str.injEq, List.cons.injEq, reduceCtorEq, and_true, true_and, false_and, and_false, exists_false, or_false, false_or, or_true, true_or, exists_const, CMul, CDiv, CPow, and_assoc, exists_and_left, exists_and_right, Int.reducePow, Int.reduceNeg, Int.reduceLT, Int.reduceLE, Nat.reducePow, Nat.reduceLT, Int.reduceToNat, gt_iff_lt, ge_iff_le, decide_eq_true_eq, Bool.not_eq_true', decide_eq_false_iff_not, scal, ↓reduceIte, Bool.false_eq_true]
  exact ⟨mulW hp.sz.1 hq.sz.2 (by omega), mulW hp.sz.2 hq.sz.1 (by omega), _, _, rfl, Int.mul_ne_zero hp.nf.ne h0, szMono (szMul hp.sz.2 hq.sz.1) (by omega), k⟩
abbrev sLOver : Stmt := topS 43
theorem scLOver : FnScope ["_law_left", "_law_right"] ["_law_left", "_law_right"] (defScope sLOver) := ⟨rfl, rfl, rfl, by decide +kernel, rfl, by decide +kernel, by decide +kernel⟩
theorem k_LOver (T : Bt K mg) (D : Dfn K mg "_law_over" sLOver ["_law_left", "_law_right"]) (d__law_lowest : Kn P w K mg base 2 "_law_lowest" ["_law_top", "_law_bottom"] (spLowest K)) : Kn P w K mg base 3 "_law_over" ["_law_left", "_law_right"] (spBin K fun p q z => Lw z (p.1 * q.2) (p.2 * q.1)) := by
  refine Kn.mk' D scLOver (fun vs H Q E h => ?_) (fun f cdv A outer s H vs Q E hr h => ?_)
  · obtain ⟨a, b, p, q, rfl, _⟩ := h
    rfl
  obtain ⟨a, b, p, q, rfl, hp, hq, k⟩ := h
  refine ⟨_, (pss_one (ps_ret (pe_kn d__law_lowest hr (by rfl) (pa_cons (pe_op op_mulW (pe_ix ix_any (pv 0) pe_int (fun _ _ => rfl)) (pe_ix ix_any (pv 1) pe_int (fun _ _ => rfl))) (pa_cons (pe_op op_mulW (pe_ix ix_any (pv 0) pe_int (fun _ _ => rfl)) (pe_ix ix_any (pv 1) pe_int (fun _ _ => rfl))) pa_nil))))), ?_⟩
  simp only [hp.o, hq.o, cx_K, decide_true, decide_false, reduceCtorEq, gTp, gCons, gNil, ca_0, ca_1, ca_2, ca_3, ca_4, ca_5, ca_6, ca_7, ca_8, ca_9, ca_10, ca_11, ca_12, ca_13, ca_14, ca_15, ca_16, ca_17, ca_18, ca_19, ca_20, ca_21, ca_22, ca_23, ca_24, ca_25, ca_26, ca_27, ca_28, ca_29, ca_30, not_true_eq_false, not_false_eq_true, Int.reduceEq, Nat.reduceEqDiff, Nat.reduceLeDiff, rGcd, V.ty.injEq, eq_self, List.not_mem_nil, beq_self_eq_true, HO.lst.injEq, HO.tup.injEq, tFor_eq, iRng1, iList, iTup, nat10, tSeq, rIxA, rSetA, rIsN, rIsT, tTp, tLs, itsO_tup, itsO_lst, tyO_tup, tyO_lst, tyO_dK, tyN_non, tyN_bl, tyN_int, tyN_str, tyN_ref, tyNs_lt, isB, upd_same, upd_upd, sizeLine_eq, List.mem_cons, String.reduceBEq, String.reduceEq, Bool.or_false, Bool.or_true, Bool.and_false, Bool.false_or, Bool.and_self, Bool.false_and, Bool.not_false, Bool.not_true, List.any_cons, List.any_nil, atI_0, setI_0, atI_1, setI_1, atI_2, setI_2, atI_3, setI_3, atI_4, setI_4, atI_5, setI_5, atI_6, setI_6, tAsg, gName, tOp, tUn, tVar, tC, tCons, L2.tNil, tRet, tIfS, tTest, tCB, tCall, rI, rI0, rU, tNext, tB, tAnd, tOr, tNot, tAndV, tOrV, tNotV, tDrop, tIf, tPar, gSub, rIxL, rIxT, rEq, rNe, rSetL, tBits,
    L2.start, List.map_cons, List.map_nil, List.cons_append, List.nil_append, List.append_nil, List.length_cons, List.length_nil, List.replicate, Nat.reduceAdd, Nat.reduceSub, Nat.zero_add, List.getElem?_cons_zero, List.getElem?_cons_succ, List.set_cons_zero, List.set_cons_succ,
    Option.some.injEq, exists_eq_left', exists_eq_left, V.int.injEq, V.bl.injEq, V.ref.injEq, V.str.injEq, List.cons.injEq, reduceCtorEq, and_true, true_and, false_and, and_false, exists_false, or_false, false_or, or_true, true_or, exists_const, CMul, CDiv, CPow, and_assoc, exists_and_left, exists_and_right, Int.reducePow, Int.reduceNeg, Int.reduceLT, Int.reduceLE, Nat.reducePow, Nat.reduceLT, Int.reduceToNat, gt_iff_lt, ge_iff_le, decide_eq_true_eq, Bool.not_eq_true', decide_eq_false_iff_not, scal, ↓reduceIte, Bool.false_eq_true]
  exact ⟨mulW hp.sz.1 hq.sz.2 (by omega), mulW hp.sz.2 hq.sz.1 (by omega), _, _, rfl, szMono (szMul hp.sz.2 hq.sz.1) (by omega), k⟩
def spQuot (K : PySem.W.Frag) : Sp := fun vs H Q _ => ∃ (a : Addr) (z : Qt) (t b : Int), vs = [.ref a, .int t, .int b] ∧ Fq K H 3000 a z ∧ Is z t b ∧ t.natAbs < 2 ^ 3000 ∧ b.natAbs < 2 ^ 3000 ∧ Q (.bl true) H
abbrev sLPlus : Stmt := topS 41
theorem scLPlus : FnScope ["_law_left", "_law_right"] ["_law_left", "_law_right"] (defScope sLPlus) := ⟨rfl, rfl, rfl, by decide +kernel, rfl, by decide +kernel, by decide +kernel⟩
theorem k_LPlus (T : Bt K mg) (D : Dfn K mg "_law_plus" sLPlus ["_law_left", "_law_right"]) (d__law_lowest : Kn P w K mg base 2 "_law_lowest" ["_law_top", "_law_bottom"] (spLowest K)) : Kn P w K mg base 3 "_law_plus" ["_law_left", "_law_right"] (spBin K sum2) := by
  refine Kn.mk' D scLPlus (fun vs H Q E h => ?_) (fun f cdv A outer s H vs Q E hr h => ?_)
  · obtain ⟨a, b, p, q, rfl, _⟩ := h
    rfl
  obtain ⟨a, b, p, q, rfl, hp, hq, k⟩ := h
  refine ⟨_, (pss_one (ps_ret (pe_kn d__law_lowest hr (by rfl) (pa_cons (pe_op op_add (pe_op op_mulW (pe_ix ix_any (pv 0) pe_int (fun _ _ => rfl)) (pe_ix ix_any (pv 1) pe_int (fun _ _ => rfl))) (pe_op op_mulW (pe_ix ix_any (pv 1) pe_int (fun _ _ => rfl)) (pe_ix ix_any (pv 0) pe_int (fun _ _ => rfl)))) (pa_cons (pe_op op_mulW (pe_ix ix_any (pv 0) pe_int (fun _ _ => rfl)) (pe_ix ix_any (pv 1) pe_int (fun _ _ => rfl))) pa_nil))))), ?_⟩
  simp only [hp.o, hq.o, cx_K, decide_true, decide_false, reduceCtorEq, gTp, gCons, gNil, ca_0, ca_1, ca_2, ca_3, ca_4, ca_5, ca_6, ca_7, ca_8, ca_9, ca_10, ca_11, ca_12, ca_13, ca_14, ca_15, ca_16, ca_17, ca_18, ca_19, ca_20, ca_21, ca_22, ca_23, ca_24, ca_25, ca_26, ca_27, ca_28, ca_29, ca_30, not_true_eq_false, not_false_eq_true, Int.reduceEq, Nat.reduceEqDiff, Nat.reduceLeDiff, rGcd, V.ty.injEq, eq_self, List.not_mem_nil, beq_self_eq_true, HO.lst.injEq, HO.tup.injEq, tFor_eq, iRng1, iList, iTup, nat10, tSeq, rIxA, rSetA, rIsN, rIsT, tTp, tLs, itsO_tup, itsO_lst, tyO_tup, tyO_lst, tyO_dK, tyN_non, tyN_bl, tyN_int, tyN_str, tyN_ref, tyNs_lt, isB, upd_same, upd_upd, sizeLine_eq, List.mem_cons, String.reduceBEq, String.reduceEq, Bool.or_false, Bool.or_true, Bool.and_false, Bool.false_or, Bool.and_self, Bool.false_and, Bool.not_false, Bool.not_true, List.any_cons, List.any_nil, atI_0, setI_0, atI_1, setI_1, atI_2, setI_2, atI_3, setI_3, atI_4, setI_4, atI_5, setI_5, atI_6, setI_6, tAsg, gName, tOp, tUn, tVar, tC, tCons, L2.tNil, tRet, tIfS, tTest, tCB, tCall, rI, rI0, rU, tNext, tB, tAnd, tOr, tNot, tAndV, tOrV, tNotV, tDrop, tIf, tPar, gSub, rIxL, rIxT, rEq, rNe, rSetL, tBits,
    L2.start, List.map_cons, List.map_nil, List.cons_append, List.nil_append, List.append_nil, List.length_cons, List.length_nil, List.replicate, Nat.reduceAdd, Nat.reduceSub, Nat.zero_add, List.getElem?_cons_zero, List.getElem?_cons_succ, List.set_cons_zero, List.set_cons_succ,
    Option.some.injEq, exists_eq_left', exists_eq_left, V.int.injEq, V.bl.injEq, V.ref.injEq, V.str.injEq, List.cons.injEq, reduceCtorEq, and_true, true_and, false_and, and_false, exists_false, or_false, false_or, or_true, true_or, exists_const, CMul, CDiv, CPow, and_assoc, exists_and_left, exists_and_right, Int.reducePow, Int.reduceNeg, Int.reduceLT, Int.reduceLE, Nat.reducePow, Nat.reduceLT, Int.reduceToNat, gt_iff_lt, ge_iff_le, decide_eq_true_eq, Bool.not_eq_true', decide_eq_false_iff_not, scal, ↓reduceIte, Bool.false_eq_true]
  exact ⟨mulW hp.sz.1 hq.sz.2 (by omega), mulW hq.sz.1 hp.sz.2 (by omega), mulW hp.sz.2 hq.sz.2 (by omega), _, _, rfl, szMono (szMul hp.sz.2 hq.sz.2) (by omega), fun z hz => k z (hz.2 (mul_ne hp.nf.1 hq.nf.1))⟩
abbrev sPart : Stmt := topS 30
theorem scPart : FnScope ["value"] ["value"] (defScope sPart) := ⟨rfl, rfl, rfl, by decide +kernel, rfl, by decide +kernel, by decide +kernel⟩
theorem k_Part (T : Bt K mg) (D : Dfn K mg "part_of" sPart ["value"]) (d_require : Kn P w K mg base 1 "require" ["well_formed", "what"] spRequire) (d_is_fraction : Kn P w K mg base 2 "is_fraction" ["value"] (spIsFraction K)) : Kn P w K mg base 3 "part_of" ["value"] (spUn K fun q => (q.1 % q.2, q.2)) := by
  refine Kn.mk' D scPart (fun vs H Q E h => ?_) (fun f cdv A outer s H vs Q E hr h => ?_)
  · obtain ⟨a, q, rfl, _⟩ := h
    rfl
  obtain ⟨a, q, rfl, hq, k⟩ := h
  refine ⟨_, (pss_cons (ps_expr (pe_kn d_require hr (by rfl) (pa_cons (pe_kn d_is_fraction hr (by rfl) (pa_cons (pv 0) pa_nil)) (pa_cons pe_str pa_nil))))
      (pss_one (ps_ret (pe_tp (pa_cons (pe_op op_modN (pe_ix ix_any (pv 0) pe_int (fun _ _ => rfl)) (pe_ix ix_any (pv 0) pe_int (fun _ _ => rfl))) (pa_cons (pe_ix ix_any (pv 0) pe_int (fun _ _ => rfl)) pa_nil)))))), ?_⟩
  simp only [cx_K, decide_true, decide_false, reduceCtorEq, gTp, gCons, gNil, ca_0, ca_1, ca_2, ca_3, ca_4, ca_5, ca_6, ca_7, ca_8, ca_9, ca_10, ca_11, ca_12, ca_13, ca_14, ca_15, ca_16, ca_17, ca_18, ca_19, ca_20, ca_21, ca_22, ca_23, ca_24, ca_25, ca_26, ca_27, ca_28, ca_29, ca_30, not_true_eq_false, not_false_eq_true, Int.reduceEq, Nat.reduceEqDiff, Nat.reduceLeDiff, rGcd, V.ty.injEq, eq_self, List.not_mem_nil, beq_self_eq_true, HO.lst.injEq, HO.tup.injEq, tFor_eq, iRng1, iList, iTup, nat10, tSeq, rIxA, rSetA, rIsN, rIsT, tTp, tLs, itsO_tup, itsO_lst, tyO_tup, tyO_lst, tyO_dK, tyN_non, tyN_bl, tyN_int, tyN_str, tyN_ref, tyNs_lt, isB, upd_same, upd_upd, sizeLine_eq, List.mem_cons, String.reduceBEq, String.reduceEq, Bool.or_false, Bool.or_true, Bool.and_false, Bool.false_or, Bool.and_self, Bool.false_and, Bool.not_false, Bool.not_true, List.any_cons, List.any_nil, atI_0, setI_0, atI_1, setI_1, atI_2, setI_2, atI_3, setI_3, atI_4, setI_4, atI_5, setI_5, atI_6, setI_6, tAsg, gName, tOp, tUn, tVar, tC, tCons, L2.tNil, tRet, tIfS, tTest, tCB, tCall, rI, rI0, rU, tNext, tB, tAnd, tOr, tNot, tAndV, tOrV, tNotV, tDrop, tIf, tPar, gSub, rIxL, rIxT, rEq, rNe, rSetL, tBits,
    L2.start, List.map_cons, List.map_nil, List.cons_append, List.nil_append, List.append_nil, List.length_cons, List.length_nil, List.replicate, Nat.reduceAdd, Nat.reduceSub, Nat.zero_add, List.getElem?_cons_zero, List.getElem?_cons_succ, List.set_cons_zero, List.set_cons_succ,
    Option.some.injEq, exists_eq_left', exists_eq_left, V.int.injEq, V.bl.injEq, V.ref.injEq, V.str.injEq, List.cons.injEq, reduceCtorEq, and_true, true_and, false_and, and_false, exists_false, or_false, false_or, or_true, true_or, exists_const, CMul, CDiv, CPow, and_assoc, exists_and_left, exists_and_right, Int.reducePow, Int.reduceNeg, Int.reduceLT, Int.reduceLE, Nat.reducePow, Nat.reduceLT, Int.reduceToNat, gt_iff_lt, ge_iff_le, decide_eq_true_eq, Bool.not_eq_true', decide_eq_false_iff_not, scal, ↓reduceIte, Bool.false_eq_true]
  refine ⟨_, rfl, Tyd.fr hq.o, _, by rw [frOk_fr hq.o hq.nf], ?_⟩
  have fm : q.1.fmod q.2 = q.1 % q.2 := Int.fmod_eq_emod_of_nonneg _ (by have := hq.nf.1; omega)
  simp only [hq.o, fm, cx_K, decide_true, decide_false, reduceCtorEq, gTp, gCons, gNil, ca_0, ca_1, ca_2, ca_3, ca_4, ca_5, ca_6, ca_7, ca_8, ca_9, ca_10, ca_11, ca_12, ca_13, ca_14, ca_15, ca_16, ca_17, ca_18, ca_19, ca_20, ca_21, ca_22, ca_23, ca_24, ca_25, ca_26, ca_27, ca_28, ca_29, ca_30, not_true_eq_false, not_false_eq_true, Int.reduceEq, Nat.reduceEqDiff, Nat.reduceLeDiff, rGcd, V.ty.injEq, eq_self, List.not_mem_nil, beq_self_eq_true, HO.lst.injEq, HO.tup.injEq, tFor_eq, iRng1, iList, iTup, nat10, tSeq, rIxA, rSetA, rIsN, rIsT, tTp, tLs, itsO_tup, itsO_lst, tyO_tup, tyO_lst, tyO_dK, tyN_non, tyN_bl, tyN_int, tyN_str, tyN_ref, tyNs_lt, isB, upd_same, upd_upd, sizeLine_eq, List.mem_cons, String.reduceBEq, String.reduceEq, Bool.or_false, Bool.or_true, Bool.and_false, Bool.false_or, Bool.and_self, Bool.false_and, Bool.not_false, Bool.not_true, List.any_cons, List.any_nil, atI_0, setI_0, atI_1, setI_1, atI_2, setI_2, atI_3, setI_3, atI_4, setI_4, atI_5, setI_5, atI_6, setI_6, tAsg, gName, tOp, tUn, tVar, tC, tCons, L2.tNil, tRet, tIfS, tTest, tCB, tCall, rI, rI0, rU, tNext, tB, tAnd, tOr, tNot, tAndV, tOrV, tNotV, tDrop, tIf, tPar, gSub, rIxL, rIxT, rEq, rNe, rSetL, tBits,
    L2.start, List.map_cons, List.map_nil, List.cons_append, List.nil_append, List.append_nil, List.length_cons, List.length_nil, List.replicate, Nat.reduceAdd, Nat.reduceSub, Nat.zero_add, List.getElem?_cons_zero, List.getElem?_cons_succ, List.set_cons_zero, List.set_cons_succ,
    Option.some.injEq, exists_eq_left', exists_eq_left, V.int.injEq, V.bl.injEq, V.ref.injEq, V.str.injEq, List.cons.injEq, reduceCtorEq, and_true, true_and, false_and, and_false, exists_false, or_false, false_or, or_true, true_or, exists_const, CMul, CDiv, CPow, and_assoc, exists_and_left, exists_and_right, Int.reducePow, Int.reduceNeg, Int.reduceLT, Int.reduceLE, Nat.reducePow, Nat.reduceLT, Int.reduceToNat, gt_iff_lt, ge_iff_le, decide_eq_true_eq, Bool.not_eq_true', decide_eq_false_iff_not, scal, ↓reduceIte, Bool.false_eq_true]
  exact ⟨hq.nf.ne, fun p hp kp => k.new hp kp⟩
abbrev sMagn : Stmt := topS 29
theorem scMagn : FnScope ["value"] ["value"] (defScope sMagn) := ⟨rfl, rfl, rfl, by decide +kernel, rfl, by decide +kernel, by decide +kernel⟩
theorem k_Magn (T : Bt K mg) (D : Dfn K mg "magnitude" sMagn ["value"]) (d_require : Kn P w K mg base 1 "require" ["well_formed", "what"] spRequire) (d_is_fraction : Kn P w K mg base 2 "is_fraction" ["value"] (spIsFraction K)) : Kn P w K mg base 3 "magnitude" ["value"] (spUn K fun q => ((q.1.natAbs : Int), q.2)) := by
  refine Kn.mk' D scMagn (fun vs H Q E h => ?_) (fun f cdv A outer s H vs Q E hr h => ?_)
  · obtain ⟨a, q, rfl, _⟩ := h
    rfl
  obtain ⟨a, q, rfl, hq, k⟩ := h
  refine ⟨_, (pss_cons (ps_expr (pe_kn d_require hr (by rfl) (pa_cons (pe_kn d_is_fraction hr (by rfl) (pa_cons (pv 0) pa_nil)) (pa_cons pe_str pa_nil))))
      (pss_one (ps_ret (pe_tp (pa_cons (pe_callB call_abs (by rfl) T.b_abs (by decide +kernel) (pa_cons (pe_ix ix_any (pv 0) pe_int (fun _ _ => rfl)) pa_nil)) (pa_cons (pe_ix ix_any (pv 0) pe_int (fun _ _ => rfl)) pa_nil)))))), ?_⟩
  simp only [cx_K, decide_true, decide_false, reduceCtorEq, gTp, gCons, gNil, ca_0, ca_1, ca_2, ca_3, ca_4, ca_5, ca_6, ca_7, ca_8, ca_9, ca_10, ca_11, ca_12, ca_13, ca_14, ca_15, ca_16, ca_17, ca_18, ca_19, ca_20, ca_21, ca_22, ca_23, ca_24, ca_25, ca_26, ca_27, ca_28, ca_29, ca_30, not_true_eq_false, not_false_eq_true, Int.reduceEq, Nat.reduceEqDiff, Nat.reduceLeDiff, rGcd, V.ty.injEq, eq_self, List.not_mem_nil, beq_self_eq_true, HO.lst.injEq, HO.tup.injEq, tFor_eq, iRng1, iList, iTup, nat10, tSeq, rIxA, rSetA, rIsN, rIsT, tTp, tLs, itsO_tup, itsO_lst, tyO_tup, tyO_lst, tyO_dK, tyN_non, tyN_bl, tyN_int, tyN_str, tyN_ref, tyNs_lt, isB, upd_same, upd_upd, sizeLine_eq, List.mem_cons, String.reduceBEq, String.reduceEq, Bool.or_false, Bool.or_true, Bool.and_false, Bool.false_or, Bool.and_self, Bool.false_and, Bool.not_false, Bool.not_true, List.any_cons, List.any_nil, atI_0, setI_0, atI_1, setI_1, atI_2, setI_2, atI_3, setI_3, atI_4, setI_4, atI_5, setI_5, atI_6, setI_6, tAsg, gName, tOp, tUn, tVar, tC, tCons, L2.tNil, tRet, tIfS, tTest, tCB, tCall, rI, rI0, rU, tNext, tB, tAnd, tOr, tNot, tAndV, tOrV, tNotV, tDrop, tIf, tPar, gSub, rIxL, rIxT, rEq, rNe, rSetL, tBits,
    L2.start, List.map_cons, List.map_nil, List.cons_append, List.nil_append, List.append_nil, List.length_cons, List.length_nil, List.replicate, Nat.reduceAdd, Nat.reduceSub, Nat.zero_add, List.getElem?_cons_zero, List.getElem?_cons_succ, List.set_cons_zero, List.set_cons_succ,
    Option.some.injEq, exists_eq_left', exists_eq_left, V.int.injEq, V.bl.injEq, V.ref.injEq, V.str.injEq, List.cons.injEq, reduceCtorEq, and_true, true_and, false_and, and_false, exists_false, or_false, false_or, or_true, true_or, exists_const, CMul, CDiv, CPow, and_assoc, exists_and_left, exists_and_right, Int.reducePow, Int.reduceNeg, Int.reduceLT, Int.reduceLE, Nat.reducePow, Nat.reduceLT, Int.reduceToNat, gt_iff_lt, ge_iff_le, decide_eq_true_eq, Bool.not_eq_true', decide_eq_false_iff_not, scal, ↓reduceIte, Bool.false_eq_true]
  refine ⟨_, rfl, Tyd.fr hq.o, _, by rw [frOk_fr hq.o hq.nf], ?_⟩
  simp only [hq.o, abs_if, cx_K, decide_true, decide_false, reduceCtorEq, gTp, gCons, gNil, ca_0, ca_1, ca_2, ca_3, ca_4, ca_5, ca_6, ca_7, ca_8, ca_9, ca_10, ca_11, ca_12, ca_13, ca_14, ca_15, ca_16, ca_17, ca_18, ca_19, ca_20, ca_21, ca_22, ca_23, ca_24, ca_25, ca_26, ca_27, ca_28, ca_29, ca_30, not_true_eq_false, not_false_eq_true, Int.reduceEq, Nat.reduceEqDiff, Nat.reduceLeDiff, rGcd, V.ty.injEq, eq_self, List.not_mem_nil, beq_self_eq_true, HO.lst.injEq, HO.tup.injEq, tFor_eq, iRng1, iList, iTup, nat10, tSeq, rIxA, rSetA, rIsN, rIsT, tTp, tLs, itsO_tup, itsO_lst, tyO_tup, tyO_lst, tyO_dK, tyN_non, tyN_bl, tyN_int, tyN_str, tyN_ref, tyNs_lt, isB, upd_same, upd_upd, sizeLine_eq, List.mem_cons, String.reduceBEq, String.reduceEq, Bool.or_false, Bool.or_true, Bool.and_false, Bool.false_or, Bool.and_self, Bool.false_and, Bool.not_false, Bool.not_true, List.any_cons, List.any_nil, atI_0, setI_0, atI_1, setI_1, atI_2, setI_2, atI_3, setI_3, atI_4, setI_4, atI_5, setI_5, atI_6, setI_6, tAsg, gName, tOp, tUn, tVar, tC, tCons, L2.tNil, tRet, tIfS, tTest, tCB, tCall, rI, rI0, rU, tNext, tB, tAnd, tOr, tNot, tAndV, tOrV, tNotV, tDrop, tIf, tPar, gSub, rIxL, rIxT, rEq, rNe, rSetL, tBits,
    L2.start, List.map_cons, List.map_nil, List.cons_append, List.nil_append, List.append_nil, List.length_cons, List.length_nil, List.replicate, Nat.reduceAdd, Nat.reduceSub, Nat.zero_add, List.getElem?_cons_zero, List.getElem?_cons_succ, List.set_cons_zero, List.set_cons_succ,
    Option.some.injEq, exists_eq_left', exists_eq_left, V.int.injEq, V.bl.injEq, V.ref.injEq, V.str.injEq, List.cons.injEq, reduceCtorEq, and_true, true_and, false_and, and_false, exists_false, or_false, false_or, or_true, true_or, exists_const, CMul, CDiv, CPow, and_assoc, exists_and_left, exists_and_right, Int.reducePow, Int.reduceNeg, Int.reduceLT, Int.reduceLE, Nat.reducePow, Nat.reduceLT, Int.reduceToNat, gt_iff_lt, ge_iff_le, decide_eq_true_eq, Bool.not_eq_true', decide_eq_false_iff_not, scal, ↓reduceIte, Bool.false_eq_true]
  exact fun p hp kp => k.new hp kp
abbrev sLPart : Stmt := topS 44
theorem scLPart : FnScope ["_law_value"] ["_law_value"] (defScope sLPart) := ⟨rfl, rfl, rfl, by decide +kernel, rfl, by decide +kernel, by decide +kernel⟩
theorem k_LPart (T : Bt K mg) (D : Dfn K mg "_law_part" sLPart ["_law_value"]) (d__law_lowest : Kn P w K mg base 2 "_law_lowest" ["_law_top", "_law_bottom"] (spLowest K)) : Kn P w K mg base 3 "_law_part" ["_law_value"] (spUn K fun q => (q.1 % q.2, q.2)) := by
  refine Kn.mk' D scLPart (fun vs H Q E h => ?_) (fun f cdv A outer s H vs Q E hr h => ?_)
  · obtain ⟨a, q, rfl, _⟩ := h
    rfl
  obtain ⟨a, q, rfl, hq, k⟩ := h
  refine ⟨_, (pss_one (ps_ret (pe_kn d__law_lowest hr (by rfl) (pa_cons (pe_op op_modN (pe_callTy call_int1 (by rfl) T.b_int (by decide +kernel) (pa_cons (pe_ix ix_any (pv 0) pe_int (fun _ _ => rfl)) pa_nil)) (pe_ix ix_any (pv 0) pe_int (fun _ _ => rfl))) (pa_cons (pe_ix ix_any (pv 0) pe_int (fun _ _ => rfl)) pa_nil))))), ?_⟩
  have fm : q.1.fmod q.2 = q.1 % q.2 := Int.fmod_eq_emod_of_nonneg _ (by have := hq.nf.1; omega)
  simp only [hq.o, fm, cx_K, decide_true, decide_false, reduceCtorEq, gTp, gCons, gNil, ca_0, ca_1, ca_2, ca_3, ca_4, ca_5, ca_6, ca_7, ca_8, ca_9, ca_10, ca_11, ca_12, ca_13, ca_14, ca_15, ca_16, ca_17, ca_18, ca_19, ca_20, ca_21, ca_22, ca_23, ca_24, ca_25, ca_26, ca_27, ca_28, ca_29, ca_30, not_true_eq_false, not_false_eq_true, Int.reduceEq, Nat.reduceEqDiff, Nat.reduceLeDiff, rGcd, V.ty.injEq, eq_self, List.not_mem_nil, beq_self_eq_true, HO.lst.injEq, HO.tup.injEq, tFor_eq, iRng1, iList, iTup, nat10, tSeq, rIxA, rSetA, rIsN, rIsT, tTp, tLs, itsO_tup, itsO_lst, tyO_tup, tyO_lst, tyO_dK, tyN_non, tyN_bl, tyN_int, tyN_str, tyN_ref, tyNs_lt, isB, upd_same, upd_upd, sizeLine_eq, List.mem_cons, String.reduceBEq, String.reduceEq, Bool.or_false, Bool.or_true, Bool.and_false, Bool.false_or, Bool.and_self, Bool.false_and, Bool.not_false, Bool.not_true, List.any_cons, List.any_nil, atI_0, setI_0, atI_1, setI_1, atI_2, setI_2, atI_3, setI_3, atI_4, setI_4, atI_5, setI_5, atI_6, setI_6, tAsg, gName, tOp, tUn, tVar, tC, tCons, L2.tNil, tRet, tIfS, tTest, tCB, tCall, rI, rI0, rU, tNext, tB, tAnd, tOr, tNot, tAndV, tOrV, tNotV, tDrop, tIf, tPar, gSub, rIxL, rIxT, rEq, rNe, rSetL, tBits,
    L2.start, List.map_cons, List.map_nil, List.cons_append, List.nil_append, List.append_nil, List.length_cons, List.length_nil, List.replicate, Nat.reduceAdd, Nat.reduceSub, Nat.zero_add, List.getElem?_cons_zero, List.getElem?_cons_succ, List.set_cons_zero, List.set_cons_succ,
    Option.some.injEq, exists_eq_left', exists_eq_left, V.int.injEq, V.bl.injEq, V.ref.injEq, V.str.injEq, List.cons.injEq, reduceCtorEq, and_true, true_and, false_and, and_false, exists_false, or_false, false_or, or_true, true_or, exists_const, CMul, CDiv, CPow, and_assoc, exists_and_left, exists_and_right, Int.reducePow, Int.reduceNeg, Int.reduceLT, Int.reduceLE, Nat.reducePow, Nat.reduceLT, Int.reduceToNat, gt_iff_lt, ge_iff_le, decide_eq_true_eq, Bool.not_eq_true', decide_eq_false_iff_not, scal, ↓reduceIte, Bool.false_eq_true]
  refine ⟨hq.nf.ne, _, _, rfl, hq.sz.2, fun z hz => ?_⟩
  rw [is_unique hq.nf.ne (hz.2 hq.nf.ne) (is_self (nf_part hq.nf))]
  exact k
def spLFracs (K : PySem.W.Frag) : Sp := fun vs H Q _ => ∃ (l : Addr) (xs : List V), vs = [.ref l] ∧ H l = some (.lst xs) ∧ K.lookup l = none ∧ (∀ x ∈ xs, ∃ a q, x = .ref a ∧ Fq K H 8000 a q) ∧ Q (.bl true) H
def FracsI (l : Addr) (H : Hp) (_ : Nat) (σ : L2.St) (H' : Hp) : Prop := ∃ y, σ = [some (.ref l), y] ∧ H' = H
def spLeaves (K : PySem.W.Frag) : Sp := fun vs H Q _ => ∃ (a b : Addr) (p q : Qt), vs = [.ref a, .ref b] ∧ Fq K H 8000 a p ∧ Fq K H 8000 b q ∧ Q (.bl (decide (q.2 = p.2) && decide ((p.1 - q.1) % p.2 = 0))) H
abbrev sNegated : Stmt := topS 28
theorem scNegated : FnScope ["value"] ["value"] (defScope sNegated) := ⟨rfl, rfl, rfl, by decide +kernel, rfl, by decide +kernel, by decide +kernel⟩
theorem k_Negated (T : Bt K mg) (D : Dfn K mg "negated" sNegated ["value"]) (d_require : Kn P w K mg base 1 "require" ["well_formed", "what"] spRequire) (d_is_fraction : Kn P w K mg base 2 "is_fraction" ["value"] (spIsFraction K)) : Kn P w K mg base 3 "negated" ["value"] (spUn K fun q => (-q.1, q.2)) := by
  refine Kn.mk' D scNegated (fun vs H Q E h => ?_) (fun f cdv A outer s H vs Q E hr h => ?_)
  · obtain ⟨a, q, rfl, _⟩ := h
    rfl
  obtain ⟨a, q, rfl, hq, k⟩ := h
  refine ⟨_, (pss_cons (ps_expr (pe_kn d_require hr (by rfl) (pa_cons (pe_kn d_is_fraction hr (by rfl) (pa_cons (pv 0) pa_nil)) (pa_cons pe_str pa_nil))))
      (pss_one (ps_ret (pe_tp (pa_cons (pe_un un_neg (pe_ix ix_any (pv 0) pe_int (fun _ _ => rfl))) (pa_cons (pe_ix ix_any (pv 0) pe_int (fun _ _ => rfl)) pa_nil)))))), ?_⟩
  simp only [cx_K, decide_true, decide_false, reduceCtorEq, gTp, gCons, gNil, ca_0, ca_1, ca_2, ca_3, ca_4, ca_5, ca_6, ca_7, ca_8, ca_9, ca_10, ca_11, ca_12, ca_13, ca_14, ca_15, ca_16, ca_17, ca_18, ca_19, ca_20, ca_21, ca_22, ca_23, ca_24, ca_25, ca_26, ca_27, ca_28, ca_29, ca_30, not_true_eq_false, not_false_eq_true, Int.reduceEq, Nat.reduceEqDiff, Nat.reduceLeDiff, rGcd, V.ty.injEq, eq_self, List.not_mem_nil, beq_self_eq_true, HO.lst.injEq, HO.tup.injEq, tFor_eq, iRng1, iList, iTup, nat10, tSeq, rIxA, rSetA, rIsN, rIsT, tTp, tLs, itsO_tup, itsO_lst, tyO_tup, tyO_lst, tyO_dK, tyN_non, tyN_bl, tyN_int, tyN_str, tyN_ref, tyNs_lt, isB, upd_same, upd_upd, sizeLine_eq, List.mem_cons, String.reduceBEq, String.reduceEq, Bool.or_false, Bool.or_true, Bool.and_false, Bool.false_or, Bool.and_self, Bool.false_and, Bool.not_false, Bool.not_true, List.any_cons, List.any_nil, atI_0, setI_0, atI_1, setI_1, atI_2, setI_2, atI_3, setI_3, atI_4, setI_4, atI_5, setI_5, atI_6, setI_6, tAsg, gName, tOp, tUn, tVar, tC, tCons, L2.tNil, tRet, tIfS, tTest, tCB, tCall, rI, rI0, rU, tNext, tB, tAnd, tOr, tNot, tAndV, tOrV, tNotV, tDrop, tIf, tPar, gSub, rIxL, rIxT, rEq, rNe, rSetL, tBits,
    L2.start, List.map_cons, List.map_nil, List.cons_append, List.nil_append, List.append_nil, List.length_cons, List.length_nil, List.replicate, Nat.reduceAdd, Nat.reduceSub, Nat.zero_add, List.getElem?_cons_zero, List.getElem?_cons_succ, List.set_cons_zero, List.set_cons_succ,
    Option.some.injEq, exists_eq_left', exists_eq_left, V.int.injEq, V.bl.injEq, V.ref.injEq, V.str.injEq, List.cons.injEq, reduceCtorEq, and_true, true_and, false_and, and_false, exists_false, or_false, false_or, or_true, true_or, exists_const, CMul, CDiv, CPow, and_assoc, exists_and_left, exists_and_right, Int.reducePow, Int.reduceNeg, Int.reduceLT, Int.reduceLE, Nat.reducePow, Nat.reduceLT, Int.reduceToNat, gt_iff_lt, ge_iff_le, decide_eq_true_eq, Bool.not_eq_true', decide_eq_false_iff_not, scal, ↓reduceIte, Bool.false_eq_true]
  refine ⟨_, rfl, Tyd.fr hq.o, _, by rw [frOk_fr hq.o hq.nf], ?_⟩
  simp only [hq.o, cx_K, decide_true, decide_false, reduceCtorEq, gTp, gCons, gNil, ca_0, ca_1, ca_2, ca_3, ca_4, ca_5, ca_6, ca_7, ca_8, ca_9, ca_10, ca_11, ca_12, ca_13, ca_14, ca_15, ca_16, ca_17, ca_18, ca_19, ca_20, ca_21, ca_22, ca_23, ca_24, ca_25, ca_26, ca_27, ca_28, ca_29, ca_30, not_true_eq_false, not_false_eq_true, Int.reduceEq, Nat.reduceEqDiff, Nat.reduceLeDiff, rGcd, V.ty.injEq, eq_self, List.not_mem_nil, beq_self_eq_true, HO.lst.injEq, HO.tup.injEq, tFor_eq, iRng1, iList, iTup, nat10, tSeq, rIxA, rSetA, rIsN, rIsT, tTp, tLs, itsO_tup, itsO_lst, tyO_tup, tyO_lst, tyO_dK, tyN_non, tyN_bl, tyN_int, tyN_str, tyN_ref, tyNs_lt, isB, upd_same, upd_upd, sizeLine_eq, List.mem_cons, String.reduceBEq, String.reduceEq, Bool.or_false, Bool.or_true, Bool.and_false, Bool.false_or, Bool.and_self, Bool.false_and, Bool.not_false, Bool.not_true, List.any_cons, List.any_nil, atI_0, setI_0, atI_1, setI_1, atI_2, setI_2, atI_3, setI_3, atI_4, setI_4, atI_5, setI_5, atI_6, setI_6, tAsg, gName, tOp, tUn, tVar, tC, tCons, L2.tNil, tRet, tIfS, tTest, tCB, tCall, rI, rI0, rU, tNext, tB, tAnd, tOr, tNot, tAndV, tOrV, tNotV, tDrop, tIf, tPar, gSub, rIxL, rIxT, rEq, rNe, rSetL, tBits,
    L2.start, List.map_cons, List.map_nil, List.cons_append, List.nil_append, List.append_nil, List.length_cons, List.length_nil, List.replicate, Nat.reduceAdd, Nat.reduceSub, Nat.zero_add, List.getElem?_cons_zero, List.getElem?_cons_succ, List.set_cons_zero, List.set_cons_succ,
    Option.some.injEq, exists_eq_left', exists_eq_left, V.int.injEq, V.bl.injEq, V.ref.injEq, V.str.injEq, List.cons.injEq, reduceCtorEq, and_true, true_and, false_and, and_false, exists_false, or_false, false_or, or_true, true_or, exists_const, CMul, CDiv, CPow, and_assoc, exists_and_left, exists_and_right, Int.reducePow, Int.reduceNeg, Int.reduceLT, Int.reduceLE, Nat.reducePow, Nat.reduceLT, Int.reduceToNat, gt_iff_lt, ge_iff_le, decide_eq_true_eq, Bool.not_eq_true', decide_eq_false_iff_not, scal, ↓reduceIte, Bool.false_eq_true]
  exact fun p hp kp => k.new hp kp
abbrev sLTimes : Stmt := topS 42
theorem scLTimes : FnScope ["_law_left", "_law_right"] ["_law_left", "_law_right"] (defScope sLTimes) := ⟨rfl, rfl, rfl, by decide +kernel, rfl, by decide +kernel, by decide +kernel⟩
theorem k_LTimes (T : Bt K mg) (D : Dfn K mg "_law_times" sLTimes ["_law_left", "_law_right"]) (d__law_lowest : Kn P w K mg base 2 "_law_lowest" ["_law_top", "_law_bottom"] (spLowest K)) : Kn P w K mg base 3 "_law_times" ["_law_left", "_law_right"] (spBin K pro2) := by
  refine Kn.mk' D scLTimes (fun vs H Q E h => ?_) (fun f cdv A outer s H vs Q E hr h => ?_)
  · obtain ⟨a, b, p, q, rfl, _⟩ := h
    rfl
  obtain ⟨a, b, p, q, rfl, hp, hq, k⟩ := h
  refine ⟨_, (pss_one (ps_ret (pe_kn d__law_lowest hr (by rfl) (pa_cons (pe_op op_mulW (pe_ix ix_any (pv 0) pe_int (fun _ _ => rfl)) (pe_ix ix_any (pv 1) pe_int (fun _ _ => rfl))) (pa_cons (pe_op op_mulW (pe_ix ix_any (pv 0) pe_int (fun _ _ => rfl)) (pe_ix ix_any (pv 1) pe_int (fun _ _ => rfl))) pa_nil))))), ?_⟩
  simp only [hp.o, hq.o, cx_K, decide_true, decide_false, reduceCtorEq, gTp, gCons, gNil, ca_0, ca_1, ca_2, ca_3, ca_4, ca_5, ca_6, ca_7, ca_8, ca_9, ca_10, ca_11, ca_12, ca_13, ca_14, ca_15, ca_16, ca_17, ca_18, ca_19, ca_20, ca_21, ca_22, ca_23, ca_24, ca_25, ca_26, ca_27, ca_28, ca_29, ca_30, not_true_eq_false, not_false_eq_true, Int.reduceEq, Nat.reduceEqDiff, Nat.reduceLeDiff, rGcd, V.ty.injEq, eq_self, List.not_mem_nil, beq_self_eq_true, HO.lst.injEq, HO.tup.injEq, tFor_eq, iRng1, iList, iTup, nat10, tSeq, rIxA, rSetA, rIsN, rIsT, tTp, tLs, itsO_tup, itsO_lst, tyO_tup, tyO_lst, tyO_dK, tyN_non, tyN_bl, tyN_int, tyN_str, tyN_ref, tyNs_lt, isB, upd_same, upd_upd, sizeLine_eq, List.mem_cons, String.reduceBEq, String.reduceEq, Bool.or_false, Bool.or_true, Bool.and_false, Bool.false_or, Bool.and_self, Bool.false_and, Bool.not_false, Bool.not_true, List.any_cons, List.any_nil, atI_0, setI_0, atI_1, setI_1, atI_2, setI_2, atI_3, setI_3, atI_4, setI_4, atI_5, setI_5, atI_6, setI_6, tAsg, gName, tOp, tUn, tVar, tC, tCons, L2.tNil, tRet, tIfS, tTest, tCB, tCall, rI, rI0, rU, tNext, tB, tAnd, tOr, tNot, tAndV, tOrV, tNotV, tDrop, tIf, tPar, gSub, rIxL, rIxT, rEq, rNe, rSetL, tBits,
    L2.start, List.map_cons, List.map_nil, List.cons_append, List.nil_append, List.append_nil, List.length_cons, List.length_nil, List.replicate, Nat.reduceAdd, Nat.reduceSub, Nat.zero_add, List.getElem?_cons_zero, List.getElem?_cons_succ, List.set_cons_zero, List.set_cons_succ,
    Option.some.injEq, exists_eq_left', exists_eq_left, V.int.injEq, V.bl.injEq, V.ref.injEq, V.str.injEq, List.cons.injEq, reduceCtorEq, and_true, true_and, false_and, and_false, exists_false, or_false, false_or, or_true, true_or, exists_const, CMul, CDiv, CPow, and_assoc, exists_and_left, exists_and_right, Int.reducePow, Int.reduceNeg, Int.reduceLT, Int.reduceLE, Nat.reducePow, Nat.reduceLT, Int.reduceToNat, gt_iff_lt, ge_iff_le, decide_eq_true_eq, Bool.not_eq_true', decide_eq_false_iff_not, scal, ↓reduceIte, Bool.false_eq_true]
  exact ⟨mulW hp.sz.1 hq.sz.1 (by omega), mulW hp.sz.2 hq.sz.2 (by omega), _, _, rfl, szMono (szMul hp.sz.2 hq.sz.2) (by omega), fun z hz => k z (hz.2 (mul_ne hp.nf.1 hq.nf.1))⟩
theorem frOk_inv {H : Hp} {v : V} (h : frOk K H v = true) : ∃ a q, v = .ref a ∧ ob K H a = some (.tup [.int q.1, .int q.2]) ∧ Nf q := by
  cases v with
  | ref a =>
    simp only [frOk] at h
    split at h
    · rename_i n d hz
      simp only [Bool.and_eq_true, decide_eq_true_eq] at h
      exact ⟨_, (n, d), rfl, hz, h.1, h.2⟩
    · cases h
  | _ => cases h
/-- a place: a fraction of 0 or more, less than 1 -/
def plOk (K : PySem.W.Frag) (H : Hp) (v : V) : Bool := frOk K H v && match v with
  | .ref a => match ob K H a with
    | some (.tup [.int n, .int d]) => decide (0 ≤ n) && decide (n < d)
    | _ => false
  | _ => false
theorem plOk_no {H : Hp} {v : V} (h : frOk K H v = false) : plOk K H v = false := by unfold plOk; rw [h]; rfl
theorem plOk_fr {H : Hp} {a : Addr} {q : Qt} (h : ob K H a = some (.tup [.int q.1, .int q.2])) (hn : Nf q) : plOk K H (.ref a) = (decide (0 ≤ q.1) && decide (q.1 < q.2)) := by
  have e := frOk_fr (K := K) h hn
  unfold plOk
  rw [e]
  simp only [h, Bool.true_and]
def spIsPlace (K : PySem.W.Frag) : Sp := fun vs H Q _ => ∃ v, vs = [v] ∧ Tyd K H v ∧ Q (.bl (plOk K H v)) H
abbrev sIsPlace : Stmt := topS 23
theorem scIsPlace : FnScope ["value"] ["value"] (defScope sIsPlace) := ⟨rfl, rfl, rfl, by decide +kernel, rfl, by decide +kernel, by decide +kernel⟩
theorem k_IsPlace (T : Bt K mg) (D : Dfn K mg "is_place" sIsPlace ["value"]) (d_is_fraction : Kn P w K mg base 2 "is_fraction" ["value"] (spIsFraction K)) : Kn P w K mg base 3 "is_place" ["value"] (spIsPlace K) := by
  refine Kn.mk' D scIsPlace (fun vs H Q E h => ?_) (fun f cdv A outer s H vs Q E hr h => ?_)
  · obtain ⟨v, rfl, _⟩ := h
    rfl
  obtain ⟨v, rfl, hv, q⟩ := h
  refine ⟨_, (pss_one (ps_ret (pe_and (pe_kn d_is_fraction hr (by rfl) (pa_cons (pv 0) pa_nil)) (pe_one (pe_chain op_le op_lt pe_int (pe_ix ix_any (pv 0) pe_int (fun _ _ => rfl)) (pe_ix ix_any (pv 0) pe_int (fun _ _ => rfl))))))), ?_⟩
  refine ⟨_, rfl, v, rfl, hv, ?_⟩
  cases e : frOk K H v with
  | false =>
    rw [plOk_no e] at q
    exact ⟨false, rfl, q⟩
  | true =>
    obtain ⟨a, z, rfl, ho, hn⟩ := frOk_inv e
    rw [plOk_fr ho hn] at q
    refine ⟨true, rfl, ?_⟩
    rw [if_pos rfl]
    simp only [ho, tChain, cx_K, decide_true, decide_false, reduceCtorEq, gTp, gCons, gNil, ca_0, ca_1, ca_2, ca_3, ca_4, ca_5, ca_6, ca_7, ca_8, ca_9, ca_10, ca_11, ca_12, ca_13, ca_14, ca_15, ca_16, ca_17, ca_18, ca_19, ca_20, ca_21, ca_22, ca_23, ca_24, ca_25, ca_26, ca_27, ca_28, ca_29, ca_30, not_true_eq_false, not_false_eq_true, Int.reduceEq, Nat.reduceEqDiff, Nat.reduceLeDiff, rGcd, V.ty.injEq, eq_self, List.not_mem_nil, beq_self_eq_true, HO.lst.injEq, HO.tup.injEq, tFor_eq, iRng1, iList, iTup, nat10, tSeq, rIxA, rSetA, rIsN, rIsT, tTp, tLs, itsO_tup, itsO_lst, tyO_tup, tyO_lst, tyO_dK, tyN_non, tyN_bl, tyN_int, tyN_str, tyN_ref, tyNs_lt, isB, upd_same, upd_upd, sizeLine_eq, List.mem_cons, String.reduceBEq, String.reduceEq, Bool.or_false, Bool.or_true, Bool.and_false, Bool.false_or, Bool.and_self, Bool.false_and, Bool.not_false, Bool.not_true, List.any_cons, List.any_nil, atI_0, setI_0, atI_1, setI_1, atI_2, setI_2, atI_3, setI_3, atI_4, setI_4, atI_5, setI_5, atI_6, setI_6, tAsg, gName, tOp, tUn, tVar, tC, tCons, L2.tNil, tRet, tIfS, tTest, tCB, tCall, rI, rI0, rU, tNext, tB, tAnd, tOr, tNot, tAndV, tOrV, tNotV, tDrop, tIf, tPar, gSub, rIxL, rIxT, rEq, rNe, rSetL, tBits,
    L2.start, List.map_cons, List.map_nil, List.cons_append, List.nil_append, List.append_nil, List.length_cons, List.length_nil, List.replicate, Nat.reduceAdd, Nat.reduceSub, Nat.zero_add, List.getElem?_cons_zero, List.getElem?_cons_succ, List.set_cons_zero, List.set_cons_succ,
    Option.some.injEq, exists_eq_left', exists_eq_left, V.int.injEq, V.bl.injEq, V.ref.injEq, V.str.injEq, List.cons.injEq, reduceCtorEq, and_true, true_and, false_and, and_false, exists_false, or_false, false_or, or_true, true_or, exists_const, CMul, CDiv, CPow, and_assoc, exists_and_left, exists_and_right, Int.reducePow, Int.reduceNeg, Int.reduceLT, Int.reduceLE, Nat.reducePow, Nat.reduceLT, Int.reduceToNat, gt_iff_lt, ge_iff_le, decide_eq_true_eq, Bool.not_eq_true', decide_eq_false_iff_not, scal, ↓reduceIte, Bool.false_eq_true]
    refine ite2 (fun h => ?_) (fun h => ?_)
    · rw [decide_eq_true h, Bool.true_and] at q
      exact q
    · rw [decide_eq_false h, Bool.false_and] at q
      exact q
def spLPlace (K : PySem.W.Frag) : Sp := fun vs H Q _ => ∃ (a : Addr) (q : Qt), vs = [.ref a] ∧ Fq K H 8000 a q ∧ 0 ≤ q.1 ∧ q.1 < q.2 ∧ Q (.bl true) H
abbrev sLIsPlace : Stmt := topS 47
theorem scLIsPlace : FnScope ["_law_told"] ["_law_told"] (defScope sLIsPlace) := ⟨rfl, rfl, rfl, by decide +kernel, rfl, by decide +kernel, by decide +kernel⟩
theorem k_LIsPlace (T : Bt K mg) (D : Dfn K mg "_law_is_place" sLIsPlace ["_law_told"]) (d__law_is_frac : Kn P w K mg base 2 "_law_is_frac" ["_law_told"] (spLFrac K)) : Kn P w K mg base 3 "_law_is_place" ["_law_told"] (spLPlace K) := by
  refine Kn.mk' D scLIsPlace (fun vs H Q E h => ?_) (fun f cdv A outer s H vs Q E hr h => ?_)
  · obtain ⟨a, q, rfl, _⟩ := h
    rfl
  obtain ⟨a, q, rfl, hq, h0, h1, k⟩ := h
  refine ⟨_, (pss_one (ps_ret (pe_and (pe_kn d__law_is_frac hr (by rfl) (pa_cons (pv 0) pa_nil)) (pe_and (pe_cmpR op_le pe_int (pe_ix ix_any (pv 0) pe_int (fun _ _ => rfl)) (nomark _)) (pe_one (pe_cmpR op_lt (pe_ix ix_any (pv 0) pe_int (fun _ _ => rfl)) (pe_ix ix_any (pv 0) pe_int (fun _ _ => rfl)) (nomark _))))))), ?_⟩
  refine ⟨_, rfl, a, q, rfl, hq, true, rfl, ?_⟩
  simp only [hq.o, cx_K, decide_true, decide_false, reduceCtorEq, gTp, gCons, gNil, ca_0, ca_1, ca_2, ca_3, ca_4, ca_5, ca_6, ca_7, ca_8, ca_9, ca_10, ca_11, ca_12, ca_13, ca_14, ca_15, ca_16, ca_17, ca_18, ca_19, ca_20, ca_21, ca_22, ca_23, ca_24, ca_25, ca_26, ca_27, ca_28, ca_29, ca_30, not_true_eq_false, not_false_eq_true, Int.reduceEq, Nat.reduceEqDiff, Nat.reduceLeDiff, rGcd, V.ty.injEq, eq_self, List.not_mem_nil, beq_self_eq_true, HO.lst.injEq, HO.tup.injEq, tFor_eq, iRng1, iList, iTup, nat10, tSeq, rIxA, rSetA, rIsN, rIsT, tTp, tLs, itsO_tup, itsO_lst, tyO_tup, tyO_lst, tyO_dK, tyN_non, tyN_bl, tyN_int, tyN_str, tyN_ref, tyNs_lt, isB, upd_same, upd_upd, sizeLine_eq, List.mem_cons, String.reduceBEq, String.reduceEq, Bool.or_false, Bool.or_true, Bool.and_false, Bool.false_or, Bool.and_self, Bool.false_and, Bool.not_false, Bool.not_true, List.any_cons, List.any_nil, atI_0, setI_0, atI_1, setI_1, atI_2, setI_2, atI_3, setI_3, atI_4, setI_4, atI_5, setI_5, atI_6, setI_6, tAsg, gName, tOp, tUn, tVar, tC, tCons, L2.tNil, tRet, tIfS, tTest, tCB, tCall, rI, rI0, rU, tNext, tB, tAnd, tOr, tNot, tAndV, tOrV, tNotV, tDrop, tIf, tPar, gSub, rIxL, rIxT, rEq, rNe, rSetL, tBits,
    L2.start, List.map_cons, List.map_nil, List.cons_append, List.nil_append, List.append_nil, List.length_cons, List.length_nil, List.replicate, Nat.reduceAdd, Nat.reduceSub, Nat.zero_add, List.getElem?_cons_zero, List.getElem?_cons_succ, List.set_cons_zero, List.set_cons_succ,
    Option.some.injEq, exists_eq_left', exists_eq_left, V.int.injEq, V.bl.injEq, V.ref.injEq, V.str.injEq, List.cons.injEq, reduceCtorEq, and_true, true_and, false_and, and_false, exists_false, or_false, false_or, or_true, true_or, exists_const, CMul, CDiv, CPow, and_assoc, exists_and_left, exists_and_right, Int.reducePow, Int.reduceNeg, Int.reduceLT, Int.reduceLE, Nat.reducePow, Nat.reduceLT, Int.reduceToNat, gt_iff_lt, ge_iff_le, decide_eq_true_eq, Bool.not_eq_true', decide_eq_false_iff_not, scal, ↓reduceIte, Bool.false_eq_true]
  rw [if_pos h0, decide_eq_true h1]
  exact k
end
end My

namespace My
open PySem PySem.Spec PyProof.Rows L2
section
variable {P : Program} {w : World} {K : PySem.W.Frag} {mg : Str → Option Value} {base : Heap}
/-- an int that the draws gave; all but the store stands -/
def spPick (K : PySem.W.Frag) : Sp := fun vs H Q _ => ∃ (s r : Addr) (xs : List V), vs = [.ref s, .ref r] ∧ Sto K H s ∧ H r = some (.lst xs) ∧ s ≠ r ∧ 0 < xs.length ∧ xs.length < 1000 ∧ ∀ x H', x ∈ xs → Kp s H H' → Sto K H' s → Q x H'
theorem at_mem {α : Type} {xs : List α} {i : Int} (h0 : 0 ≤ i) (h : i < (xs.length : Int)) : ∃ v ∈ xs, atI xs i = some v := by
  have hk : i.toNat < xs.length := by omega
  have q : atI xs ((i.toNat : Nat) : Int) = some xs[i.toNat] := atI_nat (List.getElem?_eq_getElem hk)
  rw [show ((i.toNat : Nat) : Int) = i by omega] at q
  exact ⟨_, List.getElem_mem hk, q⟩
theorem Sto.at {H : Hp} {s : Addr} (h : Sto K H s) : ∃ ys, H s = some (.lst ys) := by
  obtain ⟨sc, ns, i, b, c, d, e, f, h⟩ := h
  exact ⟨_, h.1⟩
theorem Kp.at {s : Addr} {H H' : Hp} {r : Addr} {o : HO} (e : Kp s H H') (n : s ≠ r) (h : H r = some o) : H' r = some o := e _ _ (Ne.symm n) h
abbrev sPick : Stmt := topS 38
theorem scPick : FnScope ["_law_store_here", "_law_row"] ["_law_store_here", "_law_row"] (defScope sPick) := ⟨rfl, rfl, rfl, by decide +kernel, rfl, by decide +kernel, by decide +kernel⟩
theorem k_Pick (T : Bt K mg) (D : Dfn K mg "_law_pick" sPick ["_law_store_here", "_law_row"]) (d__law_take : Kn P w K mg base 2 "_law_take" ["_law_store_here", "_law_many"] (spTake K)) : Kn P w K mg base 3 "_law_pick" ["_law_store_here", "_law_row"] (spPick K) := by
  refine Kn.mk' D scPick (fun vs H Q E h => ?_) (fun f cdv A outer s H vs Q E hr h => ?_)
  · obtain ⟨s, r, xs, rfl, _⟩ := h
    rfl
  obtain ⟨s, r, xs, rfl, hS, hr', ne, hl0, hl1, k⟩ := h
  refine ⟨_, (pss_one (ps_ret (pe_ix ix_list (pv 1) (pe_kn d__law_take hr (by rfl) (pa_cons (pv 0) (pa_cons (pe_callB call_len_seq (by rfl) T.b_len PySem.boot_len (pa_cons (pv 1) pa_nil)) pa_nil))) (fun _ _ => rfl)))), ?_⟩
  simp only [cx_K, decide_true, decide_false, reduceCtorEq, gTp, gCons, gNil, ca_0, ca_1, ca_2, ca_3, ca_4, ca_5, ca_6, ca_7, ca_8, ca_9, ca_10, ca_11, ca_12, ca_13, ca_14, ca_15, ca_16, ca_17, ca_18, ca_19, ca_20, ca_21, ca_22, ca_23, ca_24, ca_25, ca_26, ca_27, ca_28, ca_29, ca_30, not_true_eq_false, not_false_eq_true, Int.reduceEq, Nat.reduceEqDiff, Nat.reduceLeDiff, rGcd, V.ty.injEq, eq_self, List.not_mem_nil, beq_self_eq_true, HO.lst.injEq, HO.tup.injEq, tFor_eq, iRng1, iList, iTup, nat10, tSeq, rIxA, rSetA, rIsN, rIsT, tTp, tLs, itsO_tup, itsO_lst, tyO_tup, tyO_lst, tyO_dK, tyN_non, tyN_bl, tyN_int, tyN_str, tyN_ref, tyNs_lt, isB, upd_same, upd_upd, sizeLine_eq, List.mem_cons, String.reduceBEq, String.reduceEq, Bool.or_false, Bool.or_true, Bool.and_false, Bool.false_or, Bool.and_self, Bool.false_and, Bool.not_false, Bool.not_true, List.any_cons, List.any_nil, atI_0, setI_0, atI_1, setI_1, atI_2, setI_2, atI_3, setI_3, atI_4, setI_4, atI_5, setI_5, atI_6, setI_6, tAsg, gName, tOp, tUn, tVar, tC, tCons, L2.tNil, tRet, tIfS, tTest, tCB, tCall, rI, rI0, rU, tNext, tB, tAnd, tOr, tNot, tAndV, tOrV, tNotV, tDrop, tIf, tPar, gSub, rIxL, rIxT, rEq, rNe, rSetL, tBits,
    L2.start, List.map_cons, List.map_nil, List.cons_append, List.nil_append, List.append_nil, List.length_cons, List.length_nil, List.replicate, Nat.reduceAdd, Nat.reduceSub, Nat.zero_add, List.getElem?_cons_zero, List.getElem?_cons_succ, List.set_cons_zero, List.set_cons_succ,
    Option.some.injEq, exists_eq_left', exists_eq_left, V.int.injEq, V.bl.injEq, V.ref.injEq, V.str.injEq, List.cons.injEq, reduceCtorEq, and_true, true_and, false_and, and_false, exists_false, or_false, false_or, or_true, true_or, exists_const, CMul, CDiv, CPow, and_assoc, exists_and_left, exists_and_right, Int.reducePow, Int.reduceNeg, Int.reduceLT, Int.reduceLE, Nat.reducePow, Nat.reduceLT, Int.reduceToNat, gt_iff_lt, ge_iff_le, decide_eq_true_eq, Bool.not_eq_true', decide_eq_false_iff_not, scal, ↓reduceIte, Bool.false_eq_true]
  refine ⟨xs, .inl (.of hr'), s, _, rfl, hS, by omega, fun i H' h0 h1 kp st => ?_⟩
  obtain ⟨v, hv, e⟩ := at_mem (xs := xs) (i := i) h0 (by omega)
  exact ⟨xs, i, rfl, .of (kp.at ne hr'), v, e, k v H' hv kp st⟩
def spInt (K : PySem.W.Frag) (R : Int → Prop) : Sp := fun vs H Q _ => ∃ (s : Addr), vs = [.ref s] ∧ Sto K H s ∧ ∀ n H', R n → Kp s H H' → Sto K H' s → Q (.int n) H'
def spLInt (K : PySem.W.Frag) : Sp := fun vs H Q _ => ∃ (s : Addr) (r : Int), vs = [.ref s, .int r] ∧ Sto K H s ∧ 1 ≤ r ∧ r < 2 ^ 190 ∧ ∀ n H', -r ≤ n → n ≤ r → Kp s H H' → Sto K H' s → Q (.int n) H'
theorem menu {xs : List V} {i : Int} {R : V → Prop} (h0 : 0 ≤ i) (h : i < (xs.length : Int)) (k : ∀ v ∈ xs, R v) : ∃ v, atI xs i = some v ∧ R v := by
  obtain ⟨v, hv, e⟩ := at_mem h0 h
  exact ⟨v, e, k v hv⟩
abbrev sLInt : Stmt := topS 50
theorem scLInt : FnScope ["_law_store_here", "_law_reach", "_law_spot"] ["_law_store_here", "_law_reach"] (defScope sLInt) := ⟨rfl, rfl, rfl, by decide +kernel, rfl, by decide +kernel, by decide +kernel⟩
theorem k_LInt (T : Bt K mg) (D : Dfn K mg "_law_whole" sLInt ["_law_store_here", "_law_reach"]) (d__law_take : Kn P w K mg base 2 "_law_take" ["_law_store_here", "_law_many"] (spTake K)) : Kn P w K mg base 3 "_law_whole" ["_law_store_here", "_law_reach"] (spLInt K) := by
  refine Kn.mk' D scLInt (fun vs H Q E h => ?_) (fun f cdv A outer s H vs Q E hr h => ?_)
  · obtain ⟨s, r, rfl, _⟩ := h
    rfl
  obtain ⟨s, r, rfl, hS, hr1, hr2, k⟩ := h
  refine ⟨_, (pss_cons (ps_set (i := 2) scLInt.nd rfl (.inl rfl) (pe_kn d__law_take hr (by rfl) (pa_cons (pv 0) (pa_cons pe_int pa_nil))))
      (pss_cons (ps_if (pt_cmpR op_lt (pv 2) pe_int (nomark _)) (pss_one (ps_ret (pe_ix ix_any (pe_ls (pa_cons pe_int (pa_cons (pe_callB (call_min2 rfl) (by rfl) T.b_min (by decide +kernel) (pa_cons pe_int (pa_cons (pv 1) pa_nil))) (pa_cons (pe_un un_neg (pe_callB (call_min2 rfl) (by rfl) T.b_min (by decide +kernel) (pa_cons pe_int (pa_cons (pv 1) pa_nil)))) (pa_cons (pv 1) (pa_cons (pe_un un_neg (pv 1)) pa_nil)))))) (pv 2) (fun _ _ => rfl)))) pss_nil)
      (pss_one (ps_ret (pe_op op_sub (pe_kn d__law_take hr (by rfl) (pa_cons (pv 0) (pa_cons (pe_op op_add (pe_op op_mul pe_int (pv 1)) pe_int) pa_nil))) (pv 1)))))), ?_⟩
  simp only [cx_K, decide_true, decide_false, reduceCtorEq, gTp, gCons, gNil, ca_0, ca_1, ca_2, ca_3, ca_4, ca_5, ca_6, ca_7, ca_8, ca_9, ca_10, ca_11, ca_12, ca_13, ca_14, ca_15, ca_16, ca_17, ca_18, ca_19, ca_20, ca_21, ca_22, ca_23, ca_24, ca_25, ca_26, ca_27, ca_28, ca_29, ca_30, not_true_eq_false, not_false_eq_true, Int.reduceEq, Nat.reduceEqDiff, Nat.reduceLeDiff, rGcd, V.ty.injEq, eq_self, List.not_mem_nil, beq_self_eq_true, HO.lst.injEq, HO.tup.injEq, tFor_eq, iRng1, iList, iTup, nat10, tSeq, rIxA, rSetA, rIsN, rIsT, tTp, tLs, itsO_tup, itsO_lst, tyO_tup, tyO_lst, tyO_dK, tyN_non, tyN_bl, tyN_int, tyN_str, tyN_ref, tyNs_lt, isB, upd_same, upd_upd, sizeLine_eq, List.mem_cons, String.reduceBEq, String.reduceEq, Bool.or_false, Bool.or_true, Bool.and_false, Bool.false_or, Bool.and_self, Bool.false_and, Bool.not_false, Bool.not_true, List.any_cons, List.any_nil, atI_0, setI_0, atI_1, setI_1, atI_2, setI_2, atI_3, setI_3, atI_4, setI_4, atI_5, setI_5, atI_6, setI_6, tAsg, gName, tOp, tUn, tVar, tC, tCons, L2.tNil, tRet, tIfS, tTest, tCB, tCall, rI, rI0, rU, tNext, tB, tAnd, tOr, tNot, tAndV, tOrV, tNotV, tDrop, tIf, tPar, gSub, rIxL, rIxT, rEq, rNe, rSetL, tBits,
    L2.start, List.map_cons, List.map_nil, List.cons_append, List.nil_append, List.append_nil, List.length_cons, List.length_nil, List.replicate, Nat.reduceAdd, Nat.reduceSub, Nat.zero_add, List.getElem?_cons_zero, List.getElem?_cons_succ, List.set_cons_zero, List.set_cons_succ,
    Option.some.injEq, exists_eq_left', exists_eq_left, V.int.injEq, V.bl.injEq, V.ref.injEq, V.str.injEq, List.cons.injEq, reduceCtorEq, and_true, true_and, false_and, and_false, exists_false, or_false, false_or, or_true, true_or, exists_const, CMul, CDiv, CPow, and_assoc, exists_and_left, exists_and_right, Int.reducePow, Int.reduceNeg, Int.reduceLT, Int.reduceLE, Nat.reducePow, Nat.reduceLT, Int.reduceToNat, gt_iff_lt, ge_iff_le, decide_eq_true_eq, Bool.not_eq_true', decide_eq_false_iff_not, scal, ↓reduceIte, Bool.false_eq_true]
  refine ⟨s, 12, rfl, hS, by omega, fun i H1 h0 h1 kp st => ?_⟩
  simp only [cx_K, decide_true, decide_false, reduceCtorEq, gTp, gCons, gNil, ca_0, ca_1, ca_2, ca_3, ca_4, ca_5, ca_6, ca_7, ca_8, ca_9, ca_10, ca_11, ca_12, ca_13, ca_14, ca_15, ca_16, ca_17, ca_18, ca_19, ca_20, ca_21, ca_22, ca_23, ca_24, ca_25, ca_26, ca_27, ca_28, ca_29, ca_30, not_true_eq_false, not_false_eq_true, Int.reduceEq, Nat.reduceEqDiff, Nat.reduceLeDiff, rGcd, V.ty.injEq, eq_self, List.not_mem_nil, beq_self_eq_true, HO.lst.injEq, HO.tup.injEq, tFor_eq, iRng1, iList, iTup, nat10, tSeq, rIxA, rSetA, rIsN, rIsT, tTp, tLs, itsO_tup, itsO_lst, tyO_tup, tyO_lst, tyO_dK, tyN_non, tyN_bl, tyN_int, tyN_str, tyN_ref, tyNs_lt, isB, upd_same, upd_upd, sizeLine_eq, List.mem_cons, String.reduceBEq, String.reduceEq, Bool.or_false, Bool.or_true, Bool.and_false, Bool.false_or, Bool.and_self, Bool.false_and, Bool.not_false, Bool.not_true, List.any_cons, List.any_nil, atI_0, setI_0, atI_1, setI_1, atI_2, setI_2, atI_3, setI_3, atI_4, setI_4, atI_5, setI_5, atI_6, setI_6, tAsg, gName, tOp, tUn, tVar, tC, tCons, L2.tNil, tRet, tIfS, tTest, tCB, tCall, rI, rI0, rU, tNext, tB, tAnd, tOr, tNot, tAndV, tOrV, tNotV, tDrop, tIf, tPar, gSub, rIxL, rIxT, rEq, rNe, rSetL, tBits,
    L2.start, List.map_cons, List.map_nil, List.cons_append, List.nil_append, List.append_nil, List.length_cons, List.length_nil, List.replicate, Nat.reduceAdd, Nat.reduceSub, Nat.zero_add, List.getElem?_cons_zero, List.getElem?_cons_succ, List.set_cons_zero, List.set_cons_succ,
    Option.some.injEq, exists_eq_left', exists_eq_left, V.int.injEq, V.bl.injEq, V.ref.injEq, V.str.injEq, List.cons.injEq, reduceCtorEq, and_true, true_and, false_and, and_false, exists_false, or_false, false_or, or_true, true_or, exists_const, CMul, CDiv, CPow, and_assoc, exists_and_left, exists_and_right, Int.reducePow, Int.reduceNeg, Int.reduceLT, Int.reduceLE, Nat.reducePow, Nat.reduceLT, Int.reduceToNat, gt_iff_lt, ge_iff_le, decide_eq_true_eq, Bool.not_eq_true', decide_eq_false_iff_not, scal, ↓reduceIte, Bool.false_eq_true]
  refine ite2 (fun h => ?_) (fun h => ?_)
  · intro p hp kp'
    rw [ob_new kp']
    simp only [cx_K, decide_true, decide_false, reduceCtorEq, gTp, gCons, gNil, ca_0, ca_1, ca_2, ca_3, ca_4, ca_5, ca_6, ca_7, ca_8, ca_9, ca_10, ca_11, ca_12, ca_13, ca_14, ca_15, ca_16, ca_17, ca_18, ca_19, ca_20, ca_21, ca_22, ca_23, ca_24, ca_25, ca_26, ca_27, ca_28, ca_29, ca_30, not_true_eq_false, not_false_eq_true, Int.reduceEq, Nat.reduceEqDiff, Nat.reduceLeDiff, rGcd, V.ty.injEq, eq_self, List.not_mem_nil, beq_self_eq_true, HO.lst.injEq, HO.tup.injEq, tFor_eq, iRng1, iList, iTup, nat10, tSeq, rIxA, rSetA, rIsN, rIsT, tTp, tLs, itsO_tup, itsO_lst, tyO_tup, tyO_lst, tyO_dK, tyN_non, tyN_bl, tyN_int, tyN_str, tyN_ref, tyNs_lt, isB, upd_same, upd_upd, sizeLine_eq, List.mem_cons, String.reduceBEq, String.reduceEq, Bool.or_false, Bool.or_true, Bool.and_false, Bool.false_or, Bool.and_self, Bool.false_and, Bool.not_false, Bool.not_true, List.any_cons, List.any_nil, atI_0, setI_0, atI_1, setI_1, atI_2, setI_2, atI_3, setI_3, atI_4, setI_4, atI_5, setI_5, atI_6, setI_6, tAsg, gName, tOp, tUn, tVar, tC, tCons, L2.tNil, tRet, tIfS, tTest, tCB, tCall, rI, rI0, rU, tNext, tB, tAnd, tOr, tNot, tAndV, tOrV, tNotV, tDrop, tIf, tPar, gSub, rIxL, rIxT, rEq, rNe, rSetL, tBits,
    L2.start, List.map_cons, List.map_nil, List.cons_append, List.nil_append, List.append_nil, List.length_cons, List.length_nil, List.replicate, Nat.reduceAdd, Nat.reduceSub, Nat.zero_add, List.getElem?_cons_zero, List.getElem?_cons_succ, List.set_cons_zero, List.set_cons_succ,
    Option.some.injEq, exists_eq_left', exists_eq_left, V.int.injEq, V.bl.injEq, V.ref.injEq, V.str.injEq, List.cons.injEq, reduceCtorEq, and_true, true_and, false_and, and_false, exists_false, or_false, false_or, or_true, true_or, exists_const, CMul, CDiv, CPow, and_assoc, exists_and_left, exists_and_right, Int.reducePow, Int.reduceNeg, Int.reduceLT, Int.reduceLE, Nat.reducePow, Nat.reduceLT, Int.reduceToNat, gt_iff_lt, ge_iff_le, decide_eq_true_eq, Bool.not_eq_true', decide_eq_false_iff_not, scal, ↓reduceIte, Bool.false_eq_true]
    refine menu h0 (by simpa using h) fun v hv => ?_
    rw [if_neg (show ¬ r < 1 by omega)] at hv ⊢
    simp only [List.mem_cons, List.not_mem_nil, or_false] at hv
    rcases hv with rfl | rfl | rfl | rfl | rfl <;> exact k _ _ (by omega) (by omega) (kp.trans (Kp.same (Same.new hp _))) (st.same (Same.new hp _))
  · refine ⟨s, _, rfl, st, by omega, fun j H2 h0' h1' kp2 st2 => ?_⟩
    simp only [cx_K, decide_true, decide_false, reduceCtorEq, gTp, gCons, gNil, ca_0, ca_1, ca_2, ca_3, ca_4, ca_5, ca_6, ca_7, ca_8, ca_9, ca_10, ca_11, ca_12, ca_13, ca_14, ca_15, ca_16, ca_17, ca_18, ca_19, ca_20, ca_21, ca_22, ca_23, ca_24, ca_25, ca_26, ca_27, ca_28, ca_29, ca_30, not_true_eq_false, not_false_eq_true, Int.reduceEq, Nat.reduceEqDiff, Nat.reduceLeDiff, rGcd, V.ty.injEq, eq_self, List.not_mem_nil, beq_self_eq_true, HO.lst.injEq, HO.tup.injEq, tFor_eq, iRng1, iList, iTup, nat10, tSeq, rIxA, rSetA, rIsN, rIsT, tTp, tLs, itsO_tup, itsO_lst, tyO_tup, tyO_lst, tyO_dK, tyN_non, tyN_bl, tyN_int, tyN_str, tyN_ref, tyNs_lt, isB, upd_same, upd_upd, sizeLine_eq, List.mem_cons, String.reduceBEq, String.reduceEq, Bool.or_false, Bool.or_true, Bool.and_false, Bool.false_or, Bool.and_self, Bool.false_and, Bool.not_false, Bool.not_true, List.any_cons, List.any_nil, atI_0, setI_0, atI_1, setI_1, atI_2, setI_2, atI_3, setI_3, atI_4, setI_4, atI_5, setI_5, atI_6, setI_6, tAsg, gName, tOp, tUn, tVar, tC, tCons, L2.tNil, tRet, tIfS, tTest, tCB, tCall, rI, rI0, rU, tNext, tB, tAnd, tOr, tNot, tAndV, tOrV, tNotV, tDrop, tIf, tPar, gSub, rIxL, rIxT, rEq, rNe, rSetL, tBits,
    L2.start, List.map_cons, List.map_nil, List.cons_append, List.nil_append, List.append_nil, List.length_cons, List.length_nil, List.replicate, Nat.reduceAdd, Nat.reduceSub, Nat.zero_add, List.getElem?_cons_zero, List.getElem?_cons_succ, List.set_cons_zero, List.set_cons_succ,
    Option.some.injEq, exists_eq_left', exists_eq_left, V.int.injEq, V.bl.injEq, V.ref.injEq, V.str.injEq, List.cons.injEq, reduceCtorEq, and_true, true_and, false_and, and_false, exists_false, or_false, false_or, or_true, true_or, exists_const, CMul, CDiv, CPow, and_assoc, exists_and_left, exists_and_right, Int.reducePow, Int.reduceNeg, Int.reduceLT, Int.reduceLE, Nat.reducePow, Nat.reduceLT, Int.reduceToNat, gt_iff_lt, ge_iff_le, decide_eq_true_eq, Bool.not_eq_true', decide_eq_false_iff_not, scal, ↓reduceIte, Bool.false_eq_true]
    exact k _ _ (by omega) (by omega) (kp.trans kp2) st2
def GreatI (s : Addr) (spot : Int) (H1 : Hp) (_ : Nat) (σ : L2.St) (H' : Hp) : Prop := ∃ v y, σ = [some (.ref s), some (.int spot), some (.int v), y] ∧ H' = H1 ∧ 0 ≤ v ∧ v < 2 ^ 133
abbrev sGreat : Stmt := topS 51
theorem scGreat : FnScope ["_law_store_here", "_law_spot", "_law_value", "_law_k"] ["_law_store_here"] (defScope sGreat) := ⟨rfl, rfl, rfl, by decide +kernel, rfl, by decide +kernel, by decide +kernel⟩
theorem k_Great (T : Bt K mg) (D : Dfn K mg "_law_great" sGreat ["_law_store_here"]) (d__law_take : Kn P w K mg base 2 "_law_take" ["_law_store_here", "_law_many"] (spTake K)) : Kn P w K mg base 3 "_law_great" ["_law_store_here"] (spInt K fun n => n.natAbs < 2 ^ 133) := by
  refine Kn.mk' D scGreat (fun vs H Q E h => ?_) (fun f cdv A outer s H vs Q E hr h => ?_)
  · obtain ⟨s, rfl, _⟩ := h
    rfl
  obtain ⟨s, rfl, hS, k⟩ := h
  refine ⟨_, (pss_cons (ps_set (i := 1) scGreat.nd rfl (.inl rfl) (pe_kn d__law_take hr (by rfl) (pa_cons (pv 0) (pa_cons pe_int pa_nil))))
      (pss_cons (ps_if (pt_cmpR op_lt (pv 1) pe_int (nomark _)) (pss_one (ps_ret (pe_ix ix_any (pe_ls (pa_cons (pe_op op_sub (pe_op op_pow pe_int pe_int) pe_int) (pa_cons (pe_op op_sub pe_int (pe_op op_pow pe_int pe_int)) (pa_cons (pe_op op_pow pe_int pe_int) (pa_cons pe_int pa_nil))))) (pv 1) (fun _ _ => rfl)))) pss_nil)
      (pss_cons (ps_set (i := 2) scGreat.nd rfl (.inl rfl) (pe_kn d__law_take hr (by rfl) (pa_cons (pv 0) (pa_cons (pe_op op_pow pe_int pe_int) pa_nil))))
      (pss_cons (ps_for PassesOwn.never rfl (pi_range1 (by rfl) T.b_range (pa_cons (pe_kn d__law_take hr (by rfl) (pa_cons (pv 0) (pa_cons pe_int pa_nil))) pa_nil)) (pg_name (i := 3) scGreat.nd rfl (.inl rfl)) (pss_one (ps_set (i := 2) scGreat.nd rfl (.inl rfl) (pe_op op_fdiv (pv 2) pe_int))))
      (pss_cons (ps_if (pt_cmpR op_eq (pe_op op_mod (pv 1) pe_int) pe_int (nomark _)) (pss_one (ps_ret (pe_un un_neg (pv 2)))) pss_nil)
      (pss_one (ps_ret (pv 2)))))))), ?_⟩
  simp only [cx_K, decide_true, decide_false, reduceCtorEq, gTp, gCons, gNil, ca_0, ca_1, ca_2, ca_3, ca_4, ca_5, ca_6, ca_7, ca_8, ca_9, ca_10, ca_11, ca_12, ca_13, ca_14, ca_15, ca_16, ca_17, ca_18, ca_19, ca_20, ca_21, ca_22, ca_23, ca_24, ca_25, ca_26, ca_27, ca_28, ca_29, ca_30, not_true_eq_false, not_false_eq_true, Int.reduceEq, Nat.reduceEqDiff, Nat.reduceLeDiff, rGcd, V.ty.injEq, eq_self, List.not_mem_nil, beq_self_eq_true, HO.lst.injEq, HO.tup.injEq, tFor_eq, iRng1, iList, iTup, nat10, tSeq, rIxA, rSetA, rIsN, rIsT, tTp, tLs, itsO_tup, itsO_lst, tyO_tup, tyO_lst, tyO_dK, tyN_non, tyN_bl, tyN_int, tyN_str, tyN_ref, tyNs_lt, isB, upd_same, upd_upd, sizeLine_eq, List.mem_cons, String.reduceBEq, String.reduceEq, Bool.or_false, Bool.or_true, Bool.and_false, Bool.false_or, Bool.and_self, Bool.false_and, Bool.not_false, Bool.not_true, List.any_cons, List.any_nil, atI_0, setI_0, atI_1, setI_1, atI_2, setI_2, atI_3, setI_3, atI_4, setI_4, atI_5, setI_5, atI_6, setI_6, tAsg, gName, tOp, tUn, tVar, tC, tCons, L2.tNil, tRet, tIfS, tTest, tCB, tCall, rI, rI0, rU, tNext, tB, tAnd, tOr, tNot, tAndV, tOrV, tNotV, tDrop, tIf, tPar, gSub, rIxL, rIxT, rEq, rNe, rSetL, tBits,
    L2.start, List.map_cons, List.map_nil, List.cons_append, List.nil_append, List.append_nil, List.length_cons, List.length_nil, List.replicate, Nat.reduceAdd, Nat.reduceSub, Nat.zero_add, List.getElem?_cons_zero, List.getElem?_cons_succ, List.set_cons_zero, List.set_cons_succ,
    Option.some.injEq, exists_eq_left', exists_eq_left, V.int.injEq, V.bl.injEq, V.ref.injEq, V.str.injEq, List.cons.injEq, reduceCtorEq, and_true, true_and, false_and, and_false, exists_false, or_false, false_or, or_true, true_or, exists_const, CMul, CDiv, CPow, and_assoc, exists_and_left, exists_and_right, Int.reducePow, Int.reduceNeg, Int.reduceLT, Int.reduceLE, Nat.reducePow, Nat.reduceLT, Int.reduceToNat, gt_iff_lt, ge_iff_le, decide_eq_true_eq, Bool.not_eq_true', decide_eq_false_iff_not, scal, ↓reduceIte, Bool.false_eq_true]
  refine ⟨s, 12, rfl, hS, by omega, fun i H1 h0 h1 kp st => ?_⟩
  simp only [cx_K, decide_true, decide_false, reduceCtorEq, gTp, gCons, gNil, ca_0, ca_1, ca_2, ca_3, ca_4, ca_5, ca_6, ca_7, ca_8, ca_9, ca_10, ca_11, ca_12, ca_13, ca_14, ca_15, ca_16, ca_17, ca_18, ca_19, ca_20, ca_21, ca_22, ca_23, ca_24, ca_25, ca_26, ca_27, ca_28, ca_29, ca_30, not_true_eq_false, not_false_eq_true, Int.reduceEq, Nat.reduceEqDiff, Nat.reduceLeDiff, rGcd, V.ty.injEq, eq_self, List.not_mem_nil, beq_self_eq_true, HO.lst.injEq, HO.tup.injEq, tFor_eq, iRng1, iList, iTup, nat10, tSeq, rIxA, rSetA, rIsN, rIsT, tTp, tLs, itsO_tup, itsO_lst, tyO_tup, tyO_lst, tyO_dK, tyN_non, tyN_bl, tyN_int, tyN_str, tyN_ref, tyNs_lt, isB, upd_same, upd_upd, sizeLine_eq, List.mem_cons, String.reduceBEq, String.reduceEq, Bool.or_false, Bool.or_true, Bool.and_false, Bool.false_or, Bool.and_self, Bool.false_and, Bool.not_false, Bool.not_true, List.any_cons, List.any_nil, atI_0, setI_0, atI_1, setI_1, atI_2, setI_2, atI_3, setI_3, atI_4, setI_4, atI_5, setI_5, atI_6, setI_6, tAsg, gName, tOp, tUn, tVar, tC, tCons, L2.tNil, tRet, tIfS, tTest, tCB, tCall, rI, rI0, rU, tNext, tB, tAnd, tOr, tNot, tAndV, tOrV, tNotV, tDrop, tIf, tPar, gSub, rIxL, rIxT, rEq, rNe, rSetL, tBits,
    L2.start, List.map_cons, List.map_nil, List.cons_append, List.nil_append, List.append_nil, List.length_cons, List.length_nil, List.replicate, Nat.reduceAdd, Nat.reduceSub, Nat.zero_add, List.getElem?_cons_zero, List.getElem?_cons_succ, List.set_cons_zero, List.set_cons_succ,
    Option.some.injEq, exists_eq_left', exists_eq_left, V.int.injEq, V.bl.injEq, V.ref.injEq, V.str.injEq, List.cons.injEq, reduceCtorEq, and_true, true_and, false_and, and_false, exists_false, or_false, false_or, or_true, true_or, exists_const, CMul, CDiv, CPow, and_assoc, exists_and_left, exists_and_right, Int.reducePow, Int.reduceNeg, Int.reduceLT, Int.reduceLE, Nat.reducePow, Nat.reduceLT, Int.reduceToNat, gt_iff_lt, ge_iff_le, decide_eq_true_eq, Bool.not_eq_true', decide_eq_false_iff_not, scal, ↓reduceIte, Bool.false_eq_true]
  refine ite2 (fun h => ?_) (fun h => ?_)
  · intro p hp kp'
    rw [ob_new kp']
    simp only [cx_K, decide_true, decide_false, reduceCtorEq, gTp, gCons, gNil, ca_0, ca_1, ca_2, ca_3, ca_4, ca_5, ca_6, ca_7, ca_8, ca_9, ca_10, ca_11, ca_12, ca_13, ca_14, ca_15, ca_16, ca_17, ca_18, ca_19, ca_20, ca_21, ca_22, ca_23, ca_24, ca_25, ca_26, ca_27, ca_28, ca_29, ca_30, not_true_eq_false, not_false_eq_true, Int.reduceEq, Nat.reduceEqDiff, Nat.reduceLeDiff, rGcd, V.ty.injEq, eq_self, List.not_mem_nil, beq_self_eq_true, HO.lst.injEq, HO.tup.injEq, tFor_eq, iRng1, iList, iTup, nat10, tSeq, rIxA, rSetA, rIsN, rIsT, tTp, tLs, itsO_tup, itsO_lst, tyO_tup, tyO_lst, tyO_dK, tyN_non, tyN_bl, tyN_int, tyN_str, tyN_ref, tyNs_lt, isB, upd_same, upd_upd, sizeLine_eq, List.mem_cons, String.reduceBEq, String.reduceEq, Bool.or_false, Bool.or_true, Bool.and_false, Bool.false_or, Bool.and_self, Bool.false_and, Bool.not_false, Bool.not_true, List.any_cons, List.any_nil, atI_0, setI_0, atI_1, setI_1, atI_2, setI_2, atI_3, setI_3, atI_4, setI_4, atI_5, setI_5, atI_6, setI_6, tAsg, gName, tOp, tUn, tVar, tC, tCons, L2.tNil, tRet, tIfS, tTest, tCB, tCall, rI, rI0, rU, tNext, tB, tAnd, tOr, tNot, tAndV, tOrV, tNotV, tDrop, tIf, tPar, gSub, rIxL, rIxT, rEq, rNe, rSetL, tBits,
    L2.start, List.map_cons, List.map_nil, List.cons_append, List.nil_append, List.append_nil, List.length_cons, List.length_nil, List.replicate, Nat.reduceAdd, Nat.reduceSub, Nat.zero_add, List.getElem?_cons_zero, List.getElem?_cons_succ, List.set_cons_zero, List.set_cons_succ,
    Option.some.injEq, exists_eq_left', exists_eq_left, V.int.injEq, V.bl.injEq, V.ref.injEq, V.str.injEq, List.cons.injEq, reduceCtorEq, and_true, true_and, false_and, and_false, exists_false, or_false, false_or, or_true, true_or, exists_const, CMul, CDiv, CPow, and_assoc, exists_and_left, exists_and_right, Int.reducePow, Int.reduceNeg, Int.reduceLT, Int.reduceLE, Nat.reducePow, Nat.reduceLT, Int.reduceToNat, gt_iff_lt, ge_iff_le, decide_eq_true_eq, Bool.not_eq_true', decide_eq_false_iff_not, scal, ↓reduceIte, Bool.false_eq_true]
    refine menu h0 (by simpa using h) fun v hv => ?_
    simp only [List.mem_cons, List.not_mem_nil, or_false] at hv
    rcases hv with rfl | rfl | rfl | rfl <;> exact k _ _ (by show Int.natAbs _ < _; omega) (kp.trans (Kp.same (Same.new hp _))) (st.same (Same.new hp _))
  · refine ⟨s, _, rfl, st, by omega, fun j H2 j0 j1 kp2 st2 => ⟨s, 40, rfl, st2, by omega, fun m H3 m0 m1 kp3 st3 => ?_⟩⟩
    simp only [cx_K, decide_true, decide_false, reduceCtorEq, gTp, gCons, gNil, ca_0, ca_1, ca_2, ca_3, ca_4, ca_5, ca_6, ca_7, ca_8, ca_9, ca_10, ca_11, ca_12, ca_13, ca_14, ca_15, ca_16, ca_17, ca_18, ca_19, ca_20, ca_21, ca_22, ca_23, ca_24, ca_25, ca_26, ca_27, ca_28, ca_29, ca_30, not_true_eq_false, not_false_eq_true, Int.reduceEq, Nat.reduceEqDiff, Nat.reduceLeDiff, rGcd, V.ty.injEq, eq_self, List.not_mem_nil, beq_self_eq_true, HO.lst.injEq, HO.tup.injEq, tFor_eq, iRng1, iList, iTup, nat10, tSeq, rIxA, rSetA, rIsN, rIsT, tTp, tLs, itsO_tup, itsO_lst, tyO_tup, tyO_lst, tyO_dK, tyN_non, tyN_bl, tyN_int, tyN_str, tyN_ref, tyNs_lt, isB, upd_same, upd_upd, sizeLine_eq, List.mem_cons, String.reduceBEq, String.reduceEq, Bool.or_false, Bool.or_true, Bool.and_false, Bool.false_or, Bool.and_self, Bool.false_and, Bool.not_false, Bool.not_true, List.any_cons, List.any_nil, atI_0, setI_0, atI_1, setI_1, atI_2, setI_2, atI_3, setI_3, atI_4, setI_4, atI_5, setI_5, atI_6, setI_6, tAsg, gName, tOp, tUn, tVar, tC, tCons, L2.tNil, tRet, tIfS, tTest, tCB, tCall, rI, rI0, rU, tNext, tB, tAnd, tOr, tNot, tAndV, tOrV, tNotV, tDrop, tIf, tPar, gSub, rIxL, rIxT, rEq, rNe, rSetL, tBits,
    L2.start, List.map_cons, List.map_nil, List.cons_append, List.nil_append, List.append_nil, List.length_cons, List.length_nil, List.replicate, Nat.reduceAdd, Nat.reduceSub, Nat.zero_add, List.getElem?_cons_zero, List.getElem?_cons_succ, List.set_cons_zero, List.set_cons_succ,
    Option.some.injEq, exists_eq_left', exists_eq_left, V.int.injEq, V.bl.injEq, V.ref.injEq, V.str.injEq, List.cons.injEq, reduceCtorEq, and_true, true_and, false_and, and_false, exists_false, or_false, false_or, or_true, true_or, exists_const, CMul, CDiv, CPow, and_assoc, exists_and_left, exists_and_right, Int.reducePow, Int.reduceNeg, Int.reduceLT, Int.reduceLE, Nat.reducePow, Nat.reduceLT, Int.reduceToNat, gt_iff_lt, ge_iff_le, decide_eq_true_eq, Bool.not_eq_true', decide_eq_false_iff_not, scal, ↓reduceIte, Bool.false_eq_true]
    refine ⟨by omega, by omega, forI_range (GreatI s i H3) ⟨j, none, rfl, rfl, j0, by omega⟩ ?_ ?_⟩
    · rintro t σ H' _ ⟨v, y, rfl, rfl, v0, v1⟩
      simp only [cx_K, decide_true, decide_false, reduceCtorEq, gTp, gCons, gNil, ca_0, ca_1, ca_2, ca_3, ca_4, ca_5, ca_6, ca_7, ca_8, ca_9, ca_10, ca_11, ca_12, ca_13, ca_14, ca_15, ca_16, ca_17, ca_18, ca_19, ca_20, ca_21, ca_22, ca_23, ca_24, ca_25, ca_26, ca_27, ca_28, ca_29, ca_30, not_true_eq_false, not_false_eq_true, Int.reduceEq, Nat.reduceEqDiff, Nat.reduceLeDiff, rGcd, V.ty.injEq, eq_self, List.not_mem_nil, beq_self_eq_true, HO.lst.injEq, HO.tup.injEq, tFor_eq, iRng1, iList, iTup, nat10, tSeq, rIxA, rSetA, rIsN, rIsT, tTp, tLs, itsO_tup, itsO_lst, tyO_tup, tyO_lst, tyO_dK, tyN_non, tyN_bl, tyN_int, tyN_str, tyN_ref, tyNs_lt, isB, upd_same, upd_upd, sizeLine_eq, List.mem_cons, String.reduceBEq, String.reduceEq, Bool.or_false, Bool.or_true, Bool.and_false, Bool.false_or, Bool.and_self, Bool.false_and, Bool.not_false, Bool.not_true, List.any_cons, List.any_nil, atI_0, setI_0, atI_1, setI_1, atI_2, setI_2, atI_3, setI_3, atI_4, setI_4, atI_5, setI_5, atI_6, setI_6, tAsg, gName, tOp, tUn, tVar, tC, tCons, L2.tNil, tRet, tIfS, tTest, tCB, tCall, rI, rI0, rU, tNext, tB, tAnd, tOr, tNot, tAndV, tOrV, tNotV, tDrop, tIf, tPar, gSub, rIxL, rIxT, rEq, rNe, rSetL, tBits,
    L2.start, List.map_cons, List.map_nil, List.cons_append, List.nil_append, List.append_nil, List.length_cons, List.length_nil, List.replicate, Nat.reduceAdd, Nat.reduceSub, Nat.zero_add, List.getElem?_cons_zero, List.getElem?_cons_succ, List.set_cons_zero, List.set_cons_succ,
    Option.some.injEq, exists_eq_left', exists_eq_left, V.int.injEq, V.bl.injEq, V.ref.injEq, V.str.injEq, List.cons.injEq, reduceCtorEq, and_true, true_and, false_and, and_false, exists_false, or_false, false_or, or_true, true_or, exists_const, CMul, CDiv, CPow, and_assoc, exists_and_left, exists_and_right, Int.reducePow, Int.reduceNeg, Int.reduceLT, Int.reduceLE, Nat.reducePow, Nat.reduceLT, Int.reduceToNat, gt_iff_lt, ge_iff_le, decide_eq_true_eq, Bool.not_eq_true', decide_eq_false_iff_not, scal, ↓reduceIte, Bool.false_eq_true]
      exact ⟨_, _, rfl, rfl, by omega, by omega⟩
    · rintro σ H' ⟨v, y, rfl, rfl, v0, v1⟩
      simp only [cx_K, decide_true, decide_false, reduceCtorEq, gTp, gCons, gNil, ca_0, ca_1, ca_2, ca_3, ca_4, ca_5, ca_6, ca_7, ca_8, ca_9, ca_10, ca_11, ca_12, ca_13, ca_14, ca_15, ca_16, ca_17, ca_18, ca_19, ca_20, ca_21, ca_22, ca_23, ca_24, ca_25, ca_26, ca_27, ca_28, ca_29, ca_30, not_true_eq_false, not_false_eq_true, Int.reduceEq, Nat.reduceEqDiff, Nat.reduceLeDiff, rGcd, V.ty.injEq, eq_self, List.not_mem_nil, beq_self_eq_true, HO.lst.injEq, HO.tup.injEq, tFor_eq, iRng1, iList, iTup, nat10, tSeq, rIxA, rSetA, rIsN, rIsT, tTp, tLs, itsO_tup, itsO_lst, tyO_tup, tyO_lst, tyO_dK, tyN_non, tyN_bl, tyN_int, tyN_str, tyN_ref, tyNs_lt, isB, upd_same, upd_upd, sizeLine_eq, List.mem_cons, String.reduceBEq, String.reduceEq, Bool.or_false, Bool.or_true, Bool.and_false, Bool.false_or, Bool.and_self, Bool.false_and, Bool.not_false, Bool.not_true, List.any_cons, List.any_nil, atI_0, setI_0, atI_1, setI_1, atI_2, setI_2, atI_3, setI_3, atI_4, setI_4, atI_5, setI_5, atI_6, setI_6, tAsg, gName, tOp, tUn, tVar, tC, tCons, L2.tNil, tRet, tIfS, tTest, tCB, tCall, rI, rI0, rU, tNext, tB, tAnd, tOr, tNot, tAndV, tOrV, tNotV, tDrop, tIf, tPar, gSub, rIxL, rIxT, rEq, rNe, rSetL, tBits,
    L2.start, List.map_cons, List.map_nil, List.cons_append, List.nil_append, List.append_nil, List.length_cons, List.length_nil, List.replicate, Nat.reduceAdd, Nat.reduceSub, Nat.zero_add, List.getElem?_cons_zero, List.getElem?_cons_succ, List.set_cons_zero, List.set_cons_succ,
    Option.some.injEq, exists_eq_left', exists_eq_left, V.int.injEq, V.bl.injEq, V.ref.injEq, V.str.injEq, List.cons.injEq, reduceCtorEq, and_true, true_and, false_and, and_false, exists_false, or_false, false_or, or_true, true_or, exists_const, CMul, CDiv, CPow, and_assoc, exists_and_left, exists_and_right, Int.reducePow, Int.reduceNeg, Int.reduceLT, Int.reduceLE, Nat.reducePow, Nat.reduceLT, Int.reduceToNat, gt_iff_lt, ge_iff_le, decide_eq_true_eq, Bool.not_eq_true', decide_eq_false_iff_not, scal, ↓reduceIte, Bool.false_eq_true]
      have kk := (kp.trans kp2).trans kp3
      exact ite2 (fun _ => k _ _ (by show Int.natAbs _ < _; omega) kk st3) (fun _ => k _ _ (by show Int.natAbs _ < _; omega) kk st3)
def spDFrac (K : PySem.W.Frag) (n : Nat) : Sp := fun vs H Q _ => ∃ (s : Addr), vs = [.ref s] ∧ Sto K H s ∧ ∀ a q H', Fq K H' n a q → Kp s H H' → Sto K H' s → Q (.ref a) H'
theorem nf01 : Nf (0, 1) := ⟨by decide, by decide⟩
theorem nf11 : Nf (1, 1) := ⟨by decide, by decide⟩
theorem nfm1 : Nf (-1, 1) := ⟨by decide, by decide⟩
theorem nf12 : Nf (1, 2) := ⟨by decide, by decide⟩
theorem nfm2 : Nf (-1, 2) := ⟨by decide, by decide⟩
theorem sz10 {x y : Int} (h1 : x.natAbs < 1024) (h2 : y.natAbs < 1024) : Sz 10 (x, y) := ⟨by show x.natAbs < _; omega, by show y.natAbs < _; omega⟩
abbrev sDFrac : Stmt := topS 52
theorem scDFrac : FnScope ["_law_store_here", "_law_spot", "_law_bottom"] ["_law_store_here"] (defScope sDFrac) := ⟨rfl, rfl, rfl, by decide +kernel, rfl, by decide +kernel, by decide +kernel⟩
theorem k_DFrac (T : Bt K mg) (D : Dfn K mg "_law_frac" sDFrac ["_law_store_here"]) (d__law_take : Kn P w K mg base 2 "_law_take" ["_law_store_here", "_law_many"] (spTake K)) (d__law_lowest : Kn P w K mg base 2 "_law_lowest" ["_law_top", "_law_bottom"] (spLowest K)) : Kn P w K mg base 3 "_law_frac" ["_law_store_here"] (spDFrac K 10) := by
  refine Kn.mk' D scDFrac (fun vs H Q E h => ?_) (fun f cdv A outer s H vs Q E hr h => ?_)
  · obtain ⟨s, rfl, _⟩ := h
    rfl
  obtain ⟨s, rfl, hS, k⟩ := h
  refine ⟨_, (pss_cons (ps_set (i := 1) scDFrac.nd rfl (.inl rfl) (pe_kn d__law_take hr (by rfl) (pa_cons (pv 0) (pa_cons pe_int pa_nil))))
      (pss_cons (ps_if (pt_cmpR op_lt (pv 1) pe_int (nomark _)) (pss_one (ps_ret (pe_ix ix_any (pe_ls (pa_cons (pe_tp (pa_cons pe_int (pa_cons pe_int pa_nil))) (pa_cons (pe_tp (pa_cons pe_int (pa_cons pe_int pa_nil))) (pa_cons (pe_tp (pa_cons (pe_un un_neg pe_int) (pa_cons pe_int pa_nil))) (pa_cons (pe_tp (pa_cons pe_int (pa_cons pe_int pa_nil))) (pa_cons (pe_tp (pa_cons (pe_un un_neg pe_int) (pa_cons pe_int pa_nil))) pa_nil)))))) (pv 1) (fun _ _ => rfl)))) pss_nil)
      (pss_cons (ps_set (i := 2) scDFrac.nd rfl (.inl rfl) (pe_op op_add pe_int (pe_kn d__law_take hr (by rfl) (pa_cons (pv 0) (pa_cons pe_int pa_nil)))))
      (pss_one (ps_ret (pe_kn d__law_lowest hr (by rfl) (pa_cons (pe_op op_sub (pe_kn d__law_take hr (by rfl) (pa_cons (pv 0) (pa_cons (pe_op op_add (pe_op op_mul pe_int (pv 2)) pe_int) pa_nil))) (pe_op op_mul pe_int (pv 2))) (pa_cons (pv 2) pa_nil)))))))), ?_⟩
  simp only [cx_K, decide_true, decide_false, reduceCtorEq, gTp, gCons, gNil, ca_0, ca_1, ca_2, ca_3, ca_4, ca_5, ca_6, ca_7, ca_8, ca_9, ca_10, ca_11, ca_12, ca_13, ca_14, ca_15, ca_16, ca_17, ca_18, ca_19, ca_20, ca_21, ca_22, ca_23, ca_24, ca_25, ca_26, ca_27, ca_28, ca_29, ca_30, not_true_eq_false, not_false_eq_true, Int.reduceEq, Nat.reduceEqDiff, Nat.reduceLeDiff, rGcd, V.ty.injEq, eq_self, List.not_mem_nil, beq_self_eq_true, HO.lst.injEq, HO.tup.injEq, tFor_eq, iRng1, iList, iTup, nat10, tSeq, rIxA, rSetA, rIsN, rIsT, tTp, tLs, itsO_tup, itsO_lst, tyO_tup, tyO_lst, tyO_dK, tyN_non, tyN_bl, tyN_int, tyN_str, tyN_ref, tyNs_lt, isB, upd_same, upd_upd, sizeLine_eq, List.mem_cons, String.reduceBEq, String.reduceEq, Bool.or_false, Bool.or_true, Bool.and_false, Bool.false_or, Bool.and_self, Bool.false_and, Bool.not_false, Bool.not_true, List.any_cons, List.any_nil, atI_0, setI_0, atI_1, setI_1, atI_2, setI_2, atI_3, setI_3, atI_4, setI_4, atI_5, setI_5, atI_6, setI_6, tAsg, gName, tOp, tUn, tVar, tC, tCons, L2.tNil, tRet, tIfS, tTest, tCB, tCall, rI, rI0, rU, tNext, tB, tAnd, tOr, tNot, tAndV, tOrV, tNotV, tDrop, tIf, tPar, gSub, rIxL, rIxT, rEq, rNe, rSetL, tBits,
    L2.start, List.map_cons, List.map_nil, List.cons_append, List.nil_append, List.append_nil, List.length_cons, List.length_nil, List.replicate, Nat.reduceAdd, Nat.reduceSub, Nat.zero_add, List.getElem?_cons_zero, List.getElem?_cons_succ, List.set_cons_zero, List.set_cons_succ,
    Option.some.injEq, exists_eq_left', exists_eq_left, V.int.injEq, V.bl.injEq, V.ref.injEq, V.str.injEq, List.cons.injEq, reduceCtorEq, and_true, true_and, false_and, and_false, exists_false, or_false, false_or, or_true, true_or, exists_const, CMul, CDiv, CPow, and_assoc, exists_and_left, exists_and_right, Int.reducePow, Int.reduceNeg, Int.reduceLT, Int.reduceLE, Nat.reducePow, Nat.reduceLT, Int.reduceToNat, gt_iff_lt, ge_iff_le, decide_eq_true_eq, Bool.not_eq_true', decide_eq_false_iff_not, scal, ↓reduceIte, Bool.false_eq_true]
  refine ⟨s, 12, rfl, hS, by omega, fun i H1 z0 z1 kp st => ?_⟩
  simp only [cx_K, decide_true, decide_false, reduceCtorEq, gTp, gCons, gNil, ca_0, ca_1, ca_2, ca_3, ca_4, ca_5, ca_6, ca_7, ca_8, ca_9, ca_10, ca_11, ca_12, ca_13, ca_14, ca_15, ca_16, ca_17, ca_18, ca_19, ca_20, ca_21, ca_22, ca_23, ca_24, ca_25, ca_26, ca_27, ca_28, ca_29, ca_30, not_true_eq_false, not_false_eq_true, Int.reduceEq, Nat.reduceEqDiff, Nat.reduceLeDiff, rGcd, V.ty.injEq, eq_self, List.not_mem_nil, beq_self_eq_true, HO.lst.injEq, HO.tup.injEq, tFor_eq, iRng1, iList, iTup, nat10, tSeq, rIxA, rSetA, rIsN, rIsT, tTp, tLs, itsO_tup, itsO_lst, tyO_tup, tyO_lst, tyO_dK, tyN_non, tyN_bl, tyN_int, tyN_str, tyN_ref, tyNs_lt, isB, upd_same, upd_upd, sizeLine_eq, List.mem_cons, String.reduceBEq, String.reduceEq, Bool.or_false, Bool.or_true, Bool.and_false, Bool.false_or, Bool.and_self, Bool.false_and, Bool.not_false, Bool.not_true, List.any_cons, List.any_nil, atI_0, setI_0, atI_1, setI_1, atI_2, setI_2, atI_3, setI_3, atI_4, setI_4, atI_5, setI_5, atI_6, setI_6, tAsg, gName, tOp, tUn, tVar, tC, tCons, L2.tNil, tRet, tIfS, tTest, tCB, tCall, rI, rI0, rU, tNext, tB, tAnd, tOr, tNot, tAndV, tOrV, tNotV, tDrop, tIf, tPar, gSub, rIxL, rIxT, rEq, rNe, rSetL, tBits,
    L2.start, List.map_cons, List.map_nil, List.cons_append, List.nil_append, List.append_nil, List.length_cons, List.length_nil, List.replicate, Nat.reduceAdd, Nat.reduceSub, Nat.zero_add, List.getElem?_cons_zero, List.getElem?_cons_succ, List.set_cons_zero, List.set_cons_succ,
    Option.some.injEq, exists_eq_left', exists_eq_left, V.int.injEq, V.bl.injEq, V.ref.injEq, V.str.injEq, List.cons.injEq, reduceCtorEq, and_true, true_and, false_and, and_false, exists_false, or_false, false_or, or_true, true_or, exists_const, CMul, CDiv, CPow, and_assoc, exists_and_left, exists_and_right, Int.reducePow, Int.reduceNeg, Int.reduceLT, Int.reduceLE, Nat.reducePow, Nat.reduceLT, Int.reduceToNat, gt_iff_lt, ge_iff_le, decide_eq_true_eq, Bool.not_eq_true', decide_eq_false_iff_not, scal, ↓reduceIte, Bool.false_eq_true]
  refine ite2 (fun h => ?_) (fun h => ?_)
  · intro p1 h1 k1 p2 h2 k2 p3 h3 k3 p4 h4 k4 p5 h5 k5 p6 h6 k6
    rw [ob_new k6]
    simp only [cx_K, decide_true, decide_false, reduceCtorEq, gTp, gCons, gNil, ca_0, ca_1, ca_2, ca_3, ca_4, ca_5, ca_6, ca_7, ca_8, ca_9, ca_10, ca_11, ca_12, ca_13, ca_14, ca_15, ca_16, ca_17, ca_18, ca_19, ca_20, ca_21, ca_22, ca_23, ca_24, ca_25, ca_26, ca_27, ca_28, ca_29, ca_30, not_true_eq_false, not_false_eq_true, Int.reduceEq, Nat.reduceEqDiff, Nat.reduceLeDiff, rGcd, V.ty.injEq, eq_self, List.not_mem_nil, beq_self_eq_true, HO.lst.injEq, HO.tup.injEq, tFor_eq, iRng1, iList, iTup, nat10, tSeq, rIxA, rSetA, rIsN, rIsT, tTp, tLs, itsO_tup, itsO_lst, tyO_tup, tyO_lst, tyO_dK, tyN_non, tyN_bl, tyN_int, tyN_str, tyN_ref, tyNs_lt, isB, upd_same, upd_upd, sizeLine_eq, List.mem_cons, String.reduceBEq, String.reduceEq, Bool.or_false, Bool.or_true, Bool.and_false, Bool.false_or, Bool.and_self, Bool.false_and, Bool.not_false, Bool.not_true, List.any_cons, List.any_nil, atI_0, setI_0, atI_1, setI_1, atI_2, setI_2, atI_3, setI_3, atI_4, setI_4, atI_5, setI_5, atI_6, setI_6, tAsg, gName, tOp, tUn, tVar, tC, tCons, L2.tNil, tRet, tIfS, tTest, tCB, tCall, rI, rI0, rU, tNext, tB, tAnd, tOr, tNot, tAndV, tOrV, tNotV, tDrop, tIf, tPar, gSub, rIxL, rIxT, rEq, rNe, rSetL, tBits,
    L2.start, List.map_cons, List.map_nil, List.cons_append, List.nil_append, List.append_nil, List.length_cons, List.length_nil, List.replicate, Nat.reduceAdd, Nat.reduceSub, Nat.zero_add, List.getElem?_cons_zero, List.getElem?_cons_succ, List.set_cons_zero, List.set_cons_succ,
    Option.some.injEq, exists_eq_left', exists_eq_left, V.int.injEq, V.bl.injEq, V.ref.injEq, V.str.injEq, List.cons.injEq, reduceCtorEq, and_true, true_and, false_and, and_false, exists_false, or_false, false_or, or_true, true_or, exists_const, CMul, CDiv, CPow, and_assoc, exists_and_left, exists_and_right, Int.reducePow, Int.reduceNeg, Int.reduceLT, Int.reduceLE, Nat.reducePow, Nat.reduceLT, Int.reduceToNat, gt_iff_lt, ge_iff_le, decide_eq_true_eq, Bool.not_eq_true', decide_eq_false_iff_not, scal, ↓reduceIte, Bool.false_eq_true]
    refine menu z0 (by simpa using h) fun v hv => ?_
    simp only [List.mem_cons, List.not_mem_nil, or_false] at hv
    rcases hv with rfl | rfl | rfl | rfl | rfl
    · exact k _ _ _ ⟨ob_same ((Same.new h2 _).trans ((Same.new h3 _).trans ((Same.new h4 _).trans ((Same.new h5 _).trans (Same.new h6 _))))) (ob_new k1), nf01, sz10 (by decide) (by decide)⟩ (kp.trans (Kp.same ((Same.new h1 _).trans ((Same.new h2 _).trans ((Same.new h3 _).trans ((Same.new h4 _).trans ((Same.new h5 _).trans (Same.new h6 _)))))))) (st.same ((Same.new h1 _).trans ((Same.new h2 _).trans ((Same.new h3 _).trans ((Same.new h4 _).trans ((Same.new h5 _).trans (Same.new h6 _)))))))
    · exact k _ _ _ ⟨ob_same ((Same.new h3 _).trans ((Same.new h4 _).trans ((Same.new h5 _).trans (Same.new h6 _)))) (ob_new k2), nf11, sz10 (by decide) (by decide)⟩ (kp.trans (Kp.same ((Same.new h1 _).trans ((Same.new h2 _).trans ((Same.new h3 _).trans ((Same.new h4 _).trans ((Same.new h5 _).trans (Same.new h6 _)))))))) (st.same ((Same.new h1 _).trans ((Same.new h2 _).trans ((Same.new h3 _).trans ((Same.new h4 _).trans ((Same.new h5 _).trans (Same.new h6 _)))))))
    · exact k _ _ _ ⟨ob_same ((Same.new h4 _).trans ((Same.new h5 _).trans (Same.new h6 _))) (ob_new k3), nfm1, sz10 (by decide) (by decide)⟩ (kp.trans (Kp.same ((Same.new h1 _).trans ((Same.new h2 _).trans ((Same.new h3 _).trans ((Same.new h4 _).trans ((Same.new h5 _).trans (Same.new h6 _)))))))) (st.same ((Same.new h1 _).trans ((Same.new h2 _).trans ((Same.new h3 _).trans ((Same.new h4 _).trans ((Same.new h5 _).trans (Same.new h6 _)))))))
    · exact k _ _ _ ⟨ob_same ((Same.new h5 _).trans (Same.new h6 _)) (ob_new k4), nf12, sz10 (by decide) (by decide)⟩ (kp.trans (Kp.same ((Same.new h1 _).trans ((Same.new h2 _).trans ((Same.new h3 _).trans ((Same.new h4 _).trans ((Same.new h5 _).trans (Same.new h6 _)))))))) (st.same ((Same.new h1 _).trans ((Same.new h2 _).trans ((Same.new h3 _).trans ((Same.new h4 _).trans ((Same.new h5 _).trans (Same.new h6 _)))))))
    · exact k _ _ _ ⟨ob_same (Same.new h6 _) (ob_new k5), nfm2, sz10 (by decide) (by decide)⟩ (kp.trans (Kp.same ((Same.new h1 _).trans ((Same.new h2 _).trans ((Same.new h3 _).trans ((Same.new h4 _).trans ((Same.new h5 _).trans (Same.new h6 _)))))))) (st.same ((Same.new h1 _).trans ((Same.new h2 _).trans ((Same.new h3 _).trans ((Same.new h4 _).trans ((Same.new h5 _).trans (Same.new h6 _)))))))
  · refine ⟨s, 12, rfl, st, by omega, fun j H2 j0 j1 kp2 st2 => ?_⟩
    simp only [cx_K, decide_true, decide_false, reduceCtorEq, gTp, gCons, gNil, ca_0, ca_1, ca_2, ca_3, ca_4, ca_5, ca_6, ca_7, ca_8, ca_9, ca_10, ca_11, ca_12, ca_13, ca_14, ca_15, ca_16, ca_17, ca_18, ca_19, ca_20, ca_21, ca_22, ca_23, ca_24, ca_25, ca_26, ca_27, ca_28, ca_29, ca_30, not_true_eq_false, not_false_eq_true, Int.reduceEq, Nat.reduceEqDiff, Nat.reduceLeDiff, rGcd, V.ty.injEq, eq_self, List.not_mem_nil, beq_self_eq_true, HO.lst.injEq, HO.tup.injEq, tFor_eq, iRng1, iList, iTup, nat10, tSeq, rIxA, rSetA, rIsN, rIsT, tTp, tLs, itsO_tup, itsO_lst, tyO_tup, tyO_lst, tyO_dK, tyN_non, tyN_bl, tyN_int, tyN_str, tyN_ref, tyNs_lt, isB, upd_same, upd_upd, sizeLine_eq, List.mem_cons, String.reduceBEq, String.reduceEq, Bool.or_false, Bool.or_true, Bool.and_false, Bool.false_or, Bool.and_self, Bool.false_and, Bool.not_false, Bool.not_true, List.any_cons, List.any_nil, atI_0, setI_0, atI_1, setI_1, atI_2, setI_2, atI_3, setI_3, atI_4, setI_4, atI_5, setI_5, atI_6, setI_6, tAsg, gName, tOp, tUn, tVar, tC, tCons, L2.tNil, tRet, tIfS, tTest, tCB, tCall, rI, rI0, rU, tNext, tB, tAnd, tOr, tNot, tAndV, tOrV, tNotV, tDrop, tIf, tPar, gSub, rIxL, rIxT, rEq, rNe, rSetL, tBits,
    L2.start, List.map_cons, List.map_nil, List.cons_append, List.nil_append, List.append_nil, List.length_cons, List.length_nil, List.replicate, Nat.reduceAdd, Nat.reduceSub, Nat.zero_add, List.getElem?_cons_zero, List.getElem?_cons_succ, List.set_cons_zero, List.set_cons_succ,
    Option.some.injEq, exists_eq_left', exists_eq_left, V.int.injEq, V.bl.injEq, V.ref.injEq, V.str.injEq, List.cons.injEq, reduceCtorEq, and_true, true_and, false_and, and_false, exists_false, or_false, false_or, or_true, true_or, exists_const, CMul, CDiv, CPow, and_assoc, exists_and_left, exists_and_right, Int.reducePow, Int.reduceNeg, Int.reduceLT, Int.reduceLE, Nat.reducePow, Nat.reduceLT, Int.reduceToNat, gt_iff_lt, ge_iff_le, decide_eq_true_eq, Bool.not_eq_true', decide_eq_false_iff_not, scal, ↓reduceIte, Bool.false_eq_true]
    refine ⟨s, _, rfl, st2, by omega, fun m H3 m0 m1 kp3 st3 => ?_⟩
    simp only [cx_K, decide_true, decide_false, reduceCtorEq, gTp, gCons, gNil, ca_0, ca_1, ca_2, ca_3, ca_4, ca_5, ca_6, ca_7, ca_8, ca_9, ca_10, ca_11, ca_12, ca_13, ca_14, ca_15, ca_16, ca_17, ca_18, ca_19, ca_20, ca_21, ca_22, ca_23, ca_24, ca_25, ca_26, ca_27, ca_28, ca_29, ca_30, not_true_eq_false, not_false_eq_true, Int.reduceEq, Nat.reduceEqDiff, Nat.reduceLeDiff, rGcd, V.ty.injEq, eq_self, List.not_mem_nil, beq_self_eq_true, HO.lst.injEq, HO.tup.injEq, tFor_eq, iRng1, iList, iTup, nat10, tSeq, rIxA, rSetA, rIsN, rIsT, tTp, tLs, itsO_tup, itsO_lst, tyO_tup, tyO_lst, tyO_dK, tyN_non, tyN_bl, tyN_int, tyN_str, tyN_ref, tyNs_lt, isB, upd_same, upd_upd, sizeLine_eq, List.mem_cons, String.reduceBEq, String.reduceEq, Bool.or_false, Bool.or_true, Bool.and_false, Bool.false_or, Bool.and_self, Bool.false_and, Bool.not_false, Bool.not_true, List.any_cons, List.any_nil, atI_0, setI_0, atI_1, setI_1, atI_2, setI_2, atI_3, setI_3, atI_4, setI_4, atI_5, setI_5, atI_6, setI_6, tAsg, gName, tOp, tUn, tVar, tC, tCons, L2.tNil, tRet, tIfS, tTest, tCB, tCall, rI, rI0, rU, tNext, tB, tAnd, tOr, tNot, tAndV, tOrV, tNotV, tDrop, tIf, tPar, gSub, rIxL, rIxT, rEq, rNe, rSetL, tBits,
    L2.start, List.map_cons, List.map_nil, List.cons_append, List.nil_append, List.append_nil, List.length_cons, List.length_nil, List.replicate, Nat.reduceAdd, Nat.reduceSub, Nat.zero_add, List.getElem?_cons_zero, List.getElem?_cons_succ, List.set_cons_zero, List.set_cons_succ,
    Option.some.injEq, exists_eq_left', exists_eq_left, V.int.injEq, V.bl.injEq, V.ref.injEq, V.str.injEq, List.cons.injEq, reduceCtorEq, and_true, true_and, false_and, and_false, exists_false, or_false, false_or, or_true, true_or, exists_const, CMul, CDiv, CPow, and_assoc, exists_and_left, exists_and_right, Int.reducePow, Int.reduceNeg, Int.reduceLT, Int.reduceLE, Nat.reducePow, Nat.reduceLT, Int.reduceToNat, gt_iff_lt, ge_iff_le, decide_eq_true_eq, Bool.not_eq_true', decide_eq_false_iff_not, scal, ↓reduceIte, Bool.false_eq_true]
    refine ⟨_, _, rfl, ?_, fun q hq p H4 s4 o4 => ?_⟩
    · have e : 2 ^ 10 ≤ 2 ^ 8000 := Nat.pow_le_pow_right (by omega) (by omega)
      omega
    · have hI := hq.2 (show 1 + j ≠ 0 by omega)
      exact k p q H4 ⟨o4, hI.1, is_sz (by omega) hI (by omega) (by omega)⟩ (((kp.trans kp2).trans kp3).trans (Kp.same s4)) (st3.same s4)
abbrev sDFracW : Stmt := topS 53
theorem scDFracW : FnScope ["_law_store_here", "_law_spot"] ["_law_store_here"] (defScope sDFracW) := ⟨rfl, rfl, rfl, by decide +kernel, rfl, by decide +kernel, by decide +kernel⟩
theorem k_DFracW (T : Bt K mg) (D : Dfn K mg "_law_frac_wide" sDFracW ["_law_store_here"]) (d__law_take : Kn P w K mg base 2 "_law_take" ["_law_store_here", "_law_many"] (spTake K)) (d__law_lowest : Kn P w K mg base 2 "_law_lowest" ["_law_top", "_law_bottom"] (spLowest K)) (d__law_great : Kn P w K mg base 3 "_law_great" ["_law_store_here"] (spInt K fun n => n.natAbs < 2 ^ 133)) (d__law_whole : Kn P w K mg base 3 "_law_whole" ["_law_store_here", "_law_reach"] (spLInt K)) (d__law_frac : Kn P w K mg base 3 "_law_frac" ["_law_store_here"] (spDFrac K 10)) : Kn P w K mg base 4 "_law_frac_wide" ["_law_store_here"] (spDFrac K 133) := by
  refine Kn.mk' D scDFracW (fun vs H Q E h => ?_) (fun f cdv A outer s H vs Q E hr h => ?_)
  · obtain ⟨s, rfl, _⟩ := h
    rfl
  obtain ⟨s, rfl, hS, k⟩ := h
  refine ⟨_, (pss_cons (ps_set (i := 1) scDFracW.nd rfl (.inl rfl) (pe_kn d__law_take hr (by rfl) (pa_cons (pv 0) (pa_cons pe_int pa_nil))))
      (pss_cons (ps_if (pt_cmpR op_eq (pv 1) pe_int (nomark _)) (pss_one (ps_ret (pe_kn d__law_lowest hr (by rfl) (pa_cons (pe_kn d__law_great hr (by rfl) (pa_cons (pv 0) pa_nil)) (pa_cons (pe_callB (call_max2 rfl) (by rfl) T.b_max (by decide +kernel) (pa_cons pe_int (pa_cons (pe_callB call_abs (by rfl) T.b_abs (by decide +kernel) (pa_cons (pe_kn d__law_great hr (by rfl) (pa_cons (pv 0) pa_nil)) pa_nil)) pa_nil))) pa_nil))))) pss_nil)
      (pss_cons (ps_if (pt_cmpR op_eq (pv 1) pe_int (nomark _)) (pss_one (ps_ret (pe_kn d__law_lowest hr (by rfl) (pa_cons (pe_kn d__law_whole hr (by rfl) (pa_cons (pv 0) (pa_cons (pe_op op_pow pe_int pe_int) pa_nil))) (pa_cons (pe_op op_add pe_int (pe_kn d__law_take hr (by rfl) (pa_cons (pv 0) (pa_cons pe_int pa_nil)))) pa_nil))))) pss_nil)
      (pss_one (ps_ret (pe_kn d__law_frac hr (by rfl) (pa_cons (pv 0) pa_nil))))))), ?_⟩
  simp only [cx_K, decide_true, decide_false, reduceCtorEq, gTp, gCons, gNil, ca_0, ca_1, ca_2, ca_3, ca_4, ca_5, ca_6, ca_7, ca_8, ca_9, ca_10, ca_11, ca_12, ca_13, ca_14, ca_15, ca_16, ca_17, ca_18, ca_19, ca_20, ca_21, ca_22, ca_23, ca_24, ca_25, ca_26, ca_27, ca_28, ca_29, ca_30, not_true_eq_false, not_false_eq_true, Int.reduceEq, Nat.reduceEqDiff, Nat.reduceLeDiff, rGcd, V.ty.injEq, eq_self, List.not_mem_nil, beq_self_eq_true, HO.lst.injEq, HO.tup.injEq, tFor_eq, iRng1, iList, iTup, nat10, tSeq, rIxA, rSetA, rIsN, rIsT, tTp, tLs, itsO_tup, itsO_lst, tyO_tup, tyO_lst, tyO_dK, tyN_non, tyN_bl, tyN_int, tyN_str, tyN_ref, tyNs_lt, isB, upd_same, upd_upd, sizeLine_eq, List.mem_cons, String.reduceBEq, String.reduceEq, Bool.or_false, Bool.or_true, Bool.and_false, Bool.false_or, Bool.and_self, Bool.false_and, Bool.not_false, Bool.not_true, List.any_cons, List.any_nil, atI_0, setI_0, atI_1, setI_1, atI_2, setI_2, atI_3, setI_3, atI_4, setI_4, atI_5, setI_5, atI_6, setI_6, tAsg, gName, tOp, tUn, tVar, tC, tCons, L2.tNil, tRet, tIfS, tTest, tCB, tCall, rI, rI0, rU, tNext, tB, tAnd, tOr, tNot, tAndV, tOrV, tNotV, tDrop, tIf, tPar, gSub, rIxL, rIxT, rEq, rNe, rSetL, tBits,
    L2.start, List.map_cons, List.map_nil, List.cons_append, List.nil_append, List.append_nil, List.length_cons, List.length_nil, List.replicate, Nat.reduceAdd, Nat.reduceSub, Nat.zero_add, List.getElem?_cons_zero, List.getElem?_cons_succ, List.set_cons_zero, List.set_cons_succ,
    Option.some.injEq, exists_eq_left', exists_eq_left, V.int.injEq, V.bl.injEq, V.ref.injEq, V.str.injEq, List.cons.injEq, reduceCtorEq, and_true, true_and, false_and, and_false, exists_false, or_false, false_or, or_true, true_or, exists_const, CMul, CDiv, CPow, and_assoc, exists_and_left, exists_and_right, Int.reducePow, Int.reduceNeg, Int.reduceLT, Int.reduceLE, Nat.reducePow, Nat.reduceLT, Int.reduceToNat, gt_iff_lt, ge_iff_le, decide_eq_true_eq, Bool.not_eq_true', decide_eq_false_iff_not, scal, ↓reduceIte, Bool.false_eq_true]
  refine ⟨s, 8, rfl, hS, by omega, fun i H1 z0 z1 kp st => ?_⟩
  simp only [cx_K, decide_true, decide_false, reduceCtorEq, gTp, gCons, gNil, ca_0, ca_1, ca_2, ca_3, ca_4, ca_5, ca_6, ca_7, ca_8, ca_9, ca_10, ca_11, ca_12, ca_13, ca_14, ca_15, ca_16, ca_17, ca_18, ca_19, ca_20, ca_21, ca_22, ca_23, ca_24, ca_25, ca_26, ca_27, ca_28, ca_29, ca_30, not_true_eq_false, not_false_eq_true, Int.reduceEq, Nat.reduceEqDiff, Nat.reduceLeDiff, rGcd, V.ty.injEq, eq_self, List.not_mem_nil, beq_self_eq_true, HO.lst.injEq, HO.tup.injEq, tFor_eq, iRng1, iList, iTup, nat10, tSeq, rIxA, rSetA, rIsN, rIsT, tTp, tLs, itsO_tup, itsO_lst, tyO_tup, tyO_lst, tyO_dK, tyN_non, tyN_bl, tyN_int, tyN_str, tyN_ref, tyNs_lt, isB, upd_same, upd_upd, sizeLine_eq, List.mem_cons, String.reduceBEq, String.reduceEq, Bool.or_false, Bool.or_true, Bool.and_false, Bool.false_or, Bool.and_self, Bool.false_and, Bool.not_false, Bool.not_true, List.any_cons, List.any_nil, atI_0, setI_0, atI_1, setI_1, atI_2, setI_2, atI_3, setI_3, atI_4, setI_4, atI_5, setI_5, atI_6, setI_6, tAsg, gName, tOp, tUn, tVar, tC, tCons, L2.tNil, tRet, tIfS, tTest, tCB, tCall, rI, rI0, rU, tNext, tB, tAnd, tOr, tNot, tAndV, tOrV, tNotV, tDrop, tIf, tPar, gSub, rIxL, rIxT, rEq, rNe, rSetL, tBits,
    L2.start, List.map_cons, List.map_nil, List.cons_append, List.nil_append, List.append_nil, List.length_cons, List.length_nil, List.replicate, Nat.reduceAdd, Nat.reduceSub, Nat.zero_add, List.getElem?_cons_zero, List.getElem?_cons_succ, List.set_cons_zero, List.set_cons_succ,
    Option.some.injEq, exists_eq_left', exists_eq_left, V.int.injEq, V.bl.injEq, V.ref.injEq, V.str.injEq, List.cons.injEq, reduceCtorEq, and_true, true_and, false_and, and_false, exists_false, or_false, false_or, or_true, true_or, exists_const, CMul, CDiv, CPow, and_assoc, exists_and_left, exists_and_right, Int.reducePow, Int.reduceNeg, Int.reduceLT, Int.reduceLE, Nat.reducePow, Nat.reduceLT, Int.reduceToNat, gt_iff_lt, ge_iff_le, decide_eq_true_eq, Bool.not_eq_true', decide_eq_false_iff_not, scal, ↓reduceIte, Bool.false_eq_true]
  have big : 2 ^ 133 ≤ 2 ^ 8000 := Nat.pow_le_pow_right (by omega) (by omega)
  refine ite2 (fun h => ?_) (fun h => ite2 (fun h' => ?_) (fun h' => ?_))
  · refine ⟨s, rfl, st, fun t H2 ht kp2 st2 => ⟨s, rfl, st2, fun b H3 hb kp3 st3 => ?_⟩⟩
    simp only [abs_if, cx_K, decide_true, decide_false, reduceCtorEq, gTp, gCons, gNil, ca_0, ca_1, ca_2, ca_3, ca_4, ca_5, ca_6, ca_7, ca_8, ca_9, ca_10, ca_11, ca_12, ca_13, ca_14, ca_15, ca_16, ca_17, ca_18, ca_19, ca_20, ca_21, ca_22, ca_23, ca_24, ca_25, ca_26, ca_27, ca_28, ca_29, ca_30, not_true_eq_false, not_false_eq_true, Int.reduceEq, Nat.reduceEqDiff, Nat.reduceLeDiff, rGcd, V.ty.injEq, eq_self, List.not_mem_nil, beq_self_eq_true, HO.lst.injEq, HO.tup.injEq, tFor_eq, iRng1, iList, iTup, nat10, tSeq, rIxA, rSetA, rIsN, rIsT, tTp, tLs, itsO_tup, itsO_lst, tyO_tup, tyO_lst, tyO_dK, tyN_non, tyN_bl, tyN_int, tyN_str, tyN_ref, tyNs_lt, isB, upd_same, upd_upd, sizeLine_eq, List.mem_cons, String.reduceBEq, String.reduceEq, Bool.or_false, Bool.or_true, Bool.and_false, Bool.false_or, Bool.and_self, Bool.false_and, Bool.not_false, Bool.not_true, List.any_cons, List.any_nil, atI_0, setI_0, atI_1, setI_1, atI_2, setI_2, atI_3, setI_3, atI_4, setI_4, atI_5, setI_5, atI_6, setI_6, tAsg, gName, tOp, tUn, tVar, tC, tCons, L2.tNil, tRet, tIfS, tTest, tCB, tCall, rI, rI0, rU, tNext, tB, tAnd, tOr, tNot, tAndV, tOrV, tNotV, tDrop, tIf, tPar, gSub, rIxL, rIxT, rEq, rNe, rSetL, tBits,
    L2.start, List.map_cons, List.map_nil, List.cons_append, List.nil_append, List.append_nil, List.length_cons, List.length_nil, List.replicate, Nat.reduceAdd, Nat.reduceSub, Nat.zero_add, List.getElem?_cons_zero, List.getElem?_cons_succ, List.set_cons_zero, List.set_cons_succ,
    Option.some.injEq, exists_eq_left', exists_eq_left, V.int.injEq, V.bl.injEq, V.ref.injEq, V.str.injEq, List.cons.injEq, reduceCtorEq, and_true, true_and, false_and, and_false, exists_false, or_false, false_or, or_true, true_or, exists_const, CMul, CDiv, CPow, and_assoc, exists_and_left, exists_and_right, Int.reducePow, Int.reduceNeg, Int.reduceLT, Int.reduceLE, Nat.reducePow, Nat.reduceLT, Int.reduceToNat, gt_iff_lt, ge_iff_le, decide_eq_true_eq, Bool.not_eq_true', decide_eq_false_iff_not, scal, ↓reduceIte, Bool.false_eq_true]
    have hd : (if 1 < (b.natAbs : Int) then (b.natAbs : Int) else 1) ≠ 0 ∧ (if 1 < (b.natAbs : Int) then (b.natAbs : Int) else 1).natAbs < 2 ^ 133 := by
      have hb' : b.natAbs < 2 ^ 133 := hb
      split <;> refine ⟨by omega, by omega⟩
    generalize (if 1 < (b.natAbs : Int) then (b.natAbs : Int) else 1) = d at hd ⊢
    refine ⟨_, _, rfl, by omega, fun q hq p H4 s4 o4 => ?_⟩
    have hI := hq.2 hd.1
    exact k p q H4 ⟨o4, hI.1, is_sz hd.1 hI ht hd.2⟩ (((kp.trans kp2).trans kp3).trans (Kp.same s4)) (st3.same s4)
  · refine ⟨s, _, rfl, st, by omega, by omega, fun t H2 t0 t1 kp2 st2 => ⟨s, 1000, rfl, st2, by omega, fun b H3 b0 b1 kp3 st3 => ?_⟩⟩
    simp only [cx_K, decide_true, decide_false, reduceCtorEq, gTp, gCons, gNil, ca_0, ca_1, ca_2, ca_3, ca_4, ca_5, ca_6, ca_7, ca_8, ca_9, ca_10, ca_11, ca_12, ca_13, ca_14, ca_15, ca_16, ca_17, ca_18, ca_19, ca_20, ca_21, ca_22, ca_23, ca_24, ca_25, ca_26, ca_27, ca_28, ca_29, ca_30, not_true_eq_false, not_false_eq_true, Int.reduceEq, Nat.reduceEqDiff, Nat.reduceLeDiff, rGcd, V.ty.injEq, eq_self, List.not_mem_nil, beq_self_eq_true, HO.lst.injEq, HO.tup.injEq, tFor_eq, iRng1, iList, iTup, nat10, tSeq, rIxA, rSetA, rIsN, rIsT, tTp, tLs, itsO_tup, itsO_lst, tyO_tup, tyO_lst, tyO_dK, tyN_non, tyN_bl, tyN_int, tyN_str, tyN_ref, tyNs_lt, isB, upd_same, upd_upd, sizeLine_eq, List.mem_cons, String.reduceBEq, String.reduceEq, Bool.or_false, Bool.or_true, Bool.and_false, Bool.false_or, Bool.and_self, Bool.false_and, Bool.not_false, Bool.not_true, List.any_cons, List.any_nil, atI_0, setI_0, atI_1, setI_1, atI_2, setI_2, atI_3, setI_3, atI_4, setI_4, atI_5, setI_5, atI_6, setI_6, tAsg, gName, tOp, tUn, tVar, tC, tCons, L2.tNil, tRet, tIfS, tTest, tCB, tCall, rI, rI0, rU, tNext, tB, tAnd, tOr, tNot, tAndV, tOrV, tNotV, tDrop, tIf, tPar, gSub, rIxL, rIxT, rEq, rNe, rSetL, tBits,
    L2.start, List.map_cons, List.map_nil, List.cons_append, List.nil_append, List.append_nil, List.length_cons, List.length_nil, List.replicate, Nat.reduceAdd, Nat.reduceSub, Nat.zero_add, List.getElem?_cons_zero, List.getElem?_cons_succ, List.set_cons_zero, List.set_cons_succ,
    Option.some.injEq, exists_eq_left', exists_eq_left, V.int.injEq, V.bl.injEq, V.ref.injEq, V.str.injEq, List.cons.injEq, reduceCtorEq, and_true, true_and, false_and, and_false, exists_false, or_false, false_or, or_true, true_or, exists_const, CMul, CDiv, CPow, and_assoc, exists_and_left, exists_and_right, Int.reducePow, Int.reduceNeg, Int.reduceLT, Int.reduceLE, Nat.reducePow, Nat.reduceLT, Int.reduceToNat, gt_iff_lt, ge_iff_le, decide_eq_true_eq, Bool.not_eq_true', decide_eq_false_iff_not, scal, ↓reduceIte, Bool.false_eq_true]
    refine ⟨_, _, rfl, by omega, fun q hq p H4 s4 o4 => ?_⟩
    have hI := hq.2 (show 1 + b ≠ 0 by omega)
    exact k p q H4 ⟨o4, hI.1, is_sz (by omega) hI (by omega) (by omega)⟩ (((kp.trans kp2).trans kp3).trans (Kp.same s4)) (st3.same s4)
  · exact ⟨s, rfl, st, fun a q H2 hq kp2 st2 => k a q H2 (hq.mono (by omega)) (kp.trans kp2) st2⟩
/-- the script, read alone -/
def spStore (K : PySem.W.Frag) : Sp := fun vs H Q _ => ∃ (a : Addr) (ns : List Int), vs = [.ref a] ∧ SqL K H a (ns.map V.int) ∧ ∀ s H', Same H H' → Sto K H' s → Q (.ref s) H'
def StoreI (a : Addr) (H : Hp) (_ : Nat) (σ : L2.St) (H' : Hp) : Prop := ∃ (v : Int) (y : Option V), σ = [some (.ref a), some (.int v), y] ∧ H' = H
abbrev sStore : Stmt := topS 36
theorem scStore : FnScope ["_law_script", "_law_seed", "_law_cell"] ["_law_script"] (defScope sStore) := ⟨rfl, rfl, rfl, by decide +kernel, rfl, by decide +kernel, by decide +kernel⟩
theorem k_Store (T : Bt K mg) (D : Dfn K mg "_law_store" sStore ["_law_script"]) : Kn P w K mg base 1 "_law_store" ["_law_script"] (spStore K) := by
  refine Kn.mk' D scStore (fun vs H Q E h => ?_) (fun f cdv A outer s H vs Q E hr h => ?_)
  · obtain ⟨a, ns, rfl, _⟩ := h
    rfl
  obtain ⟨a, ns, rfl, hS, k⟩ := h
  refine ⟨_, (pss_cons (ps_set (i := 1) scStore.nd rfl (.inl rfl) (pe_op op_add (pe_callB call_len_seq (by rfl) T.b_len PySem.boot_len (pa_cons (pv 0) pa_nil)) pe_int))
      (pss_cons (ps_for PassesOwn.never rfl (pi_list (pv 0)) (pg_name (i := 2) scStore.nd rfl (.inl rfl)) (pss_one (ps_set (i := 1) scStore.nd rfl (.inl rfl) (pe_op op_mod (pe_op op_add (pe_op op_add (pe_op op_mul (pv 1) pe_int) (pe_op op_mod (pe_callTy call_int1 (by rfl) T.b_int (by decide +kernel) (pa_cons (pv 2) pa_nil)) pe_int)) pe_int) pe_int))))
      (pss_one (ps_ret (pe_ls (pa_cons (pe_callTy call_listK (by rfl) T.b_list (by decide +kernel) (pa_cons (pv 0) pa_nil)) (pa_cons pe_int (pa_cons pe_int (pa_cons pe_int (pa_cons (pv 1) (pa_cons pe_int (pa_cons pe_int pa_nil)))))))))))), ?_⟩
  simp only [cx_K, decide_true, decide_false, reduceCtorEq, gTp, gCons, gNil, ca_0, ca_1, ca_2, ca_3, ca_4, ca_5, ca_6, ca_7, ca_8, ca_9, ca_10, ca_11, ca_12, ca_13, ca_14, ca_15, ca_16, ca_17, ca_18, ca_19, ca_20, ca_21, ca_22, ca_23, ca_24, ca_25, ca_26, ca_27, ca_28, ca_29, ca_30, not_true_eq_false, not_false_eq_true, Int.reduceEq, Nat.reduceEqDiff, Nat.reduceLeDiff, rGcd, V.ty.injEq, eq_self, List.not_mem_nil, beq_self_eq_true, HO.lst.injEq, HO.tup.injEq, tFor_eq, iRng1, iList, iTup, nat10, tSeq, rIxA, rSetA, rIsN, rIsT, tTp, tLs, itsO_tup, itsO_lst, tyO_tup, tyO_lst, tyO_dK, tyN_non, tyN_bl, tyN_int, tyN_str, tyN_ref, tyNs_lt, isB, upd_same, upd_upd, sizeLine_eq, List.mem_cons, String.reduceBEq, String.reduceEq, Bool.or_false, Bool.or_true, Bool.and_false, Bool.false_or, Bool.and_self, Bool.false_and, Bool.not_false, Bool.not_true, List.any_cons, List.any_nil, atI_0, setI_0, atI_1, setI_1, atI_2, setI_2, atI_3, setI_3, atI_4, setI_4, atI_5, setI_5, atI_6, setI_6, tAsg, gName, tOp, tUn, tVar, tC, tCons, L2.tNil, tRet, tIfS, tTest, tCB, tCall, rI, rI0, rU, tNext, tB, tAnd, tOr, tNot, tAndV, tOrV, tNotV, tDrop, tIf, tPar, gSub, rIxL, rIxT, rEq, rNe, rSetL, tBits,
    L2.start, List.map_cons, List.map_nil, List.cons_append, List.nil_append, List.append_nil, List.length_cons, List.length_nil, List.replicate, Nat.reduceAdd, Nat.reduceSub, Nat.zero_add, List.getElem?_cons_zero, List.getElem?_cons_succ, List.set_cons_zero, List.set_cons_succ,
    Option.some.injEq, exists_eq_left', exists_eq_left, V.int.injEq, V.bl.injEq, V.ref.injEq, V.str.injEq, List.cons.injEq, reduceCtorEq, and_true, true_and, false_and, and_false, exists_false, or_false, false_or, or_true, true_or, exists_const, CMul, CDiv, CPow, and_assoc, exists_and_left, exists_and_right, Int.reducePow, Int.reduceNeg, Int.reduceLT, Int.reduceLE, Nat.reducePow, Nat.reduceLT, Int.reduceToNat, gt_iff_lt, ge_iff_le, decide_eq_true_eq, Bool.not_eq_true', decide_eq_false_iff_not, scal, ↓reduceIte, Bool.false_eq_true]
  refine ⟨_, .inl hS, ⟨_, hS⟩, forI_list (xs := ns.map V.int) (StoreI a H) ⟨_, none, rfl, rfl⟩ ?_ ?_ ?_⟩
  · rintro i σ H' _ ⟨v, y, rfl, rfl⟩
    exact hS
  · rintro i x σ H' hi ⟨v, y, rfl, rfl⟩
    obtain ⟨z, rfl⟩ : ∃ z, x = V.int z := by
      rw [List.getElem?_map] at hi
      cases e : ns[i]? with
      | none => rw [e] at hi; cases hi
      | some z => rw [e] at hi; exact ⟨z, (Option.some.inj hi).symm⟩
    simp only [cx_K, decide_true, decide_false, reduceCtorEq, gTp, gCons, gNil, ca_0, ca_1, ca_2, ca_3, ca_4, ca_5, ca_6, ca_7, ca_8, ca_9, ca_10, ca_11, ca_12, ca_13, ca_14, ca_15, ca_16, ca_17, ca_18, ca_19, ca_20, ca_21, ca_22, ca_23, ca_24, ca_25, ca_26, ca_27, ca_28, ca_29, ca_30, not_true_eq_false, not_false_eq_true, Int.reduceEq, Nat.reduceEqDiff, Nat.reduceLeDiff, rGcd, V.ty.injEq, eq_self, List.not_mem_nil, beq_self_eq_true, HO.lst.injEq, HO.tup.injEq, tFor_eq, iRng1, iList, iTup, nat10, tSeq, rIxA, rSetA, rIsN, rIsT, tTp, tLs, itsO_tup, itsO_lst, tyO_tup, tyO_lst, tyO_dK, tyN_non, tyN_bl, tyN_int, tyN_str, tyN_ref, tyNs_lt, isB, upd_same, upd_upd, sizeLine_eq, List.mem_cons, String.reduceBEq, String.reduceEq, Bool.or_false, Bool.or_true, Bool.and_false, Bool.false_or, Bool.and_self, Bool.false_and, Bool.not_false, Bool.not_true, List.any_cons, List.any_nil, atI_0, setI_0, atI_1, setI_1, atI_2, setI_2, atI_3, setI_3, atI_4, setI_4, atI_5, setI_5, atI_6, setI_6, tAsg, gName, tOp, tUn, tVar, tC, tCons, L2.tNil, tRet, tIfS, tTest, tCB, tCall, rI, rI0, rU, tNext, tB, tAnd, tOr, tNot, tAndV, tOrV, tNotV, tDrop, tIf, tPar, gSub, rIxL, rIxT, rEq, rNe, rSetL, tBits,
    L2.start, List.map_cons, List.map_nil, List.cons_append, List.nil_append, List.append_nil, List.length_cons, List.length_nil, List.replicate, Nat.reduceAdd, Nat.reduceSub, Nat.zero_add, List.getElem?_cons_zero, List.getElem?_cons_succ, List.set_cons_zero, List.set_cons_succ,
    Option.some.injEq, exists_eq_left', exists_eq_left, V.int.injEq, V.bl.injEq, V.ref.injEq, V.str.injEq, List.cons.injEq, reduceCtorEq, and_true, true_and, false_and, and_false, exists_false, or_false, false_or, or_true, true_or, exists_const, CMul, CDiv, CPow, and_assoc, exists_and_left, exists_and_right, Int.reducePow, Int.reduceNeg, Int.reduceLT, Int.reduceLE, Nat.reducePow, Nat.reduceLT, Int.reduceToNat, gt_iff_lt, ge_iff_le, decide_eq_true_eq, Bool.not_eq_true', decide_eq_false_iff_not, scal, ↓reduceIte, Bool.false_eq_true]
    exact ⟨_, _, rfl, rfl⟩
  · rintro σ H' ⟨v, y, rfl, rfl⟩
    simp only [cx_K, decide_true, decide_false, reduceCtorEq, gTp, gCons, gNil, ca_0, ca_1, ca_2, ca_3, ca_4, ca_5, ca_6, ca_7, ca_8, ca_9, ca_10, ca_11, ca_12, ca_13, ca_14, ca_15, ca_16, ca_17, ca_18, ca_19, ca_20, ca_21, ca_22, ca_23, ca_24, ca_25, ca_26, ca_27, ca_28, ca_29, ca_30, not_true_eq_false, not_false_eq_true, Int.reduceEq, Nat.reduceEqDiff, Nat.reduceLeDiff, rGcd, V.ty.injEq, eq_self, List.not_mem_nil, beq_self_eq_true, HO.lst.injEq, HO.tup.injEq, tFor_eq, iRng1, iList, iTup, nat10, tSeq, rIxA, rSetA, rIsN, rIsT, tTp, tLs, itsO_tup, itsO_lst, tyO_tup, tyO_lst, tyO_dK, tyN_non, tyN_bl, tyN_int, tyN_str, tyN_ref, tyNs_lt, isB, upd_same, upd_upd, sizeLine_eq, List.mem_cons, String.reduceBEq, String.reduceEq, Bool.or_false, Bool.or_true, Bool.and_false, Bool.false_or, Bool.and_self, Bool.false_and, Bool.not_false, Bool.not_true, List.any_cons, List.any_nil, atI_0, setI_0, atI_1, setI_1, atI_2, setI_2, atI_3, setI_3, atI_4, setI_4, atI_5, setI_5, atI_6, setI_6, tAsg, gName, tOp, tUn, tVar, tC, tCons, L2.tNil, tRet, tIfS, tTest, tCB, tCall, rI, rI0, rU, tNext, tB, tAnd, tOr, tNot, tAndV, tOrV, tNotV, tDrop, tIf, tPar, gSub, rIxL, rIxT, rEq, rNe, rSetL, tBits,
    L2.start, List.map_cons, List.map_nil, List.cons_append, List.nil_append, List.append_nil, List.length_cons, List.length_nil, List.replicate, Nat.reduceAdd, Nat.reduceSub, Nat.zero_add, List.getElem?_cons_zero, List.getElem?_cons_succ, List.set_cons_zero, List.set_cons_succ,
    Option.some.injEq, exists_eq_left', exists_eq_left, V.int.injEq, V.bl.injEq, V.ref.injEq, V.str.injEq, List.cons.injEq, reduceCtorEq, and_true, true_and, false_and, and_false, exists_false, or_false, false_or, or_true, true_or, exists_const, CMul, CDiv, CPow, and_assoc, exists_and_left, exists_and_right, Int.reducePow, Int.reduceNeg, Int.reduceLT, Int.reduceLE, Nat.reducePow, Nat.reduceLT, Int.reduceToNat, gt_iff_lt, ge_iff_le, decide_eq_true_eq, Bool.not_eq_true', decide_eq_false_iff_not, scal, ↓reduceIte, Bool.false_eq_true]
    refine ⟨_, .inl hS, fun l hl kl => ?_⟩
    intro s hs ks
    have s1 := Same.new hl (.lst (ns.map V.int))
    have e1 : upd H' l (.lst (ns.map V.int)) l = some (.lst (ns.map V.int)) := upd_same
    have n1 : s ≠ l := by rintro rfl; rw [upd_same] at hs; cases hs
    exact k s _ (s1.trans (Same.new hs _)) ⟨l, ns, 0, 0, 0, v, 0, 0, upd_same, by rw [upd_ne (Ne.symm n1)]; exact e1, n1, Int.le_refl 0, ks, kl⟩
end
end My

namespace My
open PySem PySem.Spec PyProof.Rows L2
section
variable {P : Program} {w : World} {K : PySem.W.Frag} {mg : Str → Option Value} {base : Heap}
/-- the same data, n levels deep at most -/
def scv : V → Bool
  | .non => true
  | .bl _ => true
  | .int _ => true
  | .str _ => true
  | _ => false
def Eqv (K : PySem.W.Frag) (H : Hp) : Nat → V → V → Prop
  | 0, x, y => x = y ∧ scv x = true
  | n + 1, x, y => (x = y ∧ scv x = true) ∨ ∃ (a b : Addr) (xs ys : List V), x = .ref a ∧ y = .ref b ∧ ((ob K H a = some (.tup xs) ∧ ob K H b = some (.tup ys)) ∨ (ob K H a = some (.lst xs) ∧ ob K H b = some (.lst ys))) ∧ xs.length = ys.length ∧ ys.length ≤ 1000 ∧
      ∀ (i : Nat) x y, xs[i]? = some x → ys[i]? = some y → Eqv K H n x y
theorem Eqv.same {H H' : Hp} (e : Same H H') : ∀ {n : Nat} {x y : V}, Eqv K H n x y → Eqv K H' n x y
  | 0, _, _, h => h
  | n + 1, x, y, .inl h => .inl h
  | n + 1, x, y, .inr ⟨a, b, xs, ys, h1, h2, h3, h4, h5, h6⟩ =>
    .inr ⟨a, b, xs, ys, h1, h2, h3.imp (fun z => ⟨ob_same e z.1, ob_same e z.2⟩) (fun z => ⟨ob_same e z.1, ob_same e z.2⟩), h4, h5, fun i x y hx hy => (h6 i x y hx hy).same e⟩
theorem Eqv.up {H : Hp} : ∀ {n : Nat} {x y : V}, Eqv K H n x y → Eqv K H (n + 1) x y
  | 0, _, _, h => .inl h
  | n + 1, x, y, .inl h => .inl h
  | n + 1, x, y, .inr ⟨a, b, xs, ys, h1, h2, h3, h4, h5, h6⟩ => .inr ⟨a, b, xs, ys, h1, h2, h3, h4, h5, fun i x y hx hy => (h6 i x y hx hy).up⟩
def spSame (K : PySem.W.Frag) : Nat → Sp
  | 0 => fun _ _ _ _ => False
  | n + 1 => fun vs H Q _ => ∃ x y, vs = [x, y] ∧ Eqv K H n x y ∧ ∀ H', Same H H' → Q (.bl true) H'
theorem Eqv.split {H : Hp} {n : Nat} {x y : V} (h : Eqv K H n x y) : (x = y ∧ scv x = true) ∨ ∃ m, n = m + 1 ∧ ∃ (a b : Addr) (xs ys : List V), x = .ref a ∧ y = .ref b ∧ ((ob K H a = some (.tup xs) ∧ ob K H b = some (.tup ys)) ∨ (ob K H a = some (.lst xs) ∧ ob K H b = some (.lst ys))) ∧ xs.length = ys.length ∧ ys.length ≤ 1000 ∧
    ∀ (i : Nat) x y, xs[i]? = some x → ys[i]? = some y → Eqv K H m x y := by
  cases n with
  | zero => exact .inl h
  | succ m =>
    rcases h with h | h
    · exact .inl h
    · exact .inr ⟨m, rfl, h⟩
def SameI (H : Hp) (a b : Addr) (_ : Nat) (σ : L2.St) (H' : Hp) : Prop := ∃ z, σ = [some (.ref a), some (.ref b), z] ∧ Same H H'
theorem Kn.none {x : Str} {ps : List Str} {st : Stmt} (D : Dfn K mg x st ps) : Kn P w K mg base 0 x ps (fun _ _ _ _ => False) := by
  obtain ⟨f, fd, F, m, b⟩ := D.ex
  exact ⟨f, fd, m, F.kp, b, ⟨fun vs H Q E h => h.elim, fun A outer s H args us vs Q E _ _ _ _ h => h.elim⟩⟩
abbrev sSame : Stmt := topS 48
theorem scSame : FnScope ["_law_told", "_law_due", "_law_k"] ["_law_told", "_law_due"] (defScope sSame) := ⟨rfl, rfl, rfl, by decide +kernel, rfl, by decide +kernel, by decide +kernel⟩
theorem k_Same (n : Nat) (T : Bt K mg) (D : Dfn K mg "_law_same" sSame ["_law_told", "_law_due"]) (d__law_is_whole : Kn P w K mg base 1 "_law_is_whole" ["_law_told"] (spWhole K)) (d__law_same : Kn P w K mg base (n + 1) "_law_same" ["_law_told", "_law_due"] (spSame K n)) : Kn P w K mg base (n + 2) "_law_same" ["_law_told", "_law_due"] (spSame K (n + 1)) := by
  refine Kn.mk' D scSame (fun vs H Q E h => ?_) (fun f cdv A outer s H vs Q E hr h => ?_)
  · obtain ⟨x, y, rfl, _⟩ := h
    rfl
  obtain ⟨x, y, rfl, he, k⟩ := h
  refine ⟨_, (pss_cons (ps_if (pt_cmpR op_isN (pv 1) pe_non (nomark _)) (pss_one (ps_ret (pe_cmpR op_isN (pv 0) pe_non (nomark _)))) pss_nil)
      (pss_cons (ps_if (pt_val (pe_callB call_isN (by rfl) T.b_isinstance (by decide +kernel) (pa_cons (pv 1) (pa_cons (pe_bltn (v := .ty "bool") (by rfl) T.b_bool (by decide +kernel) rfl) pa_nil)))) (pss_one (ps_ret (pe_and (pe_callB call_isN (by rfl) T.b_isinstance (by decide +kernel) (pa_cons (pv 0) (pa_cons (pe_bltn (v := .ty "bool") (by rfl) T.b_bool (by decide +kernel) rfl) pa_nil))) (pe_one (pe_cmpR op_eq (pv 0) (pv 1) (nomark _)))))) pss_nil)
      (pss_cons (ps_if (pt_val (pe_callB call_isN (by rfl) T.b_isinstance (by decide +kernel) (pa_cons (pv 1) (pa_cons (pe_bltn (v := .ty "int") (by rfl) T.b_int (by decide +kernel) rfl) pa_nil)))) (pss_one (ps_ret (pe_and (pe_kn d__law_is_whole hr (by rfl) (pa_cons (pv 0) pa_nil)) (pe_one (pe_cmpR op_eq (pv 0) (pv 1) (nomark _)))))) pss_nil)
      (pss_cons (ps_if (pt_val (pe_callB call_isN (by rfl) T.b_isinstance (by decide +kernel) (pa_cons (pv 1) (pa_cons (pe_bltn (v := .ty "str") (by rfl) T.b_str (by decide +kernel) rfl) pa_nil)))) (pss_one (ps_ret (pe_and (pe_callB call_isN (by rfl) T.b_isinstance (by decide +kernel) (pa_cons (pv 0) (pa_cons (pe_bltn (v := .ty "str") (by rfl) T.b_str (by decide +kernel) rfl) pa_nil))) (pe_one (pe_cmpR op_eq (pv 0) (pv 1) (nomark _)))))) pss_nil)
      (pss_cons (ps_if (pt_val (pe_callB call_isN (by rfl) T.b_isinstance (by decide +kernel) (pa_cons (pv 1) (pa_cons (pe_bltn (v := .ty "dict") (by rfl) T.b_dict (by decide +kernel) rfl) pa_nil)))) (pss_cons (ps_if (PW.pt (pw_or (pt_not (pt_val (pe_callB call_isN (by rfl) T.b_isinstance (by decide +kernel) (pa_cons (pv 0) (pa_cons (pe_bltn (v := .ty "dict") (by rfl) T.b_dict (by decide +kernel) rfl) pa_nil))))) (pw_or1 (pt_not (pt_val (pe_kn d__law_same hr (by rfl) (pa_cons (pe_callTy call_list_of (by rfl) T.b_list (by decide +kernel) (pa_cons (pv 0) pa_nil)) (pa_cons (pe_callTy call_list_of (by rfl) T.b_list (by decide +kernel) (pa_cons (pv 1) pa_nil)) pa_nil)))))))) (pss_one (ps_ret pe_bl)) pss_nil)
      (pss_one ps_never)) pss_nil)
      (pss_cons (ps_if (PW.pt (pw_and (pt_val (pe_callB call_isN (by rfl) T.b_isinstance (by decide +kernel) (pa_cons (pv 1) (pa_cons (pe_bltn (v := .ty "list") (by rfl) T.b_list (by decide +kernel) rfl) pa_nil)))) (pw_and1 (pt_not (pt_val (pe_callB call_isN (by rfl) T.b_isinstance (by decide +kernel) (pa_cons (pv 0) (pa_cons (pe_bltn (v := .ty "list") (by rfl) T.b_list (by decide +kernel) rfl) pa_nil)))))))) (pss_one (ps_ret pe_bl)) pss_nil)
      (pss_cons (ps_if (PW.pt (pw_and (pt_val (pe_callB call_isN (by rfl) T.b_isinstance (by decide +kernel) (pa_cons (pv 1) (pa_cons (pe_bltn (v := .ty "tuple") (by rfl) T.b_tuple (by decide +kernel) rfl) pa_nil)))) (pw_and1 (pt_not (pt_val (pe_callB call_isN (by rfl) T.b_isinstance (by decide +kernel) (pa_cons (pv 0) (pa_cons (pe_bltn (v := .ty "tuple") (by rfl) T.b_tuple (by decide +kernel) rfl) pa_nil)))))))) (pss_one (ps_ret pe_bl)) pss_nil)
      (pss_cons (ps_if (PW.pt (pw_or (pt_not (pt_val (pe_callB call_isT (by rfl) T.b_isinstance (by decide +kernel) (pa_cons (pv 1) (pa_cons (pe_tp (pa_cons (pe_bltn (v := .ty "list") (by rfl) T.b_list (by decide +kernel) rfl) (pa_cons (pe_bltn (v := .ty "tuple") (by rfl) T.b_tuple (by decide +kernel) rfl) pa_nil))) pa_nil))))) (pw_or1 (pt_cmpR op_ne (pe_callB call_lenA (by rfl) T.b_len PySem.boot_len (pa_cons (pv 0) pa_nil)) (pe_callB call_lenA (by rfl) T.b_len PySem.boot_len (pa_cons (pv 1) pa_nil)) (nomark _))))) (pss_one (ps_ret pe_bl)) pss_nil)
      (pss_cons (ps_for PassesOwn.never rfl (pi_range1 (by rfl) T.b_range (pa_cons (pe_callB call_lenA (by rfl) T.b_len PySem.boot_len (pa_cons (pv 1) pa_nil)) pa_nil)) (pg_name (i := 2) scSame.nd rfl (.inl rfl)) (pss_one (ps_if (pt_not (pt_val (pe_kn d__law_same hr (by rfl) (pa_cons (pe_ix ix_any (pv 0) (pv 2) (fun _ _ => rfl)) (pa_cons (pe_ix ix_any (pv 1) (pv 2) (fun _ _ => rfl)) pa_nil))))) (pss_one (ps_ret pe_bl)) pss_nil)))
      (pss_one (ps_ret pe_bl))))))))))), ?_⟩
  rcases he.split with ⟨rfl, hsc⟩ | ⟨m, rfl, a, b, xs, ys, rfl, rfl, ho, hl, h1000, hi⟩
  · cases x with
    | non =>
      simp only [cx_K, decide_true, decide_false, reduceCtorEq, gTp, gCons, gNil, ca_0, ca_1, ca_2, ca_3, ca_4, ca_5, ca_6, ca_7, ca_8, ca_9, ca_10, ca_11, ca_12, ca_13, ca_14, ca_15, ca_16, ca_17, ca_18, ca_19, ca_20, ca_21, ca_22, ca_23, ca_24, ca_25, ca_26, ca_27, ca_28, ca_29, ca_30, not_true_eq_false, not_false_eq_true, Int.reduceEq, Nat.reduceEqDiff, Nat.reduceLeDiff, rGcd, V.ty.injEq, eq_self, List.not_mem_nil, beq_self_eq_true, HO.lst.injEq, HO.tup.injEq, tFor_eq, iRng1, iList, iTup, nat10, tSeq, rIxA, rSetA, rIsN, rIsT, tTp, tLs, itsO_tup, itsO_lst, tyO_tup, tyO_lst, tyO_dK, tyN_non, tyN_bl, tyN_int, tyN_str, tyN_ref, tyNs_lt, isB, upd_same, upd_upd, sizeLine_eq, List.mem_cons, String.reduceBEq, String.reduceEq, Bool.or_false, Bool.or_true, Bool.and_false, Bool.false_or, Bool.and_self, Bool.false_and, Bool.not_false, Bool.not_true, List.any_cons, List.any_nil, atI_0, setI_0, atI_1, setI_1, atI_2, setI_2, atI_3, setI_3, atI_4, setI_4, atI_5, setI_5, atI_6, setI_6, tAsg, gName, tOp, tUn, tVar, tC, tCons, L2.tNil, tRet, tIfS, tTest, tCB, tCall, rI, rI0, rU, tNext, tB, tAnd, tOr, tNot, tAndV, tOrV, tNotV, tDrop, tIf, tPar, gSub, rIxL, rIxT, rEq, rNe, rSetL, tBits,
    L2.start, List.map_cons, List.map_nil, List.cons_append, List.nil_append, List.append_nil, List.length_cons, List.length_nil, List.replicate, Nat.reduceAdd, Nat.reduceSub, Nat.zero_add, List.getElem?_cons_zero, List.getElem?_cons_succ, List.set_cons_zero, List.set_cons_succ,
    Option.some.injEq, exists_eq_left', exists_eq_left, V.int.injEq, V.bl.injEq, V.ref.injEq, V.str.injEq, List.cons.injEq, reduceCtorEq, and_true, true_and, false_and, and_false, exists_false, or_false, false_or, or_true, true_or, exists_const, CMul, CDiv, CPow, and_assoc, exists_and_left, exists_and_right, Int.reducePow, Int.reduceNeg, Int.reduceLT, Int.reduceLE, Nat.reducePow, Nat.reduceLT, Int.reduceToNat, gt_iff_lt, ge_iff_le, decide_eq_true_eq, Bool.not_eq_true', decide_eq_false_iff_not, scal, ↓reduceIte, Bool.false_eq_true]
      exact k H (Same.refl H)
    | bl b =>
      simp only [cx_K, decide_true, decide_false, reduceCtorEq, gTp, gCons, gNil, ca_0, ca_1, ca_2, ca_3, ca_4, ca_5, ca_6, ca_7, ca_8, ca_9, ca_10, ca_11, ca_12, ca_13, ca_14, ca_15, ca_16, ca_17, ca_18, ca_19, ca_20, ca_21, ca_22, ca_23, ca_24, ca_25, ca_26, ca_27, ca_28, ca_29, ca_30, not_true_eq_false, not_false_eq_true, Int.reduceEq, Nat.reduceEqDiff, Nat.reduceLeDiff, rGcd, V.ty.injEq, eq_self, List.not_mem_nil, beq_self_eq_true, HO.lst.injEq, HO.tup.injEq, tFor_eq, iRng1, iList, iTup, nat10, tSeq, rIxA, rSetA, rIsN, rIsT, tTp, tLs, itsO_tup, itsO_lst, tyO_tup, tyO_lst, tyO_dK, tyN_non, tyN_bl, tyN_int, tyN_str, tyN_ref, tyNs_lt, isB, upd_same, upd_upd, sizeLine_eq, List.mem_cons, String.reduceBEq, String.reduceEq, Bool.or_false, Bool.or_true, Bool.and_false, Bool.false_or, Bool.and_self, Bool.false_and, Bool.not_false, Bool.not_true, List.any_cons, List.any_nil, atI_0, setI_0, atI_1, setI_1, atI_2, setI_2, atI_3, setI_3, atI_4, setI_4, atI_5, setI_5, atI_6, setI_6, tAsg, gName, tOp, tUn, tVar, tC, tCons, L2.tNil, tRet, tIfS, tTest, tCB, tCall, rI, rI0, rU, tNext, tB, tAnd, tOr, tNot, tAndV, tOrV, tNotV, tDrop, tIf, tPar, gSub, rIxL, rIxT, rEq, rNe, rSetL, tBits,
    L2.start, List.map_cons, List.map_nil, List.cons_append, List.nil_append, List.append_nil, List.length_cons, List.length_nil, List.replicate, Nat.reduceAdd, Nat.reduceSub, Nat.zero_add, List.getElem?_cons_zero, List.getElem?_cons_succ, List.set_cons_zero, List.set_cons_succ,
    Option.some.injEq, exists_eq_left', exists_eq_left, V.int.injEq, V.bl.injEq, V.ref.injEq, V.str.injEq, List.cons.injEq, reduceCtorEq, and_true, true_and, false_and, and_false, exists_false, or_false, false_or, or_true, true_or, exists_const, CMul, CDiv, CPow, and_assoc, exists_and_left, exists_and_right, Int.reducePow, Int.reduceNeg, Int.reduceLT, Int.reduceLE, Nat.reducePow, Nat.reduceLT, Int.reduceToNat, gt_iff_lt, ge_iff_le, decide_eq_true_eq, Bool.not_eq_true', decide_eq_false_iff_not, scal, ↓reduceIte, Bool.false_eq_true]
      exact k H (Same.refl H)
    | int i =>
      simp only [cx_K, decide_true, decide_false, reduceCtorEq, gTp, gCons, gNil, ca_0, ca_1, ca_2, ca_3, ca_4, ca_5, ca_6, ca_7, ca_8, ca_9, ca_10, ca_11, ca_12, ca_13, ca_14, ca_15, ca_16, ca_17, ca_18, ca_19, ca_20, ca_21, ca_22, ca_23, ca_24, ca_25, ca_26, ca_27, ca_28, ca_29, ca_30, not_true_eq_false, not_false_eq_true, Int.reduceEq, Nat.reduceEqDiff, Nat.reduceLeDiff, rGcd, V.ty.injEq, eq_self, List.not_mem_nil, beq_self_eq_true, HO.lst.injEq, HO.tup.injEq, tFor_eq, iRng1, iList, iTup, nat10, tSeq, rIxA, rSetA, rIsN, rIsT, tTp, tLs, itsO_tup, itsO_lst, tyO_tup, tyO_lst, tyO_dK, tyN_non, tyN_bl, tyN_int, tyN_str, tyN_ref, tyNs_lt, isB, upd_same, upd_upd, sizeLine_eq, List.mem_cons, String.reduceBEq, String.reduceEq, Bool.or_false, Bool.or_true, Bool.and_false, Bool.false_or, Bool.and_self, Bool.false_and, Bool.not_false, Bool.not_true, List.any_cons, List.any_nil, atI_0, setI_0, atI_1, setI_1, atI_2, setI_2, atI_3, setI_3, atI_4, setI_4, atI_5, setI_5, atI_6, setI_6, tAsg, gName, tOp, tUn, tVar, tC, tCons, L2.tNil, tRet, tIfS, tTest, tCB, tCall, rI, rI0, rU, tNext, tB, tAnd, tOr, tNot, tAndV, tOrV, tNotV, tDrop, tIf, tPar, gSub, rIxL, rIxT, rEq, rNe, rSetL, tBits,
    L2.start, List.map_cons, List.map_nil, List.cons_append, List.nil_append, List.append_nil, List.length_cons, List.length_nil, List.replicate, Nat.reduceAdd, Nat.reduceSub, Nat.zero_add, List.getElem?_cons_zero, List.getElem?_cons_succ, List.set_cons_zero, List.set_cons_succ,
    Option.some.injEq, exists_eq_left', exists_eq_left, V.int.injEq, V.bl.injEq, V.ref.injEq, V.str.injEq, List.cons.injEq, reduceCtorEq, and_true, true_and, false_and, and_false, exists_false, or_false, false_or, or_true, true_or, exists_const, CMul, CDiv, CPow, and_assoc, exists_and_left, exists_and_right, Int.reducePow, Int.reduceNeg, Int.reduceLT, Int.reduceLE, Nat.reducePow, Nat.reduceLT, Int.reduceToNat, gt_iff_lt, ge_iff_le, decide_eq_true_eq, Bool.not_eq_true', decide_eq_false_iff_not, scal, ↓reduceIte, Bool.false_eq_true]
      exact ⟨_, rfl, rfl, true, rfl, k H (Same.refl H)⟩
    | str z =>
      simp only [cx_K, decide_true, decide_false, reduceCtorEq, gTp, gCons, gNil, ca_0, ca_1, ca_2, ca_3, ca_4, ca_5, ca_6, ca_7, ca_8, ca_9, ca_10, ca_11, ca_12, ca_13, ca_14, ca_15, ca_16, ca_17, ca_18, ca_19, ca_20, ca_21, ca_22, ca_23, ca_24, ca_25, ca_26, ca_27, ca_28, ca_29, ca_30, not_true_eq_false, not_false_eq_true, Int.reduceEq, Nat.reduceEqDiff, Nat.reduceLeDiff, rGcd, V.ty.injEq, eq_self, List.not_mem_nil, beq_self_eq_true, HO.lst.injEq, HO.tup.injEq, tFor_eq, iRng1, iList, iTup, nat10, tSeq, rIxA, rSetA, rIsN, rIsT, tTp, tLs, itsO_tup, itsO_lst, tyO_tup, tyO_lst, tyO_dK, tyN_non, tyN_bl, tyN_int, tyN_str, tyN_ref, tyNs_lt, isB, upd_same, upd_upd, sizeLine_eq, List.mem_cons, String.reduceBEq, String.reduceEq, Bool.or_false, Bool.or_true, Bool.and_false, Bool.false_or, Bool.and_self, Bool.false_and, Bool.not_false, Bool.not_true, List.any_cons, List.any_nil, atI_0, setI_0, atI_1, setI_1, atI_2, setI_2, atI_3, setI_3, atI_4, setI_4, atI_5, setI_5, atI_6, setI_6, tAsg, gName, tOp, tUn, tVar, tC, tCons, L2.tNil, tRet, tIfS, tTest, tCB, tCall, rI, rI0, rU, tNext, tB, tAnd, tOr, tNot, tAndV, tOrV, tNotV, tDrop, tIf, tPar, gSub, rIxL, rIxT, rEq, rNe, rSetL, tBits,
    L2.start, List.map_cons, List.map_nil, List.cons_append, List.nil_append, List.append_nil, List.length_cons, List.length_nil, List.replicate, Nat.reduceAdd, Nat.reduceSub, Nat.zero_add, List.getElem?_cons_zero, List.getElem?_cons_succ, List.set_cons_zero, List.set_cons_succ,
    Option.some.injEq, exists_eq_left', exists_eq_left, V.int.injEq, V.bl.injEq, V.ref.injEq, V.str.injEq, List.cons.injEq, reduceCtorEq, and_true, true_and, false_and, and_false, exists_false, or_false, false_or, or_true, true_or, exists_const, CMul, CDiv, CPow, and_assoc, exists_and_left, exists_and_right, Int.reducePow, Int.reduceNeg, Int.reduceLT, Int.reduceLE, Nat.reducePow, Nat.reduceLT, Int.reduceToNat, gt_iff_lt, ge_iff_le, decide_eq_true_eq, Bool.not_eq_true', decide_eq_false_iff_not, scal, ↓reduceIte, Bool.false_eq_true]
      exact k H (Same.refl H)
    | _ => cases hsc
  rcases ho with ⟨oa, oc⟩ | ⟨oa, oc⟩
  · simp only [oa, oc, cx_K, decide_true, decide_false, reduceCtorEq, gTp, gCons, gNil, ca_0, ca_1, ca_2, ca_3, ca_4, ca_5, ca_6, ca_7, ca_8, ca_9, ca_10, ca_11, ca_12, ca_13, ca_14, ca_15, ca_16, ca_17, ca_18, ca_19, ca_20, ca_21, ca_22, ca_23, ca_24, ca_25, ca_26, ca_27, ca_28, ca_29, ca_30, not_true_eq_false, not_false_eq_true, Int.reduceEq, Nat.reduceEqDiff, Nat.reduceLeDiff, rGcd, V.ty.injEq, eq_self, List.not_mem_nil, beq_self_eq_true, HO.lst.injEq, HO.tup.injEq, tFor_eq, iRng1, iList, iTup, nat10, tSeq, rIxA, rSetA, rIsN, rIsT, tTp, tLs, itsO_tup, itsO_lst, tyO_tup, tyO_lst, tyO_dK, tyN_non, tyN_bl, tyN_int, tyN_str, tyN_ref, tyNs_lt, isB, upd_same, upd_upd, sizeLine_eq, List.mem_cons, String.reduceBEq, String.reduceEq, Bool.or_false, Bool.or_true, Bool.and_false, Bool.false_or, Bool.and_self, Bool.false_and, Bool.not_false, Bool.not_true, List.any_cons, List.any_nil, atI_0, setI_0, atI_1, setI_1, atI_2, setI_2, atI_3, setI_3, atI_4, setI_4, atI_5, setI_5, atI_6, setI_6, tAsg, gName, tOp, tUn, tVar, tC, tCons, L2.tNil, tRet, tIfS, tTest, tCB, tCall, rI, rI0, rU, tNext, tB, tAnd, tOr, tNot, tAndV, tOrV, tNotV, tDrop, tIf, tPar, gSub, rIxL, rIxT, rEq, rNe, rSetL, tBits,
    L2.start, List.map_cons, List.map_nil, List.cons_append, List.nil_append, List.append_nil, List.length_cons, List.length_nil, List.replicate, Nat.reduceAdd, Nat.reduceSub, Nat.zero_add, List.getElem?_cons_zero, List.getElem?_cons_succ, List.set_cons_zero, List.set_cons_succ,
    Option.some.injEq, exists_eq_left', exists_eq_left, V.int.injEq, V.bl.injEq, V.ref.injEq, V.str.injEq, List.cons.injEq, reduceCtorEq, and_true, true_and, false_and, and_false, exists_false, or_false, false_or, or_true, true_or, exists_const, CMul, CDiv, CPow, and_assoc, exists_and_left, exists_and_right, Int.reducePow, Int.reduceNeg, Int.reduceLT, Int.reduceLE, Nat.reducePow, Nat.reduceLT, Int.reduceToNat, gt_iff_lt, ge_iff_le, decide_eq_true_eq, Bool.not_eq_true', decide_eq_false_iff_not, scal, ↓reduceIte, Bool.false_eq_true]
    intro p hp kp
    have s1 := Same.new hp (.tup [V.ty "list", V.ty "tuple"])
    generalize upd H p (.tup [V.ty "list", V.ty "tuple"]) = H1 at s1 ⊢
    have oa1 := ob_same s1 oa
    have oc1 := ob_same s1 oc
    simp only [oa1, oc1, cx_K, decide_true, decide_false, reduceCtorEq, gTp, gCons, gNil, ca_0, ca_1, ca_2, ca_3, ca_4, ca_5, ca_6, ca_7, ca_8, ca_9, ca_10, ca_11, ca_12, ca_13, ca_14, ca_15, ca_16, ca_17, ca_18, ca_19, ca_20, ca_21, ca_22, ca_23, ca_24, ca_25, ca_26, ca_27, ca_28, ca_29, ca_30, not_true_eq_false, not_false_eq_true, Int.reduceEq, Nat.reduceEqDiff, Nat.reduceLeDiff, rGcd, V.ty.injEq, eq_self, List.not_mem_nil, beq_self_eq_true, HO.lst.injEq, HO.tup.injEq, tFor_eq, iRng1, iList, iTup, nat10, tSeq, rIxA, rSetA, rIsN, rIsT, tTp, tLs, itsO_tup, itsO_lst, tyO_tup, tyO_lst, tyO_dK, tyN_non, tyN_bl, tyN_int, tyN_str, tyN_ref, tyNs_lt, isB, upd_same, upd_upd, sizeLine_eq, List.mem_cons, String.reduceBEq, String.reduceEq, Bool.or_false, Bool.or_true, Bool.and_false, Bool.false_or, Bool.and_self, Bool.false_and, Bool.not_false, Bool.not_true, List.any_cons, List.any_nil, atI_0, setI_0, atI_1, setI_1, atI_2, setI_2, atI_3, setI_3, atI_4, setI_4, atI_5, setI_5, atI_6, setI_6, tAsg, gName, tOp, tUn, tVar, tC, tCons, L2.tNil, tRet, tIfS, tTest, tCB, tCall, rI, rI0, rU, tNext, tB, tAnd, tOr, tNot, tAndV, tOrV, tNotV, tDrop, tIf, tPar, gSub, rIxL, rIxT, rEq, rNe, rSetL, tBits,
    L2.start, List.map_cons, List.map_nil, List.cons_append, List.nil_append, List.append_nil, List.length_cons, List.length_nil, List.replicate, Nat.reduceAdd, Nat.reduceSub, Nat.zero_add, List.getElem?_cons_zero, List.getElem?_cons_succ, List.set_cons_zero, List.set_cons_succ,
    Option.some.injEq, exists_eq_left', exists_eq_left, V.int.injEq, V.bl.injEq, V.ref.injEq, V.str.injEq, List.cons.injEq, reduceCtorEq, and_true, true_and, false_and, and_false, exists_false, or_false, false_or, or_true, true_or, exists_const, CMul, CDiv, CPow, and_assoc, exists_and_left, exists_and_right, Int.reducePow, Int.reduceNeg, Int.reduceLT, Int.reduceLE, Nat.reducePow, Nat.reduceLT, Int.reduceToNat, gt_iff_lt, ge_iff_le, decide_eq_true_eq, Bool.not_eq_true', decide_eq_false_iff_not, scal, ↓reduceIte, Bool.false_eq_true]
    rw [if_neg (show ¬ ¬ ((xs.length : Int) = (ys.length : Int)) by omega)]
    refine ⟨by omega, by omega, forI_range (SameI H a b) ⟨none, rfl, s1⟩ ?_ ?_⟩
    · rintro i σ H' hlt ⟨z, rfl, s2⟩
      have hx : i < xs.length := by omega
      have hy : i < ys.length := by omega
      have oa2 := ob_same s2 oa
      have oc2 := ob_same s2 oc
      have ex : atI xs (0 + (i : Int)) = some xs[i] := by rw [Int.zero_add]; exact atI_nat (List.getElem?_eq_getElem hx)
      have ey : atI ys (0 + (i : Int)) = some ys[i] := by rw [Int.zero_add]; exact atI_nat (List.getElem?_eq_getElem hy)
      simp only [oa2, oc2, ex, ey, cx_K, decide_true, decide_false, reduceCtorEq, gTp, gCons, gNil, ca_0, ca_1, ca_2, ca_3, ca_4, ca_5, ca_6, ca_7, ca_8, ca_9, ca_10, ca_11, ca_12, ca_13, ca_14, ca_15, ca_16, ca_17, ca_18, ca_19, ca_20, ca_21, ca_22, ca_23, ca_24, ca_25, ca_26, ca_27, ca_28, ca_29, ca_30, not_true_eq_false, not_false_eq_true, Int.reduceEq, Nat.reduceEqDiff, Nat.reduceLeDiff, rGcd, V.ty.injEq, eq_self, List.not_mem_nil, beq_self_eq_true, HO.lst.injEq, HO.tup.injEq, tFor_eq, iRng1, iList, iTup, nat10, tSeq, rIxA, rSetA, rIsN, rIsT, tTp, tLs, itsO_tup, itsO_lst, tyO_tup, tyO_lst, tyO_dK, tyN_non, tyN_bl, tyN_int, tyN_str, tyN_ref, tyNs_lt, isB, upd_same, upd_upd, sizeLine_eq, List.mem_cons, String.reduceBEq, String.reduceEq, Bool.or_false, Bool.or_true, Bool.and_false, Bool.false_or, Bool.and_self, Bool.false_and, Bool.not_false, Bool.not_true, List.any_cons, List.any_nil, atI_0, setI_0, atI_1, setI_1, atI_2, setI_2, atI_3, setI_3, atI_4, setI_4, atI_5, setI_5, atI_6, setI_6, tAsg, gName, tOp, tUn, tVar, tC, tCons, L2.tNil, tRet, tIfS, tTest, tCB, tCall, rI, rI0, rU, tNext, tB, tAnd, tOr, tNot, tAndV, tOrV, tNotV, tDrop, tIf, tPar, gSub, rIxL, rIxT, rEq, rNe, rSetL, tBits,
    L2.start, List.map_cons, List.map_nil, List.cons_append, List.nil_append, List.append_nil, List.length_cons, List.length_nil, List.replicate, Nat.reduceAdd, Nat.reduceSub, Nat.zero_add, List.getElem?_cons_zero, List.getElem?_cons_succ, List.set_cons_zero, List.set_cons_succ,
    Option.some.injEq, exists_eq_left', exists_eq_left, V.int.injEq, V.bl.injEq, V.ref.injEq, V.str.injEq, List.cons.injEq, reduceCtorEq, and_true, true_and, false_and, and_false, exists_false, or_false, false_or, or_true, true_or, exists_const, CMul, CDiv, CPow, and_assoc, exists_and_left, exists_and_right, Int.reducePow, Int.reduceNeg, Int.reduceLT, Int.reduceLE, Nat.reducePow, Nat.reduceLT, Int.reduceToNat, gt_iff_lt, ge_iff_le, decide_eq_true_eq, Bool.not_eq_true', decide_eq_false_iff_not, scal, ↓reduceIte, Bool.false_eq_true]
      refine ⟨_, _, rfl, (hi i _ _ (List.getElem?_eq_getElem hx) (List.getElem?_eq_getElem hy)).same s2, fun H2 s3 => ⟨true, rfl, ?_⟩⟩
      rw [if_neg Bool.noConfusion]
      exact ⟨_, rfl, s2.trans s3⟩
    · rintro σ H' ⟨z, rfl, s2⟩
      simp only [cx_K, decide_true, decide_false, reduceCtorEq, gTp, gCons, gNil, ca_0, ca_1, ca_2, ca_3, ca_4, ca_5, ca_6, ca_7, ca_8, ca_9, ca_10, ca_11, ca_12, ca_13, ca_14, ca_15, ca_16, ca_17, ca_18, ca_19, ca_20, ca_21, ca_22, ca_23, ca_24, ca_25, ca_26, ca_27, ca_28, ca_29, ca_30, not_true_eq_false, not_false_eq_true, Int.reduceEq, Nat.reduceEqDiff, Nat.reduceLeDiff, rGcd, V.ty.injEq, eq_self, List.not_mem_nil, beq_self_eq_true, HO.lst.injEq, HO.tup.injEq, tFor_eq, iRng1, iList, iTup, nat10, tSeq, rIxA, rSetA, rIsN, rIsT, tTp, tLs, itsO_tup, itsO_lst, tyO_tup, tyO_lst, tyO_dK, tyN_non, tyN_bl, tyN_int, tyN_str, tyN_ref, tyNs_lt, isB, upd_same, upd_upd, sizeLine_eq, List.mem_cons, String.reduceBEq, String.reduceEq, Bool.or_false, Bool.or_true, Bool.and_false, Bool.false_or, Bool.and_self, Bool.false_and, Bool.not_false, Bool.not_true, List.any_cons, List.any_nil, atI_0, setI_0, atI_1, setI_1, atI_2, setI_2, atI_3, setI_3, atI_4, setI_4, atI_5, setI_5, atI_6, setI_6, tAsg, gName, tOp, tUn, tVar, tC, tCons, L2.tNil, tRet, tIfS, tTest, tCB, tCall, rI, rI0, rU, tNext, tB, tAnd, tOr, tNot, tAndV, tOrV, tNotV, tDrop, tIf, tPar, gSub, rIxL, rIxT, rEq, rNe, rSetL, tBits,
    L2.start, List.map_cons, List.map_nil, List.cons_append, List.nil_append, List.append_nil, List.length_cons, List.length_nil, List.replicate, Nat.reduceAdd, Nat.reduceSub, Nat.zero_add, List.getElem?_cons_zero, List.getElem?_cons_succ, List.set_cons_zero, List.set_cons_succ,
    Option.some.injEq, exists_eq_left', exists_eq_left, V.int.injEq, V.bl.injEq, V.ref.injEq, V.str.injEq, List.cons.injEq, reduceCtorEq, and_true, true_and, false_and, and_false, exists_false, or_false, false_or, or_true, true_or, exists_const, CMul, CDiv, CPow, and_assoc, exists_and_left, exists_and_right, Int.reducePow, Int.reduceNeg, Int.reduceLT, Int.reduceLE, Nat.reducePow, Nat.reduceLT, Int.reduceToNat, gt_iff_lt, ge_iff_le, decide_eq_true_eq, Bool.not_eq_true', decide_eq_false_iff_not, scal, ↓reduceIte, Bool.false_eq_true]
      exact k H' s2
  · simp only [oa, oc, cx_K, decide_true, decide_false, reduceCtorEq, gTp, gCons, gNil, ca_0, ca_1, ca_2, ca_3, ca_4, ca_5, ca_6, ca_7, ca_8, ca_9, ca_10, ca_11, ca_12, ca_13, ca_14, ca_15, ca_16, ca_17, ca_18, ca_19, ca_20, ca_21, ca_22, ca_23, ca_24, ca_25, ca_26, ca_27, ca_28, ca_29, ca_30, not_true_eq_false, not_false_eq_true, Int.reduceEq, Nat.reduceEqDiff, Nat.reduceLeDiff, rGcd, V.ty.injEq, eq_self, List.not_mem_nil, beq_self_eq_true, HO.lst.injEq, HO.tup.injEq, tFor_eq, iRng1, iList, iTup, nat10, tSeq, rIxA, rSetA, rIsN, rIsT, tTp, tLs, itsO_tup, itsO_lst, tyO_tup, tyO_lst, tyO_dK, tyN_non, tyN_bl, tyN_int, tyN_str, tyN_ref, tyNs_lt, isB, upd_same, upd_upd, sizeLine_eq, List.mem_cons, String.reduceBEq, String.reduceEq, Bool.or_false, Bool.or_true, Bool.and_false, Bool.false_or, Bool.and_self, Bool.false_and, Bool.not_false, Bool.not_true, List.any_cons, List.any_nil, atI_0, setI_0, atI_1, setI_1, atI_2, setI_2, atI_3, setI_3, atI_4, setI_4, atI_5, setI_5, atI_6, setI_6, tAsg, gName, tOp, tUn, tVar, tC, tCons, L2.tNil, tRet, tIfS, tTest, tCB, tCall, rI, rI0, rU, tNext, tB, tAnd, tOr, tNot, tAndV, tOrV, tNotV, tDrop, tIf, tPar, gSub, rIxL, rIxT, rEq, rNe, rSetL, tBits,
    L2.start, List.map_cons, List.map_nil, List.cons_append, List.nil_append, List.append_nil, List.length_cons, List.length_nil, List.replicate, Nat.reduceAdd, Nat.reduceSub, Nat.zero_add, List.getElem?_cons_zero, List.getElem?_cons_succ, List.set_cons_zero, List.set_cons_succ,
    Option.some.injEq, exists_eq_left', exists_eq_left, V.int.injEq, V.bl.injEq, V.ref.injEq, V.str.injEq, List.cons.injEq, reduceCtorEq, and_true, true_and, false_and, and_false, exists_false, or_false, false_or, or_true, true_or, exists_const, CMul, CDiv, CPow, and_assoc, exists_and_left, exists_and_right, Int.reducePow, Int.reduceNeg, Int.reduceLT, Int.reduceLE, Nat.reducePow, Nat.reduceLT, Int.reduceToNat, gt_iff_lt, ge_iff_le, decide_eq_true_eq, Bool.not_eq_true', decide_eq_false_iff_not, scal, ↓reduceIte, Bool.false_eq_true]
    intro p hp kp
    have s1 := Same.new hp (.tup [V.ty "list", V.ty "tuple"])
    generalize upd H p (.tup [V.ty "list", V.ty "tuple"]) = H1 at s1 ⊢
    have oa1 := ob_same s1 oa
    have oc1 := ob_same s1 oc
    simp only [oa1, oc1, cx_K, decide_true, decide_false, reduceCtorEq, gTp, gCons, gNil, ca_0, ca_1, ca_2, ca_3, ca_4, ca_5, ca_6, ca_7, ca_8, ca_9, ca_10, ca_11, ca_12, ca_13, ca_14, ca_15, ca_16, ca_17, ca_18, ca_19, ca_20, ca_21, ca_22, ca_23, ca_24, ca_25, ca_26, ca_27, ca_28, ca_29, ca_30, not_true_eq_false, not_false_eq_true, Int.reduceEq, Nat.reduceEqDiff, Nat.reduceLeDiff, rGcd, V.ty.injEq, eq_self, List.not_mem_nil, beq_self_eq_true, HO.lst.injEq, HO.tup.injEq, tFor_eq, iRng1, iList, iTup, nat10, tSeq, rIxA, rSetA, rIsN, rIsT, tTp, tLs, itsO_tup, itsO_lst, tyO_tup, tyO_lst, tyO_dK, tyN_non, tyN_bl, tyN_int, tyN_str, tyN_ref, tyNs_lt, isB, upd_same, upd_upd, sizeLine_eq, List.mem_cons, String.reduceBEq, String.reduceEq, Bool.or_false, Bool.or_true, Bool.and_false, Bool.false_or, Bool.and_self, Bool.false_and, Bool.not_false, Bool.not_true, List.any_cons, List.any_nil, atI_0, setI_0, atI_1, setI_1, atI_2, setI_2, atI_3, setI_3, atI_4, setI_4, atI_5, setI_5, atI_6, setI_6, tAsg, gName, tOp, tUn, tVar, tC, tCons, L2.tNil, tRet, tIfS, tTest, tCB, tCall, rI, rI0, rU, tNext, tB, tAnd, tOr, tNot, tAndV, tOrV, tNotV, tDrop, tIf, tPar, gSub, rIxL, rIxT, rEq, rNe, rSetL, tBits,
    L2.start, List.map_cons, List.map_nil, List.cons_append, List.nil_append, List.append_nil, List.length_cons, List.length_nil, List.replicate, Nat.reduceAdd, Nat.reduceSub, Nat.zero_add, List.getElem?_cons_zero, List.getElem?_cons_succ, List.set_cons_zero, List.set_cons_succ,
    Option.some.injEq, exists_eq_left', exists_eq_left, V.int.injEq, V.bl.injEq, V.ref.injEq, V.str.injEq, List.cons.injEq, reduceCtorEq, and_true, true_and, false_and, and_false, exists_false, or_false, false_or, or_true, true_or, exists_const, CMul, CDiv, CPow, and_assoc, exists_and_left, exists_and_right, Int.reducePow, Int.reduceNeg, Int.reduceLT, Int.reduceLE, Nat.reducePow, Nat.reduceLT, Int.reduceToNat, gt_iff_lt, ge_iff_le, decide_eq_true_eq, Bool.not_eq_true', decide_eq_false_iff_not, scal, ↓reduceIte, Bool.false_eq_true]
    rw [if_neg (show ¬ ¬ ((xs.length : Int) = (ys.length : Int)) by omega)]
    refine ⟨by omega, by omega, forI_range (SameI H a b) ⟨none, rfl, s1⟩ ?_ ?_⟩
    · rintro i σ H' hlt ⟨z, rfl, s2⟩
      have hx : i < xs.length := by omega
      have hy : i < ys.length := by omega
      have oa2 := ob_same s2 oa
      have oc2 := ob_same s2 oc
      have ex : atI xs (0 + (i : Int)) = some xs[i] := by rw [Int.zero_add]; exact atI_nat (List.getElem?_eq_getElem hx)
      have ey : atI ys (0 + (i : Int)) = some ys[i] := by rw [Int.zero_add]; exact atI_nat (List.getElem?_eq_getElem hy)
      simp only [oa2, oc2, ex, ey, cx_K, decide_true, decide_false, reduceCtorEq, gTp, gCons, gNil, ca_0, ca_1, ca_2, ca_3, ca_4, ca_5, ca_6, ca_7, ca_8, ca_9, ca_10, ca_11, ca_12, ca_13, ca_14, ca_15, ca_16, ca_17, ca_18, ca_19, ca_20, ca_21, ca_22, ca_23, ca_24, ca_25, ca_26, ca_27, ca_28, ca_29, ca_30, not_true_eq_false, not_false_eq_true, Int.reduceEq, Nat.reduceEqDiff, Nat.reduceLeDiff, rGcd, V.ty.injEq, eq_self, List.not_mem_nil, beq_self_eq_true, HO.lst.injEq, HO.tup.injEq, tFor_eq, iRng1, iList, iTup, nat10, tSeq, rIxA, rSetA, rIsN, rIsT, tTp, tLs, itsO_tup, itsO_lst, tyO_tup, tyO_lst, tyO_dK, tyN_non, tyN_bl, tyN_int, tyN_str, tyN_ref, tyNs_lt, isB, upd_same, upd_upd, sizeLine_eq, List.mem_cons, String.reduceBEq, String.reduceEq, Bool.or_false, Bool.or_true, Bool.and_false, Bool.false_or, Bool.and_self, Bool.false_and, Bool.not_false, Bool.not_true, List.any_cons, List.any_nil, atI_0, setI_0, atI_1, setI_1, atI_2, setI_2, atI_3, setI_3, atI_4, setI_4, atI_5, setI_5, atI_6, setI_6, tAsg, gName, tOp, tUn, tVar, tC, tCons, L2.tNil, tRet, tIfS, tTest, tCB, tCall, rI, rI0, rU, tNext, tB, tAnd, tOr, tNot, tAndV, tOrV, tNotV, tDrop, tIf, tPar, gSub, rIxL, rIxT, rEq, rNe, rSetL, tBits,
    L2.start, List.map_cons, List.map_nil, List.cons_append, List.nil_append, List.append_nil, List.length_cons, List.length_nil, List.replicate, Nat.reduceAdd, Nat.reduceSub, Nat.zero_add, List.getElem?_cons_zero, List.getElem?_cons_succ, List.set_cons_zero, List.set_cons_succ,
    Option.some.injEq, exists_eq_left', exists_eq_left, V.int.injEq, V.bl.injEq, V.ref.injEq, V.str.injEq, List.cons.injEq, reduceCtorEq, and_true, true_and, false_and, and_false, exists_false, or_false, false_or, or_true, true_or, exists_const, CMul, CDiv, CPow, and_assoc, exists_and_left, exists_and_right, Int.reducePow, Int.reduceNeg, Int.reduceLT, Int.reduceLE, Nat.reducePow, Nat.reduceLT, Int.reduceToNat, gt_iff_lt, ge_iff_le, decide_eq_true_eq, Bool.not_eq_true', decide_eq_false_iff_not, scal, ↓reduceIte, Bool.false_eq_true]
      refine ⟨_, _, rfl, (hi i _ _ (List.getElem?_eq_getElem hx) (List.getElem?_eq_getElem hy)).same s2, fun H2 s3 => ⟨true, rfl, ?_⟩⟩
      rw [if_neg Bool.noConfusion]
      exact ⟨_, rfl, s2.trans s3⟩
    · rintro σ H' ⟨z, rfl, s2⟩
      simp only [cx_K, decide_true, decide_false, reduceCtorEq, gTp, gCons, gNil, ca_0, ca_1, ca_2, ca_3, ca_4, ca_5, ca_6, ca_7, ca_8, ca_9, ca_10, ca_11, ca_12, ca_13, ca_14, ca_15, ca_16, ca_17, ca_18, ca_19, ca_20, ca_21, ca_22, ca_23, ca_24, ca_25, ca_26, ca_27, ca_28, ca_29, ca_30, not_true_eq_false, not_false_eq_true, Int.reduceEq, Nat.reduceEqDiff, Nat.reduceLeDiff, rGcd, V.ty.injEq, eq_self, List.not_mem_nil, beq_self_eq_true, HO.lst.injEq, HO.tup.injEq, tFor_eq, iRng1, iList, iTup, nat10, tSeq, rIxA, rSetA, rIsN, rIsT, tTp, tLs, itsO_tup, itsO_lst, tyO_tup, tyO_lst, tyO_dK, tyN_non, tyN_bl, tyN_int, tyN_str, tyN_ref, tyNs_lt, isB, upd_same, upd_upd, sizeLine_eq, List.mem_cons, String.reduceBEq, String.reduceEq, Bool.or_false, Bool.or_true, Bool.and_false, Bool.false_or, Bool.and_self, Bool.false_and, Bool.not_false, Bool.not_true, List.any_cons, List.any_nil, atI_0, setI_0, atI_1, setI_1, atI_2, setI_2, atI_3, setI_3, atI_4, setI_4, atI_5, setI_5, atI_6, setI_6, tAsg, gName, tOp, tUn, tVar, tC, tCons, L2.tNil, tRet, tIfS, tTest, tCB, tCall, rI, rI0, rU, tNext, tB, tAnd, tOr, tNot, tAndV, tOrV, tNotV, tDrop, tIf, tPar, gSub, rIxL, rIxT, rEq, rNe, rSetL, tBits,
    L2.start, List.map_cons, List.map_nil, List.cons_append, List.nil_append, List.append_nil, List.length_cons, List.length_nil, List.replicate, Nat.reduceAdd, Nat.reduceSub, Nat.zero_add, List.getElem?_cons_zero, List.getElem?_cons_succ, List.set_cons_zero, List.set_cons_succ,
    Option.some.injEq, exists_eq_left', exists_eq_left, V.int.injEq, V.bl.injEq, V.ref.injEq, V.str.injEq, List.cons.injEq, reduceCtorEq, and_true, true_and, false_and, and_false, exists_false, or_false, false_or, or_true, true_or, exists_const, CMul, CDiv, CPow, and_assoc, exists_and_left, exists_and_right, Int.reducePow, Int.reduceNeg, Int.reduceLT, Int.reduceLE, Nat.reducePow, Nat.reduceLT, Int.reduceToNat, gt_iff_lt, ge_iff_le, decide_eq_true_eq, Bool.not_eq_true', decide_eq_false_iff_not, scal, ↓reduceIte, Bool.false_eq_true]
      exact k H' s2
theorem k_same (T : Bt K mg) (D : Dfn K mg "_law_same" sSame ["_law_told", "_law_due"]) (d : Kn P w K mg base 1 "_law_is_whole" ["_law_told"] (spWhole K)) : ∀ n : Nat, Kn P w K mg base (n + 1) "_law_same" ["_law_told", "_law_due"] (spSame K n)
  | 0 => by
    obtain ⟨f, fd, m, kp, b, G⟩ := (Kn.none (P := P) (w := w) (base := base) D).ex
    exact ⟨f, fd, m, kp, b, (G.mono (Nat.zero_le _)).imp fun vs H Q E h => h.elim⟩
  | n + 1 => k_Same n T D d (k_same T D d n)
end
end My

namespace My
open PySem PySem.Spec PyProof.Rows L2
section
variable {P : Program} {w : World} {K : PySem.W.Frag} {mg : Str → Option Value} {base : Heap}
/-! ### what is no fraction -/
def fr2 : List V → Bool
  | [.int n, .int d] => decide (1 ≤ d) && decide (Int.gcd n d = 1)
  | _ => false
theorem frOk_tup {H : Hp} {a : Addr} {xs : List V} (o : ob K H a = some (.tup xs)) : frOk K H (.ref a) = fr2 xs := by
  simp only [frOk, o]
  unfold fr2
  split <;> simp_all
theorem tyN_same {H H' : Hp} {v : V} {t : String} (e : Same H H') (h : tyN K H v = some t) : tyN K H' v = some t := by
  cases v with
  | ref a =>
    have h1 : tyO (ob K H a) = some t := h
    show tyO (ob K H' a) = some t
    cases hz : ob K H a with
    | none => rw [hz] at h1; cases h1
    | some z => rw [ob_same e hz, ← hz]; exact h1
  | _ => exact h
theorem tyS_same {H H' : Hp} {v : V} (e : Same H H') (h : (tyN K H v).isSome) : (tyN K H' v).isSome := by
  obtain ⟨t, ht⟩ := Option.isSome_iff_exists.mp h
  rw [tyN_same e ht]
  rfl
theorem ob_back {H H' : Hp} {a : Addr} {z : HO} (e : Same H H') (h : (tyN K H (.ref a)).isSome) (o : ob K H' a = some z) : ob K H a = some z := by
  cases hz : ob K H a with
  | none =>
    rw [tyN_ref, hz] at h
    cases h
  | some y =>
    rw [← o, ob_same e hz]
structure Gd (K : PySem.W.Frag) (H : Hp) (v : V) : Prop where
  ty : Tyd K H v
  no : frOk K H v = false
theorem Gd.same {H H' : Hp} {v : V} (e : Same H H') (h : Gd K H v) : Gd K H' v := by
  refine ⟨⟨tyS_same e h.ty.1, fun a xs ev o x hx => ?_⟩, ?_⟩
  · subst ev
    exact tyS_same e (h.ty.2 a xs rfl (ob_back e h.ty.1 o) x hx)
  · cases v with
    | ref a =>
      cases hz : ob K H a with
      | none =>
        have := h.ty.1
        rw [tyN_ref, hz] at this
        cases this
      | some z =>
        have e2 : frOk K H' (.ref a) = frOk K H (.ref a) := by simp only [frOk, hz, ob_same e hz]
        rw [e2]
        exact h.no
    | _ => rfl
theorem gd_sc {H : Hp} {v : V} (h : scv v = true) : Gd K H v := by
  refine ⟨⟨?_, fun a xs e => ?_⟩, ?_⟩
  · cases v <;> first | rfl | cases h
  · subst e; cases h
  · cases v <;> first | rfl | cases h
theorem gd_tup {H : Hp} {a : Addr} {xs : List V} (o : ob K H a = some (.tup xs)) (hx : ∀ x ∈ xs, (tyN K H x).isSome) (f : fr2 xs = false) : Gd K H (.ref a) := by
  refine ⟨⟨by rw [tyN_ref, o]; rfl, fun b ys e o' => ?_⟩, by rw [frOk_tup o]; exact f⟩
  cases e
  rw [o] at o'
  cases o'
  exact hx
theorem gd_lst {H : Hp} {a : Addr} {xs : List V} (o : ob K H a = some (.lst xs)) : Gd K H (.ref a) := by
  refine ⟨⟨by rw [tyN_ref, o]; rfl, fun b ys e o' => ?_⟩, by simp only [frOk, o]⟩
  cases e
  rw [o] at o'
  cases o'
theorem gd_dict {H : Hp} {a : Addr} {xs : List (Key × V)} (o : ob K H a = some (.dK xs)) : Gd K H (.ref a) := by
  refine ⟨⟨by rw [tyN_ref, o]; rfl, fun b ys e o' => ?_⟩, by simp only [frOk, o]⟩
  cases e
  rw [o] at o'
  cases o'
/-! ### displays that only make -/
def Mk (R : Hp → V → Prop) (te : TE) : Prop := ∀ σ H Q, (∀ v H', Same H H' → R H' v → Q v H') → te σ H Q
def MkL (R : Hp → V → Prop) (n : Nat) (ta : TA) : Prop := ∀ σ H Q, (∀ vs H', Same H H' → vs.length = n → (∀ v ∈ vs, R H' v) → Q vs H') → ta σ H Q
theorem mkL_nil {R : Hp → V → Prop} : MkL R 0 L2.tNil := fun σ H Q k => k [] H (Same.refl H) rfl fun _ z => absurd z (by simp)
theorem mkL_cons {R : Hp → V → Prop} {n : Nat} {te : TE} {ta : TA} (mono : ∀ (H H' : Hp) (v : V), Same H H' → R H v → R H' v) (h1 : Mk R te) (h2 : MkL R n ta) : MkL R (n + 1) (tCons te ta) := fun σ H Q k =>
  h1 σ H _ fun v H1 s1 r1 => h2 σ H1 _ fun vs H2 s2 hn hr => k (v :: vs) H2 (s1.trans s2) (by rw [List.length_cons, hn]) fun x hx => by
    rcases List.mem_cons.mp hx with e | e
    · subst e; exact mono _ _ _ s2 r1
    · exact hr x e
theorem mk_c {v : V} (h : scv v = true) : Mk (Gd K) (tC v) := fun σ H Q k => k v H (Same.refl H) (gd_sc h)
theorem mk_tc {ta : TA} (xs : List V) (e : ∀ σ H Q, Q xs H → ta σ H Q) (hs : xs.all scv = true) (hf : fr2 xs = false) (hl : xs.length ≤ 100 := by decide) : Mk (Gd K) (tTp K ta) := fun σ H Q k => by
  refine e σ H _ ⟨by rw [sizeLine_eq]; omega, fun p hp kp => k _ _ (Same.new hp _) (gd_tup (ob_new kp) (fun x hx => ?_) hf)⟩
  exact (gd_sc (K := K) (H := upd H p (.tup xs)) (List.all_eq_true.mp hs x hx)).ty.1
theorem mk_ls {ta : TA} {n : Nat} {R : Hp → V → Prop} (h : MkL R n ta) (hl : n ≤ 100 := by decide) : Mk (Gd K) (tLs K ta) := fun σ H Q k =>
  h σ H _ fun vs H1 s1 hn _ => ⟨by rw [sizeLine_eq]; omega, fun p hp kp => k _ _ (s1.trans (Same.new hp _)) (gd_lst (ob_new kp))⟩
theorem mk_dn : Mk (Gd K) (tDn K) := fun σ H Q k p hp kp => k _ _ (Same.new hp _) (gd_dict (ob_new kp))
theorem mk_any {R : Hp → V → Prop} {te : TE} (h : Mk R te) : Mk (fun _ _ => True) te := fun σ H Q k => h σ H Q fun v H' s _ => k v H' s True.intro
theorem mk_tup {ta : TA} {n : Nat} {R : Hp → V → Prop} (h : MkL R n ta) (hl : n ≤ 100 := by decide) : Mk (fun _ _ => True) (tTp K ta) := fun σ H Q k =>
  h σ H _ fun vs H1 s1 hn _ => ⟨by rw [sizeLine_eq]; omega, fun p hp kp => k _ _ (s1.trans (Same.new hp _)) True.intro⟩
/-! the same where names are read -/
def MkA (σ : L2.St) (H0 : Hp) (R : Hp → V → Prop) (te : TE) : Prop := ∀ H, Same H0 H → ∀ Q, (∀ v H', Same H H' → R H' v → Q v H') → te σ H Q
def MkAL (σ : L2.St) (H0 : Hp) (R : Hp → V → Prop) (n : Nat) (ta : TA) : Prop := ∀ H, Same H0 H → ∀ Q, (∀ vs H', Same H H' → vs.length = n → (∀ v ∈ vs, R H' v) → Q vs H') → ta σ H Q
theorem mkA_nil {σ : L2.St} {H0 : Hp} {R : Hp → V → Prop} : MkAL σ H0 R 0 L2.tNil := fun H _ Q k => k [] H (Same.refl H) rfl fun _ z => absurd z (by simp)
theorem mkA_cons {σ : L2.St} {H0 : Hp} {R : Hp → V → Prop} {n : Nat} {te : TE} {ta : TA} (mono : ∀ (H H' : Hp) (v : V), Same H H' → R H v → R H' v) (h1 : MkA σ H0 R te) (h2 : MkAL σ H0 R n ta) : MkAL σ H0 R (n + 1) (tCons te ta) := fun H s Q k =>
  h1 H s _ fun v H1 s1 r1 => h2 H1 (s.trans s1) _ fun vs H2 s2 hn hr => k (v :: vs) H2 (s1.trans s2) (by rw [List.length_cons, hn]) fun x hx => by
    rcases List.mem_cons.mp hx with e | e
    · subst e; exact mono _ _ _ s2 r1
    · exact hr x e
theorem mkA_tc {σ : L2.St} {H0 : Hp} {ta : TA} (xs : List V) (e : ∀ H, Same H0 H → ∀ Q, Q xs H → ta σ H Q) (hs : ∀ x ∈ xs, (tyN K H0 x).isSome) (hf : fr2 xs = false) (hl : xs.length ≤ 100) : MkA σ H0 (Gd K) (tTp K ta) := fun H s Q k => by
  refine e H s _ ⟨by rw [sizeLine_eq]; omega, fun p hp kp => k _ _ (Same.new hp _) (gd_tup (ob_new kp) (fun x hx => ?_) hf)⟩
  exact tyS_same (s.trans (Same.new hp _)) (hs x hx)
theorem mkA_lc {σ : L2.St} {H0 : Hp} {ta : TA} (xs : List V) (e : ∀ H, Same H0 H → ∀ Q, Q xs H → ta σ H Q) (hl : xs.length ≤ 100) : MkA σ H0 (Gd K) (tLs K ta) := fun H s Q k => by
  exact e H s _ ⟨by rw [sizeLine_eq]; omega, fun p hp kp => k _ _ (Same.new hp _) (gd_lst (ob_new kp))⟩
theorem lsA {ta : TA} {n : Nat} {R : Hp → V → Prop} {σ : L2.St} {H : Hp} {Q : VK} (mono : ∀ (H H' : Hp) (v : V), Same H H' → R H v → R H' v) (h : MkAL σ H R n ta) (hl : n ≤ 100)
    (k : ∀ vs p H', Same H H' → H p = none → K.lookup p = none → vs.length = n → (∀ v ∈ vs, R H' v) → H' p = some (.lst vs) → Q (.ref p) H') : tLs K ta σ H Q :=
  h H (Same.refl H) _ fun vs H1 s1 hn hr => ⟨by rw [sizeLine_eq]; omega, fun p hp kp => k vs p _ (s1.trans (Same.new hp _)) (s1.free hp) kp hn (fun v hv => mono _ _ _ (Same.new hp _) (hr v hv)) upd_same⟩
/-! what is no fraction stays so while the draws go on -/
theorem ob_kp2 {H H' : Hp} {s a : Addr} {z : HO} (e : Kp s H H') (n : a ≠ s) (h : ob K H a = some z) : ob K H' a = some z := by
  unfold ob at h ⊢
  split
  · rename_i o q
    rw [q] at h
    exact h
  · rename_i q
    rw [q] at h
    exact e _ _ n h
theorem Sto.ob {H : Hp} {s : Addr} (h : Sto K H s) : ∃ ys, My.ob K H s = some (.lst ys) := by
  obtain ⟨sc, ns, i, b, c, d, e, f, h⟩ := h
  exact ⟨_, (ob_none h.2.2.2.2.1).trans h.1⟩
theorem tyS_kp {H H' : Hp} {s : Addr} {v : V} (e : Kp s H H') (t : Sto K H' s) (h : (tyN K H v).isSome) : (tyN K H' v).isSome := by
  cases v with
  | ref a =>
    by_cases ha : a = s
    · subst ha
      obtain ⟨ys, hy⟩ := t.ob
      rw [tyN_ref, hy]
      rfl
    · cases hz : ob K H a with
      | none => rw [tyN_ref, hz] at h; cases h
      | some z =>
        rw [tyN_ref, ob_kp2 e ha hz, ← hz]
        exact h
  | _ => exact h
theorem Gd.kp {H H' : Hp} {s : Addr} {v : V} (e : Kp s H H') (t : Sto K H' s) (h : Gd K H v) : Gd K H' v := by
  cases v with
  | ref a =>
    by_cases ha : a = s
    · subst ha
      obtain ⟨ys, hy⟩ := t.ob
      exact gd_lst hy
    · cases hz : ob K H a with
      | none =>
        have := h.ty.1
        rw [tyN_ref, hz] at this
        cases this
      | some z =>
        have hz' := ob_kp2 e ha hz
        refine ⟨⟨tyS_kp e t h.ty.1, fun b xs ev o x hx => ?_⟩, ?_⟩
        · cases ev
          rw [hz'] at o
          exact tyS_kp e t (h.ty.2 a xs rfl (hz.trans o) x hx)
        · have e2 : frOk K H' (.ref a) = frOk K H (.ref a) := by simp only [frOk, hz, hz']
          rw [e2]
          exact h.no
  | _ => exact ⟨⟨h.ty.1, fun _ _ e => by cases e⟩, h.no⟩
/-- a list display of such things -/
theorem lsX {ta : TA} {n : Nat} {R : Hp → V → Prop} {σ : L2.St} {H : Hp} {Q : VK} (mono : ∀ (H H' : Hp) (v : V), Same H H' → R H v → R H' v) (h : MkL R n ta) (hl : n ≤ 100)
    (k : ∀ vs p H', Same H H' → H p = none → K.lookup p = none → vs.length = n → (∀ v ∈ vs, R H' v) → H' p = some (.lst vs) → Q (.ref p) H') : tLs K ta σ H Q :=
  h σ H _ fun vs H1 s1 hn hr => ⟨by rw [sizeLine_eq]; omega, fun p hp kp => k vs p _ (s1.trans (Same.new hp _)) (s1.free hp) kp hn (fun v hv => mono _ _ _ (Same.new hp _) (hr v hv)) upd_same⟩
theorem fr2_mul {q : Qt} {k : Int} (hk : 2 ≤ k) : fr2 [.int (q.1 * k), .int (q.2 * k)] = false := by
  show (decide (1 ≤ q.2 * k) && decide (Int.gcd (q.1 * k) (q.2 * k) = 1)) = false
  rw [Int.gcd_mul_right]
  have : Int.gcd q.1 q.2 * k.natAbs ≠ 1 := fun e => by
    have := Nat.eq_one_of_mul_eq_one_left e
    omega
  rw [decide_eq_false this, Bool.and_false]
theorem fr2_neg {n d : Int} (h : d < 1) : fr2 [.int n, .int d] = false := by
  show (decide (1 ≤ d) && decide (Int.gcd n d = 1)) = false
  rw [decide_eq_false (by omega), Bool.false_and]
def spBadFrac (K : PySem.W.Frag) : Sp := fun vs H Q _ => ∃ s : Addr, vs = [.ref s] ∧ Sto K H s ∧ ∀ v H', Gd K H' v → Kp s H H' → Sto K H' s → Q v H'
abbrev sBadFrac : Stmt := topS 57
theorem scBadFrac : FnScope ["_law_store_here", "_law_value", "_law_more", "_law_bent", "_law_bad"] ["_law_store_here"] (defScope sBadFrac) := ⟨rfl, rfl, rfl, by decide +kernel, rfl, by decide +kernel, by decide +kernel⟩
theorem k_BadFrac (T : Bt K mg) (D : Dfn K mg "_law_bad_frac" sBadFrac ["_law_store_here"]) (d__law_take : Kn P w K mg base 2 "_law_take" ["_law_store_here", "_law_many"] (spTake K)) (d__law_frac : Kn P w K mg base 3 "_law_frac" ["_law_store_here"] (spDFrac K 10)) (d__law_pick : Kn P w K mg base 3 "_law_pick" ["_law_store_here", "_law_row"] (spPick K)) : Kn P w K mg base 4 "_law_bad_frac" ["_law_store_here"] (spBadFrac K) := by
  refine Kn.mk' D scBadFrac (fun vs H Q E h => ?_) (fun f cdv A outer s H vs Q E hr h => ?_)
  · obtain ⟨s, rfl, _⟩ := h
    rfl
  obtain ⟨s, rfl, hS, k⟩ := h
  refine ⟨_, (pss_cons (ps_if (pt_cmpR op_eq (pe_kn d__law_take hr (by rfl) (pa_cons (pv 0) (pa_cons pe_int pa_nil))) pe_int (nomark _)) (pss_cons (ps_set (i := 1) scBadFrac.nd rfl (.inl rfl) (pe_kn d__law_frac hr (by rfl) (pa_cons (pv 0) pa_nil)))
      (pss_cons (ps_set (i := 2) scBadFrac.nd rfl (.inl rfl) (pe_op op_add pe_int (pe_kn d__law_take hr (by rfl) (pa_cons (pv 0) (pa_cons pe_int pa_nil)))))
      (pss_cons (ps_set (i := 3) scBadFrac.nd rfl (.inl rfl) (pe_ls (pa_cons (pe_ls (pa_cons (pe_ix ix_any (pv 1) pe_int (fun _ _ => rfl)) (pa_cons (pe_ix ix_any (pv 1) pe_int (fun _ _ => rfl)) pa_nil))) (pa_cons (pe_tp (pa_cons (pe_op op_mulW (pe_ix ix_any (pv 1) pe_int (fun _ _ => rfl)) (pv 2)) (pa_cons (pe_op op_mulW (pe_ix ix_any (pv 1) pe_int (fun _ _ => rfl)) (pv 2)) pa_nil))) (pa_cons (pe_tp (pa_cons (pe_un un_neg (pe_ix ix_any (pv 1) pe_int (fun _ _ => rfl))) (pa_cons (pe_un un_neg (pe_ix ix_any (pv 1) pe_int (fun _ _ => rfl))) pa_nil))) pa_nil)))))
      (pss_one (ps_ret (pe_kn d__law_pick hr (by rfl) (pa_cons (pv 0) (pa_cons (pe_op op_cat (pv 3) (pe_ls (pa_cons (pe_tp (pa_cons (pe_ix ix_any (pv 1) pe_int (fun _ _ => rfl)) pa_nil)) (pa_cons (pe_tp (pa_cons (pe_ix ix_any (pv 1) pe_int (fun _ _ => rfl)) (pa_cons (pe_ix ix_any (pv 1) pe_int (fun _ _ => rfl)) (pa_cons pe_int pa_nil)))) (pa_cons (pe_tp (pa_cons (pv 1) (pa_cons (pv 1) pa_nil))) (pa_cons (pe_tp (pa_cons (pe_ix ix_any (pv 1) pe_int (fun _ _ => rfl)) (pa_cons pe_int pa_nil))) pa_nil)))))) pa_nil)))))))) pss_nil)
      (pss_cons (ps_set (i := 4) scBadFrac.nd rfl (.inl rfl) (pe_ls (pa_cons (pe_tp (pa_cons pe_int (pa_cons pe_int pa_nil))) (pa_cons (pe_tp (pa_cons pe_int (pa_cons pe_int pa_nil))) (pa_cons (pe_tp (pa_cons pe_int (pa_cons pe_int pa_nil))) (pa_cons (pe_tp (pa_cons pe_int (pa_cons pe_int pa_nil))) (pa_cons (pe_tp (pa_cons pe_int (pa_cons (pe_un un_neg pe_int) pa_nil))) (pa_cons (pe_tp (pa_cons pe_int (pa_cons (pe_un un_neg pe_int) pa_nil))) (pa_cons (pe_tp (pa_cons pe_bl (pa_cons pe_int pa_nil))) (pa_cons (pe_tp (pa_cons pe_bl (pa_cons pe_int pa_nil))) (pa_cons (pe_tp (pa_cons pe_int (pa_cons pe_bl pa_nil))) (pa_cons (pe_tp (pa_cons pe_bl (pa_cons pe_int pa_nil))) (pa_cons (pe_tp (pa_cons pe_int (pa_cons pe_non pa_nil))) pa_nil)))))))))))))
      (pss_cons (ps_set (i := 4) scBadFrac.nd rfl (.inl rfl) (pe_op op_cat (pv 4) (pe_ls (pa_cons (pe_tp (pa_cons pe_str (pa_cons pe_int pa_nil))) (pa_cons (pe_ls (pa_cons pe_int (pa_cons pe_int pa_nil))) (pa_cons (pe_tp pa_nil) (pa_cons (pe_tp (pa_cons pe_int pa_nil)) (pa_cons (pe_tp (pa_cons pe_int (pa_cons pe_int (pa_cons pe_int pa_nil)))) (pa_cons (pe_ls (pa_cons (pe_tp (pa_cons pe_int (pa_cons pe_int pa_nil))) pa_nil)) pa_nil)))))))))
      (pss_one (ps_ret (pe_kn d__law_pick hr (by rfl) (pa_cons (pv 0) (pa_cons (pe_op op_cat (pv 4) (pe_ls (pa_cons pe_int (pa_cons pe_int (pa_cons pe_bl (pa_cons pe_bl (pa_cons pe_non (pa_cons pe_str (pa_cons pe_str (pa_cons pe_dn pa_nil)))))))))) pa_nil)))))))), ?_⟩
  refine ⟨_, rfl, s, 3, rfl, hS, by omega, fun i H1 z0 z1 kp st => ⟨rfl, _, rfl, ite2 (fun h => ?_) (fun h => ?_)⟩⟩
  · refine ⟨_, rfl, s, rfl, st, fun a q H2 hq kp2 st2 => ⟨_, rfl, s, 3, rfl, st2, by omega, fun m H3 m0 m1 kp3 st3 => ⟨_, _, rfl, rfl, ?_⟩⟩⟩
    obtain ⟨ys2, hys2⟩ := st2.at
    have hq3 := hq.kp kp3 hys2
    simp only [cx_K, tNext, tSeq, tAsg, gName, L2.start, List.map_cons, List.map_nil, List.cons_append, List.nil_append, List.length_cons, List.length_nil, List.replicate, Nat.reduceAdd, Nat.reduceSub, List.set_cons_zero, List.set_cons_succ]
    have k10 : (2 + m).natAbs < 2 ^ 10 := by omega
    have ty3 : (tyN K H3 (.ref a)).isSome := by rw [tyN_ref, hq3.o]; rfl
    refine lsA (R := Gd K) (fun _ _ _ s h => Gd.same s h) (mkA_cons (R := Gd K) (fun _ _ _ s h => Gd.same s h) (mkA_lc [.int q.1, .int q.2] (fun H' s' Q' h' => by
        have o := ob_same s' hq3.o
        simp only [o, cx_K, decide_true, decide_false, reduceCtorEq, gTp, gCons, gNil, ca_0, ca_1, ca_2, ca_3, ca_4, ca_5, ca_6, ca_7, ca_8, ca_9, ca_10, ca_11, ca_12, ca_13, ca_14, ca_15, ca_16, ca_17, ca_18, ca_19, ca_20, ca_21, ca_22, ca_23, ca_24, ca_25, ca_26, ca_27, ca_28, ca_29, ca_30, not_true_eq_false, not_false_eq_true, Int.reduceEq, Nat.reduceEqDiff, Nat.reduceLeDiff, rGcd, V.ty.injEq, eq_self, List.not_mem_nil, beq_self_eq_true, HO.lst.injEq, HO.tup.injEq, tFor_eq, iRng1, iList, iTup, nat10, tSeq, rIxA, rSetA, rIsN, rIsT, tTp, tLs, itsO_tup, itsO_lst, tyO_tup, tyO_lst, tyO_dK, tyN_non, tyN_bl, tyN_int, tyN_str, tyN_ref, tyNs_lt, isB, upd_same, upd_upd, sizeLine_eq, List.mem_cons, String.reduceBEq, String.reduceEq, Bool.or_false, Bool.or_true, Bool.and_false, Bool.false_or, Bool.and_self, Bool.false_and, Bool.not_false, Bool.not_true, List.any_cons, List.any_nil, atI_0, setI_0, atI_1, setI_1, atI_2, setI_2, atI_3, setI_3, atI_4, setI_4, atI_5, setI_5, atI_6, setI_6, tAsg, gName, tOp, tUn, tVar, tC, tCons, L2.tNil, tRet, tIfS, tTest, tCB, tCall, rI, rI0, rU, tNext, tB, tAnd, tOr, tNot, tAndV, tOrV, tNotV, tDrop, tIf, tPar, gSub, rIxL, rIxT, rEq, rNe, rSetL, tBits,
    L2.start, List.map_cons, List.map_nil, List.cons_append, List.nil_append, List.append_nil, List.length_cons, List.length_nil, List.replicate, Nat.reduceAdd, Nat.reduceSub, Nat.zero_add, List.getElem?_cons_zero, List.getElem?_cons_succ, List.set_cons_zero, List.set_cons_succ,
    Option.some.injEq, exists_eq_left', exists_eq_left, V.int.injEq, V.bl.injEq, V.ref.injEq, V.str.injEq, List.cons.injEq, reduceCtorEq, and_true, true_and, false_and, and_false, exists_false, or_false, false_or, or_true, true_or, exists_const, CMul, CDiv, CPow, and_assoc, exists_and_left, exists_and_right, Int.reducePow, Int.reduceNeg, Int.reduceLT, Int.reduceLE, Nat.reducePow, Nat.reduceLT, Int.reduceToNat, gt_iff_lt, ge_iff_le, decide_eq_true_eq, Bool.not_eq_true', decide_eq_false_iff_not, scal, ↓reduceIte, Bool.false_eq_true]
        exact h') (by simp))
      (mkA_cons (R := Gd K) (fun _ _ _ s h => Gd.same s h) (mkA_tc [.int (q.1 * (2 + m)), .int (q.2 * (2 + m))] (fun H' s' Q' h' => by
        have o := ob_same s' hq3.o
        simp only [o, cx_K, decide_true, decide_false, reduceCtorEq, gTp, gCons, gNil, ca_0, ca_1, ca_2, ca_3, ca_4, ca_5, ca_6, ca_7, ca_8, ca_9, ca_10, ca_11, ca_12, ca_13, ca_14, ca_15, ca_16, ca_17, ca_18, ca_19, ca_20, ca_21, ca_22, ca_23, ca_24, ca_25, ca_26, ca_27, ca_28, ca_29, ca_30, not_true_eq_false, not_false_eq_true, Int.reduceEq, Nat.reduceEqDiff, Nat.reduceLeDiff, rGcd, V.ty.injEq, eq_self, List.not_mem_nil, beq_self_eq_true, HO.lst.injEq, HO.tup.injEq, tFor_eq, iRng1, iList, iTup, nat10, tSeq, rIxA, rSetA, rIsN, rIsT, tTp, tLs, itsO_tup, itsO_lst, tyO_tup, tyO_lst, tyO_dK, tyN_non, tyN_bl, tyN_int, tyN_str, tyN_ref, tyNs_lt, isB, upd_same, upd_upd, sizeLine_eq, List.mem_cons, String.reduceBEq, String.reduceEq, Bool.or_false, Bool.or_true, Bool.and_false, Bool.false_or, Bool.and_self, Bool.false_and, Bool.not_false, Bool.not_true, List.any_cons, List.any_nil, atI_0, setI_0, atI_1, setI_1, atI_2, setI_2, atI_3, setI_3, atI_4, setI_4, atI_5, setI_5, atI_6, setI_6, tAsg, gName, tOp, tUn, tVar, tC, tCons, L2.tNil, tRet, tIfS, tTest, tCB, tCall, rI, rI0, rU, tNext, tB, tAnd, tOr, tNot, tAndV, tOrV, tNotV, tDrop, tIf, tPar, gSub, rIxL, rIxT, rEq, rNe, rSetL, tBits,
    L2.start, List.map_cons, List.map_nil, List.cons_append, List.nil_append, List.append_nil, List.length_cons, List.length_nil, List.replicate, Nat.reduceAdd, Nat.reduceSub, Nat.zero_add, List.getElem?_cons_zero, List.getElem?_cons_succ, List.set_cons_zero, List.set_cons_succ,
    Option.some.injEq, exists_eq_left', exists_eq_left, V.int.injEq, V.bl.injEq, V.ref.injEq, V.str.injEq, List.cons.injEq, reduceCtorEq, and_true, true_and, false_and, and_false, exists_false, or_false, false_or, or_true, true_or, exists_const, CMul, CDiv, CPow, and_assoc, exists_and_left, exists_and_right, Int.reducePow, Int.reduceNeg, Int.reduceLT, Int.reduceLE, Nat.reducePow, Nat.reduceLT, Int.reduceToNat, gt_iff_lt, ge_iff_le, decide_eq_true_eq, Bool.not_eq_true', decide_eq_false_iff_not, scal, ↓reduceIte, Bool.false_eq_true]
        exact ⟨mulW hq3.sz.1 k10 (by omega), mulW hq3.sz.2 k10 (by omega), h'⟩) (by simp [tyN]) (fr2_mul (by omega)) (by simp))
      (mkA_cons (R := Gd K) (fun _ _ _ s h => Gd.same s h) (mkA_tc [.int (-q.1), .int (-q.2)] (fun H' s' Q' h' => by
        have o := ob_same s' hq3.o
        simp only [o, cx_K, decide_true, decide_false, reduceCtorEq, gTp, gCons, gNil, ca_0, ca_1, ca_2, ca_3, ca_4, ca_5, ca_6, ca_7, ca_8, ca_9, ca_10, ca_11, ca_12, ca_13, ca_14, ca_15, ca_16, ca_17, ca_18, ca_19, ca_20, ca_21, ca_22, ca_23, ca_24, ca_25, ca_26, ca_27, ca_28, ca_29, ca_30, not_true_eq_false, not_false_eq_true, Int.reduceEq, Nat.reduceEqDiff, Nat.reduceLeDiff, rGcd, V.ty.injEq, eq_self, List.not_mem_nil, beq_self_eq_true, HO.lst.injEq, HO.tup.injEq, tFor_eq, iRng1, iList, iTup, nat10, tSeq, rIxA, rSetA, rIsN, rIsT, tTp, tLs, itsO_tup, itsO_lst, tyO_tup, tyO_lst, tyO_dK, tyN_non, tyN_bl, tyN_int, tyN_str, tyN_ref, tyNs_lt, isB, upd_same, upd_upd, sizeLine_eq, List.mem_cons, String.reduceBEq, String.reduceEq, Bool.or_false, Bool.or_true, Bool.and_false, Bool.false_or, Bool.and_self, Bool.false_and, Bool.not_false, Bool.not_true, List.any_cons, List.any_nil, atI_0, setI_0, atI_1, setI_1, atI_2, setI_2, atI_3, setI_3, atI_4, setI_4, atI_5, setI_5, atI_6, setI_6, tAsg, gName, tOp, tUn, tVar, tC, tCons, L2.tNil, tRet, tIfS, tTest, tCB, tCall, rI, rI0, rU, tNext, tB, tAnd, tOr, tNot, tAndV, tOrV, tNotV, tDrop, tIf, tPar, gSub, rIxL, rIxT, rEq, rNe, rSetL, tBits,
    L2.start, List.map_cons, List.map_nil, List.cons_append, List.nil_append, List.append_nil, List.length_cons, List.length_nil, List.replicate, Nat.reduceAdd, Nat.reduceSub, Nat.zero_add, List.getElem?_cons_zero, List.getElem?_cons_succ, List.set_cons_zero, List.set_cons_succ,
    Option.some.injEq, exists_eq_left', exists_eq_left, V.int.injEq, V.bl.injEq, V.ref.injEq, V.str.injEq, List.cons.injEq, reduceCtorEq, and_true, true_and, false_and, and_false, exists_false, or_false, false_or, or_true, true_or, exists_const, CMul, CDiv, CPow, and_assoc, exists_and_left, exists_and_right, Int.reducePow, Int.reduceNeg, Int.reduceLT, Int.reduceLE, Nat.reducePow, Nat.reduceLT, Int.reduceToNat, gt_iff_lt, ge_iff_le, decide_eq_true_eq, Bool.not_eq_true', decide_eq_false_iff_not, scal, ↓reduceIte, Bool.false_eq_true]
        exact h') (by simp [tyN]) (fr2_neg (by have := hq3.nf.1; omega)) (by simp)) mkA_nil))) (by decide) fun vs p H4 s4 hp kp4 hn hv hl => ?_
    refine ⟨_, rfl, _, rfl, ?_⟩
    have hq4 := hq3.same s4
    refine lsA (R := Gd K) (fun _ _ _ s h => Gd.same s h) (mkA_cons (R := Gd K) (fun _ _ _ s h => Gd.same s h) (mkA_tc [.int q.1] (fun H' s' Q' h' => by
        have o := ob_same s' hq4.o
        simp only [o, cx_K, decide_true, decide_false, reduceCtorEq, gTp, gCons, gNil, ca_0, ca_1, ca_2, ca_3, ca_4, ca_5, ca_6, ca_7, ca_8, ca_9, ca_10, ca_11, ca_12, ca_13, ca_14, ca_15, ca_16, ca_17, ca_18, ca_19, ca_20, ca_21, ca_22, ca_23, ca_24, ca_25, ca_26, ca_27, ca_28, ca_29, ca_30, not_true_eq_false, not_false_eq_true, Int.reduceEq, Nat.reduceEqDiff, Nat.reduceLeDiff, rGcd, V.ty.injEq, eq_self, List.not_mem_nil, beq_self_eq_true, HO.lst.injEq, HO.tup.injEq, tFor_eq, iRng1, iList, iTup, nat10, tSeq, rIxA, rSetA, rIsN, rIsT, tTp, tLs, itsO_tup, itsO_lst, tyO_tup, tyO_lst, tyO_dK, tyN_non, tyN_bl, tyN_int, tyN_str, tyN_ref, tyNs_lt, isB, upd_same, upd_upd, sizeLine_eq, List.mem_cons, String.reduceBEq, String.reduceEq, Bool.or_false, Bool.or_true, Bool.and_false, Bool.false_or, Bool.and_self, Bool.false_and, Bool.not_false, Bool.not_true, List.any_cons, List.any_nil, atI_0, setI_0, atI_1, setI_1, atI_2, setI_2, atI_3, setI_3, atI_4, setI_4, atI_5, setI_5, atI_6, setI_6, tAsg, gName, tOp, tUn, tVar, tC, tCons, L2.tNil, tRet, tIfS, tTest, tCB, tCall, rI, rI0, rU, tNext, tB, tAnd, tOr, tNot, tAndV, tOrV, tNotV, tDrop, tIf, tPar, gSub, rIxL, rIxT, rEq, rNe, rSetL, tBits,
    L2.start, List.map_cons, List.map_nil, List.cons_append, List.nil_append, List.append_nil, List.length_cons, List.length_nil, List.replicate, Nat.reduceAdd, Nat.reduceSub, Nat.zero_add, List.getElem?_cons_zero, List.getElem?_cons_succ, List.set_cons_zero, List.set_cons_succ,
    Option.some.injEq, exists_eq_left', exists_eq_left, V.int.injEq, V.bl.injEq, V.ref.injEq, V.str.injEq, List.cons.injEq, reduceCtorEq, and_true, true_and, false_and, and_false, exists_false, or_false, false_or, or_true, true_or, exists_const, CMul, CDiv, CPow, and_assoc, exists_and_left, exists_and_right, Int.reducePow, Int.reduceNeg, Int.reduceLT, Int.reduceLE, Nat.reducePow, Nat.reduceLT, Int.reduceToNat, gt_iff_lt, ge_iff_le, decide_eq_true_eq, Bool.not_eq_true', decide_eq_false_iff_not, scal, ↓reduceIte, Bool.false_eq_true]
        exact h') (by simp [tyN]) rfl (by simp))
      (mkA_cons (R := Gd K) (fun _ _ _ s h => Gd.same s h) (mkA_tc [.int q.1, .int q.2, .int 1] (fun H' s' Q' h' => by
        have o := ob_same s' hq4.o
        simp only [o, cx_K, decide_true, decide_false, reduceCtorEq, gTp, gCons, gNil, ca_0, ca_1, ca_2, ca_3, ca_4, ca_5, ca_6, ca_7, ca_8, ca_9, ca_10, ca_11, ca_12, ca_13, ca_14, ca_15, ca_16, ca_17, ca_18, ca_19, ca_20, ca_21, ca_22, ca_23, ca_24, ca_25, ca_26, ca_27, ca_28, ca_29, ca_30, not_true_eq_false, not_false_eq_true, Int.reduceEq, Nat.reduceEqDiff, Nat.reduceLeDiff, rGcd, V.ty.injEq, eq_self, List.not_mem_nil, beq_self_eq_true, HO.lst.injEq, HO.tup.injEq, tFor_eq, iRng1, iList, iTup, nat10, tSeq, rIxA, rSetA, rIsN, rIsT, tTp, tLs, itsO_tup, itsO_lst, tyO_tup, tyO_lst, tyO_dK, tyN_non, tyN_bl, tyN_int, tyN_str, tyN_ref, tyNs_lt, isB, upd_same, upd_upd, sizeLine_eq, List.mem_cons, String.reduceBEq, String.reduceEq, Bool.or_false, Bool.or_true, Bool.and_false, Bool.false_or, Bool.and_self, Bool.false_and, Bool.not_false, Bool.not_true, List.any_cons, List.any_nil, atI_0, setI_0, atI_1, setI_1, atI_2, setI_2, atI_3, setI_3, atI_4, setI_4, atI_5, setI_5, atI_6, setI_6, tAsg, gName, tOp, tUn, tVar, tC, tCons, L2.tNil, tRet, tIfS, tTest, tCB, tCall, rI, rI0, rU, tNext, tB, tAnd, tOr, tNot, tAndV, tOrV, tNotV, tDrop, tIf, tPar, gSub, rIxL, rIxT, rEq, rNe, rSetL, tBits,
    L2.start, List.map_cons, List.map_nil, List.cons_append, List.nil_append, List.append_nil, List.length_cons, List.length_nil, List.replicate, Nat.reduceAdd, Nat.reduceSub, Nat.zero_add, List.getElem?_cons_zero, List.getElem?_cons_succ, List.set_cons_zero, List.set_cons_succ,
    Option.some.injEq, exists_eq_left', exists_eq_left, V.int.injEq, V.bl.injEq, V.ref.injEq, V.str.injEq, List.cons.injEq, reduceCtorEq, and_true, true_and, false_and, and_false, exists_false, or_false, false_or, or_true, true_or, exists_const, CMul, CDiv, CPow, and_assoc, exists_and_left, exists_and_right, Int.reducePow, Int.reduceNeg, Int.reduceLT, Int.reduceLE, Nat.reducePow, Nat.reduceLT, Int.reduceToNat, gt_iff_lt, ge_iff_le, decide_eq_true_eq, Bool.not_eq_true', decide_eq_false_iff_not, scal, ↓reduceIte, Bool.false_eq_true]
        exact h') (by simp [tyN]) rfl (by simp))
      (mkA_cons (R := Gd K) (fun _ _ _ s h => Gd.same s h) (mkA_tc [.ref a, .ref a] (fun H' s' Q' h' => ⟨_, rfl, _, rfl, h'⟩) (by
        have := tyS_same s4 ty3
        simpa using this) rfl (by simp))
      (mkA_cons (R := Gd K) (fun _ _ _ s h => Gd.same s h) (mkA_tc [.int q.1, .int 0] (fun H' s' Q' h' => by
        have o := ob_same s' hq4.o
        simp only [o, cx_K, decide_true, decide_false, reduceCtorEq, gTp, gCons, gNil, ca_0, ca_1, ca_2, ca_3, ca_4, ca_5, ca_6, ca_7, ca_8, ca_9, ca_10, ca_11, ca_12, ca_13, ca_14, ca_15, ca_16, ca_17, ca_18, ca_19, ca_20, ca_21, ca_22, ca_23, ca_24, ca_25, ca_26, ca_27, ca_28, ca_29, ca_30, not_true_eq_false, not_false_eq_true, Int.reduceEq, Nat.reduceEqDiff, Nat.reduceLeDiff, rGcd, V.ty.injEq, eq_self, List.not_mem_nil, beq_self_eq_true, HO.lst.injEq, HO.tup.injEq, tFor_eq, iRng1, iList, iTup, nat10, tSeq, rIxA, rSetA, rIsN, rIsT, tTp, tLs, itsO_tup, itsO_lst, tyO_tup, tyO_lst, tyO_dK, tyN_non, tyN_bl, tyN_int, tyN_str, tyN_ref, tyNs_lt, isB, upd_same, upd_upd, sizeLine_eq, List.mem_cons, String.reduceBEq, String.reduceEq, Bool.or_false, Bool.or_true, Bool.and_false, Bool.false_or, Bool.and_self, Bool.false_and, Bool.not_false, Bool.not_true, List.any_cons, List.any_nil, atI_0, setI_0, atI_1, setI_1, atI_2, setI_2, atI_3, setI_3, atI_4, setI_4, atI_5, setI_5, atI_6, setI_6, tAsg, gName, tOp, tUn, tVar, tC, tCons, L2.tNil, tRet, tIfS, tTest, tCB, tCall, rI, rI0, rU, tNext, tB, tAnd, tOr, tNot, tAndV, tOrV, tNotV, tDrop, tIf, tPar, gSub, rIxL, rIxT, rEq, rNe, rSetL, tBits,
    L2.start, List.map_cons, List.map_nil, List.cons_append, List.nil_append, List.append_nil, List.length_cons, List.length_nil, List.replicate, Nat.reduceAdd, Nat.reduceSub, Nat.zero_add, List.getElem?_cons_zero, List.getElem?_cons_succ, List.set_cons_zero, List.set_cons_succ,
    Option.some.injEq, exists_eq_left', exists_eq_left, V.int.injEq, V.bl.injEq, V.ref.injEq, V.str.injEq, List.cons.injEq, reduceCtorEq, and_true, true_and, false_and, and_false, exists_false, or_false, false_or, or_true, true_or, exists_const, CMul, CDiv, CPow, and_assoc, exists_and_left, exists_and_right, Int.reducePow, Int.reduceNeg, Int.reduceLT, Int.reduceLE, Nat.reducePow, Nat.reduceLT, Int.reduceToNat, gt_iff_lt, ge_iff_le, decide_eq_true_eq, Bool.not_eq_true', decide_eq_false_iff_not, scal, ↓reduceIte, Bool.false_eq_true]
        exact h') (by simp [tyN]) (fr2_neg (by omega)) (by simp)) mkA_nil)))) (by decide) fun ws p2 H5 s5 hp2 kp5 hn5 hv5 hl5 => ?_
    refine ⟨p, p2, vs, ws, rfl, rfl, s5 _ _ hl, hl5, by rw [hn, hn5, sizeLine_eq]; omega, fun p3 h3 => ?_⟩
    have s6 : Same H3 (upd H5 p3 (.lst (vs ++ ws))) := s4.trans (s5.trans (Same.new h3 _))
    have st6 := st3.same s6
    obtain ⟨ys, hys⟩ := (st3.same (s4.trans s5)).at
    refine ⟨s, p3, vs ++ ws, rfl, st6, upd_same, ne_of_none hys h3, by rw [List.length_append, hn, hn5]; omega, by rw [List.length_append, hn, hn5]; omega, fun v H' hm kp' st' => k v H' (Gd.kp kp' st' ?_) (kp.trans (kp2.trans (kp3.trans ((Kp.same s6).trans kp')))) st'⟩
    rw [List.mem_append] at hm
    rcases hm with hm | hm
    · exact (hv v hm).same (s5.trans (Same.new h3 _))
    · exact (hv5 v hm).same (Same.new h3 _)
  · simp only [cx_K, tNext, tSeq, tAsg, gName]
    refine lsX (R := Gd K) (fun _ _ _ s h => Gd.same s h) (mkL_cons (R := Gd K) (fun _ _ _ s h => Gd.same s h) (mk_tc (K := K) [.int (2), .int (4)] (fun σ H Q h => h) rfl rfl) (mkL_cons (R := Gd K) (fun _ _ _ s h => Gd.same s h) (mk_tc (K := K) [.int (0), .int (2)] (fun σ H Q h => h) rfl rfl) (mkL_cons (R := Gd K) (fun _ _ _ s h => Gd.same s h) (mk_tc (K := K) [.int (0), .int (0)] (fun σ H Q h => h) rfl rfl) (mkL_cons (R := Gd K) (fun _ _ _ s h => Gd.same s h) (mk_tc (K := K) [.int (1), .int (0)] (fun σ H Q h => h) rfl rfl) (mkL_cons (R := Gd K) (fun _ _ _ s h => Gd.same s h) (mk_tc (K := K) [.int (1), .int (-2)] (fun σ H Q h => ⟨2, rfl, h⟩) rfl rfl) (mkL_cons (R := Gd K) (fun _ _ _ s h => Gd.same s h) (mk_tc (K := K) [.int (0), .int (-1)] (fun σ H Q h => ⟨1, rfl, h⟩) rfl rfl) (mkL_cons (R := Gd K) (fun _ _ _ s h => Gd.same s h) (mk_tc (K := K) [.bl true, .int (1)] (fun σ H Q h => h) rfl rfl) (mkL_cons (R := Gd K) (fun _ _ _ s h => Gd.same s h) (mk_tc (K := K) [.bl false, .int (1)] (fun σ H Q h => h) rfl rfl) (mkL_cons (R := Gd K) (fun _ _ _ s h => Gd.same s h) (mk_tc (K := K) [.int (1), .bl true] (fun σ H Q h => h) rfl rfl) (mkL_cons (R := Gd K) (fun _ _ _ s h => Gd.same s h) (mk_tc (K := K) [.bl true, .int (2)] (fun σ H Q h => h) rfl rfl) (mkL_cons (R := Gd K) (fun _ _ _ s h => Gd.same s h) (mk_tc (K := K) [.int (1), .non] (fun σ H Q h => h) rfl rfl) mkL_nil))))))))))) (by decide) fun vs p H2 s2 hp kp2 hn hv hl => ?_
    simp only [tOp, tVar, L2.start, List.map_cons, List.map_nil, List.cons_append, List.nil_append, List.length_cons, List.length_nil, List.replicate, Nat.reduceAdd, Nat.reduceSub, List.set_cons_zero, List.set_cons_succ, List.getElem?_cons_zero, List.getElem?_cons_succ, Option.some.injEq, exists_eq_left']
    refine lsX (R := Gd K) (fun _ _ _ s h => Gd.same s h) (mkL_cons (R := Gd K) (fun _ _ _ s h => Gd.same s h) (mk_tc (K := K) [.str "1", .int (2)] (fun σ H Q h => h) rfl rfl) (mkL_cons (R := Gd K) (fun _ _ _ s h => Gd.same s h) (mk_ls (K := K) (mkL_cons (R := fun _ _ => True) (fun _ _ _ _ _ => True.intro) (mk_any (mk_c (K := K) rfl)) (mkL_cons (R := fun _ _ => True) (fun _ _ _ _ _ => True.intro) (mk_any (mk_c (K := K) rfl)) mkL_nil))) (mkL_cons (R := Gd K) (fun _ _ _ s h => Gd.same s h) (mk_tc (K := K) [] (fun σ H Q h => h) rfl rfl) (mkL_cons (R := Gd K) (fun _ _ _ s h => Gd.same s h) (mk_tc (K := K) [.int (1)] (fun σ H Q h => h) rfl rfl) (mkL_cons (R := Gd K) (fun _ _ _ s h => Gd.same s h) (mk_tc (K := K) [.int (1), .int (2), .int (1)] (fun σ H Q h => h) rfl rfl) (mkL_cons (R := Gd K) (fun _ _ _ s h => Gd.same s h) (mk_ls (K := K) (mkL_cons (R := fun _ _ => True) (fun _ _ _ _ _ => True.intro) (mk_tup (mkL_cons (R := fun _ _ => True) (fun _ _ _ _ _ => True.intro) (mk_any (mk_c (K := K) rfl)) (mkL_cons (R := fun _ _ => True) (fun _ _ _ _ _ => True.intro) (mk_any (mk_c (K := K) rfl)) mkL_nil))) mkL_nil)) mkL_nil)))))) (by decide) fun ws p' H3 s3 hp' kp3 hn' hv' hl' => ?_
    refine ⟨p, p', vs, ws, rfl, rfl, s3 _ _ hl, hl', by rw [hn, hn', sizeLine_eq]; omega, fun p3 h3 => ⟨_, rfl, _, rfl, ?_⟩⟩
    refine lsX (R := Gd K) (fun _ _ _ s h => Gd.same s h) (mkL_cons (R := Gd K) (fun _ _ _ s h => Gd.same s h) (mk_c (K := K) rfl) (mkL_cons (R := Gd K) (fun _ _ _ s h => Gd.same s h) (mk_c (K := K) rfl) (mkL_cons (R := Gd K) (fun _ _ _ s h => Gd.same s h) (mk_c (K := K) rfl) (mkL_cons (R := Gd K) (fun _ _ _ s h => Gd.same s h) (mk_c (K := K) rfl) (mkL_cons (R := Gd K) (fun _ _ _ s h => Gd.same s h) (mk_c (K := K) rfl) (mkL_cons (R := Gd K) (fun _ _ _ s h => Gd.same s h) (mk_c (K := K) rfl) (mkL_cons (R := Gd K) (fun _ _ _ s h => Gd.same s h) (mk_c (K := K) rfl) (mkL_cons (R := Gd K) (fun _ _ _ s h => Gd.same s h) (mk_dn (K := K)) mkL_nil)))))))) (by decide) fun us p4 H4 s4 hp4 kp4 hn4 hv4 hl4 => ?_
    refine ⟨p3, p4, vs ++ ws, us, rfl, rfl, s4 _ _ upd_same, hl4, by rw [List.length_append, hn, hn', hn4, sizeLine_eq]; omega, fun p5 h5 => ?_⟩
    have s5 : Same H1 (upd H4 p5 (.lst (vs ++ ws ++ us))) := s2.trans (s3.trans ((Same.new h3 _).trans (s4.trans (Same.new h5 _))))
    have st5 := st.same s5
    obtain ⟨ys, hys⟩ := (st.same (s2.trans (s3.trans ((Same.new h3 _).trans s4)))).at
    refine ⟨s, p5, vs ++ ws ++ us, rfl, st5, upd_same, ne_of_none hys h5, by rw [List.length_append, List.length_append, hn, hn', hn4]; omega, by rw [List.length_append, List.length_append, hn, hn', hn4]; omega, fun v H' hm kp' st' => k v H' (Gd.kp kp' st' ?_) (kp.trans ((Kp.same s5).trans kp')) st'⟩
    rw [List.mem_append, List.mem_append] at hm
    rcases hm with (hm | hm) | hm
    · exact (hv v hm).same (s3.trans ((Same.new h3 _).trans (s4.trans (Same.new h5 _))))
    · exact (hv' v hm).same ((Same.new h3 _).trans (s4.trans (Same.new h5 _)))
    · exact (hv4 v hm).same (Same.new h5 _)
end
end My

namespace My
open PySem PySem.Spec PyProof.Rows L2
section
variable {P : Program} {w : World} {K : PySem.W.Frag} {mg : Str → Option Value} {base : Heap}
theorem nf_int (w : Int) : Nf (w, 1) := ⟨by show (1 : Int) ≤ 1; omega, by show Int.gcd w 1 = 1; exact Int.gcd_one_right _⟩
theorem sz_of {x y : Int} {k : Nat} (h1 : x.natAbs < 2 ^ k) (h2 : y.natAbs < 2 ^ k) : Sz k (x, y) := ⟨h1, h2⟩
theorem ne_new {H : Hp} {s p : Addr} {ys : List V} (h : H s = some (.lst ys)) (hp : H p = none) : s ≠ p := ne_of_none h hp
/-- a place at a -/
structure Pq (K : PySem.W.Frag) (H : Hp) (n : Nat) (a : Addr) (q : Qt) : Prop where
  f : Fq K H n a q
  lo : 0 ≤ q.1
  hi : q.1 < q.2
theorem Pq.mono {H : Hp} {j n : Nat} {a : Addr} {q : Qt} (h : Pq K H j a q) (l : j ≤ n) : Pq K H n a q := ⟨h.f.mono l, h.lo, h.hi⟩
theorem Pq.same {H H' : Hp} {n : Nat} {a : Addr} {q : Qt} (h : Pq K H n a q) (s : Same H H') : Pq K H' n a q := ⟨h.f.same s, h.lo, h.hi⟩
theorem Pq.kp {H H' : Hp} {n : Nat} {a s : Addr} {q : Qt} {ys : List V} (h : Pq K H n a q) (e : Kp s H H') (hs : H s = some (.lst ys)) : Pq K H' n a q := ⟨h.f.kp e hs, h.lo, h.hi⟩
theorem is_in {q : Qt} {t b : Int} (h : Is q t b) (h0 : 0 ≤ t) (h1 : t < b) : 0 ≤ q.1 ∧ q.1 < q.2 := by
  have e := h.2
  have n := h.1.1
  have b0 : 0 < b := by omega
  refine ⟨Int.not_lt.mp fun c => ?_, Int.not_le.mp fun c => ?_⟩
  · have z1 : q.1 * b < 0 := Int.mul_neg_of_neg_of_pos c b0
    have z2 : 0 ≤ t * q.2 := Int.mul_nonneg h0 (by omega)
    omega
  · have z1 : q.2 * b ≤ q.1 * b := Int.mul_le_mul_of_nonneg_right c (by omega)
    have z2 : t * q.2 < b * q.2 := Int.mul_lt_mul_of_pos_right h1 (by omega)
    have z3 : q.2 * b = b * q.2 := Int.mul_comm _ _
    omega
def spDPlace (K : PySem.W.Frag) (n : Nat) : Sp := fun vs H Q _ => ∃ (s : Addr), vs = [.ref s] ∧ Sto K H s ∧ ∀ a q H', Pq K H' n a q → Kp s H H' → Sto K H' s → Q (.ref a) H'
theorem nf1112 : Nf (11, 12) := ⟨by decide, by decide⟩
theorem nf21 : Nf (2, 1) := ⟨by decide, by decide⟩
theorem nf112 : Nf (1, 12) := ⟨by decide, by decide⟩
abbrev sDPlace : Stmt := topS 54
theorem scDPlace : FnScope ["_law_store_here", "_law_spot", "_law_bottom"] ["_law_store_here"] (defScope sDPlace) := ⟨rfl, rfl, rfl, by decide +kernel, rfl, by decide +kernel, by decide +kernel⟩
theorem k_DPlace (T : Bt K mg) (D : Dfn K mg "_law_place" sDPlace ["_law_store_here"]) (d__law_take : Kn P w K mg base 2 "_law_take" ["_law_store_here", "_law_many"] (spTake K)) (d__law_lowest : Kn P w K mg base 2 "_law_lowest" ["_law_top", "_law_bottom"] (spLowest K)) : Kn P w K mg base 3 "_law_place" ["_law_store_here"] (spDPlace K 10) := by
  refine Kn.mk' D scDPlace (fun vs H Q E h => ?_) (fun f cdv A outer s H vs Q E hr h => ?_)
  · obtain ⟨s, rfl, _⟩ := h
    rfl
  obtain ⟨s, rfl, hS, k⟩ := h
  refine ⟨_, (pss_cons (ps_set (i := 1) scDPlace.nd rfl (.inl rfl) (pe_kn d__law_take hr (by rfl) (pa_cons (pv 0) (pa_cons pe_int pa_nil))))
      (pss_cons (ps_if (pt_cmpR op_lt (pv 1) pe_int (nomark _)) (pss_one (ps_ret (pe_ix ix_any (pe_ls (pa_cons (pe_tp (pa_cons pe_int (pa_cons pe_int pa_nil))) (pa_cons (pe_tp (pa_cons pe_int (pa_cons pe_int pa_nil))) (pa_cons (pe_tp (pa_cons pe_int (pa_cons pe_int pa_nil))) pa_nil)))) (pv 1) (fun _ _ => rfl)))) pss_nil)
      (pss_cons (ps_set (i := 2) scDPlace.nd rfl (.inl rfl) (pe_op op_add pe_int (pe_kn d__law_take hr (by rfl) (pa_cons (pv 0) (pa_cons pe_int pa_nil)))))
      (pss_one (ps_ret (pe_kn d__law_lowest hr (by rfl) (pa_cons (pe_kn d__law_take hr (by rfl) (pa_cons (pv 0) (pa_cons (pv 2) pa_nil))) (pa_cons (pv 2) pa_nil)))))))), ?_⟩
  simp only [cx_K, decide_true, decide_false, reduceCtorEq, gTp, gCons, gNil, ca_0, ca_1, ca_2, ca_3, ca_4, ca_5, ca_6, ca_7, ca_8, ca_9, ca_10, ca_11, ca_12, ca_13, ca_14, ca_15, ca_16, ca_17, ca_18, ca_19, ca_20, ca_21, ca_22, ca_23, ca_24, ca_25, ca_26, ca_27, ca_28, ca_29, ca_30, not_true_eq_false, not_false_eq_true, Int.reduceEq, Nat.reduceEqDiff, Nat.reduceLeDiff, rGcd, V.ty.injEq, eq_self, List.not_mem_nil, beq_self_eq_true, HO.lst.injEq, HO.tup.injEq, tFor_eq, iRng1, iList, iTup, nat10, tSeq, rIxA, rSetA, rIsN, rIsT, tTp, tLs, itsO_tup, itsO_lst, tyO_tup, tyO_lst, tyO_dK, tyN_non, tyN_bl, tyN_int, tyN_str, tyN_ref, tyNs_lt, isB, upd_same, upd_upd, sizeLine_eq, List.mem_cons, String.reduceBEq, String.reduceEq, Bool.or_false, Bool.or_true, Bool.and_false, Bool.false_or, Bool.and_self, Bool.false_and, Bool.not_false, Bool.not_true, List.any_cons, List.any_nil, atI_0, setI_0, atI_1, setI_1, atI_2, setI_2, atI_3, setI_3, atI_4, setI_4, atI_5, setI_5, atI_6, setI_6, tAsg, gName, tOp, tUn, tVar, tC, tCons, L2.tNil, tRet, tIfS, tTest, tCB, tCall, rI, rI0, rU, tNext, tB, tAnd, tOr, tNot, tAndV, tOrV, tNotV, tDrop, tIf, tPar, gSub, rIxL, rIxT, rEq, rNe, rSetL, tBits,
    L2.start, List.map_cons, List.map_nil, List.cons_append, List.nil_append, List.append_nil, List.length_cons, List.length_nil, List.replicate, Nat.reduceAdd, Nat.reduceSub, Nat.zero_add, List.getElem?_cons_zero, List.getElem?_cons_succ, List.set_cons_zero, List.set_cons_succ,
    Option.some.injEq, exists_eq_left', exists_eq_left, V.int.injEq, V.bl.injEq, V.ref.injEq, V.str.injEq, List.cons.injEq, reduceCtorEq, and_true, true_and, false_and, and_false, exists_false, or_false, false_or, or_true, true_or, exists_const, CMul, CDiv, CPow, and_assoc, exists_and_left, exists_and_right, Int.reducePow, Int.reduceNeg, Int.reduceLT, Int.reduceLE, Nat.reducePow, Nat.reduceLT, Int.reduceToNat, gt_iff_lt, ge_iff_le, decide_eq_true_eq, Bool.not_eq_true', decide_eq_false_iff_not, scal, ↓reduceIte, Bool.false_eq_true]
  refine ⟨s, 12, rfl, hS, by omega, fun i H1 z0 z1 kp st => ?_⟩
  simp only [cx_K, decide_true, decide_false, reduceCtorEq, gTp, gCons, gNil, ca_0, ca_1, ca_2, ca_3, ca_4, ca_5, ca_6, ca_7, ca_8, ca_9, ca_10, ca_11, ca_12, ca_13, ca_14, ca_15, ca_16, ca_17, ca_18, ca_19, ca_20, ca_21, ca_22, ca_23, ca_24, ca_25, ca_26, ca_27, ca_28, ca_29, ca_30, not_true_eq_false, not_false_eq_true, Int.reduceEq, Nat.reduceEqDiff, Nat.reduceLeDiff, rGcd, V.ty.injEq, eq_self, List.not_mem_nil, beq_self_eq_true, HO.lst.injEq, HO.tup.injEq, tFor_eq, iRng1, iList, iTup, nat10, tSeq, rIxA, rSetA, rIsN, rIsT, tTp, tLs, itsO_tup, itsO_lst, tyO_tup, tyO_lst, tyO_dK, tyN_non, tyN_bl, tyN_int, tyN_str, tyN_ref, tyNs_lt, isB, upd_same, upd_upd, sizeLine_eq, List.mem_cons, String.reduceBEq, String.reduceEq, Bool.or_false, Bool.or_true, Bool.and_false, Bool.false_or, Bool.and_self, Bool.false_and, Bool.not_false, Bool.not_true, List.any_cons, List.any_nil, atI_0, setI_0, atI_1, setI_1, atI_2, setI_2, atI_3, setI_3, atI_4, setI_4, atI_5, setI_5, atI_6, setI_6, tAsg, gName, tOp, tUn, tVar, tC, tCons, L2.tNil, tRet, tIfS, tTest, tCB, tCall, rI, rI0, rU, tNext, tB, tAnd, tOr, tNot, tAndV, tOrV, tNotV, tDrop, tIf, tPar, gSub, rIxL, rIxT, rEq, rNe, rSetL, tBits,
    L2.start, List.map_cons, List.map_nil, List.cons_append, List.nil_append, List.append_nil, List.length_cons, List.length_nil, List.replicate, Nat.reduceAdd, Nat.reduceSub, Nat.zero_add, List.getElem?_cons_zero, List.getElem?_cons_succ, List.set_cons_zero, List.set_cons_succ,
    Option.some.injEq, exists_eq_left', exists_eq_left, V.int.injEq, V.bl.injEq, V.ref.injEq, V.str.injEq, List.cons.injEq, reduceCtorEq, and_true, true_and, false_and, and_false, exists_false, or_false, false_or, or_true, true_or, exists_const, CMul, CDiv, CPow, and_assoc, exists_and_left, exists_and_right, Int.reducePow, Int.reduceNeg, Int.reduceLT, Int.reduceLE, Nat.reducePow, Nat.reduceLT, Int.reduceToNat, gt_iff_lt, ge_iff_le, decide_eq_true_eq, Bool.not_eq_true', decide_eq_false_iff_not, scal, ↓reduceIte, Bool.false_eq_true]
  refine ite2 (fun h => ?_) (fun h => ?_)
  · intro p1 h1 k1 p2 h2 k2 p3 h3 k3 p4 h4 k4
    rw [ob_new k4]
    simp only [cx_K, decide_true, decide_false, reduceCtorEq, gTp, gCons, gNil, ca_0, ca_1, ca_2, ca_3, ca_4, ca_5, ca_6, ca_7, ca_8, ca_9, ca_10, ca_11, ca_12, ca_13, ca_14, ca_15, ca_16, ca_17, ca_18, ca_19, ca_20, ca_21, ca_22, ca_23, ca_24, ca_25, ca_26, ca_27, ca_28, ca_29, ca_30, not_true_eq_false, not_false_eq_true, Int.reduceEq, Nat.reduceEqDiff, Nat.reduceLeDiff, rGcd, V.ty.injEq, eq_self, List.not_mem_nil, beq_self_eq_true, HO.lst.injEq, HO.tup.injEq, tFor_eq, iRng1, iList, iTup, nat10, tSeq, rIxA, rSetA, rIsN, rIsT, tTp, tLs, itsO_tup, itsO_lst, tyO_tup, tyO_lst, tyO_dK, tyN_non, tyN_bl, tyN_int, tyN_str, tyN_ref, tyNs_lt, isB, upd_same, upd_upd, sizeLine_eq, List.mem_cons, String.reduceBEq, String.reduceEq, Bool.or_false, Bool.or_true, Bool.and_false, Bool.false_or, Bool.and_self, Bool.false_and, Bool.not_false, Bool.not_true, List.any_cons, List.any_nil, atI_0, setI_0, atI_1, setI_1, atI_2, setI_2, atI_3, setI_3, atI_4, setI_4, atI_5, setI_5, atI_6, setI_6, tAsg, gName, tOp, tUn, tVar, tC, tCons, L2.tNil, tRet, tIfS, tTest, tCB, tCall, rI, rI0, rU, tNext, tB, tAnd, tOr, tNot, tAndV, tOrV, tNotV, tDrop, tIf, tPar, gSub, rIxL, rIxT, rEq, rNe, rSetL, tBits,
    L2.start, List.map_cons, List.map_nil, List.cons_append, List.nil_append, List.append_nil, List.length_cons, List.length_nil, List.replicate, Nat.reduceAdd, Nat.reduceSub, Nat.zero_add, List.getElem?_cons_zero, List.getElem?_cons_succ, List.set_cons_zero, List.set_cons_succ,
    Option.some.injEq, exists_eq_left', exists_eq_left, V.int.injEq, V.bl.injEq, V.ref.injEq, V.str.injEq, List.cons.injEq, reduceCtorEq, and_true, true_and, false_and, and_false, exists_false, or_false, false_or, or_true, true_or, exists_const, CMul, CDiv, CPow, and_assoc, exists_and_left, exists_and_right, Int.reducePow, Int.reduceNeg, Int.reduceLT, Int.reduceLE, Nat.reducePow, Nat.reduceLT, Int.reduceToNat, gt_iff_lt, ge_iff_le, decide_eq_true_eq, Bool.not_eq_true', decide_eq_false_iff_not, scal, ↓reduceIte, Bool.false_eq_true]
    refine menu z0 (by show i < 3; omega) fun v hv => ?_
    simp only [List.mem_cons, List.not_mem_nil, or_false] at hv
    rcases hv with rfl | rfl | rfl
    · exact k _ _ _ ⟨⟨ob_same ((Same.new h2 _).trans ((Same.new h3 _).trans (Same.new h4 _))) (ob_new k1), nf01, sz10 (by decide) (by decide)⟩, by decide, by decide⟩ (kp.trans (Kp.same ((Same.new h1 _).trans ((Same.new h2 _).trans ((Same.new h3 _).trans (Same.new h4 _)))))) (st.same ((Same.new h1 _).trans ((Same.new h2 _).trans ((Same.new h3 _).trans (Same.new h4 _)))))
    · exact k _ _ _ ⟨⟨ob_same ((Same.new h3 _).trans (Same.new h4 _)) (ob_new k2), nf12, sz10 (by decide) (by decide)⟩, by decide, by decide⟩ (kp.trans (Kp.same ((Same.new h1 _).trans ((Same.new h2 _).trans ((Same.new h3 _).trans (Same.new h4 _)))))) (st.same ((Same.new h1 _).trans ((Same.new h2 _).trans ((Same.new h3 _).trans (Same.new h4 _)))))
    · exact k _ _ _ ⟨⟨ob_same (Same.new h4 _) (ob_new k3), nf1112, sz10 (by decide) (by decide)⟩, by decide, by decide⟩ (kp.trans (Kp.same ((Same.new h1 _).trans ((Same.new h2 _).trans ((Same.new h3 _).trans (Same.new h4 _)))))) (st.same ((Same.new h1 _).trans ((Same.new h2 _).trans ((Same.new h3 _).trans (Same.new h4 _)))))
  · refine ⟨s, 12, rfl, st, by omega, fun j H2 j0 j1 kp2 st2 => ?_⟩
    simp only [cx_K, decide_true, decide_false, reduceCtorEq, gTp, gCons, gNil, ca_0, ca_1, ca_2, ca_3, ca_4, ca_5, ca_6, ca_7, ca_8, ca_9, ca_10, ca_11, ca_12, ca_13, ca_14, ca_15, ca_16, ca_17, ca_18, ca_19, ca_20, ca_21, ca_22, ca_23, ca_24, ca_25, ca_26, ca_27, ca_28, ca_29, ca_30, not_true_eq_false, not_false_eq_true, Int.reduceEq, Nat.reduceEqDiff, Nat.reduceLeDiff, rGcd, V.ty.injEq, eq_self, List.not_mem_nil, beq_self_eq_true, HO.lst.injEq, HO.tup.injEq, tFor_eq, iRng1, iList, iTup, nat10, tSeq, rIxA, rSetA, rIsN, rIsT, tTp, tLs, itsO_tup, itsO_lst, tyO_tup, tyO_lst, tyO_dK, tyN_non, tyN_bl, tyN_int, tyN_str, tyN_ref, tyNs_lt, isB, upd_same, upd_upd, sizeLine_eq, List.mem_cons, String.reduceBEq, String.reduceEq, Bool.or_false, Bool.or_true, Bool.and_false, Bool.false_or, Bool.and_self, Bool.false_and, Bool.not_false, Bool.not_true, List.any_cons, List.any_nil, atI_0, setI_0, atI_1, setI_1, atI_2, setI_2, atI_3, setI_3, atI_4, setI_4, atI_5, setI_5, atI_6, setI_6, tAsg, gName, tOp, tUn, tVar, tC, tCons, L2.tNil, tRet, tIfS, tTest, tCB, tCall, rI, rI0, rU, tNext, tB, tAnd, tOr, tNot, tAndV, tOrV, tNotV, tDrop, tIf, tPar, gSub, rIxL, rIxT, rEq, rNe, rSetL, tBits,
    L2.start, List.map_cons, List.map_nil, List.cons_append, List.nil_append, List.append_nil, List.length_cons, List.length_nil, List.replicate, Nat.reduceAdd, Nat.reduceSub, Nat.zero_add, List.getElem?_cons_zero, List.getElem?_cons_succ, List.set_cons_zero, List.set_cons_succ,
    Option.some.injEq, exists_eq_left', exists_eq_left, V.int.injEq, V.bl.injEq, V.ref.injEq, V.str.injEq, List.cons.injEq, reduceCtorEq, and_true, true_and, false_and, and_false, exists_false, or_false, false_or, or_true, true_or, exists_const, CMul, CDiv, CPow, and_assoc, exists_and_left, exists_and_right, Int.reducePow, Int.reduceNeg, Int.reduceLT, Int.reduceLE, Nat.reducePow, Nat.reduceLT, Int.reduceToNat, gt_iff_lt, ge_iff_le, decide_eq_true_eq, Bool.not_eq_true', decide_eq_false_iff_not, scal, ↓reduceIte, Bool.false_eq_true]
    refine ⟨s, _, rfl, st2, by omega, fun m H3 m0 m1 kp3 st3 => ?_⟩
    simp only [cx_K, decide_true, decide_false, reduceCtorEq, gTp, gCons, gNil, ca_0, ca_1, ca_2, ca_3, ca_4, ca_5, ca_6, ca_7, ca_8, ca_9, ca_10, ca_11, ca_12, ca_13, ca_14, ca_15, ca_16, ca_17, ca_18, ca_19, ca_20, ca_21, ca_22, ca_23, ca_24, ca_25, ca_26, ca_27, ca_28, ca_29, ca_30, not_true_eq_false, not_false_eq_true, Int.reduceEq, Nat.reduceEqDiff, Nat.reduceLeDiff, rGcd, V.ty.injEq, eq_self, List.not_mem_nil, beq_self_eq_true, HO.lst.injEq, HO.tup.injEq, tFor_eq, iRng1, iList, iTup, nat10, tSeq, rIxA, rSetA, rIsN, rIsT, tTp, tLs, itsO_tup, itsO_lst, tyO_tup, tyO_lst, tyO_dK, tyN_non, tyN_bl, tyN_int, tyN_str, tyN_ref, tyNs_lt, isB, upd_same, upd_upd, sizeLine_eq, List.mem_cons, String.reduceBEq, String.reduceEq, Bool.or_false, Bool.or_true, Bool.and_false, Bool.false_or, Bool.and_self, Bool.false_and, Bool.not_false, Bool.not_true, List.any_cons, List.any_nil, atI_0, setI_0, atI_1, setI_1, atI_2, setI_2, atI_3, setI_3, atI_4, setI_4, atI_5, setI_5, atI_6, setI_6, tAsg, gName, tOp, tUn, tVar, tC, tCons, L2.tNil, tRet, tIfS, tTest, tCB, tCall, rI, rI0, rU, tNext, tB, tAnd, tOr, tNot, tAndV, tOrV, tNotV, tDrop, tIf, tPar, gSub, rIxL, rIxT, rEq, rNe, rSetL, tBits,
    L2.start, List.map_cons, List.map_nil, List.cons_append, List.nil_append, List.append_nil, List.length_cons, List.length_nil, List.replicate, Nat.reduceAdd, Nat.reduceSub, Nat.zero_add, List.getElem?_cons_zero, List.getElem?_cons_succ, List.set_cons_zero, List.set_cons_succ,
    Option.some.injEq, exists_eq_left', exists_eq_left, V.int.injEq, V.bl.injEq, V.ref.injEq, V.str.injEq, List.cons.injEq, reduceCtorEq, and_true, true_and, false_and, and_false, exists_false, or_false, false_or, or_true, true_or, exists_const, CMul, CDiv, CPow, and_assoc, exists_and_left, exists_and_right, Int.reducePow, Int.reduceNeg, Int.reduceLT, Int.reduceLE, Nat.reducePow, Nat.reduceLT, Int.reduceToNat, gt_iff_lt, ge_iff_le, decide_eq_true_eq, Bool.not_eq_true', decide_eq_false_iff_not, scal, ↓reduceIte, Bool.false_eq_true]
    refine ⟨_, _, rfl, ?_, fun q hq p H4 s4 o4 => ?_⟩
    · have e : 2 ^ 10 ≤ 2 ^ 8000 := Nat.pow_le_pow_right (by omega) (by omega)
      omega
    · have hI := hq.2 (show 1 + j ≠ 0 by omega)
      have hz := is_in hI m0 (by omega)
      exact k p q H4 ⟨⟨o4, hI.1, is_sz (by omega) hI (by omega) (by omega)⟩, hz.1, hz.2⟩ (((kp.trans kp2).trans kp3).trans (Kp.same s4)) (st3.same s4)
abbrev sDPlaceW : Stmt := topS 55
theorem scDPlaceW : FnScope ["_law_store_here", "_law_bottom"] ["_law_store_here"] (defScope sDPlaceW) := ⟨rfl, rfl, rfl, by decide +kernel, rfl, by decide +kernel, by decide +kernel⟩
theorem k_DPlaceW (T : Bt K mg) (D : Dfn K mg "_law_place_wide" sDPlaceW ["_law_store_here"]) (d__law_take : Kn P w K mg base 2 "_law_take" ["_law_store_here", "_law_many"] (spTake K)) (d__law_lowest : Kn P w K mg base 2 "_law_lowest" ["_law_top", "_law_bottom"] (spLowest K)) (d__law_place : Kn P w K mg base 3 "_law_place" ["_law_store_here"] (spDPlace K 10)) (d__law_great : Kn P w K mg base 3 "_law_great" ["_law_store_here"] (spInt K fun n => n.natAbs < 2 ^ 133)) : Kn P w K mg base 4 "_law_place_wide" ["_law_store_here"] (spDPlace K 133) := by
  refine Kn.mk' D scDPlaceW (fun vs H Q E h => ?_) (fun f cdv A outer s H vs Q E hr h => ?_)
  · obtain ⟨s, rfl, _⟩ := h
    rfl
  obtain ⟨s, rfl, hS, k⟩ := h
  refine ⟨_, (pss_cons (ps_if (pt_cmpR op_gt (pe_kn d__law_take hr (by rfl) (pa_cons (pv 0) (pa_cons pe_int pa_nil))) pe_int (nomark _)) (pss_one (ps_ret (pe_kn d__law_place hr (by rfl) (pa_cons (pv 0) pa_nil)))) pss_nil)
      (pss_cons (ps_set (i := 1) scDPlaceW.nd rfl (.inl rfl) (pe_callB (call_max2 rfl) (by rfl) T.b_max (by decide +kernel) (pa_cons pe_int (pa_cons (pe_callB call_abs (by rfl) T.b_abs (by decide +kernel) (pa_cons (pe_kn d__law_great hr (by rfl) (pa_cons (pv 0) pa_nil)) pa_nil)) pa_nil))))
      (pss_one (ps_ret (pe_kn d__law_lowest hr (by rfl) (pa_cons (pe_kn d__law_take hr (by rfl) (pa_cons (pv 0) (pa_cons (pv 1) pa_nil))) (pa_cons (pv 1) pa_nil))))))), ?_⟩
  simp only [cx_K, decide_true, decide_false, reduceCtorEq, gTp, gCons, gNil, ca_0, ca_1, ca_2, ca_3, ca_4, ca_5, ca_6, ca_7, ca_8, ca_9, ca_10, ca_11, ca_12, ca_13, ca_14, ca_15, ca_16, ca_17, ca_18, ca_19, ca_20, ca_21, ca_22, ca_23, ca_24, ca_25, ca_26, ca_27, ca_28, ca_29, ca_30, not_true_eq_false, not_false_eq_true, Int.reduceEq, Nat.reduceEqDiff, Nat.reduceLeDiff, rGcd, V.ty.injEq, eq_self, List.not_mem_nil, beq_self_eq_true, HO.lst.injEq, HO.tup.injEq, tFor_eq, iRng1, iList, iTup, nat10, tSeq, rIxA, rSetA, rIsN, rIsT, tTp, tLs, itsO_tup, itsO_lst, tyO_tup, tyO_lst, tyO_dK, tyN_non, tyN_bl, tyN_int, tyN_str, tyN_ref, tyNs_lt, isB, upd_same, upd_upd, sizeLine_eq, List.mem_cons, String.reduceBEq, String.reduceEq, Bool.or_false, Bool.or_true, Bool.and_false, Bool.false_or, Bool.and_self, Bool.false_and, Bool.not_false, Bool.not_true, List.any_cons, List.any_nil, atI_0, setI_0, atI_1, setI_1, atI_2, setI_2, atI_3, setI_3, atI_4, setI_4, atI_5, setI_5, atI_6, setI_6, tAsg, gName, tOp, tUn, tVar, tC, tCons, L2.tNil, tRet, tIfS, tTest, tCB, tCall, rI, rI0, rU, tNext, tB, tAnd, tOr, tNot, tAndV, tOrV, tNotV, tDrop, tIf, tPar, gSub, rIxL, rIxT, rEq, rNe, rSetL, tBits,
    L2.start, List.map_cons, List.map_nil, List.cons_append, List.nil_append, List.append_nil, List.length_cons, List.length_nil, List.replicate, Nat.reduceAdd, Nat.reduceSub, Nat.zero_add, List.getElem?_cons_zero, List.getElem?_cons_succ, List.set_cons_zero, List.set_cons_succ,
    Option.some.injEq, exists_eq_left', exists_eq_left, V.int.injEq, V.bl.injEq, V.ref.injEq, V.str.injEq, List.cons.injEq, reduceCtorEq, and_true, true_and, false_and, and_false, exists_false, or_false, false_or, or_true, true_or, exists_const, CMul, CDiv, CPow, and_assoc, exists_and_left, exists_and_right, Int.reducePow, Int.reduceNeg, Int.reduceLT, Int.reduceLE, Nat.reducePow, Nat.reduceLT, Int.reduceToNat, gt_iff_lt, ge_iff_le, decide_eq_true_eq, Bool.not_eq_true', decide_eq_false_iff_not, scal, ↓reduceIte, Bool.false_eq_true]
  refine ⟨s, 8, rfl, hS, by omega, fun i H1 z0 z1 kp st => ?_⟩
  simp only [cx_K, decide_true, decide_false, reduceCtorEq, gTp, gCons, gNil, ca_0, ca_1, ca_2, ca_3, ca_4, ca_5, ca_6, ca_7, ca_8, ca_9, ca_10, ca_11, ca_12, ca_13, ca_14, ca_15, ca_16, ca_17, ca_18, ca_19, ca_20, ca_21, ca_22, ca_23, ca_24, ca_25, ca_26, ca_27, ca_28, ca_29, ca_30, not_true_eq_false, not_false_eq_true, Int.reduceEq, Nat.reduceEqDiff, Nat.reduceLeDiff, rGcd, V.ty.injEq, eq_self, List.not_mem_nil, beq_self_eq_true, HO.lst.injEq, HO.tup.injEq, tFor_eq, iRng1, iList, iTup, nat10, tSeq, rIxA, rSetA, rIsN, rIsT, tTp, tLs, itsO_tup, itsO_lst, tyO_tup, tyO_lst, tyO_dK, tyN_non, tyN_bl, tyN_int, tyN_str, tyN_ref, tyNs_lt, isB, upd_same, upd_upd, sizeLine_eq, List.mem_cons, String.reduceBEq, String.reduceEq, Bool.or_false, Bool.or_true, Bool.and_false, Bool.false_or, Bool.and_self, Bool.false_and, Bool.not_false, Bool.not_true, List.any_cons, List.any_nil, atI_0, setI_0, atI_1, setI_1, atI_2, setI_2, atI_3, setI_3, atI_4, setI_4, atI_5, setI_5, atI_6, setI_6, tAsg, gName, tOp, tUn, tVar, tC, tCons, L2.tNil, tRet, tIfS, tTest, tCB, tCall, rI, rI0, rU, tNext, tB, tAnd, tOr, tNot, tAndV, tOrV, tNotV, tDrop, tIf, tPar, gSub, rIxL, rIxT, rEq, rNe, rSetL, tBits,
    L2.start, List.map_cons, List.map_nil, List.cons_append, List.nil_append, List.append_nil, List.length_cons, List.length_nil, List.replicate, Nat.reduceAdd, Nat.reduceSub, Nat.zero_add, List.getElem?_cons_zero, List.getElem?_cons_succ, List.set_cons_zero, List.set_cons_succ,
    Option.some.injEq, exists_eq_left', exists_eq_left, V.int.injEq, V.bl.injEq, V.ref.injEq, V.str.injEq, List.cons.injEq, reduceCtorEq, and_true, true_and, false_and, and_false, exists_false, or_false, false_or, or_true, true_or, exists_const, CMul, CDiv, CPow, and_assoc, exists_and_left, exists_and_right, Int.reducePow, Int.reduceNeg, Int.reduceLT, Int.reduceLE, Nat.reducePow, Nat.reduceLT, Int.reduceToNat, gt_iff_lt, ge_iff_le, decide_eq_true_eq, Bool.not_eq_true', decide_eq_false_iff_not, scal, ↓reduceIte, Bool.false_eq_true]
  have big : 2 ^ 133 ≤ 2 ^ 8000 := Nat.pow_le_pow_right (by omega) (by omega)
  refine ite2 (fun h => ?_) (fun h => ?_)
  · exact ⟨s, rfl, st, fun a q H2 hq kp2 st2 => k a q H2 (hq.mono (by omega)) (kp.trans kp2) st2⟩
  · refine ⟨s, rfl, st, fun b H3 hb kp3 st3 => ?_⟩
    simp only [abs_if, cx_K, decide_true, decide_false, reduceCtorEq, gTp, gCons, gNil, ca_0, ca_1, ca_2, ca_3, ca_4, ca_5, ca_6, ca_7, ca_8, ca_9, ca_10, ca_11, ca_12, ca_13, ca_14, ca_15, ca_16, ca_17, ca_18, ca_19, ca_20, ca_21, ca_22, ca_23, ca_24, ca_25, ca_26, ca_27, ca_28, ca_29, ca_30, not_true_eq_false, not_false_eq_true, Int.reduceEq, Nat.reduceEqDiff, Nat.reduceLeDiff, rGcd, V.ty.injEq, eq_self, List.not_mem_nil, beq_self_eq_true, HO.lst.injEq, HO.tup.injEq, tFor_eq, iRng1, iList, iTup, nat10, tSeq, rIxA, rSetA, rIsN, rIsT, tTp, tLs, itsO_tup, itsO_lst, tyO_tup, tyO_lst, tyO_dK, tyN_non, tyN_bl, tyN_int, tyN_str, tyN_ref, tyNs_lt, isB, upd_same, upd_upd, sizeLine_eq, List.mem_cons, String.reduceBEq, String.reduceEq, Bool.or_false, Bool.or_true, Bool.and_false, Bool.false_or, Bool.and_self, Bool.false_and, Bool.not_false, Bool.not_true, List.any_cons, List.any_nil, atI_0, setI_0, atI_1, setI_1, atI_2, setI_2, atI_3, setI_3, atI_4, setI_4, atI_5, setI_5, atI_6, setI_6, tAsg, gName, tOp, tUn, tVar, tC, tCons, L2.tNil, tRet, tIfS, tTest, tCB, tCall, rI, rI0, rU, tNext, tB, tAnd, tOr, tNot, tAndV, tOrV, tNotV, tDrop, tIf, tPar, gSub, rIxL, rIxT, rEq, rNe, rSetL, tBits,
    L2.start, List.map_cons, List.map_nil, List.cons_append, List.nil_append, List.append_nil, List.length_cons, List.length_nil, List.replicate, Nat.reduceAdd, Nat.reduceSub, Nat.zero_add, List.getElem?_cons_zero, List.getElem?_cons_succ, List.set_cons_zero, List.set_cons_succ,
    Option.some.injEq, exists_eq_left', exists_eq_left, V.int.injEq, V.bl.injEq, V.ref.injEq, V.str.injEq, List.cons.injEq, reduceCtorEq, and_true, true_and, false_and, and_false, exists_false, or_false, false_or, or_true, true_or, exists_const, CMul, CDiv, CPow, and_assoc, exists_and_left, exists_and_right, Int.reducePow, Int.reduceNeg, Int.reduceLT, Int.reduceLE, Nat.reducePow, Nat.reduceLT, Int.reduceToNat, gt_iff_lt, ge_iff_le, decide_eq_true_eq, Bool.not_eq_true', decide_eq_false_iff_not, scal, ↓reduceIte, Bool.false_eq_true]
    have hd : 1 ≤ (if 1 < (b.natAbs : Int) then (b.natAbs : Int) else 1) ∧ (if 1 < (b.natAbs : Int) then (b.natAbs : Int) else 1).natAbs < 2 ^ 133 := by
      have hb' : b.natAbs < 2 ^ 133 := hb
      split <;> refine ⟨by omega, by omega⟩
    generalize (if 1 < (b.natAbs : Int) then (b.natAbs : Int) else 1) = d at hd ⊢
    refine ⟨s, d, rfl, st3, by omega, fun t H2 t0 t1 kp2 st2 => ⟨_, _, rfl, by omega, fun q hq p H4 s4 o4 => ?_⟩⟩
    have hI := hq.2 (by omega)
    have hz := is_in hI t0 (by omega)
    exact k p q H4 ⟨⟨o4, hI.1, is_sz (by omega) hI (by omega) hd.2⟩, hz.1, hz.2⟩ (((kp.trans kp3).trans kp2).trans (Kp.same s4)) (st2.same s4)
def spDPos (K : PySem.W.Frag) : Sp := fun vs H Q _ => ∃ (s : Addr), vs = [.ref s] ∧ Sto K H s ∧ ∀ a q H', (Fq K H' 10 a q ∧ 0 < q.1) → Kp s H H' → Sto K H' s → Q (.ref a) H'
def spDNz (K : PySem.W.Frag) : Sp := fun vs H Q _ => ∃ (s : Addr), vs = [.ref s] ∧ Sto K H s ∧ ∀ a q H', Fq K H' 10 a q → q.1 ≠ 0 → Kp s H H' → Sto K H' s → Q (.ref a) H'
theorem is_pos {q : Qt} {t b : Int} (h : Is q t b) (h0 : 0 < t) (h1 : 0 < b) : 0 < q.1 := by
  have e := h.2
  have n := h.1.1
  refine Int.not_le.mp fun c => ?_
  have z1 : 0 < t * q.2 := Int.mul_pos h0 (by omega)
  have z2 : q.1 * b ≤ 0 := Int.mul_nonpos_of_nonpos_of_nonneg c (by omega)
  omega
def spMoment (K : PySem.W.Frag) : Sp := fun vs H Q _ => ∃ (s : Addr) (r : Int), vs = [.ref s, .int r] ∧ Sto K H s ∧ 1 ≤ r ∧ r < 2 ^ 60 ∧ ∀ a q H', Fq K H' 70 a q → Kp s H H' → Sto K H' s → Q (.ref a) H'
abbrev sDMoment : Stmt := topS 56
theorem scDMoment : FnScope ["_law_store_here", "_law_reach", "_law_spot", "_law_bottom"] ["_law_store_here", "_law_reach"] (defScope sDMoment) := ⟨rfl, rfl, rfl, by decide +kernel, rfl, by decide +kernel, by decide +kernel⟩
theorem k_DMoment (T : Bt K mg) (D : Dfn K mg "_law_moment" sDMoment ["_law_store_here", "_law_reach"]) (d__law_take : Kn P w K mg base 2 "_law_take" ["_law_store_here", "_law_many"] (spTake K)) (d__law_lowest : Kn P w K mg base 2 "_law_lowest" ["_law_top", "_law_bottom"] (spLowest K)) (d__law_whole : Kn P w K mg base 3 "_law_whole" ["_law_store_here", "_law_reach"] (spLInt K)) : Kn P w K mg base 4 "_law_moment" ["_law_store_here", "_law_reach"] (spMoment K) := by
  refine Kn.mk' D scDMoment (fun vs H Q E h => ?_) (fun f cdv A outer s H vs Q E hr h => ?_)
  · obtain ⟨s, r, rfl, _⟩ := h
    rfl
  obtain ⟨s, r, rfl, hS, hr1, hr2, k⟩ := h
  refine ⟨_, (pss_cons (ps_set (i := 2) scDMoment.nd rfl (.inl rfl) (pe_kn d__law_take hr (by rfl) (pa_cons (pv 0) (pa_cons pe_int pa_nil))))
      (pss_cons (ps_if (pt_cmpR op_lt (pv 2) pe_int (nomark _)) (pss_one (ps_ret (pe_tp (pa_cons (pe_kn d__law_whole hr (by rfl) (pa_cons (pv 0) (pa_cons (pv 1) pa_nil))) (pa_cons pe_int pa_nil))))) pss_nil)
      (pss_cons (ps_set (i := 3) scDMoment.nd rfl (.inl rfl) (pe_op op_add pe_int (pe_kn d__law_take hr (by rfl) (pa_cons (pv 0) (pa_cons pe_int pa_nil)))))
      (pss_one (ps_ret (pe_kn d__law_lowest hr (by rfl) (pa_cons (pe_op op_sub (pe_kn d__law_take hr (by rfl) (pa_cons (pv 0) (pa_cons (pe_op op_add (pe_op op_mulW (pe_op op_mul pe_int (pv 1)) (pv 3)) pe_int) pa_nil))) (pe_op op_mulW (pv 1) (pv 3))) (pa_cons (pv 3) pa_nil)))))))), ?_⟩
  simp only [cx_K, decide_true, decide_false, reduceCtorEq, gTp, gCons, gNil, ca_0, ca_1, ca_2, ca_3, ca_4, ca_5, ca_6, ca_7, ca_8, ca_9, ca_10, ca_11, ca_12, ca_13, ca_14, ca_15, ca_16, ca_17, ca_18, ca_19, ca_20, ca_21, ca_22, ca_23, ca_24, ca_25, ca_26, ca_27, ca_28, ca_29, ca_30, not_true_eq_false, not_false_eq_true, Int.reduceEq, Nat.reduceEqDiff, Nat.reduceLeDiff, rGcd, V.ty.injEq, eq_self, List.not_mem_nil, beq_self_eq_true, HO.lst.injEq, HO.tup.injEq, tFor_eq, iRng1, iList, iTup, nat10, tSeq, rIxA, rSetA, rIsN, rIsT, tTp, tLs, itsO_tup, itsO_lst, tyO_tup, tyO_lst, tyO_dK, tyN_non, tyN_bl, tyN_int, tyN_str, tyN_ref, tyNs_lt, isB, upd_same, upd_upd, sizeLine_eq, List.mem_cons, String.reduceBEq, String.reduceEq, Bool.or_false, Bool.or_true, Bool.and_false, Bool.false_or, Bool.and_self, Bool.false_and, Bool.not_false, Bool.not_true, List.any_cons, List.any_nil, atI_0, setI_0, atI_1, setI_1, atI_2, setI_2, atI_3, setI_3, atI_4, setI_4, atI_5, setI_5, atI_6, setI_6, tAsg, gName, tOp, tUn, tVar, tC, tCons, L2.tNil, tRet, tIfS, tTest, tCB, tCall, rI, rI0, rU, tNext, tB, tAnd, tOr, tNot, tAndV, tOrV, tNotV, tDrop, tIf, tPar, gSub, rIxL, rIxT, rEq, rNe, rSetL, tBits,
    L2.start, List.map_cons, List.map_nil, List.cons_append, List.nil_append, List.append_nil, List.length_cons, List.length_nil, List.replicate, Nat.reduceAdd, Nat.reduceSub, Nat.zero_add, List.getElem?_cons_zero, List.getElem?_cons_succ, List.set_cons_zero, List.set_cons_succ,
    Option.some.injEq, exists_eq_left', exists_eq_left, V.int.injEq, V.bl.injEq, V.ref.injEq, V.str.injEq, List.cons.injEq, reduceCtorEq, and_true, true_and, false_and, and_false, exists_false, or_false, false_or, or_true, true_or, exists_const, CMul, CDiv, CPow, and_assoc, exists_and_left, exists_and_right, Int.reducePow, Int.reduceNeg, Int.reduceLT, Int.reduceLE, Nat.reducePow, Nat.reduceLT, Int.reduceToNat, gt_iff_lt, ge_iff_le, decide_eq_true_eq, Bool.not_eq_true', decide_eq_false_iff_not, scal, ↓reduceIte, Bool.false_eq_true]
  refine ⟨s, 12, rfl, hS, by omega, fun i H1 z0 z1 kp st => ?_⟩
  simp only [cx_K, decide_true, decide_false, reduceCtorEq, gTp, gCons, gNil, ca_0, ca_1, ca_2, ca_3, ca_4, ca_5, ca_6, ca_7, ca_8, ca_9, ca_10, ca_11, ca_12, ca_13, ca_14, ca_15, ca_16, ca_17, ca_18, ca_19, ca_20, ca_21, ca_22, ca_23, ca_24, ca_25, ca_26, ca_27, ca_28, ca_29, ca_30, not_true_eq_false, not_false_eq_true, Int.reduceEq, Nat.reduceEqDiff, Nat.reduceLeDiff, rGcd, V.ty.injEq, eq_self, List.not_mem_nil, beq_self_eq_true, HO.lst.injEq, HO.tup.injEq, tFor_eq, iRng1, iList, iTup, nat10, tSeq, rIxA, rSetA, rIsN, rIsT, tTp, tLs, itsO_tup, itsO_lst, tyO_tup, tyO_lst, tyO_dK, tyN_non, tyN_bl, tyN_int, tyN_str, tyN_ref, tyNs_lt, isB, upd_same, upd_upd, sizeLine_eq, List.mem_cons, String.reduceBEq, String.reduceEq, Bool.or_false, Bool.or_true, Bool.and_false, Bool.false_or, Bool.and_self, Bool.false_and, Bool.not_false, Bool.not_true, List.any_cons, List.any_nil, atI_0, setI_0, atI_1, setI_1, atI_2, setI_2, atI_3, setI_3, atI_4, setI_4, atI_5, setI_5, atI_6, setI_6, tAsg, gName, tOp, tUn, tVar, tC, tCons, L2.tNil, tRet, tIfS, tTest, tCB, tCall, rI, rI0, rU, tNext, tB, tAnd, tOr, tNot, tAndV, tOrV, tNotV, tDrop, tIf, tPar, gSub, rIxL, rIxT, rEq, rNe, rSetL, tBits,
    L2.start, List.map_cons, List.map_nil, List.cons_append, List.nil_append, List.append_nil, List.length_cons, List.length_nil, List.replicate, Nat.reduceAdd, Nat.reduceSub, Nat.zero_add, List.getElem?_cons_zero, List.getElem?_cons_succ, List.set_cons_zero, List.set_cons_succ,
    Option.some.injEq, exists_eq_left', exists_eq_left, V.int.injEq, V.bl.injEq, V.ref.injEq, V.str.injEq, List.cons.injEq, reduceCtorEq, and_true, true_and, false_and, and_false, exists_false, or_false, false_or, or_true, true_or, exists_const, CMul, CDiv, CPow, and_assoc, exists_and_left, exists_and_right, Int.reducePow, Int.reduceNeg, Int.reduceLT, Int.reduceLE, Nat.reducePow, Nat.reduceLT, Int.reduceToNat, gt_iff_lt, ge_iff_le, decide_eq_true_eq, Bool.not_eq_true', decide_eq_false_iff_not, scal, ↓reduceIte, Bool.false_eq_true]
  refine ite2 (fun h => ?_) (fun h => ?_)
  · refine ⟨s, r, rfl, st, hr1, by omega, fun n H2 n0 n1 kp2 st2 => ?_⟩
    try simp only [cx_K, decide_true, decide_false, reduceCtorEq, gTp, gCons, gNil, ca_0, ca_1, ca_2, ca_3, ca_4, ca_5, ca_6, ca_7, ca_8, ca_9, ca_10, ca_11, ca_12, ca_13, ca_14, ca_15, ca_16, ca_17, ca_18, ca_19, ca_20, ca_21, ca_22, ca_23, ca_24, ca_25, ca_26, ca_27, ca_28, ca_29, ca_30, not_true_eq_false, not_false_eq_true, Int.reduceEq, Nat.reduceEqDiff, Nat.reduceLeDiff, rGcd, V.ty.injEq, eq_self, List.not_mem_nil, beq_self_eq_true, HO.lst.injEq, HO.tup.injEq, tFor_eq, iRng1, iList, iTup, nat10, tSeq, rIxA, rSetA, rIsN, rIsT, tTp, tLs, itsO_tup, itsO_lst, tyO_tup, tyO_lst, tyO_dK, tyN_non, tyN_bl, tyN_int, tyN_str, tyN_ref, tyNs_lt, isB, upd_same, upd_upd, sizeLine_eq, List.mem_cons, String.reduceBEq, String.reduceEq, Bool.or_false, Bool.or_true, Bool.and_false, Bool.false_or, Bool.and_self, Bool.false_and, Bool.not_false, Bool.not_true, List.any_cons, List.any_nil, atI_0, setI_0, atI_1, setI_1, atI_2, setI_2, atI_3, setI_3, atI_4, setI_4, atI_5, setI_5, atI_6, setI_6, tAsg, gName, tOp, tUn, tVar, tC, tCons, L2.tNil, tRet, tIfS, tTest, tCB, tCall, rI, rI0, rU, tNext, tB, tAnd, tOr, tNot, tAndV, tOrV, tNotV, tDrop, tIf, tPar, gSub, rIxL, rIxT, rEq, rNe, rSetL, tBits,
    L2.start, List.map_cons, List.map_nil, List.cons_append, List.nil_append, List.append_nil, List.length_cons, List.length_nil, List.replicate, Nat.reduceAdd, Nat.reduceSub, Nat.zero_add, List.getElem?_cons_zero, List.getElem?_cons_succ, List.set_cons_zero, List.set_cons_succ,
    Option.some.injEq, exists_eq_left', exists_eq_left, V.int.injEq, V.bl.injEq, V.ref.injEq, V.str.injEq, List.cons.injEq, reduceCtorEq, and_true, true_and, false_and, and_false, exists_false, or_false, false_or, or_true, true_or, exists_const, CMul, CDiv, CPow, and_assoc, exists_and_left, exists_and_right, Int.reducePow, Int.reduceNeg, Int.reduceLT, Int.reduceLE, Nat.reducePow, Nat.reduceLT, Int.reduceToNat, gt_iff_lt, ge_iff_le, decide_eq_true_eq, Bool.not_eq_true', decide_eq_false_iff_not, scal, ↓reduceIte, Bool.false_eq_true]
    intro p hp kn
    exact k p (n, 1) _ ⟨ob_new kn, nf_int n, sz_of (by omega) (by decide)⟩ ((kp.trans kp2).trans (Kp.same (Same.new hp _))) (st2.same (Same.new hp _))
  · refine ⟨s, 12, rfl, st, by omega, fun j H2 j0 j1 kp2 st2 => ?_⟩
    simp only [cx_K, decide_true, decide_false, reduceCtorEq, gTp, gCons, gNil, ca_0, ca_1, ca_2, ca_3, ca_4, ca_5, ca_6, ca_7, ca_8, ca_9, ca_10, ca_11, ca_12, ca_13, ca_14, ca_15, ca_16, ca_17, ca_18, ca_19, ca_20, ca_21, ca_22, ca_23, ca_24, ca_25, ca_26, ca_27, ca_28, ca_29, ca_30, not_true_eq_false, not_false_eq_true, Int.reduceEq, Nat.reduceEqDiff, Nat.reduceLeDiff, rGcd, V.ty.injEq, eq_self, List.not_mem_nil, beq_self_eq_true, HO.lst.injEq, HO.tup.injEq, tFor_eq, iRng1, iList, iTup, nat10, tSeq, rIxA, rSetA, rIsN, rIsT, tTp, tLs, itsO_tup, itsO_lst, tyO_tup, tyO_lst, tyO_dK, tyN_non, tyN_bl, tyN_int, tyN_str, tyN_ref, tyNs_lt, isB, upd_same, upd_upd, sizeLine_eq, List.mem_cons, String.reduceBEq, String.reduceEq, Bool.or_false, Bool.or_true, Bool.and_false, Bool.false_or, Bool.and_self, Bool.false_and, Bool.not_false, Bool.not_true, List.any_cons, List.any_nil, atI_0, setI_0, atI_1, setI_1, atI_2, setI_2, atI_3, setI_3, atI_4, setI_4, atI_5, setI_5, atI_6, setI_6, tAsg, gName, tOp, tUn, tVar, tC, tCons, L2.tNil, tRet, tIfS, tTest, tCB, tCall, rI, rI0, rU, tNext, tB, tAnd, tOr, tNot, tAndV, tOrV, tNotV, tDrop, tIf, tPar, gSub, rIxL, rIxT, rEq, rNe, rSetL, tBits,
    L2.start, List.map_cons, List.map_nil, List.cons_append, List.nil_append, List.append_nil, List.length_cons, List.length_nil, List.replicate, Nat.reduceAdd, Nat.reduceSub, Nat.zero_add, List.getElem?_cons_zero, List.getElem?_cons_succ, List.set_cons_zero, List.set_cons_succ,
    Option.some.injEq, exists_eq_left', exists_eq_left, V.int.injEq, V.bl.injEq, V.ref.injEq, V.str.injEq, List.cons.injEq, reduceCtorEq, and_true, true_and, false_and, and_false, exists_false, or_false, false_or, or_true, true_or, exists_const, CMul, CDiv, CPow, and_assoc, exists_and_left, exists_and_right, Int.reducePow, Int.reduceNeg, Int.reduceLT, Int.reduceLE, Nat.reducePow, Nat.reduceLT, Int.reduceToNat, gt_iff_lt, ge_iff_le, decide_eq_true_eq, Bool.not_eq_true', decide_eq_false_iff_not, scal, ↓reduceIte, Bool.false_eq_true]
    have b1 : (r * (1 + j)).natAbs < 2 ^ 66 := szMono (szMul (a := 60) (b := 4) (by omega) (by omega)) (by omega)
    have b2 : 2 * r * (1 + j) = 2 * (r * (1 + j)) := Int.mul_assoc _ _ _
    have m1 : CMulW (2 * r) (1 + j) := mulW (a := 62) (b := 4) (by omega) (by omega) (by omega)
    have m2 : CMulW r (1 + j) := mulW (a := 60) (b := 4) (by omega) (by omega) (by omega)
    have rr : 0 ≤ r * (1 + j) := Int.mul_nonneg (by omega) (by omega)
    refine ⟨m1, s, _, rfl, st2, by omega, fun m H3 m0 m1 kp3 st3 => ?_⟩
    try simp only [cx_K, decide_true, decide_false, reduceCtorEq, gTp, gCons, gNil, ca_0, ca_1, ca_2, ca_3, ca_4, ca_5, ca_6, ca_7, ca_8, ca_9, ca_10, ca_11, ca_12, ca_13, ca_14, ca_15, ca_16, ca_17, ca_18, ca_19, ca_20, ca_21, ca_22, ca_23, ca_24, ca_25, ca_26, ca_27, ca_28, ca_29, ca_30, not_true_eq_false, not_false_eq_true, Int.reduceEq, Nat.reduceEqDiff, Nat.reduceLeDiff, rGcd, V.ty.injEq, eq_self, List.not_mem_nil, beq_self_eq_true, HO.lst.injEq, HO.tup.injEq, tFor_eq, iRng1, iList, iTup, nat10, tSeq, rIxA, rSetA, rIsN, rIsT, tTp, tLs, itsO_tup, itsO_lst, tyO_tup, tyO_lst, tyO_dK, tyN_non, tyN_bl, tyN_int, tyN_str, tyN_ref, tyNs_lt, isB, upd_same, upd_upd, sizeLine_eq, List.mem_cons, String.reduceBEq, String.reduceEq, Bool.or_false, Bool.or_true, Bool.and_false, Bool.false_or, Bool.and_self, Bool.false_and, Bool.not_false, Bool.not_true, List.any_cons, List.any_nil, atI_0, setI_0, atI_1, setI_1, atI_2, setI_2, atI_3, setI_3, atI_4, setI_4, atI_5, setI_5, atI_6, setI_6, tAsg, gName, tOp, tUn, tVar, tC, tCons, L2.tNil, tRet, tIfS, tTest, tCB, tCall, rI, rI0, rU, tNext, tB, tAnd, tOr, tNot, tAndV, tOrV, tNotV, tDrop, tIf, tPar, gSub, rIxL, rIxT, rEq, rNe, rSetL, tBits,
    L2.start, List.map_cons, List.map_nil, List.cons_append, List.nil_append, List.append_nil, List.length_cons, List.length_nil, List.replicate, Nat.reduceAdd, Nat.reduceSub, Nat.zero_add, List.getElem?_cons_zero, List.getElem?_cons_succ, List.set_cons_zero, List.set_cons_succ,
    Option.some.injEq, exists_eq_left', exists_eq_left, V.int.injEq, V.bl.injEq, V.ref.injEq, V.str.injEq, List.cons.injEq, reduceCtorEq, and_true, true_and, false_and, and_false, exists_false, or_false, false_or, or_true, true_or, exists_const, CMul, CDiv, CPow, and_assoc, exists_and_left, exists_and_right, Int.reducePow, Int.reduceNeg, Int.reduceLT, Int.reduceLE, Nat.reducePow, Nat.reduceLT, Int.reduceToNat, gt_iff_lt, ge_iff_le, decide_eq_true_eq, Bool.not_eq_true', decide_eq_false_iff_not, scal, ↓reduceIte, Bool.false_eq_true]
    refine ⟨m2, _, _, rfl, ?_, fun q hq p H4 s4 o4 => ?_⟩
    · have e : 2 ^ 10 ≤ 2 ^ 8000 := Nat.pow_le_pow_right (by omega) (by omega)
      omega
    · have hI := hq.2 (show 1 + j ≠ 0 by omega)
      exact k p q H4 ⟨o4, hI.1, is_sz (by omega) hI (by omega) (by omega)⟩ (((kp.trans kp2).trans kp3).trans (Kp.same s4)) (st3.same s4)
end
end My

namespace My
open PySem PySem.Spec PyProof.Rows L2
/-! ### C.m(..), m a static method -/
/-- C.m is a staticmethod: its record at p, its def at g -/
structure SMet (K : PySem.W.Frag) (C : Addr) (mc : Value) (m : Str) (p g : Addr) : Prop where
  at_ : PySem.W.findCls K (.ref C) mc m = some (.get (.builtin "staticmethod.__get__") (.ref p) .none (.ref C))
  rc : ∃ rest, PySem.W.recIn K p "staticmethod" = some (.ref g :: rest)
  kp : PySem.W.keepIn K (.ref g) = true
def tSMeth (C : Addr) (sp : Sp) (dvs : List V) (E : XK) (ta : TE) (t : TA) : TE := fun σ H Q => ta σ H fun x H1 => x = .ref C ∧ t σ H1 fun vs H2 => sp (vs ++ dvs) H2 Q E
section
variable {X : Cx} {CX : CXT} {k : Nat} {C p g : Addr} {mc : Value} {sp : Sp} {E : XK} {o e : Expr} {es : List Expr} {m : Str} {pos apos : Pos} {ta : TE} {t : TA} {pl : Sem Bool} {fd : FuncData} {ps : List Str} {ds : List Value} {dvs : List V}
theorem getsmet_ok {pins : List (Addr × Obj)} {σ : L2.St} {H : Hp} {s : Shared} {A : Around} {E : Value → Shared → Prop} {b : Bool} {Q : Value → Shared → Prop} (I : Inv X pins σ H s) (r : ClX.CRead X.K C mc) (c : SMet X.K C mc m p g)
    (h : ∀ s', Inv X pins σ H s' → Q (.ref g) s') : wpAny (model X.prog X.w) A (getAttr (.ref C) m b) Q E s := by
  obtain ⟨rest, hp⟩ := c.rc
  refine PySem.W.cls_bind I.kIn r.rd c.at_ ?_
  exact wpAny_call (PySem.W.sm_get (s := { s with toks := s.toks + 1 }) I.kIn hp (PySem.W.handed_on rfl (h _ (I.tok _))))
theorem pe_smeth (he : PE X o ta) (r : ClX.CRead X.K C mc) (c : SMet X.K C mc m p g) (F : FnOk X.prog X.w X.K X.mg X.base CX k g fd ps sp) (hr : Room k X.A) (hb : Binds X.K fd ps ds) (hd : Vals dvs ds) (hx : Passes CX X E) (ha : PA X (e :: es) t)
    (hst : starEach (e :: es) X.env = (false, eval e X.env) :: starEach es X.env := by rfl) (hpl : (backTo pos (starEach es X.env)).any (·.1) = false := by rfl)
    (ht : eval (.Call (.Attribute o m apos) (e :: es) [] pos) X.env = (do
      let ov ← eval o X.env
      standAt apos.atName
      let (f, first) ← holding [ov] (getMethod ov m pl)
      callWith pos f first (backTo pos (starEach (e :: es) X.env)) (backToKw pos (keywordEach [] X.env))) := by rfl) :
    PE X (.Call (.Attribute o m apos) (e :: es) [] pos) (tSMeth C sp dvs E ta t) := by
  refine ⟨fun pins s σ H Q I h => ?_⟩
  refine PySem.W.methodCall_KW (pl := pl) (thn (he.run pins s σ H _ I h) fun u s1 ⟨x, H1, I1, rx, ex, q⟩ => ?_) ht
  subst ex
  obtain rfl : u = Value.ref C := rx
  refine PySem.W.method_cls I1.kIn r.ga (getsmet_ok I1 r c fun s2 I2 => ?_)
  refine PySem.W.callWith_K (h₀ := X.base) I2.ok.mod.kin c.kp (thn (ha.run pos pins s2 σ H1 _ I2 q) fun us s3 ⟨vs, H2, I3, rv, q2⟩ => ⟨I3.kIn, ?_⟩) hst hpl
  exact run_fn F hr hb hd hx I3 rv q2
end
section
variable {P : Program} {w : World} {K : PySem.W.Frag} {mg : Str → Option Value} {base : Heap}
/-! ### the == of two fractions -/
def rEqF (K : PySem.W.Frag) : R2 := fun x y H Q => ∃ (a b : Addr) (p q : Qt), x = .ref a ∧ y = .ref b ∧ ob K H a = some (.tup [.int p.1, .int p.2]) ∧ ob K H b = some (.tup [.int q.1, .int q.2]) ∧ Q (.bl (decide (p = q))) H
def rNeF (K : PySem.W.Frag) : R2 := fun x y H Q => ∃ (a b : Addr) (p q : Qt), x = .ref a ∧ y = .ref b ∧ ob K H a = some (.tup [.int p.1, .int p.2]) ∧ ob K H b = some (.tup [.int q.1, .int q.2]) ∧ Q (.bl (!decide (p = q))) H
theorem dp_fr {H : Hp} {a : Addr} {p : Qt} (h : ob K H a = some (.tup [.int p.1, .int p.2])) : Dp K H (.ref a) (.tuple [.int p.1, .int p.2]) := .tup (ob_tup h) (.cons (.int _) (.cons (.int _) .nil))
theorem eqv_fr (p q : Qt) : PyData.eqv (.tuple [.int p.1, .int p.2]) (.tuple [.int q.1, .int q.2]) = decide (p = q) := by
  show ((p.1 == q.1) && ((p.2 == q.2) && true)) = decide (p = q)
  rw [Bool.and_true]
  by_cases h : p = q
  · subst h
    simp
  · rw [decide_eq_false h]
    by_cases h1 : p.1 = q.1
    · have h2 : p.2 ≠ q.2 := fun z => h (Prod.ext h1 z)
      simp [h1, h2]
    · simp [h1]
theorem op_eqF {X : Cx} {j : Nat} (hr : Room j X.A) : OpR X (compareOp .Eq) (rEqF X.K) := fun pins s σ H x y v u Q I rx ry h => by
  obtain ⟨a, b, p, q, ex, ey, oa, ob', k⟩ := h
  subst ex ey
  refine op_eqD (by have := hr.un; omega) pins s σ H _ _ v u Q I rx ry ⟨_, _, dp_fr oa, dp_fr ob', rfl, rfl, ?_⟩
  rw [eqv_fr]
  exact k
theorem op_neF {X : Cx} {j : Nat} (hr : Room j X.A) : OpR X (compareOp .NotEq) (rNeF X.K) := fun pins s σ H x y v u Q I rx ry h => by
  obtain ⟨a, b, p, q, ex, ey, oa, ob', k⟩ := h
  subst ex ey
  refine op_neD (by have := hr.un; omega) pins s σ H _ _ v u Q I rx ry ⟨_, _, dp_fr oa, dp_fr ob', rfl, rfl, ?_⟩
  rw [eqv_fr]
  exact k
end
end My

namespace My
open PySem PySem.Spec PyProof.Rows L2
/-! ### own == of instances with a dict, any answer -/
def rOwnD (K : PySem.W.Frag) (C : Addr) (sp : Sp) (E : XK) : R2 := fun x y H Q => ∃ a dx fs b C' dy gs, x = .ref a ∧ y = .ref b ∧ H a = some (.ins C dx fs) ∧ H b = some (.ins C' dy gs) ∧ PySem.W.notFirst K C (.ref C') = true ∧ sp [x, y] H Q E
theorem op_ownD {X : Cx} {CX : CXT} {n : Nat} {C g : Addr} {fd : FuncData} {ps : List Str} {sp : Sp} {E : XK} {op : CmpOp} (hop : ∀ a b, compareOp op a b = richCompare op a b) (hs : PySem.W.findIn X.K (.ref C) (cmpInfo op).2.1 = some (some (.ref g))) (hf : PySem.W.isFn X.K (.ref g) = true) (F : FnOk X.prog X.w X.K X.mg X.base CX n g fd ps sp) (hb : Binds X.K fd ps [])
    (hr : Room n X.A) (hx : Passes CX X E) : OpR X (compareOp op) (rOwnD X.K C sp E) := by
  intro pins s σ H x y v u Q I rx ry h
  obtain ⟨a, dx, fs, b, C', dy, gs, rfl, rfl, ha, hb', hn, q⟩ := h
  cases (show v = Value.ref a from rx)
  cases (show u = Value.ref b from ry)
  obtain ⟨mA, J, _⟩ := ins_get I.hok ha
  obtain ⟨mB, J', _⟩ := ins_get I.hok hb'
  obtain ⟨od, J, _⟩ := J.look
  obtain ⟨od', J', _⟩ := J'.look
  obtain ⟨m, hF⟩ := I.fr
  rw [hop]
  refine PySem.W.cmp_K (op := op) (tb := .ref C') hr.units0 hF I.ok.mod.kin J J'.type hn hs hf ?_
  refine wpAny_mono (run_fn (us := [.ref a, .ref b]) (vs := [.ref a, .ref b]) F hr hb .nil hx I (.cons rfl (.cons rfl .nil)) q) (fun w s' z => ?_) fun _ _ x => x
  obtain ⟨z', H', I', rz, qz⟩ := z
  exact SlX.cmpback rz ⟨z', H', I', rz, qz⟩
/-! ### own + and - of two instances of one class -/
def rBinD (C : Addr) (sp : Sp) (E : XK) : R2 := fun x y H Q => ∃ a dx fs b dy gs, x = .ref a ∧ y = .ref b ∧ H a = some (.ins C dx fs) ∧ H b = some (.ins C dy gs) ∧ sp [x, y] H Q E
theorem op_binD {X : Cx} {CX : CXT} {n : Nat} {C g : Addr} {fd : FuncData} {ps : List Str} {sp : Sp} {E : XK} {op : Operator} (hc : PySem.W.selfFirst X.K C = true) (hs : PySem.W.findIn X.K (.ref C) (PySem.dunder op.info.2) = some (some (.ref g))) (hf : PySem.W.isFn X.K (.ref g) = true) (F : FnOk X.prog X.w X.K X.mg X.base CX n g fd ps sp) (hb : Binds X.K fd ps [])
    (hr : Room n X.A) (hx : Passes CX X E) : OpR X (binaryOp op) (rBinD C sp E) := by
  intro pins s σ H x y v u Q I rx ry h
  obtain ⟨a, dx, fs, b, dy, gs, rfl, rfl, ha, hb', q⟩ := h
  cases (show v = Value.ref a from rx)
  cases (show u = Value.ref b from ry)
  obtain ⟨mA, J, _⟩ := ins_get I.hok ha
  obtain ⟨mB, J', _⟩ := ins_get I.hok hb'
  obtain ⟨od, J, _⟩ := J.look
  obtain ⟨od', J', _⟩ := J'.look
  obtain ⟨m, hF⟩ := I.fr
  refine PySem.W.binop_K (op := op) hF I.ok.mod.kin J J'.type hc hs hf ?_
  refine wpAny_mono (run_fn (us := [.ref a, .ref b]) (vs := [.ref a, .ref b]) F hr hb .nil hx I (.cons rfl (.cons rfl .nil)) q) (fun w s' z => ?_) fun _ _ x => x
  obtain ⟨z', H', I', rz, qz⟩ := z
  exact SlX.cmpback rz ⟨z', H', I', rz, qz⟩
/-- own - before an instance -/
def rNegD (C : Addr) (sp : Sp) (E : XK) : V → Hp → VK → Prop := fun x H Q => ∃ a dx fs, x = .ref a ∧ H a = some (.ins C dx fs) ∧ sp [x] H Q E
theorem un_negD {X : Cx} {CX : CXT} {n : Nat} {C g : Addr} {fd : FuncData} {ps : List Str} {sp : Sp} {E : XK} (hs : PySem.W.findIn X.K (.ref C) "__neg__" = some (some (.ref g))) (hf : PySem.W.isFn X.K (.ref g) = true) (F : FnOk X.prog X.w X.K X.mg X.base CX n g fd ps sp) (hb : Binds X.K fd ps [])
    (hr : Room n X.A) (hx : Passes CX X E) : UnR X (unaryOp .USub) (rNegD C sp E) := by
  intro pins s σ H x v Q I rx h
  obtain ⟨a, dx, fs, rfl, ha, q⟩ := h
  cases (show v = Value.ref a from rx)
  obtain ⟨mA, J, _⟩ := ins_get I.hok ha
  obtain ⟨od, J, _⟩ := J.look
  obtain ⟨m, hF⟩ := I.fr
  refine PySem.W.ksp_neg hF I.ok.mod.kin J hs hf ?_
  exact run_fn (us := [.ref a]) (vs := [.ref a]) F hr hb .nil hx I (.cons rfl .nil) q
end My

namespace My
open PySem PySem.Spec PyProof.Rows L2
section
variable {P : Program} {w : World} {K : PySem.W.Frag} {mg : Str → Option Value} {base : Heap}
/-- the two numbers that the program names -/
structure Two01 (K : PySem.W.Frag) (mg : Str → Option Value) (z o : Addr) : Prop where
  g_ZERO : mg "ZERO" = some (.ref z)
  g_ONE : mg "ONE" = some (.ref o)
  oz : ∀ H, ob K H z = some (.tup [.int 0, .int 1])
  oo : ∀ H, ob K H o = some (.tup [.int 1, .int 1])
theorem sz01 {k : Nat} (h : 1 ≤ k) : Sz k (0, 1) := Sz.mono (a := 1) ⟨by decide, by decide⟩ h
theorem sz11 {k : Nat} (h : 1 ≤ k) : Sz k (1, 1) := Sz.mono (a := 1) ⟨by decide, by decide⟩ h
/-- the period of a rate -/
def PerOk (K : PySem.W.Frag) (n : Nat) (H : Hp) (p : Qt) (v : V) : Prop := (p.1 = 0 ∧ v = .non) ∨ (p.1 ≠ 0 ∧ ∃ c, v = .ref c ∧ Fq K H n c (p.2, (p.1.natAbs : Int)))
theorem PerOk.mono {n k : Nat} {H : Hp} {p : Qt} {v : V} (h : PerOk K n H p v) (l : n ≤ k) : PerOk K k H p v := h.imp id fun ⟨a, c, e, f⟩ => ⟨a, c, e, f.mono l⟩
theorem PerOk.same {n : Nat} {H H' : Hp} {p : Qt} {v : V} (h : PerOk K n H p v) (s : Same H H') : PerOk K n H' p v := h.imp id fun ⟨a, c, e, f⟩ => ⟨a, c, e, f.same s⟩
def spPeriod (K : PySem.W.Frag) : Sp := fun vs H Q _ => ∃ (a : Addr) (p : Qt) (n : Nat), vs = [.ref a] ∧ Fq K H n a p ∧ n ≤ 2900 ∧ ∀ v H', Same H H' → PerOk K n H' p v → Q v H'
theorem quo_one {p z : Qt} (hp : Nf p) (h0 : p.1 ≠ 0) (h : quo2 (1, 1) ((p.1.natAbs : Int), p.2) z) : z = (p.2, (p.1.natAbs : Int)) := by
  have n : (p.1.natAbs : Int) ≠ 0 := by omega
  have h' : Is z (1 * p.2) (1 * (p.1.natAbs : Int)) := h
  rw [Int.one_mul, Int.one_mul] at h'
  refine is_unique n h' ⟨⟨by show 1 ≤ (p.1.natAbs : Int); omega, ?_⟩, rfl⟩
  show Nat.gcd p.2.natAbs p.1.natAbs = 1
  rw [Nat.gcd_comm]
  exact hp.2
theorem nf_zero {p : Qt} (hp : Nf p) : p = (0, 1) ↔ p.1 = 0 := by
  refine ⟨fun h => by rw [h], fun h => ?_⟩
  have g := hp.2
  rw [h] at g
  have g1 : p.2.natAbs = 1 := by simpa using g
  have p2 := hp.1
  exact Prod.ext h (by show p.2 = 1; omega)
abbrev sPeriod : Stmt := topS 33
theorem scPeriod : FnScope ["rate"] ["rate"] (defScope sPeriod) := ⟨rfl, rfl, rfl, by decide +kernel, rfl, by decide +kernel, by decide +kernel⟩
theorem k_Period {z0 o0 : Addr} (C0 : Two01 K mg z0 o0) (T : Bt K mg) (D : Dfn K mg "_period_of" sPeriod ["rate"]) (d_magnitude : Kn P w K mg base 3 "magnitude" ["value"] (spUn K fun q => ((q.1.natAbs : Int), q.2))) (d_over : Kn P w K mg base 3 "over" ["left", "right"] (spQuo K)) : Kn P w K mg base 4 "_period_of" ["rate"] (spPeriod K) := by
  refine Kn.mk' D scPeriod (fun vs H Q E h => ?_) (fun f cdv A outer s H vs Q E hr h => ?_)
  · obtain ⟨a, p, n, rfl, _⟩ := h
    rfl
  obtain ⟨a, p, n, rfl, hp, hn, k⟩ := h
  refine ⟨_, (pss_cons (ps_if (pt_cmpR (op_eqF hr) (pv 0) (pe_glob (v := .ref z0) (by rfl) C0.g_ZERO rfl) (nomark _)) (pss_one (ps_ret pe_non)) pss_nil)
      (pss_one (ps_ret (pe_kn d_over hr (by rfl) (pa_cons (pe_glob (v := .ref o0) (by rfl) C0.g_ONE rfl) (pa_cons (pe_kn d_magnitude hr (by rfl) (pa_cons (pv 0) pa_nil)) pa_nil)))))), ?_⟩
  refine ⟨_, rfl, a, z0, p, (0, 1), rfl, rfl, hp.o, C0.oz _, _, rfl, ?_⟩
  refine ite2 (fun h => ?_) (fun h => ?_)
  · exact k _ H (Same.refl _) (.inl ⟨(nf_zero hp.nf).mp (of_decide_eq_true h), rfl⟩)
  · have h0 : p.1 ≠ 0 := fun z => h (decide_eq_true ((nf_zero hp.nf).mpr z))
    refine ⟨_, rfl, a, p, rfl, hp.mono (by omega), fun b H1 s1 o1 => ?_⟩
    have hz : Sz n ((p.1.natAbs : Int), p.2) := ⟨by show ((p.1.natAbs : Int)).natAbs < 2 ^ n; rw [Int.natAbs_natCast]; exact hp.sz.1, hp.sz.2⟩
    refine ⟨o0, b, (1, 1), ((p.1.natAbs : Int), p.2), rfl, ⟨C0.oo _, nf11, sz11 (by omega)⟩, ⟨o1, nf_abs hp.nf, hz.mono (by omega)⟩, by show (p.1.natAbs : Int) ≠ 0; omega, fun z hzq c H2 s2 o2 => ?_⟩
    rw [quo_one hp.nf h0 hzq] at o2
    exact k _ H2 (s1.trans s2) (.inr ⟨h0, c, rfl, o2, ⟨by show 1 ≤ (p.1.natAbs : Int); omega, by show Nat.gcd p.2.natAbs p.1.natAbs = 1; rw [Nat.gcd_comm]; exact hp.nf.2⟩, hz.2, hz.1⟩)
end
end My

namespace My
open PySem PySem.Spec PyProof.Rows L2
section
variable {P : Program} {w : World} {K : PySem.W.Frag} {mg : Str → Option Value} {base : Heap}
/-- what the text says of the class Cycle -/
structure CyC (K : PySem.W.Frag) (mg : Str → Option Value) (C : Addr) : Prop where
  cl : Cls K C
  nR : NoAttr K C "rate"
  nS : NoAttr K C "start"
  nP : NoAttr K C "period"
  g : mg "Cycle" = some (.ref C)
def cyF (a b : Addr) (v : V) : List (Str × V) := [("rate", .ref a), ("start", .ref b), ("period", v)]
/-- a Cycle at c with the rate p and the start q -/
def CyAt (K : PySem.W.Frag) (C : Addr) (n : Nat) (H : Hp) (c : Addr) (p q : Qt) : Prop := ∃ dx a b v, H c = some (.ins C dx (cyF a b v)) ∧ Fq K H n a p ∧ Pq K H n b q ∧ PerOk K n H p v
theorem CyAt.mono {C : Addr} {n k : Nat} {H : Hp} {c : Addr} {p q : Qt} (h : CyAt K C n H c p q) (l : n ≤ k) : CyAt K C k H c p q := by
  obtain ⟨dx, a, b, v, h1, h2, h3, h4⟩ := h
  exact ⟨dx, a, b, v, h1, h2.mono l, h3.mono l, h4.mono l⟩
theorem CyAt.same {C : Addr} {n : Nat} {H H' : Hp} {c : Addr} {p q : Qt} (h : CyAt K C n H c p q) (s : Same H H') : CyAt K C n H' c p q := by
  obtain ⟨dx, a, b, v, h1, h2, h3, h4⟩ := h
  exact ⟨dx, a, b, v, s _ _ h1, h2.same s, h3.same s, h4.same s⟩
theorem PerOk.kp {n : Nat} {H H' : Hp} {p : Qt} {v : V} {s : Addr} {ys : List V} (h : PerOk K n H p v) (e : Kp s H H') (hs : H s = some (.lst ys)) : PerOk K n H' p v := h.imp id fun ⟨a, c, z, f⟩ => ⟨a, c, z, f.kp e hs⟩
theorem CyAt.kp {C : Addr} {n : Nat} {H H' : Hp} {c s : Addr} {ys : List V} {p q : Qt} (h : CyAt K C n H c p q) (e : Kp s H H') (hs : H s = some (.lst ys)) : CyAt K C n H' c p q := by
  obtain ⟨dx, a, b, v, h1, h2, h3, h4⟩ := h
  exact ⟨dx, a, b, v, e _ _ (by rintro rfl; rw [hs] at h1; cases h1) h1, h2.kp e hs, h3.kp e hs, h4.kp e hs⟩
theorem cy_rate (a b : Addr) (v : V) : (cyF a b v).lookup ("rate" : Str) = some (.ref a) := rfl
theorem cy_start (a b : Addr) (v : V) : (cyF a b v).lookup ("start" : Str) = some (.ref b) := rfl
theorem cy_period (a b : Addr) (v : V) : (cyF a b v).lookup ("period" : Str) = some v := rfl
theorem cy_put1 (x y : V) : putF "start" y [(("rate" : Str), x)] = [(("rate" : Str), x), (("start" : Str), y)] := by
  show (if ("rate" : Str) = "start" then _ else _) = _
  rw [if_neg (by decide +kernel)]
  rfl
theorem cy_put2 (x y z : V) : putF "period" z [(("rate" : Str), x), (("start" : Str), y)] = [(("rate" : Str), x), (("start" : Str), y), (("period" : Str), z)] := by
  show (if ("rate" : Str) = "period" then _ else (("rate" : Str), x) :: (if ("start" : Str) = "period" then _ else _)) = _
  rw [if_neg (by decide +kernel), if_neg (by decide +kernel)]
  rfl
def spCyInit (K : PySem.W.Frag) (C : Addr) : Sp := fun vs H Q _ => ∃ (H0 : Hp) (c dx a b : Addr) (p q : Qt) (n : Nat), vs = [.ref c, .ref a, .ref b] ∧ Same H0 H ∧ H0 c = none ∧ H c = some (.ins C dx []) ∧ Fq K H0 n a p ∧ Pq K H0 n b q ∧ n ≤ 2900 ∧ ∀ H', Same H0 H' → CyAt K C n H' c p q → Q .non H'
theorem ob_put {H : Hp} {c a C dx : Addr} {fs : List (Str × V)} {o : HO} {xs : List V} (hc : H c = some (.ins C dx fs)) (h : ob K H a = some (.tup xs)) : ob K (upd H c o) a = some (.tup xs) := by
  unfold ob at h ⊢
  split
  · rename_i z hz
    rw [hz] at h
    exact h
  · rename_i hz
    rw [hz] at h
    rw [upd_ne (by rintro rfl; rw [hc] at h; cases h)]
    exact h
theorem PerOk.put {n : Nat} {H : Hp} {c C dx : Addr} {fs : List (Str × V)} {o : HO} {p : Qt} {v : V} (hc : H c = some (.ins C dx fs)) (h : PerOk K n H p v) : PerOk K n (upd H c o) p v := h.imp id fun ⟨a, d, z, f⟩ => ⟨a, d, z, ob_put hc f.o, f.nf, f.sz⟩
theorem same_put {H0 H : Hp} {c : Addr} {o : HO} (s : Same H0 H) (n : H0 c = none) : Same H0 (upd H c o) := fun b u e => by
  rw [upd_ne (ne_of_none e n)]
  exact s b u e
theorem pl_true {H : Hp} {a : Addr} {n : Nat} {q : Qt} (h : Pq K H n a q) : plOk K H (.ref a) = true := by
  rw [plOk_fr h.f.o h.f.nf, decide_eq_true h.lo, decide_eq_true h.hi]
  rfl
abbrev sCyInit : Stmt := inClass (topS 32) 0
theorem scCyInit : FnScope ["self", "rate", "start"] ["self", "rate", "start"] (defScope sCyInit) := ⟨rfl, rfl, rfl, by decide +kernel, rfl, by decide +kernel, by decide +kernel⟩
theorem ok_CyInit {C f : Addr} {fd : FuncData} (T : Bt K mg) (Y : CyC K mg C) (d_require : Kn P w K mg base 1 "require" ["well_formed", "what"] spRequire) (d_is_fraction : Kn P w K mg base 2 "is_fraction" ["value"] (spIsFraction K)) (d_is_place : Kn P w K mg base 3 "is_place" ["value"] (spIsPlace K)) (d__period_of : Kn P w K mg base 4 "_period_of" ["rate"] (spPeriod K)) {dvs : List V} (F : FunD K "__init__" "Cycle.__init__" (defArgs sCyInit) (defBody sCyInit) (defScope sCyInit) dvs [] f fd) : FnOk P w K mg base CX0 5 f fd ["self", "rate", "start"] (spCyInit K C) := by
  refine F.ok scCyInit (fun vs H Q E h => ?_) (fun cdv A outer s H vs Q E hr h => ?_)
  · obtain ⟨H0, c, dx, a, b, p, q, n, rfl, _⟩ := h
    rfl
  obtain ⟨H0, c, dx, a, b, p, q, n, rfl, s0, c0, hc, hp, hq, hn, k⟩ := h
  refine ⟨_, (pss_cons (ps_expr (pe_kn d_require hr (by rfl) (pa_cons (pe_kn d_is_fraction hr (by rfl) (pa_cons (pv 1) pa_nil)) (pa_cons pe_str pa_nil))))
      (pss_cons (ps_expr (pe_kn d_require hr (by rfl) (pa_cons (pe_kn d_is_place hr (by rfl) (pa_cons (pv 2) pa_nil)) (pa_cons pe_str pa_nil))))
      (pss_cons (ps_fld (pv 0) (pv 1) rfl)
      (pss_cons (ps_fld (pv 0) (pv 2) rfl)
      (pss_one (ps_fld (pv 0) (pe_kn d__period_of hr (by rfl) (pa_cons (pv 1) pa_nil)) rfl)))))), ?_⟩
  have ha := hp.same s0
  have hb := hq.same s0
  refine ⟨_, rfl, _, rfl, Tyd.fr ha.o, _, by rw [frOk_fr ha.o ha.nf]; rfl, _, rfl, _, rfl, Tyd.fr hb.f.o, _, by rw [pl_true hb]; rfl, ?_⟩
  refine ⟨_, rfl, _, rfl, c, C, dx, [], rfl, hc, Y.cl, Y.nR, (by show 0 < 1000; decide), _, rfl, _, rfl, c, C, dx, _, rfl, upd_same, Y.cl, Y.nS, (by show 1 < 1000; decide), ?_⟩
  have s2 : Same H0 (upd (upd H c (.ins C dx (putF "rate" (.ref a) []))) c (.ins C dx (putF "start" (.ref b) (putF "rate" (.ref a) [])))) := same_put (same_put s0 c0) c0
  have h2 := upd_same (H := upd H c (.ins C dx (putF "rate" (.ref a) []))) (a := c) (o := .ins C dx (putF "start" (.ref b) (putF "rate" (.ref a) [])))
  generalize upd (upd H c (.ins C dx (putF "rate" (.ref a) []))) c (.ins C dx (putF "start" (.ref b) (putF "rate" (.ref a) []))) = H2 at s2 h2 ⊢
  refine ⟨_, rfl, a, p, n, rfl, hp.same s2, hn, fun v H3 s3 hv => ⟨_, rfl, c, C, dx, _, rfl, s3 _ _ h2, Y.cl, Y.nP, (by show (putF "start" (V.ref b) [(("rate" : Str), V.ref a)]).length < 1000; rw [cy_put1]; show 2 < 1000; decide), ?_⟩⟩
  have s4 := s2.trans s3
  have s5 : Same H0 (upd H3 c (.ins C dx (putF "period" v (putF "start" (.ref b) (putF "rate" (.ref a) []))))) := same_put s4 c0
  have e : putF "period" v (putF "start" (.ref b) (putF "rate" (.ref a) [])) = cyF a b v := by
    show putF "period" v (putF "start" (.ref b) [(("rate" : Str), V.ref a)]) = _
    rw [cy_put1, cy_put2]
    rfl
  rw [e] at s5 ⊢
  refine k _ s5 ⟨dx, a, b, v, upd_same, hp.same s5, hq.same s5, hv.put (s3 _ _ h2)⟩
end
end My

namespace My
open PySem PySem.Spec PyProof.Rows L2
section
variable {P : Program} {w : World} {K : PySem.W.Frag} {mg : Str → Option Value} {base : Heap}
/-- the turns of a cycle of the rate p and the start q at the moment m -/
def Tur (p q m y : Qt) : Prop := ∃ t, pro2 p m t ∧ sum2 q t y
theorem szSub' : True := trivial
theorem sum_sz {p q z : Qt} {i j k : Nat} (h : sum2 p q z) (hp : Nf p) (hq : Nf q) (sp : Sz i p) (sq : Sz j q) (l : i + j < k) : Sz k z :=
  is_sz (mul_ne hp.1 hq.1) h (szAdd (szMul sp.1 sq.2) (szMul sq.1 sp.2) (by omega) (by omega)) (szMono (szMul sp.2 sq.2) (by omega))
theorem dif_sz {p q z : Qt} {i j k : Nat} (h : dif2 p q z) (hp : Nf p) (hq : Nf q) (sp : Sz i p) (sq : Sz j q) (l : i + j < k) : Sz k z :=
  is_sz (mul_ne hp.1 hq.1) h (szSub (szMul sp.1 sq.2) (szMul sq.1 sp.2) (by omega) (by omega)) (szMono (szMul sp.2 sq.2) (by omega))
theorem pro_sz {p q z : Qt} {i j k : Nat} (h : pro2 p q z) (hp : Nf p) (hq : Nf q) (sp : Sz i p) (sq : Sz j q) (l : i + j < k) : Sz k z :=
  is_sz (mul_ne hp.1 hq.1) h (szMono (szMul sp.1 sq.1) (by omega)) (szMono (szMul sp.2 sq.2) (by omega))
theorem quo_sz {p q z : Qt} {i j k : Nat} (h : quo2 p q z) (hp : Nf p) (h0 : q.1 ≠ 0) (sp : Sz i p) (sq : Sz j q) (l : i + j < k) : Sz k z :=
  is_sz (Int.mul_ne_zero hp.ne h0) h (szMono (szMul sp.1 sq.2) (by omega)) (szMono (szMul sp.2 sq.1) (by omega))
theorem Tur.unique {p q m y z : Qt} (hp : Nf p) (hq : Nf q) (hm : Nf m) (h1 : Tur p q m y) (h2 : Tur p q m z) : y = z := by
  obtain ⟨t, a, b⟩ := h1
  obtain ⟨u, c, d⟩ := h2
  obtain rfl := is_unique (mul_ne hp.1 hm.1) a c
  exact is_unique (mul_ne hq.1 a.1.1) b d
def spTurns (K : PySem.W.Frag) (C : Addr) : Sp := fun vs H Q _ => ∃ (c a : Addr) (p q m : Qt) (n j : Nat), vs = [.ref c, .ref a] ∧ CyAt K C n H c p q ∧ Fq K H j a m ∧ n + j ≤ 2900 ∧ ∀ y, Tur p q m y → Sz (2 * n + j + 3) y → Gv K H Q y
def spPlace (K : PySem.W.Frag) (C : Addr) : Sp := fun vs H Q _ => ∃ (c a : Addr) (p q m : Qt) (n j : Nat), vs = [.ref c, .ref a] ∧ CyAt K C n H c p q ∧ Fq K H j a m ∧ n + j ≤ 2900 ∧ ∀ y, Tur p q m y → Sz (2 * n + j + 3) y → Gv K H Q (y.1 % y.2, y.2)
abbrev sCyTurns : Stmt := inClass (topS 32) 6
theorem scCyTurns : FnScope ["self", "moment"] ["self", "moment"] (defScope sCyTurns) := ⟨rfl, rfl, rfl, by decide +kernel, rfl, by decide +kernel, by decide +kernel⟩
theorem ok_CyTurns {C f : Addr} {fd : FuncData} (T : Bt K mg) (Y : CyC K mg C) (d_require : Kn P w K mg base 1 "require" ["well_formed", "what"] spRequire) (d_is_fraction : Kn P w K mg base 2 "is_fraction" ["value"] (spIsFraction K)) (d_plus : Kn P w K mg base 3 "plus" ["left", "right"] (spBin K sum2)) (d_times : Kn P w K mg base 3 "times" ["left", "right"] (spBin K pro2)) (F : Fun K "turns" "Cycle.turns" sCyTurns f fd) : FnOk P w K mg base CX0 4 f fd ["self", "moment"] (spTurns K C) := by
  refine F.ok scCyTurns (fun vs H Q E h => ?_) (fun cdv A outer s H vs Q E hr h => ?_)
  · obtain ⟨c, a, p, q, m, n, j, rfl, _⟩ := h
    rfl
  obtain ⟨c, a, p, q, m, n, j, rfl, hc, hm, hj, k⟩ := h
  refine ⟨_, (pss_cons (ps_expr (pe_kn d_require hr (by rfl) (pa_cons (pe_kn d_is_fraction hr (by rfl) (pa_cons (pv 1) pa_nil)) (pa_cons pe_str pa_nil))))
      (pss_one (ps_ret (pe_kn d_plus hr (by rfl) (pa_cons (pe_fld (pv 0) rfl) (pa_cons (pe_kn d_times hr (by rfl) (pa_cons (pe_fld (pv 0) rfl) (pa_cons (pv 1) pa_nil))) pa_nil)))))), ?_⟩
  obtain ⟨dx, ra, sb, v, hc, hp, hq, hv⟩ := hc
  refine ⟨_, rfl, _, rfl, Tyd.fr hm.o, _, by rw [frOk_fr hm.o hm.nf]; rfl, ?_⟩
  refine ⟨_, rfl, c, C, dx, _, _, rfl, hc, Y.cl, Y.nS, cy_start _ _ _, _, rfl, c, C, dx, _, _, rfl, hc, Y.cl, Y.nR, cy_rate _ _ _, _, rfl, ?_⟩
  refine ⟨ra, a, p, m, rfl, hp.mono (by omega), hm.mono (by omega), fun t ht d H1 s1 o1 => ?_⟩
  have st : Sz (n + j + 1) t := pro_sz ht hp.nf hm.nf hp.sz hm.sz (by omega)
  exact ⟨sb, d, q, t, rfl, (hq.f.same s1).mono (by omega), ⟨o1, ht.1, st.mono (by omega)⟩, fun y hy e H2 s2 o2 => k y ⟨t, ht, hy⟩ (sum_sz hy hq.f.nf ht.1 hq.f.sz (pro_sz (k := n + j + 1) ht hp.nf hm.nf hp.sz hm.sz (by omega)) (by omega)) e H2 (s1.trans s2) o2⟩
abbrev sCyPlace : Stmt := inClass (topS 32) 7
theorem scCyPlace : FnScope ["self", "moment"] ["self", "moment"] (defScope sCyPlace) := ⟨rfl, rfl, rfl, by decide +kernel, rfl, by decide +kernel, by decide +kernel⟩
theorem ok_CyPlace {C f : Addr} {fd : FuncData} (T : Bt K mg) (Y : CyC K mg C) (m_turns : C8.Met P w K mg base 4 C "turns" (spTurns K C) []) (d_require : Kn P w K mg base 1 "require" ["well_formed", "what"] spRequire) (d_is_fraction : Kn P w K mg base 2 "is_fraction" ["value"] (spIsFraction K)) (d_part_of : Kn P w K mg base 3 "part_of" ["value"] (spUn K fun q => (q.1 % q.2, q.2))) (F : Fun K "place" "Cycle.place" sCyPlace f fd) : FnOk P w K mg base CX0 5 f fd ["self", "moment"] (spPlace K C) := by
  refine F.ok scCyPlace (fun vs H Q E h => ?_) (fun cdv A outer s H vs Q E hr h => ?_)
  · obtain ⟨c, a, p, q, m, n, j, rfl, _⟩ := h
    rfl
  obtain ⟨c, a, p, q, m, n, j, rfl, hc, hm, hj, k⟩ := h
  refine ⟨_, (pss_cons (ps_expr (pe_kn d_require hr (by rfl) (pa_cons (pe_kn d_is_fraction hr (by rfl) (pa_cons (pv 1) pa_nil)) (pa_cons pe_str pa_nil))))
      (pss_one (ps_ret (pe_kn d_part_of hr (by rfl) (pa_cons (C8.pe_mt m_turns hr (by omega) (pv 0) (pa_cons (pv 1) pa_nil)) pa_nil))))), ?_⟩
  refine ⟨_, rfl, _, rfl, Tyd.fr hm.o, _, by rw [frOk_fr hm.o hm.nf]; rfl, ?_⟩
  have hc' := hc
  obtain ⟨dx, ra, sb, v, hi, hp, hq, hv⟩ := hc
  refine ⟨_, rfl, c, dx, _, rfl, hi, rfl, _, rfl, c, a, p, q, m, n, j, rfl, hc', hm, hj, fun y hy sy b H1 s1 o1 => ?_⟩
  obtain ⟨t, ht, hz⟩ := id hy
  exact ⟨b, y, rfl, ⟨o1, hz.1, sy.mono (by omega)⟩, fun e H2 s2 o2 => k y hy sy e H2 (s1.trans s2) o2⟩
theorem same_make {H : Hp} {c dx C : Addr} (h1 : H c = none) (h2 : H dx = none) : Same H (upd (upd H dx (.own c)) c (.ins C dx [])) := fun b o e => by
  rw [upd_ne (ne_of_none e h1), upd_ne (ne_of_none e h2)]
  exact e
def spWith (K : PySem.W.Frag) (C : Addr) : Sp := fun vs H Q _ => ∃ (a b : Addr) (p q : Qt), vs = [.ref a, .ref b] ∧ Fq K H 140 a p ∧ p.1 ≠ 0 ∧ Pq K H 140 b q ∧ ∀ z c H', quo2 (1, 1) p z → Same H H' → CyAt K C 300 H' c z q → Q (.ref c) H'
end
end My

namespace My
open PySem PySem.Spec PyProof.Rows L2
section
variable {P : Program} {w : World} {K : PySem.W.Frag} {mg : Str → Option Value} {base : Heap}
theorem eqv_tup {H : Hp} {a b : Addr} {xs : List V} (oa : ob K H a = some (.tup xs)) (ob' : ob K H b = some (.tup xs)) (hs : xs.all scv = true) (hl : xs.length ≤ 1000) : Eqv K H 1 (.ref a) (.ref b) := by
  refine .inr ⟨a, b, xs, xs, rfl, rfl, .inl ⟨oa, ob'⟩, rfl, hl, fun i x y hx hy => ?_⟩
  rw [hx] at hy
  cases hy
  exact ⟨rfl, List.all_eq_true.mp hs x (List.mem_of_getElem? hx)⟩
theorem eqv_two {H : Hp} {a b : Addr} {p : Qt} (oa : ob K H a = some (.tup [.int p.1, .int p.2])) (ob' : ob K H b = some (.tup [.int p.1, .int p.2])) : Eqv K H 2 (.ref a) (.ref b) := (eqv_tup (xs := [.int p.1, .int p.2]) oa ob' rfl (by show 2 ≤ 1000; decide)).up
theorem eqv_row {H : Hp} {t u a b c d : Addr} {p q : Qt} (ot : ob K H t = some (.tup [.ref a, .ref b])) (ou : ob K H u = some (.tup [.ref c, .ref d])) (oa : ob K H a = some (.tup [.int p.1, .int p.2])) (o2 : ob K H b = some (.tup [.int q.1, .int q.2]))
    (o3 : ob K H c = some (.tup [.int p.1, .int p.2])) (o4 : ob K H d = some (.tup [.int q.1, .int q.2])) : Eqv K H 2 (.ref t) (.ref u) := by
  refine .inr ⟨t, u, _, _, rfl, rfl, .inl ⟨ot, ou⟩, rfl, by show 2 ≤ 1000; decide, fun i x y hx hy => ?_⟩
  match i with
  | 0 =>
    cases hx
    cases hy
    exact eqv_tup (xs := [.int p.1, .int p.2]) oa o3 rfl (by show 2 ≤ 1000; decide)
  | 1 =>
    cases hx
    cases hy
    exact eqv_tup (xs := [.int q.1, .int q.2]) o2 o4 rfl (by show 2 ≤ 1000; decide)
  | n + 2 => cases hx
theorem itsO_of {H : Hp} {a : Addr} {xs : List V} (h : ob K H a = some (.tup xs)) : itsO (ob K H a) = some xs := by rw [h]; rfl
theorem sz2 {n : Nat} (h : n ≤ 100) : n ≤ sizeLine := by rw [sizeLine_eq]; omega
/-- either answer will do -/
def spFitsI : Sp := fun vs H Q _ => ∃ n : Int, vs = [.int n] ∧ ∀ b H', Same H H' → Q (.bl b) H'
def spFitsT (K : PySem.W.Frag) : Sp := fun vs H Q _ => ∃ (a : Addr) (x y : Int), vs = [.ref a] ∧ ob K H a = some (.tup [.int x, .int y]) ∧ ∀ b H', Same H H' → Q (.bl b) H'
def FitsI (a : Addr) (H : Hp) (_ : Nat) (σ : L2.St) (H' : Hp) : Prop := ∃ z, σ = [some (.ref a), z] ∧ Same H H'

abbrev sFits : Stmt := topS 49
theorem scFits : FnScope ["_law_thing", "_law_item"] ["_law_thing"] (defScope sFits) := ⟨rfl, rfl, rfl, by decide +kernel, rfl, by decide +kernel, by decide +kernel⟩
theorem k_Fits (T : Bt K mg) (D : Dfn K mg "_law_fits" sFits ["_law_thing"]) (d__law_fits : Kn P w K mg base 0 "_law_fits" ["_law_thing"] (fun _ _ _ _ => False)) : Kn P w K mg base 1 "_law_fits" ["_law_thing"] spFitsI := by
  refine Kn.mk' D scFits (fun vs H Q E h => ?_) (fun f cdv A outer s H vs Q E hr h => ?_)
  · obtain ⟨n, rfl, _⟩ := h
    rfl
  obtain ⟨n, rfl, k⟩ := h
  refine ⟨_, (pss_cons (ps_if (pt_val (pe_callB call_isT (by rfl) T.b_isinstance (by decide +kernel) (pa_cons (pv 0) (pa_cons (pe_tp (pa_cons (pe_bltn (v := .ty "list") (by rfl) T.b_list (by decide +kernel) rfl) (pa_cons (pe_bltn (v := .ty "tuple") (by rfl) T.b_tuple (by decide +kernel) rfl) pa_nil))) pa_nil)))) (pss_cons (ps_for PassesOwn.never rfl (pi_tup (pv 0)) (pg_name (i := 1) scFits.nd rfl (.inl rfl)) (pss_one (ps_if (pt_not (pt_val (pe_kn d__law_fits hr (by rfl) (pa_cons (pv 1) pa_nil)))) (pss_one (ps_ret pe_bl)) pss_nil)))
      (pss_one (ps_ret pe_bl))) pss_nil)
      (pss_one (ps_ret (pe_or (pe_not (pe_callB call_isN (by rfl) T.b_isinstance (by decide +kernel) (pa_cons (pv 0) (pa_cons (pe_bltn (v := .ty "int") (by rfl) T.b_int (by decide +kernel) rfl) pa_nil)))) (pe_one (pe_cmpR op_lt (pe_callB call_abs (by rfl) T.b_abs (by decide +kernel) (pa_cons (pv 0) pa_nil)) (pe_op op_pow pe_int pe_int) (nomark _))))))), ?_⟩
  simp only [cx_K, decide_true, decide_false, reduceCtorEq, gTp, gCons, gNil, ca_0, ca_1, ca_2, ca_3, ca_4, ca_5, ca_6, ca_7, ca_8, ca_9, ca_10, ca_11, ca_12, ca_13, ca_14, ca_15, ca_16, ca_17, ca_18, ca_19, ca_20, ca_21, ca_22, ca_23, ca_24, ca_25, ca_26, ca_27, ca_28, ca_29, ca_30, not_true_eq_false, not_false_eq_true, Int.reduceEq, Nat.reduceEqDiff, Nat.reduceLeDiff, rGcd, V.ty.injEq, eq_self, List.not_mem_nil, beq_self_eq_true, HO.lst.injEq, HO.tup.injEq, tFor_eq, iRng1, iList, iTup, nat10, tSeq, rIxA, rSetA, rIsN, rIsT, tTp, tLs, itsO_tup, itsO_lst, tyO_tup, tyO_lst, tyO_dK, tyN_non, tyN_bl, tyN_int, tyN_str, tyN_ref, tyNs_lt, isB, upd_same, upd_upd, sizeLine_eq, List.mem_cons, String.reduceBEq, String.reduceEq, Bool.or_false, Bool.or_true, Bool.and_false, Bool.false_or, Bool.and_self, Bool.false_and, Bool.not_false, Bool.not_true, List.any_cons, List.any_nil, atI_0, setI_0, atI_1, setI_1, atI_2, setI_2, atI_3, setI_3, atI_4, setI_4, atI_5, setI_5, atI_6, setI_6, tAsg, gName, tOp, tUn, tVar, tC, tCons, L2.tNil, tRet, tIfS, tTest, tCB, tCall, rI, rI0, rU, tNext, tB, tAnd, tOr, tNot, tAndV, tOrV, tNotV, tDrop, tIf, tPar, gSub, rIxL, rIxT, rEq, rNe, rSetL, tBits,
    L2.start, List.map_cons, List.map_nil, List.cons_append, List.nil_append, List.append_nil, List.length_cons, List.length_nil, List.replicate, Nat.reduceAdd, Nat.reduceSub, Nat.zero_add, List.getElem?_cons_zero, List.getElem?_cons_succ, List.set_cons_zero, List.set_cons_succ,
    Option.some.injEq, exists_eq_left', exists_eq_left, V.int.injEq, V.bl.injEq, V.ref.injEq, V.str.injEq, List.cons.injEq, reduceCtorEq, and_true, true_and, false_and, and_false, exists_false, or_false, false_or, or_true, true_or, exists_const, CMul, CDiv, CPow, and_assoc, exists_and_left, exists_and_right, Int.reducePow, Int.reduceNeg, Int.reduceLT, Int.reduceLE, Nat.reducePow, Nat.reduceLT, Int.reduceToNat, gt_iff_lt, ge_iff_le, decide_eq_true_eq, Bool.not_eq_true', decide_eq_false_iff_not, scal, ↓reduceIte, Bool.false_eq_true]
  intro p hp kp
  have s1 := Same.new hp (.tup [V.ty "list", V.ty "tuple"])
  generalize upd H p (.tup [V.ty "list", V.ty "tuple"]) = H1 at s1 ⊢
  exact k _ H1 s1
theorem k_Fits2 (T : Bt K mg) (D : Dfn K mg "_law_fits" sFits ["_law_thing"]) (d__law_fits : Kn P w K mg base 1 "_law_fits" ["_law_thing"] spFitsI) : Kn P w K mg base 2 "_law_fits" ["_law_thing"] (spFitsT K) := by
  refine Kn.mk' D scFits (fun vs H Q E h => ?_) (fun f cdv A outer s H vs Q E hr h => ?_)
  · obtain ⟨a, x, y, rfl, _⟩ := h
    rfl
  obtain ⟨a, x, y, rfl, oa, k⟩ := h
  refine ⟨_, (pss_cons (ps_if (pt_val (pe_callB call_isT (by rfl) T.b_isinstance (by decide +kernel) (pa_cons (pv 0) (pa_cons (pe_tp (pa_cons (pe_bltn (v := .ty "list") (by rfl) T.b_list (by decide +kernel) rfl) (pa_cons (pe_bltn (v := .ty "tuple") (by rfl) T.b_tuple (by decide +kernel) rfl) pa_nil))) pa_nil)))) (pss_cons (ps_for PassesOwn.never rfl (pi_tup (pv 0)) (pg_name (i := 1) scFits.nd rfl (.inl rfl)) (pss_one (ps_if (pt_not (pt_val (pe_kn d__law_fits hr (by rfl) (pa_cons (pv 1) pa_nil)))) (pss_one (ps_ret pe_bl)) pss_nil)))
      (pss_one (ps_ret pe_bl))) pss_nil)
      (pss_one (ps_ret (pe_or (pe_not (pe_callB call_isN (by rfl) T.b_isinstance (by decide +kernel) (pa_cons (pv 0) (pa_cons (pe_bltn (v := .ty "int") (by rfl) T.b_int (by decide +kernel) rfl) pa_nil)))) (pe_one (pe_cmpR op_lt (pe_callB call_abs (by rfl) T.b_abs (by decide +kernel) (pa_cons (pv 0) pa_nil)) (pe_op op_pow pe_int pe_int) (nomark _))))))), ?_⟩
  simp only [oa, cx_K, decide_true, decide_false, reduceCtorEq, gTp, gCons, gNil, ca_0, ca_1, ca_2, ca_3, ca_4, ca_5, ca_6, ca_7, ca_8, ca_9, ca_10, ca_11, ca_12, ca_13, ca_14, ca_15, ca_16, ca_17, ca_18, ca_19, ca_20, ca_21, ca_22, ca_23, ca_24, ca_25, ca_26, ca_27, ca_28, ca_29, ca_30, not_true_eq_false, not_false_eq_true, Int.reduceEq, Nat.reduceEqDiff, Nat.reduceLeDiff, rGcd, V.ty.injEq, eq_self, List.not_mem_nil, beq_self_eq_true, HO.lst.injEq, HO.tup.injEq, tFor_eq, iRng1, iList, iTup, nat10, tSeq, rIxA, rSetA, rIsN, rIsT, tTp, tLs, itsO_tup, itsO_lst, tyO_tup, tyO_lst, tyO_dK, tyN_non, tyN_bl, tyN_int, tyN_str, tyN_ref, tyNs_lt, isB, upd_same, upd_upd, sizeLine_eq, List.mem_cons, String.reduceBEq, String.reduceEq, Bool.or_false, Bool.or_true, Bool.and_false, Bool.false_or, Bool.and_self, Bool.false_and, Bool.not_false, Bool.not_true, List.any_cons, List.any_nil, atI_0, setI_0, atI_1, setI_1, atI_2, setI_2, atI_3, setI_3, atI_4, setI_4, atI_5, setI_5, atI_6, setI_6, tAsg, gName, tOp, tUn, tVar, tC, tCons, L2.tNil, tRet, tIfS, tTest, tCB, tCall, rI, rI0, rU, tNext, tB, tAnd, tOr, tNot, tAndV, tOrV, tNotV, tDrop, tIf, tPar, gSub, rIxL, rIxT, rEq, rNe, rSetL, tBits,
    L2.start, List.map_cons, List.map_nil, List.cons_append, List.nil_append, List.append_nil, List.length_cons, List.length_nil, List.replicate, Nat.reduceAdd, Nat.reduceSub, Nat.zero_add, List.getElem?_cons_zero, List.getElem?_cons_succ, List.set_cons_zero, List.set_cons_succ,
    Option.some.injEq, exists_eq_left', exists_eq_left, V.int.injEq, V.bl.injEq, V.ref.injEq, V.str.injEq, List.cons.injEq, reduceCtorEq, and_true, true_and, false_and, and_false, exists_false, or_false, false_or, or_true, true_or, exists_const, CMul, CDiv, CPow, and_assoc, exists_and_left, exists_and_right, Int.reducePow, Int.reduceNeg, Int.reduceLT, Int.reduceLE, Nat.reducePow, Nat.reduceLT, Int.reduceToNat, gt_iff_lt, ge_iff_le, decide_eq_true_eq, Bool.not_eq_true', decide_eq_false_iff_not, scal, ↓reduceIte, Bool.false_eq_true]
  intro p hp kp
  have s1 := Same.new hp (.tup [V.ty "list", V.ty "tuple"])
  generalize upd H p (.tup [V.ty "list", V.ty "tuple"]) = H1 at s1 ⊢
  have oa1 := ob_same s1 oa
  simp only [oa1, cx_K, decide_true, decide_false, reduceCtorEq, gTp, gCons, gNil, ca_0, ca_1, ca_2, ca_3, ca_4, ca_5, ca_6, ca_7, ca_8, ca_9, ca_10, ca_11, ca_12, ca_13, ca_14, ca_15, ca_16, ca_17, ca_18, ca_19, ca_20, ca_21, ca_22, ca_23, ca_24, ca_25, ca_26, ca_27, ca_28, ca_29, ca_30, not_true_eq_false, not_false_eq_true, Int.reduceEq, Nat.reduceEqDiff, Nat.reduceLeDiff, rGcd, V.ty.injEq, eq_self, List.not_mem_nil, beq_self_eq_true, HO.lst.injEq, HO.tup.injEq, tFor_eq, iRng1, iList, iTup, nat10, tSeq, rIxA, rSetA, rIsN, rIsT, tTp, tLs, itsO_tup, itsO_lst, tyO_tup, tyO_lst, tyO_dK, tyN_non, tyN_bl, tyN_int, tyN_str, tyN_ref, tyNs_lt, isB, upd_same, upd_upd, sizeLine_eq, List.mem_cons, String.reduceBEq, String.reduceEq, Bool.or_false, Bool.or_true, Bool.and_false, Bool.false_or, Bool.and_self, Bool.false_and, Bool.not_false, Bool.not_true, List.any_cons, List.any_nil, atI_0, setI_0, atI_1, setI_1, atI_2, setI_2, atI_3, setI_3, atI_4, setI_4, atI_5, setI_5, atI_6, setI_6, tAsg, gName, tOp, tUn, tVar, tC, tCons, L2.tNil, tRet, tIfS, tTest, tCB, tCall, rI, rI0, rU, tNext, tB, tAnd, tOr, tNot, tAndV, tOrV, tNotV, tDrop, tIf, tPar, gSub, rIxL, rIxT, rEq, rNe, rSetL, tBits,
    L2.start, List.map_cons, List.map_nil, List.cons_append, List.nil_append, List.append_nil, List.length_cons, List.length_nil, List.replicate, Nat.reduceAdd, Nat.reduceSub, Nat.zero_add, List.getElem?_cons_zero, List.getElem?_cons_succ, List.set_cons_zero, List.set_cons_succ,
    Option.some.injEq, exists_eq_left', exists_eq_left, V.int.injEq, V.bl.injEq, V.ref.injEq, V.str.injEq, List.cons.injEq, reduceCtorEq, and_true, true_and, false_and, and_false, exists_false, or_false, false_or, or_true, true_or, exists_const, CMul, CDiv, CPow, and_assoc, exists_and_left, exists_and_right, Int.reducePow, Int.reduceNeg, Int.reduceLT, Int.reduceLE, Nat.reducePow, Nat.reduceLT, Int.reduceToNat, gt_iff_lt, ge_iff_le, decide_eq_true_eq, Bool.not_eq_true', decide_eq_false_iff_not, scal, ↓reduceIte, Bool.false_eq_true]
  refine ⟨⟨_, ob_tup oa1⟩, forI_tup (xs := [.int x, .int y]) (FitsI a H) ⟨none, rfl, s1⟩ ?_ ?_ ?_⟩
  · rintro i σ H' _ ⟨z, rfl, s2⟩
    exact ob_tup (ob_same s2 oa)
  · rintro i v σ H' hi ⟨z, rfl, s2⟩
    obtain ⟨n, rfl⟩ : ∃ n : Int, v = .int n := by
      have hv := List.mem_of_getElem? hi
      simp only [List.mem_cons, List.not_mem_nil, or_false] at hv
      rcases hv with rfl | rfl <;> exact ⟨_, rfl⟩
    simp only [cx_K, decide_true, decide_false, reduceCtorEq, gTp, gCons, gNil, ca_0, ca_1, ca_2, ca_3, ca_4, ca_5, ca_6, ca_7, ca_8, ca_9, ca_10, ca_11, ca_12, ca_13, ca_14, ca_15, ca_16, ca_17, ca_18, ca_19, ca_20, ca_21, ca_22, ca_23, ca_24, ca_25, ca_26, ca_27, ca_28, ca_29, ca_30, not_true_eq_false, not_false_eq_true, Int.reduceEq, Nat.reduceEqDiff, Nat.reduceLeDiff, rGcd, V.ty.injEq, eq_self, List.not_mem_nil, beq_self_eq_true, HO.lst.injEq, HO.tup.injEq, tFor_eq, iRng1, iList, iTup, nat10, tSeq, rIxA, rSetA, rIsN, rIsT, tTp, tLs, itsO_tup, itsO_lst, tyO_tup, tyO_lst, tyO_dK, tyN_non, tyN_bl, tyN_int, tyN_str, tyN_ref, tyNs_lt, isB, upd_same, upd_upd, sizeLine_eq, List.mem_cons, String.reduceBEq, String.reduceEq, Bool.or_false, Bool.or_true, Bool.and_false, Bool.false_or, Bool.and_self, Bool.false_and, Bool.not_false, Bool.not_true, List.any_cons, List.any_nil, atI_0, setI_0, atI_1, setI_1, atI_2, setI_2, atI_3, setI_3, atI_4, setI_4, atI_5, setI_5, atI_6, setI_6, tAsg, gName, tOp, tUn, tVar, tC, tCons, L2.tNil, tRet, tIfS, tTest, tCB, tCall, rI, rI0, rU, tNext, tB, tAnd, tOr, tNot, tAndV, tOrV, tNotV, tDrop, tIf, tPar, gSub, rIxL, rIxT, rEq, rNe, rSetL, tBits,
    L2.start, List.map_cons, List.map_nil, List.cons_append, List.nil_append, List.append_nil, List.length_cons, List.length_nil, List.replicate, Nat.reduceAdd, Nat.reduceSub, Nat.zero_add, List.getElem?_cons_zero, List.getElem?_cons_succ, List.set_cons_zero, List.set_cons_succ,
    Option.some.injEq, exists_eq_left', exists_eq_left, V.int.injEq, V.bl.injEq, V.ref.injEq, V.str.injEq, List.cons.injEq, reduceCtorEq, and_true, true_and, false_and, and_false, exists_false, or_false, false_or, or_true, true_or, exists_const, CMul, CDiv, CPow, and_assoc, exists_and_left, exists_and_right, Int.reducePow, Int.reduceNeg, Int.reduceLT, Int.reduceLE, Nat.reducePow, Nat.reduceLT, Int.reduceToNat, gt_iff_lt, ge_iff_le, decide_eq_true_eq, Bool.not_eq_true', decide_eq_false_iff_not, scal, ↓reduceIte, Bool.false_eq_true]
    refine ⟨n, rfl, fun b H2 s3 => ⟨b, rfl, ?_⟩⟩
    cases b
    · rw [if_pos rfl]
      exact k false H2 (s2.trans s3)
    · rw [if_neg (by simp)]
      exact ⟨_, rfl, s2.trans s3⟩
  · rintro σ H' ⟨z, rfl, s2⟩
    simp only [cx_K, decide_true, decide_false, reduceCtorEq, gTp, gCons, gNil, ca_0, ca_1, ca_2, ca_3, ca_4, ca_5, ca_6, ca_7, ca_8, ca_9, ca_10, ca_11, ca_12, ca_13, ca_14, ca_15, ca_16, ca_17, ca_18, ca_19, ca_20, ca_21, ca_22, ca_23, ca_24, ca_25, ca_26, ca_27, ca_28, ca_29, ca_30, not_true_eq_false, not_false_eq_true, Int.reduceEq, Nat.reduceEqDiff, Nat.reduceLeDiff, rGcd, V.ty.injEq, eq_self, List.not_mem_nil, beq_self_eq_true, HO.lst.injEq, HO.tup.injEq, tFor_eq, iRng1, iList, iTup, nat10, tSeq, rIxA, rSetA, rIsN, rIsT, tTp, tLs, itsO_tup, itsO_lst, tyO_tup, tyO_lst, tyO_dK, tyN_non, tyN_bl, tyN_int, tyN_str, tyN_ref, tyNs_lt, isB, upd_same, upd_upd, sizeLine_eq, List.mem_cons, String.reduceBEq, String.reduceEq, Bool.or_false, Bool.or_true, Bool.and_false, Bool.false_or, Bool.and_self, Bool.false_and, Bool.not_false, Bool.not_true, List.any_cons, List.any_nil, atI_0, setI_0, atI_1, setI_1, atI_2, setI_2, atI_3, setI_3, atI_4, setI_4, atI_5, setI_5, atI_6, setI_6, tAsg, gName, tOp, tUn, tVar, tC, tCons, L2.tNil, tRet, tIfS, tTest, tCB, tCall, rI, rI0, rU, tNext, tB, tAnd, tOr, tNot, tAndV, tOrV, tNotV, tDrop, tIf, tPar, gSub, rIxL, rIxT, rEq, rNe, rSetL, tBits,
    L2.start, List.map_cons, List.map_nil, List.cons_append, List.nil_append, List.append_nil, List.length_cons, List.length_nil, List.replicate, Nat.reduceAdd, Nat.reduceSub, Nat.zero_add, List.getElem?_cons_zero, List.getElem?_cons_succ, List.set_cons_zero, List.set_cons_succ,
    Option.some.injEq, exists_eq_left', exists_eq_left, V.int.injEq, V.bl.injEq, V.ref.injEq, V.str.injEq, List.cons.injEq, reduceCtorEq, and_true, true_and, false_and, and_false, exists_false, or_false, false_or, or_true, true_or, exists_const, CMul, CDiv, CPow, and_assoc, exists_and_left, exists_and_right, Int.reducePow, Int.reduceNeg, Int.reduceLT, Int.reduceLE, Nat.reducePow, Nat.reduceLT, Int.reduceToNat, gt_iff_lt, ge_iff_le, decide_eq_true_eq, Bool.not_eq_true', decide_eq_false_iff_not, scal, ↓reduceIte, Bool.false_eq_true]
    exact k true H' s2
def spCycleW (K : PySem.W.Frag) : Sp := fun vs H Q _ => ∃ (s : Addr), vs = [.ref s] ∧ Sto K H s ∧ ∀ t a b p q H', ob K H' t = some (.tup [.ref a, .ref b]) → Fq K H' 133 a p → Pq K H' 133 b q → Kp s H H' → Sto K H' s → Q (.ref t) H'
abbrev sCycleW : Stmt := topS 58
theorem scCycleW : FnScope ["_law_store_here"] ["_law_store_here"] (defScope sCycleW) := ⟨rfl, rfl, rfl, by decide +kernel, rfl, by decide +kernel, by decide +kernel⟩
theorem k_CycleW (T : Bt K mg) (D : Dfn K mg "_law_cycle_wide" sCycleW ["_law_store_here"]) (d__law_frac_wide : Kn P w K mg base 4 "_law_frac_wide" ["_law_store_here"] (spDFrac K 133)) (d__law_place_wide : Kn P w K mg base 4 "_law_place_wide" ["_law_store_here"] (spDPlace K 133)) : Kn P w K mg base 5 "_law_cycle_wide" ["_law_store_here"] (spCycleW K) := by
  refine Kn.mk' D scCycleW (fun vs H Q E h => ?_) (fun f cdv A outer s H vs Q E hr h => ?_)
  · obtain ⟨s, rfl, _⟩ := h
    rfl
  obtain ⟨s, rfl, hS, k⟩ := h
  refine ⟨_, (pss_one (ps_ret (pe_tp (pa_cons (pe_kn d__law_frac_wide hr (by rfl) (pa_cons (pv 0) pa_nil)) (pa_cons (pe_kn d__law_place_wide hr (by rfl) (pa_cons (pv 0) pa_nil)) pa_nil))))), ?_⟩
  simp only [cx_K, decide_true, decide_false, reduceCtorEq, gTp, gCons, gNil, ca_0, ca_1, ca_2, ca_3, ca_4, ca_5, ca_6, ca_7, ca_8, ca_9, ca_10, ca_11, ca_12, ca_13, ca_14, ca_15, ca_16, ca_17, ca_18, ca_19, ca_20, ca_21, ca_22, ca_23, ca_24, ca_25, ca_26, ca_27, ca_28, ca_29, ca_30, not_true_eq_false, not_false_eq_true, Int.reduceEq, Nat.reduceEqDiff, Nat.reduceLeDiff, rGcd, V.ty.injEq, eq_self, List.not_mem_nil, beq_self_eq_true, HO.lst.injEq, HO.tup.injEq, tFor_eq, iRng1, iList, iTup, nat10, tSeq, rIxA, rSetA, rIsN, rIsT, tTp, tLs, itsO_tup, itsO_lst, tyO_tup, tyO_lst, tyO_dK, tyN_non, tyN_bl, tyN_int, tyN_str, tyN_ref, tyNs_lt, isB, upd_same, upd_upd, sizeLine_eq, List.mem_cons, String.reduceBEq, String.reduceEq, Bool.or_false, Bool.or_true, Bool.and_false, Bool.false_or, Bool.and_self, Bool.false_and, Bool.not_false, Bool.not_true, List.any_cons, List.any_nil, atI_0, setI_0, atI_1, setI_1, atI_2, setI_2, atI_3, setI_3, atI_4, setI_4, atI_5, setI_5, atI_6, setI_6, tAsg, gName, tOp, tUn, tVar, tC, tCons, L2.tNil, tRet, tIfS, tTest, tCB, tCall, rI, rI0, rU, tNext, tB, tAnd, tOr, tNot, tAndV, tOrV, tNotV, tDrop, tIf, tPar, gSub, rIxL, rIxT, rEq, rNe, rSetL, tBits,
    L2.start, List.map_cons, List.map_nil, List.cons_append, List.nil_append, List.append_nil, List.length_cons, List.length_nil, List.replicate, Nat.reduceAdd, Nat.reduceSub, Nat.zero_add, List.getElem?_cons_zero, List.getElem?_cons_succ, List.set_cons_zero, List.set_cons_succ,
    Option.some.injEq, exists_eq_left', exists_eq_left, V.int.injEq, V.bl.injEq, V.ref.injEq, V.str.injEq, List.cons.injEq, reduceCtorEq, and_true, true_and, false_and, and_false, exists_false, or_false, false_or, or_true, true_or, exists_const, CMul, CDiv, CPow, and_assoc, exists_and_left, exists_and_right, Int.reducePow, Int.reduceNeg, Int.reduceLT, Int.reduceLE, Nat.reducePow, Nat.reduceLT, Int.reduceToNat, gt_iff_lt, ge_iff_le, decide_eq_true_eq, Bool.not_eq_true', decide_eq_false_iff_not, scal, ↓reduceIte, Bool.false_eq_true]
  refine ⟨s, rfl, hS, fun a p H1 hp kp1 st1 => ⟨s, rfl, st1, fun b q H2 hq kp2 st2 => ?_⟩⟩
  try simp only [cx_K, decide_true, decide_false, reduceCtorEq, gTp, gCons, gNil, ca_0, ca_1, ca_2, ca_3, ca_4, ca_5, ca_6, ca_7, ca_8, ca_9, ca_10, ca_11, ca_12, ca_13, ca_14, ca_15, ca_16, ca_17, ca_18, ca_19, ca_20, ca_21, ca_22, ca_23, ca_24, ca_25, ca_26, ca_27, ca_28, ca_29, ca_30, not_true_eq_false, not_false_eq_true, Int.reduceEq, Nat.reduceEqDiff, Nat.reduceLeDiff, rGcd, V.ty.injEq, eq_self, List.not_mem_nil, beq_self_eq_true, HO.lst.injEq, HO.tup.injEq, tFor_eq, iRng1, iList, iTup, nat10, tSeq, rIxA, rSetA, rIsN, rIsT, tTp, tLs, itsO_tup, itsO_lst, tyO_tup, tyO_lst, tyO_dK, tyN_non, tyN_bl, tyN_int, tyN_str, tyN_ref, tyNs_lt, isB, upd_same, upd_upd, sizeLine_eq, List.mem_cons, String.reduceBEq, String.reduceEq, Bool.or_false, Bool.or_true, Bool.and_false, Bool.false_or, Bool.and_self, Bool.false_and, Bool.not_false, Bool.not_true, List.any_cons, List.any_nil, atI_0, setI_0, atI_1, setI_1, atI_2, setI_2, atI_3, setI_3, atI_4, setI_4, atI_5, setI_5, atI_6, setI_6, tAsg, gName, tOp, tUn, tVar, tC, tCons, L2.tNil, tRet, tIfS, tTest, tCB, tCall, rI, rI0, rU, tNext, tB, tAnd, tOr, tNot, tAndV, tOrV, tNotV, tDrop, tIf, tPar, gSub, rIxL, rIxT, rEq, rNe, rSetL, tBits,
    L2.start, List.map_cons, List.map_nil, List.cons_append, List.nil_append, List.append_nil, List.length_cons, List.length_nil, List.replicate, Nat.reduceAdd, Nat.reduceSub, Nat.zero_add, List.getElem?_cons_zero, List.getElem?_cons_succ, List.set_cons_zero, List.set_cons_succ,
    Option.some.injEq, exists_eq_left', exists_eq_left, V.int.injEq, V.bl.injEq, V.ref.injEq, V.str.injEq, List.cons.injEq, reduceCtorEq, and_true, true_and, false_and, and_false, exists_false, or_false, false_or, or_true, true_or, exists_const, CMul, CDiv, CPow, and_assoc, exists_and_left, exists_and_right, Int.reducePow, Int.reduceNeg, Int.reduceLT, Int.reduceLE, Nat.reducePow, Nat.reduceLT, Int.reduceToNat, gt_iff_lt, ge_iff_le, decide_eq_true_eq, Bool.not_eq_true', decide_eq_false_iff_not, scal, ↓reduceIte, Bool.false_eq_true]
  intro t ht kt
  obtain ⟨ys, hys⟩ := st1.at
  have sT := Same.new ht (.tup [.ref a, .ref b])
  exact k t a b p q _ (ob_new kt) ((hp.kp kp2 hys).same sT) (hq.same sT) ((kp1.trans kp2).trans (Kp.same sT)) (st2.same sT)
def spTold (K : PySem.W.Frag) (C : Addr) : Sp := fun vs H Q _ => ∃ (c : Addr) (p q : Qt) (n : Nat), vs = [.ref c] ∧ CyAt K C n H c p q ∧ n ≤ 8000 ∧ ∀ t a b H', Same H H' → ob K H' t = some (.tup [.ref a, .ref b]) → ob K H' a = some (.tup [.int p.1, .int p.2]) → ob K H' b = some (.tup [.int q.1, .int q.2]) → Q (.ref t) H'
abbrev sTold : Stmt := topS 61
theorem scTold : FnScope ["_law_cycle", "_law_due"] ["_law_cycle"] (defScope sTold) := ⟨rfl, rfl, rfl, by decide +kernel, rfl, by decide +kernel, by decide +kernel⟩
theorem k_Told {C : Addr} (Y : CyC K mg C) (IC : C8.InsC K C) (T : Bt K mg) (D : Dfn K mg "_law_cycle_told" sTold ["_law_cycle"]) (d__law_is_frac : Kn P w K mg base 2 "_law_is_frac" ["_law_told"] (spLFrac K)) (d__law_is_place : Kn P w K mg base 3 "_law_is_place" ["_law_told"] (spLPlace K)) (d__law_same : Kn P w K mg base 4 "_law_same" ["_law_told", "_law_due"] (spSame K 3)) : Kn P w K mg base 5 "_law_cycle_told" ["_law_cycle"] (spTold K C) := by
  refine Kn.mk' D scTold (fun vs H Q E h => ?_) (fun f cdv A outer s H vs Q E hr h => ?_)
  · obtain ⟨c, p, q, n, rfl, _⟩ := h
    rfl
  obtain ⟨c, p, q, n, rfl, hc, hn, k⟩ := h
  refine ⟨_, (pss_cons (ps_if (PW.pt (pw_or (pt_not (pt_val (pe_callB (C8.call_isC IC) (by rfl) T.b_isinstance (by decide +kernel) (pa_cons (pv 0) (pa_cons (pe_glob (v := .ref C) (by rfl) Y.g rfl) pa_nil))))) (pw_or (pt_not (pt_val (pe_kn d__law_is_frac hr (by rfl) (pa_cons (pe_fld (pv 0) rfl) pa_nil)))) (pw_or1 (pt_not (pt_val (pe_kn d__law_is_place hr (by rfl) (pa_cons (pe_fld (pv 0) rfl) pa_nil)))))))) (pss_one (ps_ret pe_non)) pss_nil)
      (pss_cons (ps_set (i := 1) scTold.nd rfl (.inl rfl) pe_non)
      (C8.pss_cut (ps_if (pt_cmpR op_ne (pe_ix ix_any (pe_fld (pv 0) rfl) pe_int (fun _ _ => rfl)) pe_int (nomark _)) (pss_one (ps_set (i := 1) scTold.nd rfl (.inl rfl) (pe_tp (pa_cons (pe_ix ix_any (pe_fld (pv 0) rfl) pe_int (fun _ _ => rfl)) (pa_cons (pe_callB call_abs (by rfl) T.b_abs (by decide +kernel) (pa_cons (pe_ix ix_any (pe_fld (pv 0) rfl) pe_int (fun _ _ => rfl)) pa_nil)) pa_nil))))) pss_nil)
      (pss_cons (ps_if (pt_not (pt_val (pe_kn d__law_same hr (by rfl) (pa_cons (pe_fld (pv 0) rfl) (pa_cons (pv 1) pa_nil))))) (pss_one (ps_ret pe_non)) pss_nil)
      (pss_one (ps_ret (pe_tp (pa_cons (pe_fld (pv 0) rfl) (pa_cons (pe_fld (pv 0) rfl) pa_nil))))))))), ?_⟩
  have hc' := hc
  obtain ⟨dx, ra, sb, v, hi, hp, hq, hv⟩ := hc
  refine ⟨_, rfl, c, dx, _, rfl, hi, true, rfl, iteF ?_⟩
  refine ⟨_, rfl, c, C, dx, _, _, rfl, hi, Y.cl, Y.nR, cy_rate _ _ _, ra, p, rfl, hp.mono (by omega), true, rfl, iteF ?_⟩
  refine ⟨_, rfl, c, C, dx, _, _, rfl, hi, Y.cl, Y.nS, cy_start _ _ _, sb, q, rfl, hq.f.mono (by omega), hq.lo, hq.hi, true, rfl, iteF ?_⟩
  refine ⟨fun σ' H' => ∃ due, σ' = [some (.ref c), some due] ∧ Same H H' ∧ ((p.1 = 0 ∧ due = .non) ∨ (p.1 ≠ 0 ∧ ∃ d, due = .ref d ∧ ob K H' d = some (.tup [.int p.2, .int (p.1.natAbs : Int)]))), ?_, ?_⟩
  · refine ⟨_, rfl, c, C, dx, _, _, rfl, hi, Y.cl, Y.nR, cy_rate _ _ _, ra, 0, rfl, rfl, _, itsO_of hp.o, _, atI_0 _ _, rfl, _, rfl, ite2 (fun h => ?_) (fun h => ?_)⟩
    · have h0 : p.1 ≠ 0 := by
        intro z
        rw [z] at h
        simp at h
      refine ⟨_, rfl, c, C, dx, _, _, rfl, hi, Y.cl, Y.nR, cy_rate _ _ _, ra, 1, rfl, rfl, _, itsO_of hp.o, _, atI_1 _ _ _, _, rfl, c, C, dx, _, _, rfl, hi, Y.cl, Y.nR, cy_rate _ _ _, ra, 0, rfl, rfl, _, itsO_of hp.o, _, atI_0 _ _, _, rfl, sz2 (by show 2 ≤ 100; decide), fun d hd kd => ?_⟩
      exact ⟨_, rfl, Same.new hd _, .inr ⟨h0, d, rfl, by rw [ob_new (K := K) kd, abs_if]⟩⟩
    · have h0 : p.1 = 0 := by
        by_cases z : p.1 = 0
        · exact z
        · exact absurd (by simp [z]) h
      exact ⟨_, rfl, Same.refl _, .inl ⟨h0, rfl⟩⟩
  rintro σ' H1 ⟨due, rfl, s1, hd⟩
  have hi1 := s1 _ _ hi
  have hv1 := hv.same s1
  have e : Eqv K H1 2 v due := by
    rcases hd with ⟨d0, rfl⟩ | ⟨d0, d, rfl, od⟩
    · rcases hv1 with ⟨_, rfl⟩ | ⟨v0, _⟩
      · exact .inl ⟨rfl, rfl⟩
      · exact absurd d0 v0
    · rcases hv1 with ⟨v0, _⟩ | ⟨_, z, rfl, fz⟩
      · exact absurd v0 d0
      · exact eqv_two (p := (p.2, (p.1.natAbs : Int))) fz.o od
  refine ⟨_, rfl, c, C, dx, _, _, rfl, hi1, Y.cl, Y.nP, cy_period _ _ _, _, rfl, _, _, rfl, e, fun H2 s2 => ⟨true, rfl, iteF ?_⟩⟩
  refine ⟨_, rfl, c, C, dx, _, _, rfl, s2 _ _ hi1, Y.cl, Y.nR, cy_rate _ _ _, _, rfl, c, C, dx, _, _, rfl, s2 _ _ hi1, Y.cl, Y.nS, cy_start _ _ _, sz2 (by show 2 ≤ 100; decide), fun t ht kt => ?_⟩
  have s3 := (s1.trans s2).trans (Same.new ht (.tup [.ref ra, .ref sb]))
  exact k t ra sb _ s3 (ob_new kt) (ob_same s3 hp.o) (ob_same s3 hq.f.o)
def spIsCycle (K : PySem.W.Frag) (C : Addr) : Sp := fun vs H Q _ => ∃ (c t a b : Addr) (p q : Qt) (n : Nat), vs = [.ref c, .ref t] ∧ CyAt K C n H c p q ∧ n ≤ 8000 ∧ ob K H t = some (.tup [.ref a, .ref b]) ∧ ob K H a = some (.tup [.int p.1, .int p.2]) ∧ ob K H b = some (.tup [.int q.1, .int q.2]) ∧ ∀ H', Same H H' → Q (.bl true) H'
abbrev sIsCycle : Stmt := topS 63
theorem scIsCycle : FnScope ["_law_cycle", "_law_row"] ["_law_cycle", "_law_row"] (defScope sIsCycle) := ⟨rfl, rfl, rfl, by decide +kernel, rfl, by decide +kernel, by decide +kernel⟩
theorem k_IsCycle {C : Addr} (T : Bt K mg) (D : Dfn K mg "_law_is_cycle" sIsCycle ["_law_cycle", "_law_row"]) (d__law_cycle_told : Kn P w K mg base 5 "_law_cycle_told" ["_law_cycle"] (spTold K C)) (d__law_same : Kn P w K mg base 4 "_law_same" ["_law_told", "_law_due"] (spSame K 3)) : Kn P w K mg base 6 "_law_is_cycle" ["_law_cycle", "_law_row"] (spIsCycle K C) := by
  refine Kn.mk' D scIsCycle (fun vs H Q E h => ?_) (fun f cdv A outer s H vs Q E hr h => ?_)
  · obtain ⟨c, t, a, b, p, q, n, rfl, _⟩ := h
    rfl
  obtain ⟨c, t, a, b, p, q, n, rfl, hc, hn, ot, oa, o2, k⟩ := h
  refine ⟨_, (pss_one (ps_ret (pe_kn d__law_same hr (by rfl) (pa_cons (pe_kn d__law_cycle_told hr (by rfl) (pa_cons (pv 0) pa_nil)) (pa_cons (pv 1) pa_nil))))), ?_⟩
  refine ⟨_, rfl, c, p, q, n, rfl, hc, hn, fun u d e H1 s1 ou od oe => ?_⟩
  exact ⟨_, rfl, _, _, rfl, eqv_row ou (ob_same s1 ot) od oe (ob_same s1 oa) (ob_same s1 o2), fun H2 s2 => k H2 (s1.trans s2)⟩
end
end My

namespace My
open PySem PySem.Spec PyProof.Rows L2
section
variable {P : Program} {w : World} {K : PySem.W.Frag} {mg : Str → Option Value} {base : Heap}
theorem nf_shift {t : Qt} (h : Nf t) (k : Int) : Nf (t.1 + k * t.2, t.2) := ⟨h.1, by
  show Int.gcd (t.1 + k * t.2) t.2 = 1
  rw [Int.gcd_add_mul_right_left]
  exact h.2⟩
theorem shift_mod (y : Qt) (k : Int) : (y.1 + k * y.2) % y.2 = y.1 % y.2 := Int.add_mul_emod_self_right _ _ _
/-! ### the value of a fraction -/
def val (q : Qt) : Rat := (q.1 : Rat) / (q.2 : Rat)
theorem icast0 {b : Int} (h : b ≠ 0) : (b : Rat) ≠ 0 := fun e => h (Rat.intCast_eq_zero_iff.mp e)
theorem Nf.ne' {q : Qt} (h : Nf q) : (q.2 : Rat) ≠ 0 := icast0 (by have := h.1; omega)
theorem val_is {z : Qt} {t b : Int} (hb : b ≠ 0) (h : Is z t b) : val z = (t : Rat) / (b : Rat) := by
  have e : (z.1 : Rat) * b = t * z.2 := by rw [← Rat.intCast_mul, ← Rat.intCast_mul, h.2]
  have h1 := h.1.ne'
  have h2 := icast0 hb
  unfold val
  grind
theorem val_inj {p q : Qt} (hp : Nf p) (hq : Nf q) (h : val p = val q) : p = q := by
  have h1 := hp.ne'
  have h2 := hq.ne'
  unfold val at h
  have e : (p.1 : Rat) * q.2 = q.1 * p.2 := by grind
  rw [← Rat.intCast_mul, ← Rat.intCast_mul] at e
  exact nf_unique hp hq (Rat.intCast_inj.mp e)
theorem is_of_val {z : Qt} {t b : Int} (hb : b ≠ 0) (hz : Nf z) (h : val z = (t : Rat) / (b : Rat)) : Is z t b := by
  refine ⟨hz, Rat.intCast_inj.mp ?_⟩
  have h1 := hz.ne'
  have h2 := icast0 hb
  unfold val at h
  rw [Rat.intCast_mul, Rat.intCast_mul]
  grind
theorem val_sum {p q z : Qt} (hp : Nf p) (hq : Nf q) (h : sum2 p q z) : val z = val p + val q := by
  rw [val_is (mul_ne hp.1 hq.1) h]
  have h1 := hp.ne'
  have h2 := hq.ne'
  unfold val
  simp only [Rat.intCast_mul, Rat.intCast_add]
  grind
theorem val_dif {p q z : Qt} (hp : Nf p) (hq : Nf q) (h : dif2 p q z) : val z = val p - val q := by
  rw [val_is (mul_ne hp.1 hq.1) h]
  have h1 := hp.ne'
  have h2 := hq.ne'
  unfold val
  simp only [Rat.intCast_mul, Rat.intCast_sub]
  grind
theorem val_pro {p q z : Qt} (hp : Nf p) (hq : Nf q) (h : pro2 p q z) : val z = val p * val q := by
  rw [val_is (mul_ne hp.1 hq.1) h]
  have h1 := hp.ne'
  have h2 := hq.ne'
  unfold val
  simp only [Rat.intCast_mul]
  grind
theorem val_quo {p q z : Qt} (hp : Nf p) (hq : Nf q) (h0 : q.1 ≠ 0) (h : quo2 p q z) : val z = val p / val q := by
  rw [val_is (Int.mul_ne_zero hp.ne h0) h]
  have h1 := hp.ne'
  have h2 := hq.ne'
  have h3 := icast0 h0
  unfold val
  simp only [Rat.intCast_mul]
  grind
theorem val_neg (q : Qt) : val (-q.1, q.2) = - val q := by
  show ((-q.1 : Int) : Rat) / (q.2 : Rat) = - ((q.1 : Rat) / q.2)
  rw [Rat.intCast_neg]
  grind
theorem val_int (k : Int) : val (k, 1) = (k : Rat) := by
  show (k : Rat) / ((1 : Int) : Rat) = k
  rw [Rat.intCast_one]
  grind
theorem val_part {q : Qt} (h : Nf q) : ∃ k : Int, val q = val (q.1 % q.2, q.2) + (k : Rat) := by
  refine ⟨q.1 / q.2, ?_⟩
  have h1 := h.ne'
  have e := Int.emod_add_mul_ediv q.1 q.2
  have e2 : (q.1 : Rat) = ((q.1 % q.2 : Int) : Rat) + (q.2 : Rat) * ((q.1 / q.2 : Int) : Rat) := by rw [← Rat.intCast_mul, ← Rat.intCast_add, e]
  show (q.1 : Rat) / q.2 = ((q.1 % q.2 : Int) : Rat) / q.2 + ((q.1 / q.2 : Int) : Rat)
  grind
/-- alike but for whole turns -/
def Cg (x y : Rat) : Prop := ∃ k : Int, x = y + (k : Rat)
theorem Cg.refl (x : Rat) : Cg x x := ⟨0, by rw [Rat.intCast_zero]; grind⟩
theorem Cg.symm {x y : Rat} (h : Cg x y) : Cg y x := by
  obtain ⟨k, e⟩ := h
  exact ⟨-k, by rw [Rat.intCast_neg]; grind⟩
theorem Cg.trans {x y z : Rat} (h : Cg x y) (g : Cg y z) : Cg x z := by
  obtain ⟨k, e⟩ := h
  obtain ⟨l, f⟩ := g
  exact ⟨k + l, by rw [Rat.intCast_add]; grind⟩
theorem Cg.add {x y z w : Rat} (h : Cg x y) (g : Cg z w) : Cg (x + z) (y + w) := by
  obtain ⟨k, e⟩ := h
  obtain ⟨l, f⟩ := g
  exact ⟨k + l, by rw [Rat.intCast_add]; grind⟩
theorem Cg.sub {x y z w : Rat} (h : Cg x y) (g : Cg z w) : Cg (x - z) (y - w) := by
  obtain ⟨k, e⟩ := h
  obtain ⟨l, f⟩ := g
  exact ⟨k - l, by rw [Rat.intCast_sub]; grind⟩
theorem Cg.neg {x y : Rat} (h : Cg x y) : Cg (-x) (-y) := by
  obtain ⟨k, e⟩ := h
  exact ⟨-k, by rw [Rat.intCast_neg]; grind⟩
theorem Cg.of_eq {x y : Rat} (h : x = y) : Cg x y := h ▸ Cg.refl x
theorem cg_part {q : Qt} (h : Nf q) : Cg (val (q.1 % q.2, q.2)) (val q) := Cg.symm (val_part h)
theorem part_eq {x y : Qt} (hx : Nf x) (hy : Nf y) (h : Cg (val x) (val y)) : ((x.1 % x.2, x.2) : Qt) = (y.1 % y.2, y.2) := by
  obtain ⟨k, e⟩ := h
  have h1 := hx.ne'
  have h2 := hy.ne'
  have s : Nf (y.1 + k * y.2, y.2) := nf_shift hy k
  have v : val (y.1 + k * y.2, y.2) = val y + (k : Rat) := by
    show ((y.1 + k * y.2 : Int) : Rat) / (y.2 : Rat) = (y.1 : Rat) / (y.2 : Rat) + (k : Rat)
    rw [Rat.intCast_add, Rat.intCast_mul]
    grind
  have z : x = (y.1 + k * y.2, y.2) := val_inj hx s (by rw [v, e])
  rw [z]
  exact Prod.ext (shift_mod y k) rfl
theorem part_self {q : Qt} (h0 : 0 ≤ q.1) (h1 : q.1 < q.2) : ((q.1 % q.2, q.2) : Qt) = q := Prod.ext (Int.emod_eq_of_lt h0 h1) rfl
/-! ### using a def's promise -/
theorem ap_sum {H : Hp} {Q : VK} {a b : Addr} {p q : Qt} {j k : Nat} (hp : Fq K H j a p) (hq : Fq K H k b q) (h : ∀ z c H', sum2 p q z → Same H H' → Fq K H' (j + k + 1) c z → Q (.ref c) H') (hj : j ≤ 3000 := by omega) (hk : k ≤ 3000 := by omega) (E : XK := C8.E0) : spBin K sum2 [.ref a, .ref b] H Q E :=
  ⟨a, b, p, q, rfl, hp.mono hj, hq.mono hk, fun z hz c H' s o => h z c H' hz s ⟨o, hz.1, sum_sz hz hp.nf hq.nf hp.sz hq.sz (by omega)⟩⟩
theorem ap_dif {H : Hp} {Q : VK} {a b : Addr} {p q : Qt} {j k : Nat} (hp : Fq K H j a p) (hq : Fq K H k b q) (h : ∀ z c H', dif2 p q z → Same H H' → Fq K H' (j + k + 1) c z → Q (.ref c) H') (hj : j ≤ 3000 := by omega) (hk : k ≤ 3000 := by omega) (E : XK := C8.E0) : spBin K dif2 [.ref a, .ref b] H Q E :=
  ⟨a, b, p, q, rfl, hp.mono hj, hq.mono hk, fun z hz c H' s o => h z c H' hz s ⟨o, hz.1, dif_sz hz hp.nf hq.nf hp.sz hq.sz (by omega)⟩⟩
theorem ap_pro {H : Hp} {Q : VK} {a b : Addr} {p q : Qt} {j k : Nat} (hp : Fq K H j a p) (hq : Fq K H k b q) (h : ∀ z c H', pro2 p q z → Same H H' → Fq K H' (j + k + 1) c z → Q (.ref c) H') (hj : j ≤ 3000 := by omega) (hk : k ≤ 3000 := by omega) (E : XK := C8.E0) : spBin K pro2 [.ref a, .ref b] H Q E :=
  ⟨a, b, p, q, rfl, hp.mono hj, hq.mono hk, fun z hz c H' s o => h z c H' hz s ⟨o, hz.1, pro_sz hz hp.nf hq.nf hp.sz hq.sz (by omega)⟩⟩
theorem pq_part {H : Hp} {k : Nat} {e : Addr} {z : Qt} (o : ob K H e = some (.tup [.int (z.1 % z.2), .int z.2])) (n : Nf z) (s : Sz k z) : Pq K H k e (z.1 % z.2, z.2) :=
  ⟨⟨o, nf_part n, szPart n s⟩, Int.emod_nonneg _ n.ne, Int.emod_lt_of_pos _ (by have := n.1; omega)⟩
theorem ap_part {H : Hp} {Q : VK} {a : Addr} {z : Qt} {k : Nat} (hz : Fq K H k a z) (h : ∀ e H', Same H H' → Pq K H' k e (z.1 % z.2, z.2) → Q (.ref e) H') (hk : k ≤ 8000 := by omega) (E : XK := C8.E0) : spUn K (fun q => (q.1 % q.2, q.2)) [.ref a] H Q E :=
  ⟨a, z, rfl, hz.mono hk, fun e H' s o => h e H' s (pq_part o hz.nf hz.sz)⟩
theorem ap_neg {H : Hp} {Q : VK} {a : Addr} {z : Qt} {k : Nat} (hz : Fq K H k a z) (h : ∀ e H', Same H H' → Fq K H' k e (-z.1, z.2) → Q (.ref e) H') (hk : k ≤ 8000 := by omega) (E : XK := C8.E0) : spUn K (fun q => (-q.1, q.2)) [.ref a] H Q E :=
  ⟨a, z, rfl, hz.mono hk, fun e H' s o => h e H' s ⟨o, nf_neg hz.nf, by show (-z.1).natAbs < 2 ^ k; rw [Int.natAbs_neg]; exact hz.sz.1, hz.sz.2⟩⟩
theorem val_tur {p q m y : Qt} (hp : Nf p) (hq : Nf q) (hm : Nf m) (h : Tur p q m y) : val y = val q + val p * val m := by
  obtain ⟨t, h1, h2⟩ := h
  rw [val_sum hq h1.1 h2, val_pro hp hm h1]
theorem Tur.nf {p q m y : Qt} (h : Tur p q m y) : Nf y := by
  obtain ⟨t, _, h2⟩ := h
  exact h2.1
end
end My

namespace My
open PySem PySem.Spec PyProof.Rows L2
section
variable {P : Program} {w : World} {K : PySem.W.Frag} {mg : Str → Option Value} {base : Heap}
def spTurned (K : PySem.W.Frag) (C : Addr) : Sp := fun vs H Q _ => ∃ (c a : Addr) (p q b : Qt) (n j : Nat), vs = [.ref c, .ref a] ∧ CyAt K C n H c p q ∧ Fq K H j a b ∧ n + j ≤ 2800 ∧ ∀ z c' H', sum2 q b z → Same H H' → CyAt K C (n + j + 1) H' c' p (z.1 % z.2, z.2) → Q (.ref c') H'
def spGeared (K : PySem.W.Frag) (C : Addr) : Sp := fun vs H Q _ => ∃ (c a : Addr) (p q b : Qt) (n j : Nat), vs = [.ref c, .ref a] ∧ CyAt K C n H c p q ∧ Fq K H j a b ∧ n + j ≤ 2800 ∧ ∀ y z c' H', pro2 p b y → pro2 q b z → Same H H' → CyAt K C (n + j + 1) H' c' y (z.1 % z.2, z.2) → Q (.ref c') H'
def spLater (K : PySem.W.Frag) (C : Addr) : Sp := fun vs H Q _ => ∃ (c a : Addr) (p q b : Qt) (n j : Nat), vs = [.ref c, .ref a] ∧ CyAt K C n H c p q ∧ Fq K H j a b ∧ 2 * n + j ≤ 2800 ∧ ∀ y c' H', Tur p q b y → Same H H' → CyAt K C (2 * n + j + 3) H' c' p (y.1 % y.2, y.2) → Q (.ref c') H'
def spCyEq (K : PySem.W.Frag) (C : Addr) : Sp := fun vs H Q _ => ∃ (c d : Addr) (p q p' q' : Qt) (n j : Nat), vs = [.ref c, .ref d] ∧ CyAt K C n H c p q ∧ CyAt K C j H d p' q' ∧ Q (.bl (decide (p = p') && decide (q = q'))) H
def spCyAdd (K : PySem.W.Frag) (C : Addr) : Sp := fun vs H Q _ => ∃ (c d : Addr) (p q p' q' : Qt) (n j : Nat), vs = [.ref c, .ref d] ∧ CyAt K C n H c p q ∧ CyAt K C j H d p' q' ∧ n + j ≤ 2800 ∧ ∀ y z c' H', sum2 p p' y → sum2 q q' z → Same H H' → CyAt K C (n + j + 1) H' c' y (z.1 % z.2, z.2) → Q (.ref c') H'
def spCySub (K : PySem.W.Frag) (C : Addr) : Sp := fun vs H Q _ => ∃ (c d : Addr) (p q p' q' : Qt) (n j : Nat), vs = [.ref c, .ref d] ∧ CyAt K C n H c p q ∧ CyAt K C j H d p' q' ∧ n + j ≤ 2800 ∧ ∀ y z c' H', dif2 p p' y → dif2 q q' z → Same H H' → CyAt K C (n + j + 1) H' c' y (z.1 % z.2, z.2) → Q (.ref c') H'
def spCyNeg (K : PySem.W.Frag) (C : Addr) : Sp := fun vs H Q _ => ∃ (c : Addr) (p q : Qt) (n : Nat), vs = [.ref c] ∧ CyAt K C n H c p q ∧ n ≤ 2800 ∧ ∀ c' H', Same H H' → CyAt K C n H' c' (-p.1, p.2) ((-q.1) % q.2, q.2) → Q (.ref c') H'
abbrev sCyTurned : Stmt := inClass (topS 32) 8
theorem scCyTurned : FnScope ["self", "by"] ["self", "by"] (defScope sCyTurned) := ⟨rfl, rfl, rfl, by decide +kernel, rfl, by decide +kernel, by decide +kernel⟩
theorem ok_CyTurned {C f : Addr} {fd : FuncData} (T : Bt K mg) (Y : CyC K mg C) (mk : C8.Mak P w K mg base 5 "Cycle" C (spCyInit K C) []) (d_require : Kn P w K mg base 1 "require" ["well_formed", "what"] spRequire) (d_is_fraction : Kn P w K mg base 2 "is_fraction" ["value"] (spIsFraction K)) (d_plus : Kn P w K mg base 3 "plus" ["left", "right"] (spBin K sum2)) (d_part_of : Kn P w K mg base 3 "part_of" ["value"] (spUn K fun q => (q.1 % q.2, q.2))) (F : Fun K "turned" "Cycle.turned" sCyTurned f fd) : FnOk P w K mg base CX0 7 f fd ["self", "by"] (spTurned K C) := by
  refine F.ok scCyTurned (fun vs H Q E h => ?_) (fun cdv A outer s H vs Q E hr h => ?_)
  · obtain ⟨c, a, p, q, b, n, j, rfl, _⟩ := h
    rfl
  obtain ⟨c, a, p, q, b, n, j, rfl, hc, hb, hj, k⟩ := h
  refine ⟨_, (pss_cons (ps_expr (pe_kn d_require hr (by rfl) (pa_cons (pe_kn d_is_fraction hr (by rfl) (pa_cons (pv 1) pa_nil)) (pa_cons pe_str pa_nil))))
      (pss_one (ps_ret (C8.pe_mk mk hr (by omega) (by rfl) (pa_cons (pe_fld (pv 0) rfl) (pa_cons (pe_kn d_part_of hr (by rfl) (pa_cons (pe_kn d_plus hr (by rfl) (pa_cons (pe_fld (pv 0) rfl) (pa_cons (pv 1) pa_nil))) pa_nil)) pa_nil)))))), ?_⟩
  obtain ⟨dx, ra, sb, v, hi, hp, hq, hv⟩ := id hc
  refine ⟨_, rfl, _, rfl, Tyd.fr hb.o, _, by rw [frOk_fr hb.o hb.nf]; rfl, ?_⟩
  refine ⟨_, rfl, c, C, dx, _, _, rfl, hi, Y.cl, Y.nR, cy_rate _ _ _, _, rfl, c, C, dx, _, _, rfl, hi, Y.cl, Y.nS, cy_start _ _ _, _, rfl, ap_sum hq.f hb fun z d H1 hz s1 f1 => ap_part f1 fun e H2 s2 f2 => fun c' dx' hx hdx hne => ?_⟩
  have s12 := s1.trans s2
  exact ⟨H2, c', dx', ra, e, p, _, n + j + 1, rfl, same_make hx hdx, hx, upd_same, (hp.same s12).mono (by omega), f2, by omega, fun H' s' hcy => ⟨rfl, k z c' H' hz (s12.trans s') hcy⟩⟩
abbrev sCyGeared : Stmt := inClass (topS 32) 9
theorem scCyGeared : FnScope ["self", "factor"] ["self", "factor"] (defScope sCyGeared) := ⟨rfl, rfl, rfl, by decide +kernel, rfl, by decide +kernel, by decide +kernel⟩
theorem ok_CyGeared {C f : Addr} {fd : FuncData} (T : Bt K mg) (Y : CyC K mg C) (mk : C8.Mak P w K mg base 5 "Cycle" C (spCyInit K C) []) (d_require : Kn P w K mg base 1 "require" ["well_formed", "what"] spRequire) (d_is_fraction : Kn P w K mg base 2 "is_fraction" ["value"] (spIsFraction K)) (d_times : Kn P w K mg base 3 "times" ["left", "right"] (spBin K pro2)) (d_part_of : Kn P w K mg base 3 "part_of" ["value"] (spUn K fun q => (q.1 % q.2, q.2))) (F : Fun K "geared" "Cycle.geared" sCyGeared f fd) : FnOk P w K mg base CX0 7 f fd ["self", "factor"] (spGeared K C) := by
  refine F.ok scCyGeared (fun vs H Q E h => ?_) (fun cdv A outer s H vs Q E hr h => ?_)
  · obtain ⟨c, a, p, q, b, n, j, rfl, _⟩ := h
    rfl
  obtain ⟨c, a, p, q, b, n, j, rfl, hc, hb, hj, k⟩ := h
  refine ⟨_, (pss_cons (ps_expr (pe_kn d_require hr (by rfl) (pa_cons (pe_kn d_is_fraction hr (by rfl) (pa_cons (pv 1) pa_nil)) (pa_cons pe_str pa_nil))))
      (pss_one (ps_ret (C8.pe_mk mk hr (by omega) (by rfl) (pa_cons (pe_kn d_times hr (by rfl) (pa_cons (pe_fld (pv 0) rfl) (pa_cons (pv 1) pa_nil))) (pa_cons (pe_kn d_part_of hr (by rfl) (pa_cons (pe_kn d_times hr (by rfl) (pa_cons (pe_fld (pv 0) rfl) (pa_cons (pv 1) pa_nil))) pa_nil)) pa_nil)))))), ?_⟩
  obtain ⟨dx, ra, sb, v, hi, hp, hq, hv⟩ := id hc
  refine ⟨_, rfl, _, rfl, Tyd.fr hb.o, _, by rw [frOk_fr hb.o hb.nf]; rfl, ?_⟩
  refine ⟨_, rfl, c, C, dx, _, _, rfl, hi, Y.cl, Y.nR, cy_rate _ _ _, _, rfl, ap_pro hp hb fun y d H1 hy s1 f1 => ⟨_, rfl, c, C, dx, _, _, rfl, (s1 _ _ hi), Y.cl, Y.nS, cy_start _ _ _, _, rfl, ap_pro (hq.f.same s1) (hb.same s1) fun z e H2 hz s2 f2 => ap_part f2 fun g H3 s3 f3 => fun c' dx' hx hdx hne => ?_⟩⟩
  have s23 := s2.trans s3
  exact ⟨H3, c', dx', d, g, y, _, n + j + 1, rfl, same_make hx hdx, hx, upd_same, f1.same s23, f3, by omega, fun H' s' hcy => ⟨rfl, k y z c' H' hy hz (s1.trans (s23.trans s')) hcy⟩⟩
abbrev sCyLater : Stmt := inClass (topS 32) 10
theorem scCyLater : FnScope ["self", "by"] ["self", "by"] (defScope sCyLater) := ⟨rfl, rfl, rfl, by decide +kernel, rfl, by decide +kernel, by decide +kernel⟩
theorem ok_CyLater {C f : Addr} {fd : FuncData} (T : Bt K mg) (Y : CyC K mg C) (mk : C8.Mak P w K mg base 5 "Cycle" C (spCyInit K C) []) (m_place : C8.Met P w K mg base 5 C "place" (spPlace K C) []) (d_require : Kn P w K mg base 1 "require" ["well_formed", "what"] spRequire) (d_is_fraction : Kn P w K mg base 2 "is_fraction" ["value"] (spIsFraction K)) (F : Fun K "later" "Cycle.later" sCyLater f fd) : FnOk P w K mg base CX0 7 f fd ["self", "by"] (spLater K C) := by
  refine F.ok scCyLater (fun vs H Q E h => ?_) (fun cdv A outer s H vs Q E hr h => ?_)
  · obtain ⟨c, a, p, q, b, n, j, rfl, _⟩ := h
    rfl
  obtain ⟨c, a, p, q, b, n, j, rfl, hc, hb, hj, k⟩ := h
  refine ⟨_, (pss_cons (ps_expr (pe_kn d_require hr (by rfl) (pa_cons (pe_kn d_is_fraction hr (by rfl) (pa_cons (pv 1) pa_nil)) (pa_cons pe_str pa_nil))))
      (pss_one (ps_ret (C8.pe_mk mk hr (by omega) (by rfl) (pa_cons (pe_fld (pv 0) rfl) (pa_cons (C8.pe_mt m_place hr (by omega) (pv 0) (pa_cons (pv 1) pa_nil)) pa_nil)))))), ?_⟩
  obtain ⟨dx, ra, sb, v, hi, hp, hq, hv⟩ := id hc
  refine ⟨_, rfl, _, rfl, Tyd.fr hb.o, _, by rw [frOk_fr hb.o hb.nf]; rfl, ?_⟩
  refine ⟨_, rfl, c, C, dx, _, _, rfl, hi, Y.cl, Y.nR, cy_rate _ _ _, _, rfl, c, dx, _, rfl, hi, rfl, _, rfl, c, a, p, q, b, n, j, rfl, hc, hb, by omega, fun y hy sy e H1 s1 o1 => fun c' dx' hx hdx hne => ?_⟩
  exact ⟨H1, c', dx', ra, e, p, _, 2 * n + j + 3, rfl, same_make hx hdx, hx, upd_same, (hp.same s1).mono (by omega), pq_part o1 hy.nf sy, by omega, fun H' s' hcy => ⟨rfl, k y c' H' hy (s1.trans s') hcy⟩⟩
abbrev sCyEq : Stmt := inClass (topS 32) 2
theorem scCyEq : FnScope ["self", "other"] ["self", "other"] (defScope sCyEq) := ⟨rfl, rfl, rfl, by decide +kernel, rfl, by decide +kernel, by decide +kernel⟩
theorem ok_CyEq {C f : Addr} {fd : FuncData} (T : Bt K mg) (Y : CyC K mg C) (IC : C8.InsC K C) (F : Fun K "__eq__" "Cycle.__eq__" sCyEq f fd) : FnOk P w K mg base CX0 5 f fd ["self", "other"] (spCyEq K C) := by
  refine F.ok scCyEq (fun vs H Q E h => ?_) (fun cdv A outer s H vs Q E hr h => ?_)
  · obtain ⟨c, d, p, q, p1, q1, n, j, rfl, _⟩ := h
    rfl
  obtain ⟨c, d, p, q, p1, q1, n, j, rfl, hc, hd, k⟩ := h
  refine ⟨_, (pss_one (ps_ret (pe_and (pe_callB (C8.call_isC IC) (by rfl) T.b_isinstance (by decide +kernel) (pa_cons (pv 1) (pa_cons (pe_glob (v := .ref C) (by rfl) Y.g rfl) pa_nil))) (pe_and (pe_cmpR (op_eqF hr) (pe_fld (pv 0) rfl) (pe_fld (pv 1) rfl) (nomark _)) (pe_one (pe_cmpR (op_eqF hr) (pe_fld (pv 0) rfl) (pe_fld (pv 1) rfl) (nomark _))))))), ?_⟩
  obtain ⟨dx, ra, sb, v, hi, hp, hq, hv⟩ := id hc
  obtain ⟨dx', ra', sb', v', hi', hp', hq', hv'⟩ := hd
  refine ⟨_, rfl, d, dx', _, rfl, hi', true, rfl, ?_⟩
  rw [if_pos rfl]
  refine ⟨_, rfl, c, C, dx, _, _, rfl, hi, Y.cl, Y.nR, cy_rate _ _ _, _, rfl, d, C, dx', _, _, rfl, hi', Y.cl, Y.nR, cy_rate _ _ _, ra, ra', p, p1, rfl, rfl, hp.o, hp'.o, _, rfl, ?_⟩
  by_cases e : p = p1
  · rw [decide_eq_true e] at k ⊢
    rw [if_pos rfl]
    refine ⟨_, rfl, c, C, dx, _, _, rfl, hi, Y.cl, Y.nS, cy_start _ _ _, _, rfl, d, C, dx', _, _, rfl, hi', Y.cl, Y.nS, cy_start _ _ _, sb, sb', q, q1, rfl, rfl, hq.f.o, hq'.f.o, ?_⟩
    exact k
  · rw [decide_eq_false e] at k ⊢
    rw [if_neg Bool.noConfusion]
    exact k
abbrev sCyAdd : Stmt := inClass (topS 32) 3
theorem scCyAdd : FnScope ["self", "other"] ["self", "other"] (defScope sCyAdd) := ⟨rfl, rfl, rfl, by decide +kernel, rfl, by decide +kernel, by decide +kernel⟩
theorem ok_CyAdd {C f : Addr} {fd : FuncData} (T : Bt K mg) (Y : CyC K mg C) (mk : C8.Mak P w K mg base 5 "Cycle" C (spCyInit K C) []) (d_plus : Kn P w K mg base 3 "plus" ["left", "right"] (spBin K sum2)) (d_part_of : Kn P w K mg base 3 "part_of" ["value"] (spUn K fun q => (q.1 % q.2, q.2))) (F : Fun K "__add__" "Cycle.__add__" sCyAdd f fd) : FnOk P w K mg base CX0 7 f fd ["self", "other"] (spCyAdd K C) := by
  refine F.ok scCyAdd (fun vs H Q E h => ?_) (fun cdv A outer s H vs Q E hr h => ?_)
  · obtain ⟨c, d, p, q, p1, q1, n, j, rfl, _⟩ := h
    rfl
  obtain ⟨c, d, p, q, p1, q1, n, j, rfl, hc, hd, hj, k⟩ := h
  refine ⟨_, (pss_one (ps_ret (C8.pe_mk mk hr (by omega) (by rfl) (pa_cons (pe_kn d_plus hr (by rfl) (pa_cons (pe_fld (pv 0) rfl) (pa_cons (pe_fld (pv 1) rfl) pa_nil))) (pa_cons (pe_kn d_part_of hr (by rfl) (pa_cons (pe_kn d_plus hr (by rfl) (pa_cons (pe_fld (pv 0) rfl) (pa_cons (pe_fld (pv 1) rfl) pa_nil))) pa_nil)) pa_nil))))), ?_⟩
  obtain ⟨dx, ra, sb, v, hi, hp, hq, hv⟩ := id hc
  obtain ⟨dx', ra', sb', v', hi', hp', hq', hv'⟩ := hd
  refine ⟨_, rfl, c, C, dx, _, _, rfl, hi, Y.cl, Y.nR, cy_rate _ _ _, _, rfl, d, C, dx', _, _, rfl, hi', Y.cl, Y.nR, cy_rate _ _ _, ap_sum hp hp' fun y e H1 hy s1 f1 => ⟨_, rfl, c, C, dx, _, _, rfl, (s1 _ _ hi), Y.cl, Y.nS, cy_start _ _ _, _, rfl, d, C, dx', _, _, rfl, (s1 _ _ hi'), Y.cl, Y.nS, cy_start _ _ _, ap_sum (hq.f.same s1) (hq'.f.same s1) fun z g H2 hz s2 f2 => ap_part f2 fun u H3 s3 f3 => fun c' dx'' hx hdx hne => ?_⟩⟩
  have s23 := s2.trans s3
  exact ⟨H3, c', dx'', e, u, y, _, n + j + 1, rfl, same_make hx hdx, hx, upd_same, f1.same s23, f3, by omega, fun H' s' hcy => ⟨rfl, k y z c' H' hy hz (s1.trans (s23.trans s')) hcy⟩⟩
abbrev sCySub : Stmt := inClass (topS 32) 4
theorem scCySub : FnScope ["self", "other"] ["self", "other"] (defScope sCySub) := ⟨rfl, rfl, rfl, by decide +kernel, rfl, by decide +kernel, by decide +kernel⟩
theorem ok_CySub {C f : Addr} {fd : FuncData} (T : Bt K mg) (Y : CyC K mg C) (mk : C8.Mak P w K mg base 5 "Cycle" C (spCyInit K C) []) (d_minus : Kn P w K mg base 3 "minus" ["left", "right"] (spBin K dif2)) (d_part_of : Kn P w K mg base 3 "part_of" ["value"] (spUn K fun q => (q.1 % q.2, q.2))) (F : Fun K "__sub__" "Cycle.__sub__" sCySub f fd) : FnOk P w K mg base CX0 7 f fd ["self", "other"] (spCySub K C) := by
  refine F.ok scCySub (fun vs H Q E h => ?_) (fun cdv A outer s H vs Q E hr h => ?_)
  · obtain ⟨c, d, p, q, p1, q1, n, j, rfl, _⟩ := h
    rfl
  obtain ⟨c, d, p, q, p1, q1, n, j, rfl, hc, hd, hj, k⟩ := h
  refine ⟨_, (pss_one (ps_ret (C8.pe_mk mk hr (by omega) (by rfl) (pa_cons (pe_kn d_minus hr (by rfl) (pa_cons (pe_fld (pv 0) rfl) (pa_cons (pe_fld (pv 1) rfl) pa_nil))) (pa_cons (pe_kn d_part_of hr (by rfl) (pa_cons (pe_kn d_minus hr (by rfl) (pa_cons (pe_fld (pv 0) rfl) (pa_cons (pe_fld (pv 1) rfl) pa_nil))) pa_nil)) pa_nil))))), ?_⟩
  obtain ⟨dx, ra, sb, v, hi, hp, hq, hv⟩ := id hc
  obtain ⟨dx', ra', sb', v', hi', hp', hq', hv'⟩ := hd
  refine ⟨_, rfl, c, C, dx, _, _, rfl, hi, Y.cl, Y.nR, cy_rate _ _ _, _, rfl, d, C, dx', _, _, rfl, hi', Y.cl, Y.nR, cy_rate _ _ _, ap_dif hp hp' fun y e H1 hy s1 f1 => ⟨_, rfl, c, C, dx, _, _, rfl, (s1 _ _ hi), Y.cl, Y.nS, cy_start _ _ _, _, rfl, d, C, dx', _, _, rfl, (s1 _ _ hi'), Y.cl, Y.nS, cy_start _ _ _, ap_dif (hq.f.same s1) (hq'.f.same s1) fun z g H2 hz s2 f2 => ap_part f2 fun u H3 s3 f3 => fun c' dx'' hx hdx hne => ?_⟩⟩
  have s23 := s2.trans s3
  exact ⟨H3, c', dx'', e, u, y, _, n + j + 1, rfl, same_make hx hdx, hx, upd_same, f1.same s23, f3, by omega, fun H' s' hcy => ⟨rfl, k y z c' H' hy hz (s1.trans (s23.trans s')) hcy⟩⟩
abbrev sCyNeg : Stmt := inClass (topS 32) 5
theorem scCyNeg : FnScope ["self"] ["self"] (defScope sCyNeg) := ⟨rfl, rfl, rfl, by decide +kernel, rfl, by decide +kernel, by decide +kernel⟩
theorem ok_CyNeg {C f : Addr} {fd : FuncData} (T : Bt K mg) (Y : CyC K mg C) (mk : C8.Mak P w K mg base 5 "Cycle" C (spCyInit K C) []) (d_negated : Kn P w K mg base 3 "negated" ["value"] (spUn K fun q => (-q.1, q.2))) (d_part_of : Kn P w K mg base 3 "part_of" ["value"] (spUn K fun q => (q.1 % q.2, q.2))) (F : Fun K "__neg__" "Cycle.__neg__" sCyNeg f fd) : FnOk P w K mg base CX0 7 f fd ["self"] (spCyNeg K C) := by
  refine F.ok scCyNeg (fun vs H Q E h => ?_) (fun cdv A outer s H vs Q E hr h => ?_)
  · obtain ⟨c, p, q, n, rfl, _⟩ := h
    rfl
  obtain ⟨c, p, q, n, rfl, hc, hn, k⟩ := h
  refine ⟨_, (pss_one (ps_ret (C8.pe_mk mk hr (by omega) (by rfl) (pa_cons (pe_kn d_negated hr (by rfl) (pa_cons (pe_fld (pv 0) rfl) pa_nil)) (pa_cons (pe_kn d_part_of hr (by rfl) (pa_cons (pe_kn d_negated hr (by rfl) (pa_cons (pe_fld (pv 0) rfl) pa_nil)) pa_nil)) pa_nil))))), ?_⟩
  obtain ⟨dx, ra, sb, v, hi, hp, hq, hv⟩ := id hc
  refine ⟨_, rfl, c, C, dx, _, _, rfl, hi, Y.cl, Y.nR, cy_rate _ _ _, ap_neg hp fun e H1 s1 f1 => ⟨_, rfl, c, C, dx, _, _, rfl, (s1 _ _ hi), Y.cl, Y.nS, cy_start _ _ _, ap_neg (hq.f.same s1) fun g H2 s2 f2 => ap_part f2 fun u H3 s3 f3 => fun c' dx' hx hdx hne => ?_⟩⟩
  have s23 := s2.trans s3
  exact ⟨H3, c', dx', e, u, _, _, n, rfl, same_make hx hdx, hx, upd_same, f1.same s23, f3, by omega, fun H' s' hcy => ⟨rfl, k c' H' (s1.trans (s23.trans s')) hcy⟩⟩
end
/-! ### the class's operators -/
structure OpK (P : Program) (w : World) (K : PySem.W.Frag) (mg : Str → Option Value) (base : Heap) (k : Nat) (C : Addr) (x : Str) (sp : Sp) : Prop where
  ex : ∃ (g : Addr) (fd : FuncData) (ps : List Str), PySem.W.findIn K (.ref C) x = some (some (.ref g)) ∧ PySem.W.isFn K (.ref g) = true ∧ FnOk P w K mg base CX0 k g fd ps sp ∧ Binds K fd ps []
section
variable {X : Cx} {C : Addr} {sp : Sp} {j k : Nat}
theorem op_eqC (c : OpK X.prog X.w X.K X.mg X.base k C "__eq__" sp) (hr : Room j X.A) (hk : k ≤ j) : OpR X (compareOp .Eq) (rOwnD X.K C sp E0) := by
  obtain ⟨g, fd, ps, h1, h2, F, b⟩ := c.ex
  exact op_ownD (fun _ _ => rfl) h1 h2 F b (hr.mono hk) pass0
theorem op_addC (sf : PySem.W.selfFirst X.K C = true) (c : OpK X.prog X.w X.K X.mg X.base k C "__add__" sp) (hr : Room j X.A) (hk : k ≤ j) : OpR X (binaryOp .Add) (rBinD C sp E0) := by
  obtain ⟨g, fd, ps, h1, h2, F, b⟩ := c.ex
  exact op_binD sf h1 h2 F b (hr.mono hk) pass0
theorem op_subC (sf : PySem.W.selfFirst X.K C = true) (c : OpK X.prog X.w X.K X.mg X.base k C "__sub__" sp) (hr : Room j X.A) (hk : k ≤ j) : OpR X (binaryOp .Sub) (rBinD C sp E0) := by
  obtain ⟨g, fd, ps, h1, h2, F, b⟩ := c.ex
  exact op_binD sf h1 h2 F b (hr.mono hk) pass0
theorem un_negC (c : OpK X.prog X.w X.K X.mg X.base k C "__neg__" sp) (hr : Room j X.A) (hk : k ≤ j) : UnR X (unaryOp .USub) (rNegD C sp E0) := by
  obtain ⟨g, fd, ps, h1, h2, F, b⟩ := c.ex
  exact un_negD h1 h2 F b (hr.mono hk) pass0
end
section
variable {P : Program} {w : World} {K : PySem.W.Frag} {mg : Str → Option Value} {base : Heap}
theorem nf_self {C : Addr} : PySem.W.notFirst K C (.ref C) = true := by
  unfold PySem.W.notFirst
  simp
/-- == of two cycles -/
theorem ap_eqC {C : Addr} {H : Hp} {Q : VK} {c d : Addr} {p q p' q' : Qt} {n j : Nat} (hc : CyAt K C n H c p q) (hd : CyAt K C j H d p' q') (h : Q (.bl (decide (p = p') && decide (q = q'))) H) : rOwnD K C (spCyEq K C) E0 (.ref c) (.ref d) H Q := by
  obtain ⟨dx, ra, sb, v, hi, _⟩ := id hc
  obtain ⟨dx', ra', sb', v', hi', _⟩ := id hd
  exact ⟨c, dx, _, d, C, dx', _, rfl, rfl, hi, hi', nf_self, c, d, p, q, p', q', n, j, rfl, hc, hd, h⟩
end
end My

namespace My
open PySem PySem.Spec PyProof.Rows L2
section
variable {P : Program} {w : World} {K : PySem.W.Frag} {mg : Str → Option Value} {base : Heap}
theorem sum2.uni {p q z z' : Qt} (hp : Nf p) (hq : Nf q) (h : sum2 p q z) (h' : sum2 p q z') : z = z' := is_unique (mul_ne hp.1 hq.1) h h'
theorem dif2.uni {p q z z' : Qt} (hp : Nf p) (hq : Nf q) (h : dif2 p q z) (h' : dif2 p q z') : z = z' := is_unique (mul_ne hp.1 hq.1) h h'
theorem pro2.uni {p q z z' : Qt} (hp : Nf p) (hq : Nf q) (h : pro2 p q z) (h' : pro2 p q z') : z = z' := is_unique (mul_ne hp.1 hq.1) h h'
theorem ap_mt {C : Addr} {n : Nat} {H : Hp} {c : Addr} {p q : Qt} {m : Str} {R : Prop} (h : CyAt K C n H c p q) (hm : ∀ a b v, (cyF a b v).lookup m = none) (g : R) : ∃ a dx fs, V.ref c = .ref a ∧ H a = some (.ins C dx fs) ∧ fs.lookup m = none ∧ R := by
  obtain ⟨dx, a, b, v, hi, _⟩ := h
  exact ⟨c, dx, _, rfl, hi, hm a b v, g⟩
theorem ap_isCyN {C : Addr} {H : Hp} {Q : VK} {c a b : Addr} {p q p' q' : Qt} {n i j : Nat} (hc : CyAt K C n H c p q) (fa : Fq K H i a p') (fb : Fq K H j b q') (e1 : p = p') (e2 : q = q') (h : ∀ H', Same H H' → Q (.bl true) H') (hn : n ≤ 8000 := by omega) (E : XK := C8.E0) :
    ∀ t, H t = none → K.lookup t = none → spIsCycle K C [.ref c, .ref t] (upd H t (.tup [.ref a, .ref b])) Q E := by
  subst e1 e2
  intro t ht kt
  have s := Same.new ht (.tup [.ref a, .ref b])
  exact ⟨c, t, a, b, p, q, n, rfl, hc.same s, hn, ob_new kt, (fa.same s).o, (fb.same s).o, fun H' z => h H' (s.trans z)⟩
theorem ap_isCy {C : Addr} {H : Hp} {Q : VK} {c t a b : Addr} {p q p' q' : Qt} {n i j : Nat} (hc : CyAt K C n H c p q) (ot : ob K H t = some (.tup [.ref a, .ref b])) (fa : Fq K H i a p') (fb : Fq K H j b q') (e1 : p = p') (e2 : q = q') (h : ∀ H', Same H H' → Q (.bl true) H') (hn : n ≤ 8000 := by omega) (E : XK := C8.E0) : spIsCycle K C [.ref c, .ref t] H Q E := by
  subst e1 e2
  exact ⟨c, t, a, b, p, q, n, rfl, hc, hn, ot, fa.o, fb.o, h⟩
theorem eqv_f {H : Hp} {a b : Addr} {p q : Qt} (ha : ob K H a = some (frt p)) (hb : ob K H b = some (frt q)) (e : p = q) : Eqv K H 2 (.ref a) (.ref b) := by
  subst e
  exact eqv_two ha hb
theorem ap_same {H : Hp} {Q : VK} {a b : Addr} {p q : Qt} (ha : ob K H a = some (frt p)) (hb : ob K H b = some (frt q)) (e : p = q) (h : ∀ H', Same H H' → Q (.bl true) H') (E : XK := C8.E0) : spSame K 3 [.ref a, .ref b] H Q E := by
  subst e
  exact ⟨_, _, rfl, eqv_two ha hb, h⟩
def spLTurns (K : PySem.W.Frag) : Sp := fun vs H Q _ => ∃ (t mm a b : Addr) (p q m : Qt) (n j : Nat), vs = [.ref t, .ref mm] ∧ ob K H t = some (.tup [.ref a, .ref b]) ∧ Fq K H n a p ∧ Fq K H n b q ∧ Fq K H j mm m ∧ n + j ≤ 2900 ∧ ∀ y c H', Tur p q m y → Same H H' → Fq K H' (2 * n + j + 3) c y → Q (.ref c) H'
def spLPlaceAt (K : PySem.W.Frag) : Sp := fun vs H Q _ => ∃ (t mm a b : Addr) (p q m : Qt) (n j : Nat), vs = [.ref t, .ref mm] ∧ ob K H t = some (.tup [.ref a, .ref b]) ∧ Fq K H n a p ∧ Fq K H n b q ∧ Fq K H j mm m ∧ n + j ≤ 2900 ∧ ∀ y c H', Tur p q m y → Same H H' → Pq K H' (2 * n + j + 3) c (y.1 % y.2, y.2) → Q (.ref c) H'
abbrev sLTurns : Stmt := topS 59
theorem scLTurns : FnScope ["_law_row", "_law_moment_here"] ["_law_row", "_law_moment_here"] (defScope sLTurns) := ⟨rfl, rfl, rfl, by decide +kernel, rfl, by decide +kernel, by decide +kernel⟩
theorem k_LTurns (T : Bt K mg) (D : Dfn K mg "_law_turns" sLTurns ["_law_row", "_law_moment_here"]) (d__law_plus : Kn P w K mg base 3 "_law_plus" ["_law_left", "_law_right"] (spBin K sum2)) (d__law_times : Kn P w K mg base 3 "_law_times" ["_law_left", "_law_right"] (spBin K pro2)) : Kn P w K mg base 5 "_law_turns" ["_law_row", "_law_moment_here"] (spLTurns K) := by
  refine Kn.mk' D scLTurns (fun vs H Q E h => ?_) (fun f cdv A outer s H vs Q E hr h => ?_)
  · obtain ⟨t, mm, a, b, p, q, m, n, j, rfl, _⟩ := h
    rfl
  obtain ⟨t, mm, a, b, p, q, m, n, j, rfl, ot, ha, hb, hm, hj, k⟩ := h
  refine ⟨_, (pss_one (ps_ret (pe_kn d__law_plus hr (by rfl) (pa_cons (pe_ix ix_any (pv 0) pe_int (fun _ _ => rfl)) (pa_cons (pe_kn d__law_times hr (by rfl) (pa_cons (pe_ix ix_any (pv 0) pe_int (fun _ _ => rfl)) (pa_cons (pv 1) pa_nil))) pa_nil))))), ?_⟩
  simp only [ot, cx_K, decide_true, decide_false, reduceCtorEq, gTp, gCons, gNil, ca_0, ca_1, ca_2, ca_3, ca_4, ca_5, ca_6, ca_7, ca_8, ca_9, ca_10, ca_11, ca_12, ca_13, ca_14, ca_15, ca_16, ca_17, ca_18, ca_19, ca_20, ca_21, ca_22, ca_23, ca_24, ca_25, ca_26, ca_27, ca_28, ca_29, ca_30, not_true_eq_false, not_false_eq_true, Int.reduceEq, Nat.reduceEqDiff, Nat.reduceLeDiff, rGcd, V.ty.injEq, eq_self, List.not_mem_nil, beq_self_eq_true, HO.lst.injEq, HO.tup.injEq, tFor_eq, iRng1, iList, iTup, nat10, tSeq, rIxA, rSetA, rIsN, rIsT, tTp, tLs, itsO_tup, itsO_lst, tyO_tup, tyO_lst, tyO_dK, tyN_non, tyN_bl, tyN_int, tyN_str, tyN_ref, tyNs_lt, isB, upd_same, upd_upd, sizeLine_eq, List.mem_cons, String.reduceBEq, String.reduceEq, Bool.or_false, Bool.or_true, Bool.and_false, Bool.false_or, Bool.and_self, Bool.false_and, Bool.not_false, Bool.not_true, List.any_cons, List.any_nil, atI_0, setI_0, atI_1, setI_1, atI_2, setI_2, atI_3, setI_3, atI_4, setI_4, atI_5, setI_5, atI_6, setI_6, tAsg, gName, tOp, tUn, tVar, tC, tCons, L2.tNil, tRet, tIfS, tTest, tCB, tCall, rI, rI0, rU, tNext, tB, tAnd, tOr, tNot, tAndV, tOrV, tNotV, tDrop, tIf, tPar, gSub, rIxL, rIxT, rEq, rNe, rSetL, tBits,
    L2.start, List.map_cons, List.map_nil, List.cons_append, List.nil_append, List.append_nil, List.length_cons, List.length_nil, List.replicate, Nat.reduceAdd, Nat.reduceSub, Nat.zero_add, List.getElem?_cons_zero, List.getElem?_cons_succ, List.set_cons_zero, List.set_cons_succ,
    Option.some.injEq, exists_eq_left', exists_eq_left, V.int.injEq, V.bl.injEq, V.ref.injEq, V.str.injEq, List.cons.injEq, reduceCtorEq, and_true, true_and, false_and, and_false, exists_false, or_false, false_or, or_true, true_or, exists_const, CMul, CDiv, CPow, and_assoc, exists_and_left, exists_and_right, Int.reducePow, Int.reduceNeg, Int.reduceLT, Int.reduceLE, Nat.reducePow, Nat.reduceLT, Int.reduceToNat, gt_iff_lt, ge_iff_le, decide_eq_true_eq, Bool.not_eq_true', decide_eq_false_iff_not, scal, ↓reduceIte, Bool.false_eq_true]
  exact ap_pro ha hm fun z d H1 hz s1 f1 => ap_sum (hb.same s1) f1 fun y c H2 hy s2 f2 => k y c H2 ⟨z, hz, hy⟩ (s1.trans s2) (f2.mono (by omega))
abbrev sLPlaceAt : Stmt := topS 60
theorem scLPlaceAt : FnScope ["_law_row", "_law_moment_here"] ["_law_row", "_law_moment_here"] (defScope sLPlaceAt) := ⟨rfl, rfl, rfl, by decide +kernel, rfl, by decide +kernel, by decide +kernel⟩
theorem k_LPlaceAt (T : Bt K mg) (D : Dfn K mg "_law_place_at" sLPlaceAt ["_law_row", "_law_moment_here"]) (d__law_part : Kn P w K mg base 3 "_law_part" ["_law_value"] (spUn K fun q => (q.1 % q.2, q.2))) (d__law_turns : Kn P w K mg base 5 "_law_turns" ["_law_row", "_law_moment_here"] (spLTurns K)) : Kn P w K mg base 6 "_law_place_at" ["_law_row", "_law_moment_here"] (spLPlaceAt K) := by
  refine Kn.mk' D scLPlaceAt (fun vs H Q E h => ?_) (fun f cdv A outer s H vs Q E hr h => ?_)
  · obtain ⟨t, mm, a, b, p, q, m, n, j, rfl, _⟩ := h
    rfl
  obtain ⟨t, mm, a, b, p, q, m, n, j, rfl, ot, ha, hb, hm, hj, k⟩ := h
  refine ⟨_, (pss_one (ps_ret (pe_kn d__law_part hr (by rfl) (pa_cons (pe_kn d__law_turns hr (by rfl) (pa_cons (pv 0) (pa_cons (pv 1) pa_nil))) pa_nil)))), ?_⟩
  refine ⟨_, rfl, _, rfl, t, mm, a, b, p, q, m, n, j, rfl, ot, ha, hb, hm, hj, fun y c H1 hy s1 f1 => ap_part f1 fun e H2 s2 f2 => k y e H2 hy (s1.trans s2) f2⟩
/-- a row: a rate and a start -/
structure Rw (K : PySem.W.Frag) (H : Hp) (u a b : Addr) (p q : Qt) : Prop where
  ot : ob K H u = some (.tup [.ref a, .ref b])
  fa : Fq K H 133 a p
  fb : Pq K H 133 b q
theorem Rw.same {H H' : Hp} {u a b : Addr} {p q : Qt} (h : Rw K H u a b p q) (s : Same H H') : Rw K H' u a b p q := ⟨ob_same s h.ot, h.fa.same s, h.fb.same s⟩
theorem Fq.kps {H H' : Hp} {n : Nat} {a s : Addr} {q : Qt} (h : Fq K H n a q) (e : Kp s H H') (st : Sto K H s) : Fq K H' n a q := by
  obtain ⟨ys, hy⟩ := st.at
  exact h.kp e hy
theorem Pq.kps {H H' : Hp} {n : Nat} {a s : Addr} {q : Qt} (h : Pq K H n a q) (e : Kp s H H') (st : Sto K H s) : Pq K H' n a q := ⟨h.f.kps e st, h.lo, h.hi⟩
theorem ob_kps {H H' : Hp} {a s : Addr} {xs : List V} (h : ob K H a = some (.tup xs)) (e : Kp s H H') (st : Sto K H s) : ob K H' a = some (.tup xs) := by
  obtain ⟨ys, hy⟩ := st.at
  exact ob_kp e hy (fun _ z => by cases z) h
theorem Rw.kps {H H' : Hp} {s u a b : Addr} {p q : Qt} (h : Rw K H u a b p q) (e : Kp s H H') (st : Sto K H s) : Rw K H' u a b p q := ⟨ob_kps h.ot e st, h.fa.kps e st, h.fb.kps e st⟩
theorem ap_pickN {H : Hp} {Q : VK} {s : Addr} {xs : List V} (st : Sto K H s) (h0 : 0 < xs.length) (h1 : xs.length < 1000) (h : ∀ x H', x ∈ xs → Kp s H H' → Sto K H' s → Q x H') (E : XK := C8.E0) : ∀ l, H l = none → K.lookup l = none → spPick K [.ref s, .ref l] (upd H l (.lst xs)) Q E := fun l hl kl => by
  obtain ⟨ys, hys⟩ := st.at
  have sN := Same.new hl (.lst xs)
  exact ⟨s, l, xs, rfl, st.same sN, upd_same, ne_new hys hl, h0, h1, fun x H' hx kp st' => h x H' hx ((Kp.same sN).trans kp) st'⟩
theorem lw_sz {z : Qt} {t b : Int} {k : Nat} (h : Lw z t b) (h1 : 1 ≤ k) (ht : t.natAbs < 2 ^ k) (hb : b.natAbs < 2 ^ k) : Nf z ∧ Sz k z := by
  by_cases e : b = 0
  · rw [h.1 e]
    exact ⟨nf01, Nat.lt_of_lt_of_le (by decide : (0 : Int).natAbs < 2 ^ 1) (Nat.pow_le_pow_right (by omega) h1), Nat.lt_of_lt_of_le (by decide : (1 : Int).natAbs < 2 ^ 1) (Nat.pow_le_pow_right (by omega) h1)⟩
  · exact ⟨(h.2 e).1, is_sz e (h.2 e) ht hb⟩

def DrawI (K : PySem.W.Frag) (s u a b : Addr) (p q : Qt) (H : Hp) (σ : L2.St) (H' : Hp) : Prop := ∃ bm d, σ = [some (.ref s), some (.ref u), some (.ref bm), none] ∧ Rw K H' u a b p q ∧ Fq K H' 140 bm d ∧ Kp s H H' ∧ Sto K H' s
def spDrawn (K : PySem.W.Frag) : Sp := fun vs H Q _ => ∃ (s : Addr), vs = [.ref s] ∧ Sto K H s ∧ ∀ t u bm mm a b p q d m H', ob K H' t = some (.tup [.ref u, .ref bm, .ref mm]) → Rw K H' u a b p q → Fq K H' 140 bm d → Fq K H' 133 mm m → Kp s H H' → Sto K H' s → Q (.ref t) H'
abbrev sDrawn : Stmt := topS 64
theorem scDrawn : FnScope ["_law_store_here", "_law_row", "_law_by_much", "_law_moment_here"] ["_law_store_here"] (defScope sDrawn) := ⟨rfl, rfl, rfl, by decide +kernel, rfl, by decide +kernel, by decide +kernel⟩
theorem k_Drawn (T : Bt K mg) (D : Dfn K mg "_law_drawn" sDrawn ["_law_store_here"]) (d__law_take : Kn P w K mg base 2 "_law_take" ["_law_store_here", "_law_many"] (spTake K)) (d__law_pick : Kn P w K mg base 3 "_law_pick" ["_law_store_here", "_law_row"] (spPick K)) (d__law_whole : Kn P w K mg base 3 "_law_whole" ["_law_store_here", "_law_reach"] (spLInt K)) (d__law_frac_wide : Kn P w K mg base 4 "_law_frac_wide" ["_law_store_here"] (spDFrac K 133)) (d__law_moment : Kn P w K mg base 4 "_law_moment" ["_law_store_here", "_law_reach"] (spMoment K)) (d__law_frac : Kn P w K mg base 3 "_law_frac" ["_law_store_here"] (spDFrac K 10)) (d__law_over : Kn P w K mg base 3 "_law_over" ["_law_left", "_law_right"] (spBin K fun p q z => Lw z (p.1 * q.2) (p.2 * q.1))) (d__law_cycle_wide : Kn P w K mg base 5 "_law_cycle_wide" ["_law_store_here"] (spCycleW K)) (d__law_fits : Kn P w K mg base 2 "_law_fits" ["_law_thing"] (spFitsT K)) : Kn P w K mg base 6 "_law_drawn" ["_law_store_here"] (spDrawn K) := by
  refine Kn.mk' D scDrawn (fun vs H Q E h => ?_) (fun f cdv A outer s H vs Q E hr h => ?_)
  · obtain ⟨s, rfl, _⟩ := h
    rfl
  obtain ⟨s, rfl, hS, k⟩ := h
  refine ⟨_, (pss_cons (ps_set (i := 1) scDrawn.nd rfl (.inl rfl) (pe_kn d__law_cycle_wide hr (by rfl) (pa_cons (pv 0) pa_nil)))
      (pss_cons (ps_set (i := 2) scDrawn.nd rfl (.inl rfl) (pe_kn d__law_pick hr (by rfl) (pa_cons (pv 0) (pa_cons (pe_ls (pa_cons (pe_kn d__law_frac_wide hr (by rfl) (pa_cons (pv 0) pa_nil)) (pa_cons (pe_kn d__law_frac hr (by rfl) (pa_cons (pv 0) pa_nil)) (pa_cons (pe_tp (pa_cons (pe_kn d__law_whole hr (by rfl) (pa_cons (pv 0) (pa_cons pe_int pa_nil))) (pa_cons pe_int pa_nil))) pa_nil)))) pa_nil))))
      (C8.pss_cut (ps_if (PW.pt (pw_and (pt_cmpR op_ne (pe_ix ix_any (pe_ix ix_any (pv 1) pe_int (fun _ _ => rfl)) pe_int (fun _ _ => rfl)) pe_int (nomark _)) (pw_and1 (pt_cmpR op_eq (pe_kn d__law_take hr (by rfl) (pa_cons (pv 0) (pa_cons pe_int pa_nil))) pe_int (nomark _))))) (pss_one (ps_set (i := 2) scDrawn.nd rfl (.inl rfl) (pe_kn d__law_over hr (by rfl) (pa_cons (pe_tp (pa_cons (pe_kn d__law_whole hr (by rfl) (pa_cons (pv 0) (pa_cons pe_int pa_nil))) (pa_cons pe_int pa_nil))) (pa_cons (pe_ix ix_any (pv 1) pe_int (fun _ _ => rfl)) pa_nil))))) pss_nil)
      (C8.pss_cut (ps_if (pt_not (pt_val (pe_kn d__law_fits hr (by rfl) (pa_cons (pv 2) pa_nil)))) (pss_one (ps_set (i := 2) scDrawn.nd rfl (.inl rfl) (pe_tp (pa_cons pe_int (pa_cons pe_int pa_nil))))) pss_nil)
      (pss_cons (ps_set (i := 3) scDrawn.nd rfl (.inl rfl) (pe_kn d__law_pick hr (by rfl) (pa_cons (pv 0) (pa_cons (pe_ls (pa_cons (pe_kn d__law_frac_wide hr (by rfl) (pa_cons (pv 0) pa_nil)) (pa_cons (pe_kn d__law_moment hr (by rfl) (pa_cons (pv 0) (pa_cons pe_int pa_nil))) pa_nil))) pa_nil))))
      (pss_one (ps_ret (pe_tp (pa_cons (pv 1) (pa_cons (pv 2) (pa_cons (pv 3) pa_nil))))))))))), ?_⟩
  refine ⟨_, rfl, s, rfl, hS, fun u a b p q H1 ou hp hq kp1 st1 => ?_⟩
  have R1 : Rw K H1 u a b p q := ⟨ou, hp, hq⟩
  refine ⟨_, rfl, _, rfl, s, rfl, st1, fun m1 q1 H2 hm1 kp2 st2 => ⟨_, rfl, s, rfl, st2, fun m2 q2 H3 hm2 kp3 st3 => ⟨_, rfl, s, 12, rfl, st3, by omega, by omega, fun w H4 w0 w1 kp4 st4 => ⟨sz2 (by show 2 ≤ 100; decide), fun c3 h3 k3 => ⟨sz2 (by show 3 ≤ 100; decide), ?_⟩⟩⟩⟩⟩
  have s3 := Same.new h3 (.tup [.int w, .int 1])
  have f3 : Fq K (upd H4 c3 (.tup [.int w, .int 1])) 10 c3 (w, 1) := ⟨ob_new k3, nf_int w, sz10 (by omega) (by decide)⟩
  refine ap_pickN (st4.same s3) (by simp) (by simp) fun bv H5 hbv kp5 st5 => ?_
  have kpA : Kp s H1 H5 := kp2.trans (kp3.trans (kp4.trans ((Kp.same s3).trans kp5)))
  have R5 := R1.kps kpA st1
  obtain ⟨bm, d, rfl, hb5⟩ : ∃ bm d, bv = .ref bm ∧ Fq K H5 140 bm d := by
    simp only [List.mem_cons, List.not_mem_nil, or_false] at hbv
    rcases hbv with rfl | rfl | rfl
    · exact ⟨m1, q1, rfl, (((((hm1.kps kp3 st2).kps kp4 st3).same s3).kps kp5 (st4.same s3)).mono (by omega))⟩
    · exact ⟨m2, q2, rfl, ((((hm2.kps kp4 st3).same s3).kps kp5 (st4.same s3)).mono (by omega))⟩
    · exact ⟨c3, _, rfl, (f3.kps kp5 (st4.same s3)).mono (by omega)⟩
  have kpB := kp1.trans kpA
  clear kpA kp1 kp2 kp3 kp4 kp5 hbv f3 s3 h3 hm1 hm2 R1 ou hp hq st1 st2 st3 st4
  refine ⟨DrawI K s u a b p q H, ?_, ?_⟩
  · refine ⟨_, rfl, u, 0, rfl, rfl, _, itsO_of R5.ot, _, atI_0 _ _, a, 0, rfl, rfl, _, itsO_of R5.fa.o, _, atI_0 _ _, rfl, _, rfl, ?_⟩
    have no : DrawI K s u a b p q H [some (.ref s), some (.ref u), some (.ref bm), none] H5 := ⟨bm, d, rfl, R5, hb5, kpB, st5⟩
    refine ite2 (fun h0 => ?_) (fun h0 => iteF no)
    have hp0 : p.1 ≠ 0 := by
      intro z
      rw [z] at h0
      simp at h0
    refine ⟨_, rfl, s, 4, rfl, st5, by omega, fun i H6 i0 i1 kp6 st6 => ⟨rfl, _, rfl, ?_⟩⟩
    refine ite2 (fun _ => ?_) (fun _ => ⟨bm, d, rfl, R5.kps kp6 st5, hb5.kps kp6 st5, kpB.trans kp6, st6⟩)
    have R6 := R5.kps kp6 st5
    refine ⟨_, rfl, s, 3, rfl, st6, by omega, by omega, fun w H7 w0 w1 kp7 st7 => ⟨sz2 (by show 2 ≤ 100; decide), fun c4 h4 k4 => ?_⟩⟩
    have s4 := Same.new h4 (.tup [.int w, .int 1])
    have f4 : Fq K (upd H7 c4 (.tup [.int w, .int 1])) 4 c4 (w, 1) := ⟨ob_new k4, nf_int w, sz_of (by omega) (by decide)⟩
    have R7 := (R6.kps kp7 st6).same s4
    have st8 := st7.same s4
    have kp8 := (kpB.trans (kp6.trans kp7)).trans (Kp.same s4)
    refine ⟨_, rfl, u, 0, rfl, rfl, _, itsO_of R7.ot, _, atI_0 _ _, c4, a, _, p, rfl, f4.mono (by omega), R7.fa.mono (by omega), fun z hz e H8 s8 o8 => ?_⟩
    have g := lw_sz (k := 140) hz (by omega) (szMono (szMul f4.sz.1 R7.fa.sz.2) (by omega)) (szMono (szMul f4.sz.2 R7.fa.sz.1) (by omega))
    exact ⟨e, z, rfl, R7.same s8, ⟨o8, g.1, g.2⟩, kp8.trans (Kp.same s8), st8.same s8⟩
  rintro σ' H6 ⟨bm, d, rfl, R6, hb6, kp6, st6⟩
  clear R5 hb5 kpB st5
  refine ⟨DrawI K s u a b p q H, ?_, ?_⟩
  · refine ⟨_, rfl, bm, d.1, d.2, rfl, hb6.o, fun bb H7 s7 => ⟨bb, rfl, ?_⟩⟩
    refine ite2 (fun _ => ?_) (fun _ => ⟨bm, d, rfl, R6.same s7, hb6.same s7, kp6.trans (Kp.same s7), st6.same s7⟩)
    refine ⟨sz2 (by show 2 ≤ 100; decide), fun c5 h5 k5 => ?_⟩
    have s8 := s7.trans (Same.new h5 (.tup [.int 1, .int 2]))
    exact ⟨c5, (1, 2), rfl, R6.same s8, ⟨ob_new k5, nf12, Sz.mono (sz10 (by decide) (by decide)) (by omega)⟩, kp6.trans (Kp.same s8), st6.same s8⟩
  clear hb6 R6 kp6 st6
  rintro σ' H7 ⟨bm, d, rfl, R7, hb7, kp7, st7⟩
  refine ⟨_, rfl, _, rfl, s, rfl, st7, fun m1 q1 H8 hm1 kp8 st8 => ⟨_, rfl, s, 400, rfl, st8, by omega, by omega, fun m2 q2 H9 hm2 kp9 st9 => ⟨sz2 (by show 2 ≤ 100; decide), ap_pickN st9 (by simp) (by simp) fun mv Ha hmv kpa sta => ?_⟩⟩⟩
  have kpz := kp8.trans (kp9.trans kpa)
  obtain ⟨mm, m, rfl, hm⟩ : ∃ mm m, mv = .ref mm ∧ Fq K Ha 133 mm m := by
    simp only [List.mem_cons, List.not_mem_nil, or_false] at hmv
    rcases hmv with rfl | rfl
    · exact ⟨m1, q1, rfl, (hm1.kps kp9 st8).kps kpa st9⟩
    · exact ⟨m2, q2, rfl, (hm2.kps kpa st9).mono (by omega)⟩
  have Ra := R7.kps kpz st7
  have ha := hb7.kps kpz st7
  refine ⟨_, rfl, _, rfl, _, rfl, sz2 (by show 3 ≤ 100; decide), fun t ht kt => ?_⟩
  have sT := Same.new ht (.tup [.ref u, .ref bm, .ref mm])
  exact k t u bm mm a b p q d m _ (ob_new kt) (Ra.same sT) (ha.same sT) (hm.same sT) ((kp7.trans kpz).trans (Kp.same sT)) (sta.same sT)
end
end My

namespace My
open PySem PySem.Spec PyProof.Rows L2
section
variable {P : Program} {w : World} {K : PySem.W.Frag} {mg : Str → Option Value} {base : Heap}
theorem hold1 {p q d m z y y2 z3 : Qt} (hp : Nf p) (hq : Nf q) (hd : Nf d) (hm : Nf m) (hz : sum2 q d z) (h2 : Tur p (z.1 % z.2, z.2) m y2) (hy : Tur p q m y) (h3 : sum2 (y.1 % y.2, y.2) d z3) : ((y2.1 % y2.2, y2.2) : Qt) = (z3.1 % z3.2, z3.2) := by
  refine part_eq h2.nf h3.1 ?_
  rw [val_tur hp (nf_part hz.1) hm h2, val_sum (nf_part hy.nf) hd h3]
  obtain ⟨k1, e1⟩ := val_part hz.1
  obtain ⟨k2, e2⟩ := val_part hy.nf
  have v1 := val_sum hq hd hz
  have v2 := val_tur hp hq hm hy
  exact ⟨k2 - k1, by rw [Rat.intCast_sub]; grind⟩
theorem hold2 {p q d m g z y y2 w : Qt} (hp : Nf p) (hq : Nf q) (hd : Nf d) (hm : Nf m) (hg : pro2 p d g) (hz : pro2 q d z) (h2 : Tur g (z.1 % z.2, z.2) m y2) (hy : Tur p q m y) (h3 : pro2 y d w) : ((y2.1 % y2.2, y2.2) : Qt) = (w.1 % w.2, w.2) := by
  refine part_eq h2.nf h3.1 ?_
  rw [val_tur hg.1 (nf_part hz.1) hm h2, val_pro hy.nf hd h3]
  obtain ⟨k1, e1⟩ := val_part hz.1
  have v1 := val_pro hp hd hg
  have v2 := val_pro hq hd hz
  have v3 := val_tur hp hq hm hy
  exact ⟨-k1, by rw [Rat.intCast_neg]; grind⟩
theorem hold3 {p q d m y1 s y2 w : Qt} (hp : Nf p) (hq : Nf q) (hd : Nf d) (hm : Nf m) (h1 : Tur p q d y1) (h2 : Tur p (y1.1 % y1.2, y1.2) m y2) (hs : sum2 m d s) (h3 : Tur p q s w) : ((y2.1 % y2.2, y2.2) : Qt) = (w.1 % w.2, w.2) := by
  refine part_eq h2.nf h3.nf ?_
  rw [val_tur hp (nf_part h1.nf) hm h2, val_tur hp hq hs.1 h3, val_sum hm hd hs]
  obtain ⟨k1, e1⟩ := val_part h1.nf
  have v1 := val_tur hp hq hd h1
  exact ⟨-k1, by rw [Rat.intCast_neg]; grind⟩
/-- the place of a cycle, asked -/
theorem ap_place {C : Addr} {H : Hp} {Q : VK} {c mm : Addr} {p q m : Qt} {n j : Nat} (hc : CyAt K C n H c p q) (hm : Fq K H j mm m) (h : ∀ y e H', Tur p q m y → Same H H' → ob K H' e = some (frt (y.1 % y.2, y.2)) → Q (.ref e) H') (hj : n + j ≤ 2900 := by omega) (E : XK := C8.E0) : spPlace K C [.ref c, .ref mm] H Q E :=
  ⟨c, mm, p, q, m, n, j, rfl, hc, hm, hj, fun y hy _ e H' s o => h y e H' hy s o⟩
def spHolds (K : PySem.W.Frag) (C : Addr) : Sp := fun vs H Q _ => ∃ (c t bm mm a b : Addr) (p q d m : Qt) (n j k : Nat), vs = [.ref c, .ref t, .ref bm, .ref mm] ∧ CyAt K C n H c p q ∧ Rw K H t a b p q ∧ Fq K H j bm d ∧ Fq K H k mm m ∧ n ≤ 140 ∧ j ≤ 300 ∧ k ≤ 300 ∧ ∀ H', Same H H' → Q (.bl true) H'
abbrev sHolds : Stmt := topS 65
theorem scHolds : FnScope ["_law_cycle", "_law_row", "_law_by_much", "_law_moment_here", "_law_rate", "_law_start", "_law_place_here", "_law_turned", "_law_geared", "_law_due", "_law_later", "_law_then"] ["_law_cycle", "_law_row", "_law_by_much", "_law_moment_here"] (defScope sHolds) := ⟨rfl, rfl, rfl, by decide +kernel, rfl, by decide +kernel, by decide +kernel⟩
theorem k_Holds {C : Addr} (Y : CyC K mg C) (m_turned : C8.Met P w K mg base 7 C "turned" (spTurned K C) []) (m_geared : C8.Met P w K mg base 7 C "geared" (spGeared K C) []) (m_later : C8.Met P w K mg base 7 C "later" (spLater K C) []) (m_place : C8.Met P w K mg base 5 C "place" (spPlace K C) []) (T : Bt K mg) (D : Dfn K mg "_law_holds" sHolds ["_law_cycle", "_law_row", "_law_by_much", "_law_moment_here"]) (d__law_is_cycle : Kn P w K mg base 6 "_law_is_cycle" ["_law_cycle", "_law_row"] (spIsCycle K C)) (d__law_same : Kn P w K mg base 4 "_law_same" ["_law_told", "_law_due"] (spSame K 3)) (d__law_plus : Kn P w K mg base 3 "_law_plus" ["_law_left", "_law_right"] (spBin K sum2)) (d__law_times : Kn P w K mg base 3 "_law_times" ["_law_left", "_law_right"] (spBin K pro2)) (d__law_part : Kn P w K mg base 3 "_law_part" ["_law_value"] (spUn K fun q => (q.1 % q.2, q.2))) (d__law_turns : Kn P w K mg base 5 "_law_turns" ["_law_row", "_law_moment_here"] (spLTurns K)) (d__law_place_at : Kn P w K mg base 6 "_law_place_at" ["_law_row", "_law_moment_here"] (spLPlaceAt K)) (d__law_fits : Kn P w K mg base 2 "_law_fits" ["_law_thing"] (spFitsT K)) : Kn P w K mg base 9 "_law_holds" ["_law_cycle", "_law_row", "_law_by_much", "_law_moment_here"] (spHolds K C) := by
  refine Kn.mk' D scHolds (fun vs H Q E h => ?_) (fun f cdv A outer s H vs Q E hr h => ?_)
  · obtain ⟨c, t, bm, mm, a, b, p, q, d, m, n, j, k, rfl, _⟩ := h
    rfl
  obtain ⟨c, t, bm, mm, a, b, p, q, d, m, n, j, k, rfl, hc, R, hd, hm, hn, hj, hk, kk⟩ := h
  refine ⟨_, (pss_cons (ps_asg (pv 1) (pg_tp 2 (by rfl) (pgs_cons (pg_name (i := 4) scHolds.nd rfl (.inl rfl)) (pgs_cons (pg_name (i := 5) scHolds.nd rfl (.inl rfl)) pgs_nil))))
      (pss_cons (ps_set (i := 6) scHolds.nd rfl (.inl rfl) (pe_kn d__law_place_at hr (by rfl) (pa_cons (pv 1) (pa_cons (pv 3) pa_nil))))
      (pss_cons (ps_set (i := 7) scHolds.nd rfl (.inl rfl) (C8.pe_mt m_turned hr (by omega) (pv 0) (pa_cons (pv 2) pa_nil)))
      (pss_cons (ps_if (pt_not (pt_val (pe_kn d__law_is_cycle hr (by rfl) (pa_cons (pv 7) (pa_cons (pe_tp (pa_cons (pv 4) (pa_cons (pe_kn d__law_part hr (by rfl) (pa_cons (pe_kn d__law_plus hr (by rfl) (pa_cons (pv 5) (pa_cons (pv 2) pa_nil))) pa_nil)) pa_nil))) pa_nil))))) (pss_one (ps_ret pe_bl)) pss_nil)
      (pss_cons (ps_if (pt_not (pt_val (pe_kn d__law_same hr (by rfl) (pa_cons (C8.pe_mt m_place hr (by omega) (pv 7) (pa_cons (pv 3) pa_nil)) (pa_cons (pe_kn d__law_part hr (by rfl) (pa_cons (pe_kn d__law_plus hr (by rfl) (pa_cons (pv 6) (pa_cons (pv 2) pa_nil))) pa_nil)) pa_nil))))) (pss_one (ps_ret pe_bl)) pss_nil)
      (pss_cons (ps_set (i := 8) scHolds.nd rfl (.inl rfl) (C8.pe_mt m_geared hr (by omega) (pv 0) (pa_cons (pv 2) pa_nil)))
      (pss_cons (ps_if (pt_not (pt_val (pe_kn d__law_is_cycle hr (by rfl) (pa_cons (pv 8) (pa_cons (pe_tp (pa_cons (pe_kn d__law_times hr (by rfl) (pa_cons (pv 4) (pa_cons (pv 2) pa_nil))) (pa_cons (pe_kn d__law_part hr (by rfl) (pa_cons (pe_kn d__law_times hr (by rfl) (pa_cons (pv 5) (pa_cons (pv 2) pa_nil))) pa_nil)) pa_nil))) pa_nil))))) (pss_one (ps_ret pe_bl)) pss_nil)
      (pss_cons (ps_set (i := 9) scHolds.nd rfl (.inl rfl) (pe_kn d__law_times hr (by rfl) (pa_cons (pe_kn d__law_turns hr (by rfl) (pa_cons (pv 1) (pa_cons (pv 3) pa_nil))) (pa_cons (pv 2) pa_nil))))
      (pss_cons (ps_if (pt_not (pt_val (pe_kn d__law_same hr (by rfl) (pa_cons (C8.pe_mt m_place hr (by omega) (pv 8) (pa_cons (pv 3) pa_nil)) (pa_cons (pe_kn d__law_part hr (by rfl) (pa_cons (pv 9) pa_nil)) pa_nil))))) (pss_one (ps_ret pe_bl)) pss_nil)
      (pss_cons (ps_set (i := 10) scHolds.nd rfl (.inl rfl) (C8.pe_mt m_later hr (by omega) (pv 0) (pa_cons (pv 2) pa_nil)))
      (pss_cons (ps_set (i := 9) scHolds.nd rfl (.inl rfl) (pe_kn d__law_turns hr (by rfl) (pa_cons (pv 1) (pa_cons (pe_kn d__law_plus hr (by rfl) (pa_cons (pv 3) (pa_cons (pv 2) pa_nil))) pa_nil))))
      (pss_cons (ps_if (pt_not (pt_val (pe_kn d__law_is_cycle hr (by rfl) (pa_cons (pv 10) (pa_cons (pe_tp (pa_cons (pv 4) (pa_cons (pe_kn d__law_place_at hr (by rfl) (pa_cons (pv 1) (pa_cons (pv 2) pa_nil))) pa_nil))) pa_nil))))) (pss_one (ps_ret pe_bl)) pss_nil)
      (pss_cons (ps_if (pt_not (pt_val (pe_kn d__law_same hr (by rfl) (pa_cons (C8.pe_mt m_place hr (by omega) (pv 10) (pa_cons (pv 3) pa_nil)) (pa_cons (pe_kn d__law_part hr (by rfl) (pa_cons (pv 9) pa_nil)) pa_nil))))) (pss_one (ps_ret pe_bl)) pss_nil)
      (pss_cons (ps_set (i := 11) scHolds.nd rfl (.inl rfl) (pe_kn d__law_plus hr (by rfl) (pa_cons (pv 3) (pa_cons (pv 2) pa_nil))))
      (pss_one (ps_ret (pe_or (pe_not (pe_kn d__law_fits hr (by rfl) (pa_cons (pv 11) pa_nil))) (pe_one (pe_kn d__law_same hr (by rfl) (pa_cons (C8.pe_mt m_place hr (by omega) (pv 0) (pa_cons (pv 11) pa_nil)) (pa_cons (C8.pe_mt m_place hr (by omega) (pv 10) (pa_cons (pv 3) pa_nil)) pa_nil))))))))))))))))))))), ?_⟩
  have np := R.fa.nf
  have nq := R.fb.f.nf
  have nd := hd.nf
  have nm := hm.nf
  refine ⟨_, rfl, t, rfl, _, R.ot, rfl, _, _, rfl, _, _, rfl, rfl, ?_⟩
  refine ⟨_, rfl, _, rfl, t, mm, a, b, p, q, m, 133, k, rfl, R.ot, R.fa, R.fb.f, hm, by omega, fun y e1 H1 hy s1 f1 => ?_⟩
  refine ⟨_, rfl, ap_mt (hc.same s1) (fun _ _ _ => rfl) ⟨_, rfl, c, bm, p, q, d, n, j, rfl, hc.same s1, hd.same s1, by omega, fun z c2 H2 hz s2 hc2 => ?_⟩⟩
  have t2 := s1.trans s2
  refine ⟨_, rfl, _, rfl, _, rfl, _, rfl, ap_sum (R.fb.f.same t2) (hd.same t2) fun z' e3 H3 hz' s3 f3 => ap_part f3 fun e4 H4 s4 f4 => ?_⟩
  obtain rfl := sum2.uni nq nd hz hz'
  refine ⟨sz2 (by show 2 ≤ 100; decide), fun tp htp ktp => ⟨_, tp, _, _, _, _, _, rfl, CyAt.same (hc2.same (s3.trans s4)) (Same.new htp _), by omega, ob_new ktp, (Fq.same (R.fa.same (t2.trans (s3.trans s4))) (Same.new htp _)).o, (Fq.same (f4.f) (Same.new htp _)).o, fun H5 s5' => ⟨true, rfl, iteF ?_⟩⟩⟩
  have s5 := (Same.new htp _).trans s5'
  clear s5' htp ktp
  have t25 := s3.trans (s4.trans s5)
  have t5 := t2.trans t25
  refine ⟨_, rfl, ap_mt (hc2.same t25) (fun _ _ _ => rfl) ⟨_, rfl, ap_place (hc2.same t25) (hm.same t5) fun y2 e6 H6 hy2 s6 o6 => ?_⟩⟩
  have t6 := t5.trans s6
  refine ⟨_, rfl, _, rfl, ap_sum (f1.f.same (s2.trans (t25.trans s6))) (hd.same t6) fun z3 e7 H7 hz3 s7 f7 => ap_part f7 fun e8 H8 s8 f8 => ⟨_, _, rfl, eqv_f (ob_same (s7.trans s8) o6) f8.f.o (hold1 np nq nd nm hz hy2 hy hz3), fun H9 s9 => ⟨true, rfl, iteF ?_⟩⟩⟩
  have t9 := t6.trans (s7.trans (s8.trans s9))
  clear t25 t5 t6 s3 s4 s5 s6 s7 s8 s9 o6 f7 f8 f3 f4 hc2 f1 s1 s2 t2
  refine ⟨_, rfl, ap_mt (hc.same t9) (fun _ _ _ => rfl) ⟨_, rfl, c, bm, p, q, d, n, j, rfl, hc.same t9, hd.same t9, by omega, fun g zg c3 Ha hg hzg sa hc3 => ?_⟩⟩
  have ta := t9.trans sa
  refine ⟨_, rfl, _, rfl, _, rfl, ap_pro (R.fa.same ta) (hd.same ta) fun g' e1 Hb hg' sb fb => ⟨_, rfl, _, rfl, ap_pro (R.fb.f.same (ta.trans sb)) (hd.same (ta.trans sb)) fun zg' e2 Hc hzg' sc fc => ap_part fc fun e3 Hd sd fd' => ?_⟩⟩
  obtain rfl := pro2.uni np nd hg hg'
  obtain rfl := pro2.uni nq nd hzg hzg'
  refine ⟨sz2 (by show 2 ≤ 100; decide), fun tp htp ktp => ⟨_, tp, _, _, _, _, _, rfl, CyAt.same (hc3.same (sb.trans (sc.trans sd))) (Same.new htp _), by omega, ob_new ktp, (Fq.same (fb.same (sc.trans sd)) (Same.new htp _)).o, (Fq.same (fd'.f) (Same.new htp _)).o, fun He se' => ⟨true, rfl, iteF ?_⟩⟩⟩
  have se := (Same.new htp _).trans se'
  clear se' htp ktp
  have tae := sb.trans (sc.trans (sd.trans se))
  have te := ta.trans tae
  refine ⟨_, rfl, _, rfl, t, mm, a, b, p, q, m, 133, k, rfl, (R.same te).ot, (R.same te).fa, (R.same te).fb.f, hm.same te, by omega, fun yy e4 Hf hyy sf ff => ⟨_, rfl, ap_pro ff (hd.same (te.trans sf)) fun w e5 Hg hw sg fg => ?_⟩⟩
  have tg := te.trans (sf.trans sg)
  have tag := tae.trans (sf.trans sg)
  refine ⟨_, rfl, ap_mt (hc3.same tag) (fun _ _ _ => rfl) ⟨_, rfl, ap_place (hc3.same tag) (hm.same tg) fun y2 e6 Hh hy2 sh oh => ⟨_, rfl, ap_part (fg.same sh) fun e7 Hi si fi => ⟨_, _, rfl, eqv_f (ob_same si oh) fi.f.o (hold2 np nq nd nm hg hzg hy2 hyy hw), fun Hj sj => ⟨true, rfl, iteF ?_⟩⟩⟩⟩⟩
  have tj := tg.trans (sh.trans (si.trans sj))
  clear tag tg tae te sb sc sd se sf sg sh si sj sa ta fb fc fd' ff fg fi oh hc3 t9
  refine ⟨_, rfl, ap_mt (hc.same tj) (fun _ _ _ => rfl) ⟨_, rfl, c, bm, p, q, d, n, j, rfl, hc.same tj, hd.same tj, by omega, fun y1 c4 H1 hy1 s1 hc4 => ?_⟩⟩
  have t1 := tj.trans s1
  refine ⟨_, rfl, _, rfl, _, rfl, ap_sum (hm.same t1) (hd.same t1) fun sm e1 H2 hsm s2 f2 => ?_⟩
  have t2 := t1.trans s2
  refine ⟨t, e1, a, b, p, q, sm, 133, k + j + 1, rfl, (R.same t2).ot, (R.same t2).fa, (R.same t2).fb.f, f2, by omega, fun w e2 H3 hw s3 f3 => ?_⟩
  have t3 := t2.trans s3
  refine ⟨_, rfl, _, rfl, _, rfl, _, rfl, t, bm, a, b, p, q, d, 133, j, rfl, (R.same t3).ot, (R.same t3).fa, (R.same t3).fb.f, hd.same t3, by omega, fun y1' e3 H4 hy1' s4 f4 => ?_⟩
  obtain rfl := Tur.unique np nq nd hy1 hy1'
  refine ⟨sz2 (by show 2 ≤ 100; decide), fun tp htp ktp => ⟨_, tp, _, _, _, _, _, rfl, CyAt.same (hc4.same (s2.trans (s3.trans s4))) (Same.new htp _), by omega, ob_new ktp, (Fq.same (R.fa.same (t3.trans s4)) (Same.new htp _)).o, (Fq.same (f4.f) (Same.new htp _)).o, fun H5 s5' => ⟨true, rfl, iteF ?_⟩⟩⟩
  have s5 := (Same.new htp _).trans s5'
  clear s5' htp ktp
  have t15 := s2.trans (s3.trans (s4.trans s5))
  have t5 := t1.trans t15
  refine ⟨_, rfl, ap_mt (hc4.same t15) (fun _ _ _ => rfl) ⟨_, rfl, ap_place (hc4.same t15) (hm.same t5) fun y2 e6 H6 hy2 s6 o6 => ⟨_, rfl, ap_part (f3.same (s4.trans (s5.trans s6))) fun e7 H7 s7 f7 => ⟨_, _, rfl, eqv_f (ob_same s7 o6) f7.f.o (hold3 np nq nd nm hy1 hy2 hsm hw), fun H8 s8 => ⟨true, rfl, iteF ?_⟩⟩⟩⟩⟩
  have t8 := t5.trans (s6.trans (s7.trans s8))
  have t18 := t15.trans (s6.trans (s7.trans s8))
  refine ⟨_, rfl, _, rfl, ap_sum (hm.same t8) (hd.same t8) fun sm' e9 H9 hsm' s9 f9 => ?_⟩
  obtain rfl := sum2.uni nm nd hsm hsm'
  refine ⟨_, rfl, e9, sm.1, sm.2, rfl, f9.o, fun bb Ha sa => ⟨bb, rfl, !bb, rfl, ite2 (fun _ => kk Ha (t8.trans (s9.trans sa))) (fun _ => ?_)⟩⟩
  have ta := t8.trans (s9.trans sa)
  have t1a := t18.trans (s9.trans sa)
  refine ⟨_, rfl, ap_mt (hc.same ta) (fun _ _ _ => rfl) ⟨_, rfl, ap_place (hc.same ta) (f9.same sa) fun yb eb Hb hyb sb ob' => ⟨_, rfl, ap_mt (hc4.same (t1a.trans sb)) (fun _ _ _ => rfl) ⟨_, rfl, ap_place (hc4.same (t1a.trans sb)) (hm.same (ta.trans sb)) fun yc ec Hc hyc sc oc => ⟨_, _, rfl, eqv_f (ob_same sc ob') oc ?_, fun Hd sd => kk Hd (ta.trans (sb.trans (sc.trans sd)))⟩⟩⟩⟩⟩
  exact (hold3 np nq nd nm hy1 hyc hsm hyb).symm
end
end My

namespace My
open PySem PySem.Spec PyProof.Rows L2
section
variable {P : Program} {w : World} {K : PySem.W.Frag} {mg : Str → Option Value} {base : Heap}
theorem if_no {c : Bool} {A B : Prop} (e : c = false) (h : B) : if c = true then A else B := by
  rw [e, if_neg Bool.noConfusion]
  exact h
theorem eqt {p p' q q' : Qt} (e1 : p = p') (e2 : q = q') : (!decide ((decide (p = p') && decide (q = q')) = true)) = false := by simp [e1, e2]
theorem eqs {p p' q q' : Qt} (e1 : p = p') (e2 : q = q') : decide ((decide (p = p') && decide (q = q')) = true) = true := by simp [e1, e2]
theorem eqpack {C : Addr} {H : Hp} {c d : Addr} {p q p' q' : Qt} {n j : Nat} {R : Prop} (hc : CyAt K C n H c p q) (hd : CyAt K C j H d p' q') (h : R) : ∃ a dx fs b C' dy gs, V.ref c = .ref a ∧ V.ref d = .ref b ∧ H a = some (.ins C dx fs) ∧ H b = some (.ins C' dy gs) ∧ PySem.W.notFirst K C (.ref C') = true ∧ R := by
  obtain ⟨dx, ra, sb, v, hi, _⟩ := id hc
  obtain ⟨dx', ra', sb', v', hi', _⟩ := id hd
  exact ⟨c, dx, _, d, C, dx', _, rfl, rfl, hi, hi', nf_self, h⟩
theorem binpack {C : Addr} {H : Hp} {c d : Addr} {p q p' q' : Qt} {n j : Nat} {R : Prop} (hc : CyAt K C n H c p q) (hd : CyAt K C j H d p' q') (h : R) : ∃ a dx fs b dy gs, V.ref c = .ref a ∧ V.ref d = .ref b ∧ H a = some (.ins C dx fs) ∧ H b = some (.ins C dy gs) ∧ R := by
  obtain ⟨dx, ra, sb, v, hi, _⟩ := id hc
  obtain ⟨dx', ra', sb', v', hi', _⟩ := id hd
  exact ⟨c, dx, _, d, dx', _, rfl, rfl, hi, hi', h⟩
theorem negpack {C : Addr} {H : Hp} {c : Addr} {p q : Qt} {n : Nat} {R : Prop} (hc : CyAt K C n H c p q) (h : R) : ∃ a dx fs, V.ref c = .ref a ∧ H a = some (.ins C dx fs) ∧ R := by
  obtain ⟨dx, ra, sb, v, hi, _⟩ := id hc
  exact ⟨c, dx, _, rfl, hi, h⟩
theorem part_pl {x q : Qt} (hx : Nf x) (hq : Nf q) (h0 : 0 ≤ q.1) (h1 : q.1 < q.2) (h : Cg (val x) (val q)) : ((x.1 % x.2, x.2) : Qt) = q := (part_eq hx hq h).trans (part_self h0 h1)
theorem un1 {q d z1 z2 : Qt} (hq : Nf q) (hd : Nf d) (h0 : 0 ≤ q.1) (h1 : q.1 < q.2) (a : sum2 q d z1) (b : sum2 (z1.1 % z1.2, z1.2) (-d.1, d.2) z2) : ((z2.1 % z2.2, z2.2) : Qt) = q := by
  refine part_pl b.1 hq h0 h1 ?_
  rw [val_sum (nf_part a.1) (nf_neg hd) b, val_neg]
  obtain ⟨k1, e1⟩ := val_part a.1
  have v1 := val_sum hq hd a
  exact ⟨-k1, by rw [Rat.intCast_neg]; grind⟩
theorem un2 {p q d y1 y2 : Qt} (hp : Nf p) (hq : Nf q) (hd : Nf d) (h0 : 0 ≤ q.1) (h1 : q.1 < q.2) (a : Tur p q d y1) (b : Tur p (y1.1 % y1.2, y1.2) (-d.1, d.2) y2) : ((y2.1 % y2.2, y2.2) : Qt) = q := by
  refine part_pl b.nf hq h0 h1 ?_
  rw [val_tur hp (nf_part a.nf) (nf_neg hd) b, val_neg]
  obtain ⟨k1, e1⟩ := val_part a.nf
  have v1 := val_tur hp hq hd a
  exact ⟨-k1, by rw [Rat.intCast_neg]; grind⟩
theorem un3 {p q d s z3 y3 y1 z4 : Qt} (hp : Nf p) (hq : Nf q) (hd : Nf d) (hs : Nf s) (a : sum2 q s z3) (b : Tur p (z3.1 % z3.2, z3.2) d y3) (c : Tur p q d y1) (e : sum2 (y1.1 % y1.2, y1.2) s z4) : ((y3.1 % y3.2, y3.2) : Qt) = (z4.1 % z4.2, z4.2) := by
  refine part_eq b.nf e.1 ?_
  rw [val_tur hp (nf_part a.1) hd b, val_sum (nf_part c.nf) hs e]
  obtain ⟨k1, e1⟩ := val_part a.1
  obtain ⟨k2, e2⟩ := val_part c.nf
  have v1 := val_sum hq hs a
  have v2 := val_tur hp hq hd c
  exact ⟨k2 - k1, by rw [Rat.intCast_sub]; grind⟩
theorem pro_one {p g : Qt} (hp : Nf p) (h : pro2 p (1, 1) g) : g = p := val_inj h.1 hp (by rw [val_pro hp nf11 h, val_int, Rat.intCast_one]; grind)
theorem pro_m1 {p g : Qt} (hp : Nf p) (h : pro2 p (-1, 1) g) : g = (-p.1, p.2) := val_inj h.1 (nf_neg hp) (by rw [val_pro hp nfm1 h, val_int, val_neg, Rat.intCast_neg, Rat.intCast_one]; grind)
theorem pro_zero {p g : Qt} (hp : Nf p) (h : pro2 p (0, 1) g) : g = (0, 1) := val_inj h.1 nf01 (by rw [val_pro hp nf01 h, val_int, Rat.intCast_zero]; grind)
theorem pro_two {p g y : Qt} (hp : Nf p) (h : pro2 p (2, 1) g) (b : sum2 p p y) : g = y := val_inj h.1 b.1 (by
  rw [val_pro hp (nf_int 2) h, val_int, val_sum hp hp b]
  have : ((2 : Int) : Rat) = 2 := rfl
  rw [this]
  grind)
theorem turn_one {q z : Qt} (hq : Nf q) (h0 : 0 ≤ q.1) (h1 : q.1 < q.2) (h : sum2 q (1, 1) z) : ((z.1 % z.2, z.2) : Qt) = q := by
  refine part_pl h.1 hq h0 h1 ?_
  rw [val_sum hq nf11 h, val_int]
  exact ⟨1, rfl⟩
theorem val_per {p : Qt} (hp : Nf p) (h0 : p.1 ≠ 0) : ∃ k : Int, val p * val (p.2, (p.1.natAbs : Int)) = (k : Rat) := by
  have h1 := hp.ne'
  have h2 := icast0 h0
  rcases Int.lt_or_lt_of_ne h0 with h | h
  · refine ⟨-1, ?_⟩
    have e : (p.1.natAbs : Int) = -p.1 := by omega
    rw [e]
    show (p.1 : Rat) / p.2 * ((p.2 : Rat) / ((-p.1 : Int) : Rat)) = _
    rw [Rat.intCast_neg, Rat.intCast_neg, Rat.intCast_one]
    grind
  · refine ⟨1, ?_⟩
    have e : (p.1.natAbs : Int) = p.1 := by omega
    rw [e]
    show (p.1 : Rat) / p.2 * ((p.2 : Rat) / (p.1 : Rat)) = _
    rw [Rat.intCast_one]
    grind
theorem later_per {p q y : Qt} (hp : Nf p) (hq : Nf q) (h00 : p.1 ≠ 0) (hr : Nf (p.2, (p.1.natAbs : Int))) (h0 : 0 ≤ q.1) (h1 : q.1 < q.2) (h : Tur p q (p.2, (p.1.natAbs : Int)) y) : ((y.1 % y.2, y.2) : Qt) = q := by
  refine part_pl h.nf hq h0 h1 ?_
  rw [val_tur hp hq hr h]
  obtain ⟨k, e⟩ := val_per hp h00
  rw [e]
  exact ⟨k, rfl⟩
theorem CyAt.facts {C : Addr} {n : Nat} {H : Hp} {c : Addr} {p q : Qt} (h : CyAt K C n H c p q) : Nf p ∧ Nf q ∧ 0 ≤ q.1 ∧ q.1 < q.2 := by
  obtain ⟨dx, ra, sb, v, hi, hp, hq, hv⟩ := h
  exact ⟨hp.nf, hq.f.nf, hq.lo, hq.hi⟩
def spUndone (K : PySem.W.Frag) (C : Addr) : Sp := fun vs H Q _ => ∃ (c bm sh : Addr) (t : V) (p q d s : Qt) (n j k : Nat), vs = [.ref c, t, .ref bm, .ref sh] ∧ CyAt K C n H c p q ∧ Fq K H j bm d ∧ Fq K H k sh s ∧ n ≤ 140 ∧ j ≤ 300 ∧ k ≤ 300 ∧ ∀ H', Same H H' → Q (.bl true) H'
abbrev sUndone : Stmt := topS 66
theorem scUndone : FnScope ["_law_cycle", "_law_row", "_law_by_much", "_law_shift", "_law_back"] ["_law_cycle", "_law_row", "_law_by_much", "_law_shift"] (defScope sUndone) := ⟨rfl, rfl, rfl, by decide +kernel, rfl, by decide +kernel, by decide +kernel⟩
theorem k_Undone {C : Addr} (Y : CyC K mg C) (sf : PySem.W.selfFirst K C = true) (oE : OpK P w K mg base 5 C "__eq__" (spCyEq K C)) (oA : OpK P w K mg base 7 C "__add__" (spCyAdd K C)) (oN : OpK P w K mg base 7 C "__neg__" (spCyNeg K C)) (m_turned : C8.Met P w K mg base 7 C "turned" (spTurned K C) []) (m_geared : C8.Met P w K mg base 7 C "geared" (spGeared K C) []) (m_later : C8.Met P w K mg base 7 C "later" (spLater K C) []) (T : Bt K mg) (D : Dfn K mg "_law_undone" sUndone ["_law_cycle", "_law_row", "_law_by_much", "_law_shift"]) (d__law_is_cycle : Kn P w K mg base 6 "_law_is_cycle" ["_law_cycle", "_law_row"] (spIsCycle K C)) : Kn P w K mg base 9 "_law_undone" ["_law_cycle", "_law_row", "_law_by_much", "_law_shift"] (spUndone K C) := by
  refine Kn.mk' D scUndone (fun vs H Q E h => ?_) (fun f cdv A outer s H vs Q E hr h => ?_)
  · obtain ⟨c, bm, sh, t, p, q, d, s, n, j, k, rfl, _⟩ := h
    rfl
  obtain ⟨c, bm, sh, t, p, q, d, s, n, j, k, rfl, hc, hd, hs, hn, hj, hk, kk⟩ := h
  refine ⟨_, (pss_cons (ps_set (i := 4) scUndone.nd rfl (.inl rfl) (pe_tp (pa_cons (pe_un un_neg (pe_ix ix_any (pv 2) pe_int (fun _ _ => rfl))) (pa_cons (pe_ix ix_any (pv 2) pe_int (fun _ _ => rfl)) pa_nil))))
      (pss_cons (ps_if (pt_cmpR op_isnot_bl (pe_cmpR (op_eqC oE hr (by omega)) (C8.pe_mt m_turned hr (by omega) (C8.pe_mt m_turned hr (by omega) (pv 0) (pa_cons (pv 2) pa_nil)) (pa_cons (pv 4) pa_nil)) (pv 0) (nomark _)) pe_bl (nomark _)) (pss_one (ps_ret pe_bl)) pss_nil)
      (pss_cons (ps_if (pt_cmpR op_isnot_bl (pe_cmpR (op_eqC oE hr (by omega)) (C8.pe_mt m_later hr (by omega) (C8.pe_mt m_later hr (by omega) (pv 0) (pa_cons (pv 2) pa_nil)) (pa_cons (pv 4) pa_nil)) (pv 0) (nomark _)) pe_bl (nomark _)) (pss_one (ps_ret pe_bl)) pss_nil)
      (pss_cons (ps_if (pt_cmpR op_isnot_bl (pe_cmpR (op_eqC oE hr (by omega)) (C8.pe_mt m_later hr (by omega) (C8.pe_mt m_turned hr (by omega) (pv 0) (pa_cons (pv 3) pa_nil)) (pa_cons (pv 2) pa_nil)) (C8.pe_mt m_turned hr (by omega) (C8.pe_mt m_later hr (by omega) (pv 0) (pa_cons (pv 2) pa_nil)) (pa_cons (pv 3) pa_nil)) (nomark _)) pe_bl (nomark _)) (pss_one (ps_ret pe_bl)) pss_nil)
      (pss_cons (ps_if (PW.pt (pw_or (pt_cmpR op_isnot_bl (pe_cmpR (op_eqC oE hr (by omega)) (C8.pe_mt m_geared hr (by omega) (pv 0) (pa_cons (pe_tp (pa_cons pe_int (pa_cons pe_int pa_nil))) pa_nil)) (pv 0) (nomark _)) pe_bl (nomark _)) (pw_or1 (pt_cmpR op_isnot_bl (pe_cmpR (op_eqC oE hr (by omega)) (C8.pe_mt m_geared hr (by omega) (pv 0) (pa_cons (pe_tp (pa_cons (pe_un un_neg pe_int) (pa_cons pe_int pa_nil))) pa_nil)) (pe_un (un_negC oN hr (by omega)) (pv 0)) (nomark _)) pe_bl (nomark _))))) (pss_one (ps_ret pe_bl)) pss_nil)
      (pss_cons (ps_if (pt_not (pt_val (pe_kn d__law_is_cycle hr (by rfl) (pa_cons (C8.pe_mt m_geared hr (by omega) (pv 0) (pa_cons (pe_tp (pa_cons pe_int (pa_cons pe_int pa_nil))) pa_nil)) (pa_cons (pe_tp (pa_cons (pe_tp (pa_cons pe_int (pa_cons pe_int pa_nil))) (pa_cons (pe_tp (pa_cons pe_int (pa_cons pe_int pa_nil))) pa_nil))) pa_nil))))) (pss_one (ps_ret pe_bl)) pss_nil)
      (pss_cons (ps_if (PW.pt (pw_or (pt_cmpR op_isnot_bl (pe_cmpR (op_eqC oE hr (by omega)) (C8.pe_mt m_geared hr (by omega) (pv 0) (pa_cons (pe_tp (pa_cons pe_int (pa_cons pe_int pa_nil))) pa_nil)) (pe_op (op_addC sf oA hr (by omega)) (pv 0) (pv 0)) (nomark _)) pe_bl (nomark _)) (pw_or1 (pt_cmpR op_isnot_bl (pe_cmpR (op_eqC oE hr (by omega)) (C8.pe_mt m_turned hr (by omega) (pv 0) (pa_cons (pe_tp (pa_cons pe_int (pa_cons pe_int pa_nil))) pa_nil)) (pv 0) (nomark _)) pe_bl (nomark _))))) (pss_one (ps_ret pe_bl)) pss_nil)
      (pss_one (ps_ret (pe_or (pe_cmpR op_isN (pe_fld (pv 0) rfl) pe_non (nomark _)) (pe_one (pe_cmpR op_is_bl (pe_cmpR (op_eqC oE hr (by omega)) (C8.pe_mt m_later hr (by omega) (pv 0) (pa_cons (pe_fld (pv 0) rfl) pa_nil)) (pv 0) (nomark _)) pe_bl (nomark _))))))))))))), ?_⟩
  obtain ⟨np, nq, q0, q1⟩ := hc.facts
  have nd := hd.nf
  have ns := hs.nf
  refine ⟨_, rfl, bm, 0, rfl, rfl, _, itsO_of hd.o, _, atI_0 _ _, _, rfl, _, rfl, bm, 1, rfl, rfl, _, itsO_of hd.o, _, atI_1 _ _ _, sz2 (by show 2 ≤ 100; decide), fun bk hbk kbk => ?_⟩
  have sb := Same.new hbk (.tup [.int (-d.1), .int d.2])
  have fb : Fq K (upd H bk (.tup [.int (-d.1), .int d.2])) j bk (-d.1, d.2) := ⟨ob_new kbk, nf_neg nd, by show (-d.1).natAbs < 2 ^ j; rw [Int.natAbs_neg]; exact hd.sz.1, hd.sz.2⟩
  refine ⟨_, rfl, ap_mt (hc.same sb) (fun _ _ _ => rfl) ⟨_, rfl, c, bm, p, q, d, n, j, rfl, hc.same sb, hd.same sb, by omega, fun z1 c1 H1 hz1 s1 h1 => ap_mt h1 (fun _ _ _ => rfl) ⟨_, rfl, c1, bk, p, _, _, _, j, rfl, h1, fb.same s1, by omega, fun z2 c2 H2 hz2 s2 h2 => ⟨_, rfl, ?_⟩⟩⟩⟩
  have t2 := sb.trans (s1.trans s2)
  refine eqpack (h2) (hc.same t2) ⟨_, _, _, _, _, _, _, _, rfl, h2, hc.same t2, _, _, rfl, rfl, _, rfl, if_no (eqt (rfl) (un1 nq nd q0 q1 hz1 hz2)) ?_⟩
  have fb2 := fb.same (s1.trans s2)
  clear h1 h2 s1 s2 sb fb
  refine ⟨_, rfl, ap_mt (hc.same t2) (fun _ _ _ => rfl) ⟨_, rfl, c, bm, p, q, d, n, j, rfl, hc.same t2, hd.same t2, by omega, fun z1 c1 H3 hz1 s1 h1 => ap_mt h1 (fun _ _ _ => rfl) ⟨_, rfl, c1, bk, p, _, _, _, j, rfl, h1, fb2.same s1, by omega, fun z2 c2 H4 hz2 s2 h2 => ⟨_, rfl, ?_⟩⟩⟩⟩
  have t4 := t2.trans (s1.trans s2)
  refine eqpack (h2) (hc.same t4) ⟨_, _, _, _, _, _, _, _, rfl, h2, hc.same t4, _, _, rfl, rfl, _, rfl, if_no (eqt (rfl) (un2 np nq nd q0 q1 hz1 hz2)) ?_⟩
  clear h1 h2 s1 s2 t2 fb2
  refine ⟨_, rfl, ap_mt (hc.same t4) (fun _ _ _ => rfl) ⟨_, rfl, c, sh, p, q, s, n, k, rfl, hc.same t4, hs.same t4, by omega, fun z3 c3 H5 hz3 s5 h3 => ap_mt h3 (fun _ _ _ => rfl) ⟨_, rfl, c3, bm, p, _, d, _, j, rfl, h3, hd.same (t4.trans s5), by omega, fun y3 c4 H6 hy3 s6 h4 => ?_⟩⟩⟩
  have t6 := t4.trans (s5.trans s6)
  refine ⟨_, rfl, ap_mt (hc.same t6) (fun _ _ _ => rfl) ⟨_, rfl, c, bm, p, q, d, n, j, rfl, hc.same t6, hd.same t6, by omega, fun y1 c5 H7 hy1 s7 h5 => ap_mt h5 (fun _ _ _ => rfl) ⟨_, rfl, c5, sh, p, _, s, _, k, rfl, h5, hs.same (t6.trans s7), by omega, fun z4 c6 H8 hz4 s8 h6 => ?_⟩⟩⟩
  have t8 := t6.trans (s7.trans s8)
  refine eqpack (h4.same (s7.trans s8)) (h6) ⟨_, _, _, _, _, _, _, _, rfl, h4.same (s7.trans s8), h6, _, _, rfl, rfl, _, rfl, if_no (eqt (rfl) (un3 np nq nd ns hz3 hy3 hy1 hz4)) ?_⟩
  clear h3 h4 h5 h6 s5 s6 s7 s8 t4 t6
  refine ⟨_, rfl, ap_mt (hc.same t8) (fun _ _ _ => rfl) ⟨sz2 (by show 2 ≤ 100; decide), fun e1 he1 ke1 => ?_⟩⟩
  have t9 := t8.trans (Same.new he1 (.tup [.int 1, .int 1]))
  refine ⟨c, e1, p, q, (1, 1), n, 10, rfl, hc.same t9, ⟨ob_new ke1, nf11, sz10 (by decide) (by decide)⟩, by omega, fun g z c1 Ha hg hz sa h1 => ⟨_, rfl, ?_⟩⟩
  have ta := t9.trans sa
  refine eqpack (h1) (hc.same ta) ⟨_, _, _, _, _, _, _, _, rfl, h1, hc.same ta, _, _, rfl, rfl, _, rfl, if_no (eqt (pro_one np hg) (by rw [pro_one nq hz]; exact part_self q0 q1)) ?_⟩
  clear h1 he1 ke1 hg hz t8
  refine ⟨_, rfl, ap_mt (hc.same ta) (fun _ _ _ => rfl) ⟨_, rfl, sz2 (by show 2 ≤ 100; decide), fun e1 he1 ke1 => ?_⟩⟩
  have tb := ta.trans (Same.new he1 (.tup [.int (-1), .int 1]))
  refine ⟨c, e1, p, q, (-1, 1), n, 10, rfl, hc.same tb, ⟨ob_new ke1, nfm1, sz10 (by decide) (by decide)⟩, by omega, fun g z c1 Hc hg hz sc h1 => ⟨_, rfl, ?_⟩⟩
  have tc := tb.trans sc
  refine negpack (hc.same tc) ⟨c, p, q, n, rfl, hc.same tc, by omega, fun c2 Hd sd h2 => ?_⟩
  have td := tc.trans sd
  refine eqpack (h1.same sd) (h2) ⟨_, _, _, _, _, _, _, _, rfl, h1.same sd, h2, _, _, rfl, rfl, _, rfl, if_no (eqt (pro_m1 np hg) (by rw [pro_m1 nq hz])) ?_⟩
  clear h1 h2 he1 ke1 hg hz ta tb tc sc sd
  refine ⟨_, rfl, ap_mt (hc.same td) (fun _ _ _ => rfl) ⟨sz2 (by show 2 ≤ 100; decide), fun e1 he1 ke1 => ?_⟩⟩
  have te := td.trans (Same.new he1 (.tup [.int 0, .int 1]))
  refine ⟨c, e1, p, q, (0, 1), n, 10, rfl, hc.same te, ⟨ob_new ke1, nf01, sz10 (by decide) (by decide)⟩, by omega, fun g z c1 Hf hg hz sf h1 => ?_⟩
  have tf := te.trans sf
  rw [pro_zero np hg, pro_zero nq hz] at h1
  refine ⟨sz2 (by show 2 ≤ 100; decide), fun r1 hr1 kr1 => ⟨sz2 (by show 2 ≤ 100; decide), fun r2 hr2 kr2 => ⟨sz2 (by show 2 ≤ 100; decide), fun r3 hr3 kr3 => ?_⟩⟩⟩
  have s1 := Same.new hr1 (.tup [.int 0, .int 1])
  have s2 := Same.new hr2 (.tup [.int 0, .int 1])
  have s3 := Same.new hr3 (.tup [.ref r1, .ref r2])
  refine ⟨c1, r3, r1, r2, (0, 1), (0, 1), _, rfl, h1.same (s1.trans (s2.trans s3)), by omega, ob_new kr3, ob_same (s2.trans s3) (ob_new kr1), ob_same s3 (ob_new kr2), fun Hg sg => ⟨true, rfl, iteF ?_⟩⟩
  have tg := tf.trans (s1.trans (s2.trans (s3.trans sg)))
  clear h1 s1 s2 s3 sg hr1 kr1 hr2 kr2 hr3 kr3 he1 ke1 hg hz te tf sf td
  refine ⟨_, rfl, ap_mt (hc.same tg) (fun _ _ _ => rfl) ⟨sz2 (by show 2 ≤ 100; decide), fun e1 he1 ke1 => ?_⟩⟩
  have th := tg.trans (Same.new he1 (.tup [.int 2, .int 1]))
  refine ⟨c, e1, p, q, (2, 1), n, 10, rfl, hc.same th, ⟨ob_new ke1, nf21, sz10 (by decide) (by decide)⟩, by omega, fun g z c1 Hi hg hz si h1 => ?_⟩
  have ti := th.trans si
  refine ⟨_, rfl, _, rfl, binpack (hc.same ti) (hc.same ti) ⟨c, c, p, q, p, q, n, n, rfl, hc.same ti, hc.same ti, by omega, fun y w c2 Hj hy hw sj h2 => ?_⟩⟩
  have tj := ti.trans sj
  refine eqpack (h1.same sj) (h2) ⟨_, _, _, _, _, _, _, _, rfl, h1.same sj, h2, _, _, rfl, rfl, _, rfl, if_no (eqt (pro_two np hg hy) (by rw [pro_two nq hz hw])) ?_⟩
  clear h1 h2 he1 ke1 hg hz tg th ti si sj hy hw
  refine ⟨_, rfl, ap_mt (hc.same tj) (fun _ _ _ => rfl) ⟨sz2 (by show 2 ≤ 100; decide), fun e1 he1 ke1 => ?_⟩⟩
  have tk := tj.trans (Same.new he1 (.tup [.int 1, .int 1]))
  refine ⟨c, e1, p, q, (1, 1), n, 10, rfl, hc.same tk, ⟨ob_new ke1, nf11, sz10 (by decide) (by decide)⟩, by omega, fun z c1 Hl hz sl h1 => ⟨_, rfl, ?_⟩⟩
  have tl := tk.trans sl
  refine eqpack (h1) (hc.same tl) ⟨_, _, _, _, _, _, _, _, rfl, h1, hc.same tl, _, _, rfl, rfl, _, rfl, if_no (eqt (rfl) (turn_one nq q0 q1 hz)) ?_⟩
  clear h1 he1 ke1 hz sl tj tk
  obtain ⟨dx, ra, sb, v, hi, hp, hq, hv⟩ := hc.same tl
  refine ⟨_, rfl, c, C, dx, _, _, rfl, hi, Y.cl, Y.nP, cy_period _ _ _, rfl, _, rfl, ?_⟩
  rcases hv with ⟨h0, rfl⟩ | ⟨h0, r, rfl, fr⟩
  · rw [if_pos (by simp)]
    exact kk Hl tl
  rw [if_neg (by simp)]
  refine ⟨_, rfl, ap_mt (hc.same tl) (fun _ _ _ => rfl) ⟨_, rfl, c, C, dx, _, _, rfl, hi, Y.cl, Y.nP, cy_period _ _ _, c, r, p, q, _, n, n, rfl, hc.same tl, fr, by omega, fun y c1 Hm hy sm h1 => ⟨_, rfl, ?_⟩⟩⟩
  have tm := tl.trans sm
  refine eqpack h1 (hc.same tm) ⟨_, _, _, _, _, _, _, _, rfl, h1, hc.same tm, _, _, rfl, rfl, ?_⟩
  rw [eqs rfl (later_per np nq h0 fr.nf q0 q1 hy)]
  exact kk Hm tm
end
end My

namespace My
open PySem PySem.Spec PyProof.Rows L2
section
variable {P : Program} {w : World} {K : PySem.W.Frag} {mg : Str → Option Value} {base : Heap}
theorem nf_one {n : Int} (h : 1 ≤ n) : Nf (1, n) := ⟨h, Int.gcd_one_left _⟩
def spDeep (K : PySem.W.Frag) (C : Addr) : Sp := fun vs H Q _ => ∃ (s c t bm a b : Addr) (p q d : Qt) (n j : Nat), vs = [.ref s, .ref c, .ref t, .ref bm] ∧ Sto K H s ∧ CyAt K C n H c p q ∧ Rw K H t a b p q ∧ Fq K H j bm d ∧ n ≤ 140 ∧ j ≤ 300 ∧ ∀ H', Kp s H H' → Sto K H' s → Q (.bl true) H'
theorem CyAt.kps {C : Addr} {n : Nat} {H H' : Hp} {c s : Addr} {p q : Qt} (h : CyAt K C n H c p q) (e : Kp s H H') (st : Sto K H s) : CyAt K C n H' c p q := by
  obtain ⟨ys, hy⟩ := st.at
  exact h.kp e hy
abbrev sDeep : Stmt := topS 67
theorem scDeep : FnScope ["_law_store_here", "_law_cycle", "_law_row", "_law_by_much", "_law_far", "_law_moment_here", "_law_deep"] ["_law_store_here", "_law_cycle", "_law_row", "_law_by_much"] (defScope sDeep) := ⟨rfl, rfl, rfl, by decide +kernel, rfl, by decide +kernel, by decide +kernel⟩
theorem k_Deep {C : Addr} (mk : C8.Mak P w K mg base 5 "Cycle" C (spCyInit K C) []) (m_turns : C8.Met P w K mg base 4 C "turns" (spTurns K C) []) (T : Bt K mg) (D : Dfn K mg "_law_deep_told" sDeep ["_law_store_here", "_law_cycle", "_law_row", "_law_by_much"]) (d__law_take : Kn P w K mg base 2 "_law_take" ["_law_store_here", "_law_many"] (spTake K)) (d__law_same : Kn P w K mg base 4 "_law_same" ["_law_told", "_law_due"] (spSame K 3)) (d__law_turns : Kn P w K mg base 5 "_law_turns" ["_law_row", "_law_moment_here"] (spLTurns K)) (d__law_holds : Kn P w K mg base 9 "_law_holds" ["_law_cycle", "_law_row", "_law_by_much", "_law_moment_here"] (spHolds K C)) : Kn P w K mg base 10 "_law_deep_told" ["_law_store_here", "_law_cycle", "_law_row", "_law_by_much"] (spDeep K C) := by
  refine Kn.mk' D scDeep (fun vs H Q E h => ?_) (fun f cdv A outer s H vs Q E hr h => ?_)
  · obtain ⟨s, c, t, bm, a, b, p, q, d, n, j, rfl, _⟩ := h
    rfl
  obtain ⟨s, c, t, bm, a, b, p, q, d, n, j, rfl, hS, hc, R, hd, hn, hj, kk⟩ := h
  refine ⟨_, (pss_cons (ps_set (i := 4) scDeep.nd rfl (.inl rfl) (pe_tp (pa_cons (pe_tp (pa_cons pe_int (pa_cons (pe_op op_pow pe_int pe_int) pa_nil))) (pa_cons (pe_tp (pa_cons pe_int (pa_cons (pe_op op_add (pe_op op_add (pe_op op_pow pe_int pe_int) pe_int) (pe_kn d__law_take hr (by rfl) (pa_cons (pv 0) (pa_cons pe_int pa_nil)))) pa_nil))) pa_nil))))
      (pss_cons (ps_set (i := 5) scDeep.nd rfl (.inl rfl) (pe_tp (pa_cons pe_int (pa_cons (pe_op op_add pe_int (pe_kn d__law_take hr (by rfl) (pa_cons (pv 0) (pa_cons pe_int pa_nil)))) pa_nil))))
      (pss_cons (ps_set (i := 6) scDeep.nd rfl (.inl rfl) (C8.pe_mt m_turns hr (by omega) (C8.pe_mk mk hr (by omega) (by rfl) (pa_cons (pe_ix ix_any (pv 4) pe_int (fun _ _ => rfl)) (pa_cons (pe_ix ix_any (pv 4) pe_int (fun _ _ => rfl)) pa_nil))) (pa_cons (pv 5) pa_nil)))
      (pss_cons (ps_if (PW.pt (pw_or (pt_not (pt_val (pe_kn d__law_same hr (by rfl) (pa_cons (pv 6) (pa_cons (pe_kn d__law_turns hr (by rfl) (pa_cons (pv 4) (pa_cons (pv 5) pa_nil))) pa_nil))))) (pw_or1 (pt_not (pt_val (pe_kn d__law_same hr (by rfl) (pa_cons (C8.pe_mt m_turns hr (by omega) (pv 1) (pa_cons (pv 6) pa_nil)) (pa_cons (pe_kn d__law_turns hr (by rfl) (pa_cons (pv 2) (pa_cons (pv 6) pa_nil))) pa_nil)))))))) (pss_one (ps_ret pe_bl)) pss_nil)
      (pss_one (ps_ret (pe_and (pe_kn d__law_holds hr (by rfl) (pa_cons (pv 1) (pa_cons (pv 2) (pa_cons (pv 6) (pa_cons (pv 5) pa_nil))))) (pe_one (pe_kn d__law_holds hr (by rfl) (pa_cons (pv 1) (pa_cons (pv 2) (pa_cons (pv 3) (pa_cons (pv 6) pa_nil))))))))))))), ?_⟩
  simp only [cx_K, decide_true, decide_false, reduceCtorEq, gTp, gCons, gNil, ca_0, ca_1, ca_2, ca_3, ca_4, ca_5, ca_6, ca_7, ca_8, ca_9, ca_10, ca_11, ca_12, ca_13, ca_14, ca_15, ca_16, ca_17, ca_18, ca_19, ca_20, ca_21, ca_22, ca_23, ca_24, ca_25, ca_26, ca_27, ca_28, ca_29, ca_30, not_true_eq_false, not_false_eq_true, Int.reduceEq, Nat.reduceEqDiff, Nat.reduceLeDiff, rGcd, V.ty.injEq, eq_self, List.not_mem_nil, beq_self_eq_true, HO.lst.injEq, HO.tup.injEq, tFor_eq, iRng1, iList, iTup, nat10, tSeq, rIxA, rSetA, rIsN, rIsT, tTp, tLs, itsO_tup, itsO_lst, tyO_tup, tyO_lst, tyO_dK, tyN_non, tyN_bl, tyN_int, tyN_str, tyN_ref, tyNs_lt, isB, upd_same, upd_upd, sizeLine_eq, List.mem_cons, String.reduceBEq, String.reduceEq, Bool.or_false, Bool.or_true, Bool.and_false, Bool.false_or, Bool.and_self, Bool.false_and, Bool.not_false, Bool.not_true, List.any_cons, List.any_nil, atI_0, setI_0, atI_1, setI_1, atI_2, setI_2, atI_3, setI_3, atI_4, setI_4, atI_5, setI_5, atI_6, setI_6, tAsg, gName, tOp, tUn, tVar, tC, tCons, L2.tNil, tRet, tIfS, tTest, tCB, tCall, rI, rI0, rU, tNext, tB, tAnd, tOr, tNot, tAndV, tOrV, tNotV, tDrop, tIf, tPar, gSub, rIxL, rIxT, rEq, rNe, rSetL, tBits,
    L2.start, List.map_cons, List.map_nil, List.cons_append, List.nil_append, List.append_nil, List.length_cons, List.length_nil, List.replicate, Nat.reduceAdd, Nat.reduceSub, Nat.zero_add, List.getElem?_cons_zero, List.getElem?_cons_succ, List.set_cons_zero, List.set_cons_succ,
    Option.some.injEq, exists_eq_left', exists_eq_left, V.int.injEq, V.bl.injEq, V.ref.injEq, V.str.injEq, List.cons.injEq, reduceCtorEq, and_true, true_and, false_and, and_false, exists_false, or_false, false_or, or_true, true_or, exists_const, CMul, CDiv, CPow, and_assoc, exists_and_left, exists_and_right, Int.reducePow, Int.reduceNeg, Int.reduceLT, Int.reduceLE, Nat.reducePow, Nat.reduceLT, Int.reduceToNat, gt_iff_lt, ge_iff_le, decide_eq_true_eq, Bool.not_eq_true', decide_eq_false_iff_not, scal, ↓reduceIte, Bool.false_eq_true]
  intro a1 h1 k1
  have s1 := Same.new h1 (.tup [.int 1, .int 1000000000000000000000000000000000000000])
  have f1 : Fq K (upd H a1 (.tup [.int 1, .int 1000000000000000000000000000000000000000])) 131 a1 (1, 1000000000000000000000000000000000000000) := ⟨ob_new k1, nf_one (by decide), ⟨by show Int.natAbs _ < _; decide, by show Int.natAbs _ < _; decide⟩⟩
  have S1 := hS.same s1
  refine ⟨s, 12, rfl, S1, by omega, fun i H2 i0 i1 kp2 st2 => ⟨i, rfl, fun a2 h2 k2 a3 h3 k3 => ?_⟩⟩
  have s2 := Same.new h2 (.tup [.int 1, .int (1000000000000000000000000000000000000000 + 1 + i)])
  have s3 := Same.new h3 (.tup [.ref a1, .ref a2])
  have f2 : Pq K (upd H2 a2 (.tup [.int 1, .int (1000000000000000000000000000000000000000 + 1 + i)])) 131 a2 (1, 1000000000000000000000000000000000000000 + 1 + i) := ⟨⟨ob_new k2, nf_one (by omega), sz_of (by decide) (by omega)⟩, by show (0 : Int) ≤ 1; omega, by show (1 : Int) < 1000000000000000000000000000000000000000 + 1 + i; omega⟩
  have o3 := ob_new (H := upd H2 a2 (.tup [.int 1, .int (1000000000000000000000000000000000000000 + 1 + i)])) (o := .tup [.ref a1, .ref a2]) k3
  have s23 := s2.trans s3
  have f1 := (f1.kps kp2 S1).same s23
  have f2 := f2.same s3
  have kp3 : Kp s H _ := (Kp.same s1).trans (kp2.trans (Kp.same s23))
  have st3 := st2.same s23
  generalize upd (upd H2 a2 (.tup [.int 1, .int (1000000000000000000000000000000000000000 + 1 + i)])) a3 (.tup [.ref a1, .ref a2]) = H3 at f1 f2 o3 kp3 st3 ⊢
  clear s1 s2 s3 s23 h1 k1 h2 k2 h3 k3 kp2 st2 S1
  refine ⟨s, 12, rfl, st3, by omega, fun i' H4 i0' i1' kp4 st4 => ⟨i', rfl, fun a4 h4 k4 => ?_⟩⟩
  have s4 := Same.new h4 (.tup [.int 1, .int (1 + i')])
  have fm : Fq K (upd H4 a4 (.tup [.int 1, .int (1 + i')])) 4 a4 (1, 1 + i') := ⟨ob_new k4, nf_one (by omega), sz_of (by decide) (by omega)⟩
  have f1 := (f1.kps kp4 st3).same s4
  have f2 := (f2.kps kp4 st3).same s4
  have o3 := ob_same s4 (ob_kps o3 kp4 st3)
  have kp5 := (kp3.trans kp4).trans (Kp.same s4)
  have st5 := st4.same s4
  generalize upd H4 a4 (.tup [.int 1, .int (1 + i')]) = H5 at fm f1 f2 o3 kp5 st5 ⊢
  clear s4 h4 k4 kp3 st3 kp4 st4
  have hc := hc.kps kp5 hS
  have R := R.kps kp5 hS
  have hd := hd.kps kp5 hS
  have kk : ∀ H', Same H5 H' → Q (.bl true) H' := fun H' z => kk H' (kp5.trans (Kp.same z)) (st5.same z)
  clear kp5 st5 hS
  refine ⟨_, rfl, a3, 0, rfl, rfl, _, itsO_of o3, _, atI_0 _ _, _, rfl, a3, 1, rfl, rfl, _, itsO_of o3, _, atI_1 _ _ _, fun x dx hx hdx hne => ⟨H5, x, dx, a1, a2, _, _, 131, rfl, same_make hx hdx, hx, upd_same, f1, f2, by omega, fun H6 s6 hcy => ⟨rfl, ?_⟩⟩⟩
  refine ap_mt hcy (fun _ _ _ => rfl) ⟨_, rfl, x, a4, _, _, _, 131, 4, rfl, hcy, fm.same s6, by omega, fun y hy sy e H7 s7 o7 => ?_⟩
  have t7 := s6.trans s7
  have fe : Fq K H7 269 e y := ⟨o7, hy.nf, sy.mono (by omega)⟩
  refine ⟨a3, a4, a1, a2, _, _, _, 131, 4, rfl, ob_same t7 o3, f1.same t7, f2.f.same t7, fm.same t7, by omega, fun y' e' H8 hy' s8 f8 => ?_⟩
  obtain rfl := Tur.unique f1.nf f2.f.nf fm.nf hy hy'
  refine ⟨_, _, rfl, eqv_f (fe.same s8).o f8.o rfl, fun H9 s9 => ⟨true, rfl, ?_⟩⟩
  rw [if_neg Bool.noConfusion]
  have t9 := t7.trans (s8.trans s9)
  have fe9 := fe.same (s8.trans s9)
  refine ⟨_, rfl, ap_mt (hc.same t9) (fun _ _ _ => rfl) ⟨_, rfl, c, e, p, q, y, n, 269, rfl, hc.same t9, fe9, by omega, fun w hw sw g Ha sa oa => ?_⟩⟩
  have ta := t9.trans sa
  refine ⟨t, e, a, b, p, q, y, 133, 269, rfl, (R.same ta).ot, (R.same ta).fa, (R.same ta).fb.f, fe9.same sa, by omega, fun w' g' Hb hw' sb fb => ?_⟩
  obtain rfl := Tur.unique R.fa.nf R.fb.f.nf fe.nf hw hw'
  refine ⟨_, _, rfl, eqv_f (ob_same sb oa) fb.o rfl, fun Hc sc => ⟨true, rfl, ?_⟩⟩
  rw [if_neg Bool.noConfusion]
  have tc := ta.trans (sb.trans sc)
  have fec := fe9.same (sa.trans (sb.trans sc))
  refine ⟨c, t, e, a4, a, b, p, q, y, _, n, 269, 4, rfl, hc.same tc, R.same tc, fec, fm.same tc, hn, by omega, by omega, fun Hd sd => ⟨true, rfl, ?_⟩⟩
  rw [if_pos rfl]
  have td := tc.trans sd
  exact ⟨c, t, bm, e, a, b, p, q, d, y, n, j, 269, rfl, hc.same td, R.same td, hd.same td, fec.same sd, hn, hj, by omega, fun He se => kk He (td.trans se)⟩
end
end My

namespace My
open PySem PySem.Spec PyProof.Rows L2
section
variable {P : Program} {w : World} {K : PySem.W.Frag} {mg : Str → Option Value} {base : Heap}
end
/-! ### what a def that raises keeps -/
structure KnX (P : Program) (w : World) (K : PySem.W.Frag) (mg : Str → Option Value) (base : Heap) (k : Nat) (x : Str) (ps : List Str) (sp : Sp) : Prop where
  ex : ∃ f fd, mg x = some (.ref f) ∧ PySem.W.keepIn K (.ref f) = true ∧ Binds K fd ps [] ∧ FnOk P w K mg base (L2.CX P w) k f fd ps sp
theorem KnX.mk' {P : Program} {w : World} {K : PySem.W.Frag} {mg : Str → Option Value} {base : Heap} {x : Str} {st : Stmt} {N ps : List Str} {k : Nat} {sp : Sp} (D : Dfn K mg x st ps) (S : FnScope N ps (defScope st)) (len : ∀ vs H Q E, sp vs H Q E → vs.length = ps.length)
    (hbody : ∀ (f : Addr) (cdv : Value) (A : Around) (outer : List Env) (s : Shared) (H : Hp) (vs : List V) (Q : VK) (E : XK), Room k (A.deeper (envOfC x (defScope st) s.heap.objs.size f cdv)) → sp vs H Q E →
      ∃ t, PSs (cxOf (L2.CX P w) P w K mg base N x (defScope st) f cdv A outer s H E) (defBody st) t ∧ t { nx := fun _ H' => Q .non H', rt := Q } (start N vs) H) : KnX P w K mg base (k + 1) x ps sp := by
  obtain ⟨f, fd, F, m, b⟩ := D.ex
  exact ⟨f, fd, m, F.kp, b, F.okX S len (hbody f)⟩
section
variable {X : Cx}
theorem pe_knX {j k : Nat} {x : Str} {ps : List Str} {sp : Sp} {p pos : Pos} {e : Expr} {es : List Expr} {t : TA} {W : WX} (E : XK) (F : KnX X.prog X.w X.K X.mg X.base k x ps sp) (hr : Room j X.A) (hg : Gl X x) (tk : Takes X W) (hW : ∀ cls d σ H, E cls d H → W cls d σ H) (ha : PA X (e :: es) t) (hj : k ≤ j := by omega)
    (hdb : (x == ("__debug__" : Str)) = false := by decide) (he : starEach (e :: es) X.env = (false, eval e X.env) :: starEach es X.env := by rfl) (hpl : (backTo pos (starEach es X.env)).any (·.1) = false := by rfl) :
    PE X (.Call (.Name x p) (e :: es) [] pos) (tCall sp [] E t) := by
  obtain ⟨f, fd, m, kp, b, G⟩ := F.ex
  exact pe_call G (hr.mono hj) hg m kp b .nil (passes_call tk hW) ha hdb he hpl
end
/-! ### BadValue -/
structure BvT (K : PySem.W.Frag) (mg : Str → Option Value) (C : Addr) : Prop where
  g : mg "BadValue" = some (.ref C)
  ox : OexC K C
  no : PySem.W.findIn K (.ref C) "what" = some none
  ini : ∃ fI fd, PySem.W.findIn K (.ref C) "__init__" = some (some (.ref fI)) ∧ PySem.W.typeIn K (.ref fI) = some (.type "function") ∧ Fun K "__init__" "BadValue.__init__" (inClass (topS 4) 0) fI fd ∧ Binds K fd ["self", "what"] []
def spInit (C : Addr) : Sp := fun vs H Q _ => ∃ (a : Addr) (y : V), vs = [.ref a, y] ∧ H a = some (exo a C none) ∧ ∀ dx, H dx = none → dx ≠ a → Q .non (upd (upd H dx (exd dx [("what", y)])) a (exo a C (some dx)))
/-- an error of BadValue: its own dict d, what it names -/
def Bv (K : PySem.W.Frag) (C : Addr) (H : Hp) (E : XK) (y : V) : Prop := ∀ (d : Addr) (H' : Hp), Same H H' → H' d = some (.xd [("what", y)]) → E (.ref C) (some d) H'
def spRequireX (K : PySem.W.Frag) (C : Addr) : Sp := fun vs H _ E => ∃ y : V, vs = [.bl false, y] ∧ Bv K C H E y
section
variable {P : Program} {w : World} {K : PySem.W.Frag} {mg : Str → Option Value} {base : Heap}
abbrev sInitB : Stmt := inClass (topS 4) 0
theorem scInitB : FnScope ["self", "what"] ["self", "what"] (defScope sInitB) := ⟨rfl, rfl, rfl, by decide +kernel, rfl, by decide +kernel, by decide +kernel⟩
theorem ok_initB {C fI : Addr} {fd : FuncData} (B : BvT K mg C) (F : Fun K "__init__" "BadValue.__init__" sInitB fI fd) : FnOk P w K mg base CX0 1 fI fd ["self", "what"] (spInit C) := by
  refine F.ok scInitB (fun vs H Q E h => ?_) (fun cdv A outer s H vs Q E hr h => ?_)
  · obtain ⟨a, y, rfl, _⟩ := h
    rfl
  obtain ⟨a, y, rfl, ha, k⟩ := h
  refine ⟨_, pss_one (ps_ost (pv 0) (pv 1)), ?_⟩
  exact ⟨_, rfl, _, rfl, a, C, rfl, B.ox, B.no, .inl ⟨ha, k⟩⟩
theorem kx_Require {C : Addr} (B : BvT K mg C) (D : Dfn K mg "require" sRequire ["well_formed", "what"]) : KnX P w K mg base 3 "require" ["well_formed", "what"] (spRequireX K C) := by
  refine KnX.mk' D scRequire (fun vs H Q E h => ?_) (fun f cdv A outer s H vs Q E hr h => ?_)
  · obtain ⟨y, rfl, _⟩ := h
    rfl
  obtain ⟨y, rfl, k⟩ := h
  obtain ⟨fI, fd, iC, tI, F, b⟩ := B.ini
  refine ⟨_, (pss_one (ps_if (pt_not (pt_val (pv 0))) (pss_one (ps_raise rfl (takes_of rfl rfl rfl rfl) (pmk_oex B.ox iC tI (ok_initB B F) hr b .nil pass0 (by rfl) B.g (pa_cons (pv 1) pa_nil)))) pss_nil)), ?_⟩
  refine ⟨_, rfl, _, rfl, iteT ?_⟩
  refine ⟨_, rfl, by show 1 ≤ 1000; decide, fun a na => ⟨a, y, rfl, upd_same, fun dx ndx ne => ⟨rfl, dx, [("what", y)], upd_same, ?_, ?_, ?_⟩⟩⟩
  · rw [upd_ne ne, upd_same]
  · rw [upd_ne ne] at ndx
    exact ndx
  · rw [upd_ne ne] at ndx
    refine k dx _ (fun b o e => ?_) upd_same
    rw [upd_ne (ne_of_none e ndx), del_ne (ne_of_none e na), upd_ne (ne_of_none e na), upd_ne (ne_of_none e ndx), upd_ne (ne_of_none e na)]
    exact e
/-- a wrong side, the left one first -/
def spBadBin (K : PySem.W.Frag) (C : Addr) : Sp := fun vs H _ E => (∃ v u, vs = [v, u] ∧ Gd K H v ∧ Bv K C H E (.str "left")) ∨ ∃ a p u, vs = [.ref a, u] ∧ Fq K H 3000 a p ∧ Gd K H u ∧ Bv K C H E (.str "right")
/-- 0 on the right -/
def spBadZero (K : PySem.W.Frag) (C : Addr) : Sp := fun vs H _ E => ∃ a b p q, vs = [.ref a, .ref b] ∧ Fq K H 3000 a p ∧ Fq K H 3000 b q ∧ q.1 = 0 ∧ Bv K C H E (.str "right")
def spBadM (K : PySem.W.Frag) (CB : Addr) (nm : Str) : Sp := fun vs H _ E => ∃ x v, vs = [x, v] ∧ Gd K H v ∧ Bv K CB H E (.str nm)
theorem kx_CyTurned {CB f : Addr} {fd : FuncData} (d_x : KnX P w K mg base 3 "require" ["well_formed", "what"] (spRequireX K CB)) (d_require : Kn P w K mg base 1 "require" ["well_formed", "what"] spRequire) (d_is_fraction : Kn P w K mg base 2 "is_fraction" ["value"] (spIsFraction K)) (d_is_place : Kn P w K mg base 3 "is_place" ["value"] (spIsPlace K)) (F : Fun K "turned" "Cycle.turned" sCyTurned f fd) : FnOk P w K mg base (L2.CX P w) 5 f fd ["self", "by"] (spBadM K CB "by") := by
  refine F.okX scCyTurned (fun vs H Q E h => ?_) (fun cdv A outer s H vs Q E hr h => ?_)
  · rcases h with ⟨x, v, rfl, _⟩ <;> rfl
  rcases h with ⟨x, v, rfl, hv, k⟩
  · refine ⟨_, (pss_cons (ps_expr (pe_knX E d_x hr (by rfl) (takes_of rfl rfl rfl rfl) (fun _ _ _ _ h => h) (pa_cons (pe_kn d_is_fraction hr (by rfl) (pa_cons (pv 1) pa_nil)) (pa_cons pe_str pa_nil)))) (pss_one ps_never)), ?_⟩
    exact ⟨_, rfl, _, rfl, hv.ty, _, by rw [hv.no]; rfl, k⟩
theorem kx_CyGeared {CB f : Addr} {fd : FuncData} (d_x : KnX P w K mg base 3 "require" ["well_formed", "what"] (spRequireX K CB)) (d_require : Kn P w K mg base 1 "require" ["well_formed", "what"] spRequire) (d_is_fraction : Kn P w K mg base 2 "is_fraction" ["value"] (spIsFraction K)) (d_is_place : Kn P w K mg base 3 "is_place" ["value"] (spIsPlace K)) (F : Fun K "geared" "Cycle.geared" sCyGeared f fd) : FnOk P w K mg base (L2.CX P w) 5 f fd ["self", "factor"] (spBadM K CB "factor") := by
  refine F.okX scCyGeared (fun vs H Q E h => ?_) (fun cdv A outer s H vs Q E hr h => ?_)
  · rcases h with ⟨x, v, rfl, _⟩ <;> rfl
  rcases h with ⟨x, v, rfl, hv, k⟩
  · refine ⟨_, (pss_cons (ps_expr (pe_knX E d_x hr (by rfl) (takes_of rfl rfl rfl rfl) (fun _ _ _ _ h => h) (pa_cons (pe_kn d_is_fraction hr (by rfl) (pa_cons (pv 1) pa_nil)) (pa_cons pe_str pa_nil)))) (pss_one ps_never)), ?_⟩
    exact ⟨_, rfl, _, rfl, hv.ty, _, by rw [hv.no]; rfl, k⟩
theorem kx_CyLater {CB f : Addr} {fd : FuncData} (d_x : KnX P w K mg base 3 "require" ["well_formed", "what"] (spRequireX K CB)) (d_require : Kn P w K mg base 1 "require" ["well_formed", "what"] spRequire) (d_is_fraction : Kn P w K mg base 2 "is_fraction" ["value"] (spIsFraction K)) (d_is_place : Kn P w K mg base 3 "is_place" ["value"] (spIsPlace K)) (F : Fun K "later" "Cycle.later" sCyLater f fd) : FnOk P w K mg base (L2.CX P w) 5 f fd ["self", "by"] (spBadM K CB "by") := by
  refine F.okX scCyLater (fun vs H Q E h => ?_) (fun cdv A outer s H vs Q E hr h => ?_)
  · rcases h with ⟨x, v, rfl, _⟩ <;> rfl
  rcases h with ⟨x, v, rfl, hv, k⟩
  · refine ⟨_, (pss_cons (ps_expr (pe_knX E d_x hr (by rfl) (takes_of rfl rfl rfl rfl) (fun _ _ _ _ h => h) (pa_cons (pe_kn d_is_fraction hr (by rfl) (pa_cons (pv 1) pa_nil)) (pa_cons pe_str pa_nil)))) (pss_one ps_never)), ?_⟩
    exact ⟨_, rfl, _, rfl, hv.ty, _, by rw [hv.no]; rfl, k⟩
end
end My

namespace My
open PySem PySem.Spec PyProof.Rows L2
section
variable {P : Program} {w : World} {K : PySem.W.Frag} {mg : Str → Option Value} {base : Heap}
end
/-- what the written part says of the errors' classes: C is BadValue, S SkyError, A the eleven by name -/
structure AskT (K : PySem.W.Frag) (mg : Str → Option Value) (C S : Addr) (A : String → Addr) : Prop where
  sky : mg "SkyError" = some (.ref S)
  exm : PySem.W.exmOne K (.ref C) (.ref S) = some true
  g : ∀ n ∈ ["BadValue", "Mismatch", "Still", "Endless", "TooMany", "NoName", "Taken", "Locked", "Looped", "Broken", "ReadError"], mg (Str.ofString n) = some (.ref (A n))
  k : ∀ n ∈ ["BadValue", "Mismatch", "Still", "Endless", "TooMany", "NoName", "Taken", "Locked", "Looped", "Broken", "ReadError"], PySem.W.kitOne K (.ref C) (.ref (A n)) = some (n == "BadValue")
  ve : PySem.W.kitOne K (.ref C) (.type "ValueError") = some true
  b_VE : mg "ValueError" = none
  hcl : (PySem.W.clsIn K C).isSome = true
  hga : PySem.W.findIn K (.ref C) "__getattribute__" = some (some (.builtin "BaseException.__getattribute__"))
  hgt : PySem.W.findIn K (.ref C) "__getattr__" = some none
  hsub : PySem.W.subIn K (.ref C) (.type "BaseException") = some true
  ha : PySem.W.findIn K (.ref C) "__class__" = some (some (.builtin "object.__class__"))
  hn : PySem.W.specialIn K (.builtin "object.__class__") "__get__" = some (some (.builtin "getset_descriptor.__get__"))
  htk : PySem.W.takesIn K (.builtin "object.__class__") = some true
  hm : PySem.W.mroIn K C (.type "object") = some true
  xf : XfC K C
/-- isinstance of a caught error that has its dict -/
def kitV (K : PySem.W.Frag) (C : Addr) : V → Option Bool
  | .ref D => PySem.W.kitOne K (.ref C) (.ref D)
  | .ty n => PySem.W.kitOne K (.ref C) (.type n)
  | _ => none
def rIsX (K : PySem.W.Frag) (C a : Addr) (cls : Value) (d : Option Addr) : List V → Hp → VK → Prop := fun xs H Q => ∃ c, xs = [.ref a, c] ∧ cls = .ref C ∧ ∃ dd, d = some dd ∧ (∃ fs, H dd = some (.xd fs)) ∧ ∃ b, kitV K C c = some b ∧ Q (.bl b) H
theorem call_isX {X : Cx} {C S a : Addr} {A : String → Addr} {oe : Obj} {cls : Value} {d : Option Addr} {pn : List (Addr × Obj)} (T : AskT X.K X.mg C S A) (hz : Zc cls d oe) (hf : ∃ vs, oe.data = .fields vs) : CallR (X.suite a ((a, oe) :: pn)) (.builtin "isinstance") (rIsX X.K C a cls d) := fun pins s σ H xs us Q I r h => by
  obtain ⟨c, rfl, rfl, dd, rfl, ⟨fs, hfs⟩, b, hb, q⟩ := h
  obtain ⟨u1, u2, rfl, r1, r2⟩ := vals2 r
  cases r1
  obtain ⟨hget, _⟩ := I.pin (a, oe) (List.mem_append.mpr (.inl List.mem_cons_self))
  obtain ⟨vs, hv⟩ := hf
  obtain ⟨mA, ⟨od, es, ep, ho, hr0⟩, hr⟩ := (show ObjOk X.prog X.w H s.heap dd (.xd fs) from I.hok dd _ hfs)
  have J : PySem.W.InstAt s.heap a oe C (some od) := ⟨hget, hz.1, by unfold PySem.W.notCls; rw [hv] <;> rfl, by rw [hz.2]; exact ho⟩
  have Z := PySem.W.kitx_exc (K := X.K) (C := C) (x := a) (ox := oe) (od := some od) T.hcl T.hga T.hgt T.hsub T.ha T.hn T.htk T.hm
  cases c with
  | ref D =>
    obtain rfl : u2 = Value.ref D := r2
    exact PySem.W.kia_one Z I.kIn J hb (fun z => nomatch z) fun tk => ⟨.bl b, H, I.kept (t' := tk) fun _ _ z => z, rfl, q⟩
  | ty n =>
    obtain rfl : u2 = Value.type n := r2
    exact PySem.W.kia_one Z I.kIn J hb (fun z => nomatch z) fun tk => ⟨.bl b, H, I.kept (t' := tk) fun _ _ z => z, rfl, q⟩
  | _ => cases hb
def rLenA (K : PySem.W.Frag) : List V → Hp → VK → Prop := fun xs H Q => ∃ p, xs = [.ref p] ∧ ∃ ys, itsO (ob K H p) = some ys ∧ Q (.int ys.length) H
/-- a wish of the right number of slots is wish enough -/
theorem takes_len {X : Cx} {W : WX} (t : Takes X W) : Takes X (fun cls d σ H => σ.length = X.N.length → W cls d σ H) := fun u s' ⟨a, B, sI, pins, σ, H, cls, d, e, I, nb, up, sky, na, os, ag, w⟩ =>
  t u s' ⟨a, B, sI, pins, σ, H, cls, d, e, I, nb, up, sky, na, os, ag, w I.len⟩
/-- what the law's asking makes of a call: told, or BadValue and what it names -/
def TAsk (K : PySem.W.Frag) (C : Addr) : (XK → Hp → VK → Prop) → Hp → VK → Prop := fun tl H Q =>
  tl (fun cls d H' => cls = .ref C ∧ ∃ dd y, d = some dd ∧ H' dd = some (.xd [("what", y)]) ∧ ∀ p H'', Same H' H'' → ob K H'' p = some (.tup [.str "BadValue", y]) → Q (.ref p) H'') H
    (fun v H1 => ([V.str "told", v] : List V).length ≤ sizeLine ∧ ∀ p, H1 p = none → K.lookup p = none → Q (.ref p) (upd H1 p (.tup [.str "told", v])))
abbrev sAsked : Stmt := topS 62
theorem scAsked : FnScope ["_law_call", "e", "_law_kinds"] ["_law_call"] (defScope sAsked) := ⟨rfl, rfl, rfl, by decide +kernel, rfl, by decide +kernel, by decide +kernel⟩

theorem asked_gives {X : Cx} {C S : Addr} {A : String → Addr} {g : Addr} {cdg : Value} {q : Str} (Z : Bt X.K X.mg) (B : BvT X.K X.mg C) (T : AskT X.K X.mg C S A) : LamX.GivesTo X ["_law_call", "e", "_law_kinds"] "_law_asked" (defScope sAsked) g cdg (defBody sAsked) "_law_call" q (TAsk X.K C) := by
  intro f c' s H Q tl act hc h
  refine ⟨_, pss_one (ps_try_as (X := (cxOf C8.CX0 X.prog X.w X.K X.mg X.base ["_law_call", "e", "_law_kinds"] "_law_asked" (defScope sAsked) g cdg X.A X.stack s H C8.E0).nox) (i := 1) (c := .ref S)
      (tb := fun W D σ H => ∃ Ech : XK, (∀ cls d σ' H', Ech cls d H' → σ'.length = 3 → W cls d σ' H') ∧ tRet (tTp X.K (tCons (tC (.str "told")) (tCons (fun σZ HZ Q => σZ[0]? = some (some (.ref f)) ∧ HZ c' = some (LamX.CodeO c' q) ∧ tl Ech HZ Q) L2.tNil))) D σ H)
      rfl rfl scAsked.nd rfl rfl ⟨rfl, by decide, .inl T.sky⟩ takes0 (fun W pn xe tk _ => ?_) (fun a oe cls d pn hz hf => (pss_cons (ps_set (i := 2) scAsked.nd rfl (.inl rfl) (show PE (Cx.suite (cxOf C8.CX0 X.prog X.w X.K X.mg X.base ["_law_call", "e", "_law_kinds"] "_law_asked" (defScope sAsked) g cdg X.A X.stack s H C8.E0).nox a ((a, oe) :: pn)) _ (tLs X.K L2.tNil) from pe_ls pa_nil))
      (pss_cons (ps_if (pt_val (pe_callB (call_isX (X := (cxOf C8.CX0 X.prog X.w X.K X.mg X.base ["_law_call", "e", "_law_kinds"] "_law_asked" (defScope sAsked) g cdg X.A X.stack s H C8.E0).nox) (a := a) (pn := pn) T hz hf) (by rfl) Z.b_isinstance (by decide +kernel) (pa_cons (pv 1) (pa_cons (pe_glob (v := .ref (A "BadValue")) (by rfl) (T.g "BadValue" (by decide)) rfl) pa_nil)))) (pss_one (ps_expr (show PE (Cx.suite (cxOf C8.CX0 X.prog X.w X.K X.mg X.base ["_law_call", "e", "_law_kinds"] "_law_asked" (defScope sAsked) g cdg X.A X.stack s H C8.E0).nox a ((a, oe) :: pn)) _ (tBM X.K "list" rAppend (tVar 2) (tCons (tTp X.K (tCons (tC (.str "BadValue")) (tCons (tXf a cls d C "what" (tVar 1)) L2.tNil))) L2.tNil)) from pe_bm PySem.F.plainAttrs_list PySem.F.slot_list_append PySem.F.type_list_append mt_append (pv 2) (pa_cons (pe_tp (pa_cons pe_str (pa_cons (pe_xf (X := (cxOf C8.CX0 X.prog X.w X.K X.mg X.base ["_law_call", "e", "_law_kinds"] "_law_asked" (defScope sAsked) g cdg X.A X.stack s H C8.E0).nox) (a := a) (pn := pn) T.xf B.no hz hf (pv 1)) pa_nil))) pa_nil)))) pss_nil)
      (pss_cons (ps_if (pt_val (pe_callB (call_isX (X := (cxOf C8.CX0 X.prog X.w X.K X.mg X.base ["_law_call", "e", "_law_kinds"] "_law_asked" (defScope sAsked) g cdg X.A X.stack s H C8.E0).nox) (a := a) (pn := pn) T hz hf) (by rfl) Z.b_isinstance (by decide +kernel) (pa_cons (pv 1) (pa_cons (pe_glob (v := .ref (A "Mismatch")) (by rfl) (T.g "Mismatch" (by decide)) rfl) pa_nil)))) (pss_one ps_never) pss_nil)
      (pss_cons (ps_if (pt_val (pe_callB (call_isX (X := (cxOf C8.CX0 X.prog X.w X.K X.mg X.base ["_law_call", "e", "_law_kinds"] "_law_asked" (defScope sAsked) g cdg X.A X.stack s H C8.E0).nox) (a := a) (pn := pn) T hz hf) (by rfl) Z.b_isinstance (by decide +kernel) (pa_cons (pv 1) (pa_cons (pe_glob (v := .ref (A "Still")) (by rfl) (T.g "Still" (by decide)) rfl) pa_nil)))) (pss_one ps_never) pss_nil)
      (pss_cons (ps_if (pt_val (pe_callB (call_isX (X := (cxOf C8.CX0 X.prog X.w X.K X.mg X.base ["_law_call", "e", "_law_kinds"] "_law_asked" (defScope sAsked) g cdg X.A X.stack s H C8.E0).nox) (a := a) (pn := pn) T hz hf) (by rfl) Z.b_isinstance (by decide +kernel) (pa_cons (pv 1) (pa_cons (pe_glob (v := .ref (A "Endless")) (by rfl) (T.g "Endless" (by decide)) rfl) pa_nil)))) (pss_one ps_never) pss_nil)
      (pss_cons (ps_if (pt_val (pe_callB (call_isX (X := (cxOf C8.CX0 X.prog X.w X.K X.mg X.base ["_law_call", "e", "_law_kinds"] "_law_asked" (defScope sAsked) g cdg X.A X.stack s H C8.E0).nox) (a := a) (pn := pn) T hz hf) (by rfl) Z.b_isinstance (by decide +kernel) (pa_cons (pv 1) (pa_cons (pe_glob (v := .ref (A "TooMany")) (by rfl) (T.g "TooMany" (by decide)) rfl) pa_nil)))) (pss_one ps_never) pss_nil)
      (pss_cons (ps_if (pt_val (pe_callB (call_isX (X := (cxOf C8.CX0 X.prog X.w X.K X.mg X.base ["_law_call", "e", "_law_kinds"] "_law_asked" (defScope sAsked) g cdg X.A X.stack s H C8.E0).nox) (a := a) (pn := pn) T hz hf) (by rfl) Z.b_isinstance (by decide +kernel) (pa_cons (pv 1) (pa_cons (pe_glob (v := .ref (A "NoName")) (by rfl) (T.g "NoName" (by decide)) rfl) pa_nil)))) (pss_one ps_never) pss_nil)
      (pss_cons (ps_if (pt_val (pe_callB (call_isX (X := (cxOf C8.CX0 X.prog X.w X.K X.mg X.base ["_law_call", "e", "_law_kinds"] "_law_asked" (defScope sAsked) g cdg X.A X.stack s H C8.E0).nox) (a := a) (pn := pn) T hz hf) (by rfl) Z.b_isinstance (by decide +kernel) (pa_cons (pv 1) (pa_cons (pe_glob (v := .ref (A "Taken")) (by rfl) (T.g "Taken" (by decide)) rfl) pa_nil)))) (pss_one ps_never) pss_nil)
      (pss_cons (ps_if (pt_val (pe_callB (call_isX (X := (cxOf C8.CX0 X.prog X.w X.K X.mg X.base ["_law_call", "e", "_law_kinds"] "_law_asked" (defScope sAsked) g cdg X.A X.stack s H C8.E0).nox) (a := a) (pn := pn) T hz hf) (by rfl) Z.b_isinstance (by decide +kernel) (pa_cons (pv 1) (pa_cons (pe_glob (v := .ref (A "Locked")) (by rfl) (T.g "Locked" (by decide)) rfl) pa_nil)))) (pss_one ps_never) pss_nil)
      (pss_cons (ps_if (pt_val (pe_callB (call_isX (X := (cxOf C8.CX0 X.prog X.w X.K X.mg X.base ["_law_call", "e", "_law_kinds"] "_law_asked" (defScope sAsked) g cdg X.A X.stack s H C8.E0).nox) (a := a) (pn := pn) T hz hf) (by rfl) Z.b_isinstance (by decide +kernel) (pa_cons (pv 1) (pa_cons (pe_glob (v := .ref (A "Looped")) (by rfl) (T.g "Looped" (by decide)) rfl) pa_nil)))) (pss_one ps_never) pss_nil)
      (pss_cons (ps_if (pt_val (pe_callB (call_isX (X := (cxOf C8.CX0 X.prog X.w X.K X.mg X.base ["_law_call", "e", "_law_kinds"] "_law_asked" (defScope sAsked) g cdg X.A X.stack s H C8.E0).nox) (a := a) (pn := pn) T hz hf) (by rfl) Z.b_isinstance (by decide +kernel) (pa_cons (pv 1) (pa_cons (pe_glob (v := .ref (A "Broken")) (by rfl) (T.g "Broken" (by decide)) rfl) pa_nil)))) (pss_one ps_never) pss_nil)
      (pss_cons (ps_if (pt_val (pe_callB (call_isX (X := (cxOf C8.CX0 X.prog X.w X.K X.mg X.base ["_law_call", "e", "_law_kinds"] "_law_asked" (defScope sAsked) g cdg X.A X.stack s H C8.E0).nox) (a := a) (pn := pn) T hz hf) (by rfl) Z.b_isinstance (by decide +kernel) (pa_cons (pv 1) (pa_cons (pe_glob (v := .ref (A "ReadError")) (by rfl) (T.g "ReadError" (by decide)) rfl) pa_nil)))) (pss_one ps_never) pss_nil)
      (pss_cons (ps_if (PW.pt (pw_or (pt_cmpR op_ne (pe_callB (show CallR (Cx.suite (cxOf C8.CX0 X.prog X.w X.K X.mg X.base ["_law_call", "e", "_law_kinds"] "_law_asked" (defScope sAsked) g cdg X.A X.stack s H C8.E0).nox a ((a, oe) :: pn)) (.builtin "len") (rLenA X.K) from call_lenA) (by rfl) Z.b_len PySem.boot_len (pa_cons (pv 2) pa_nil)) pe_int (nomark _)) (pw_or1 (pt_not (pt_val (pe_callB (call_isX (X := (cxOf C8.CX0 X.prog X.w X.K X.mg X.base ["_law_call", "e", "_law_kinds"] "_law_asked" (defScope sAsked) g cdg X.A X.stack s H C8.E0).nox) (a := a) (pn := pn) T hz hf) (by rfl) Z.b_isinstance (by decide +kernel) (pa_cons (pv 1) (pa_cons (pe_bltn (v := .ty "ValueError") (by rfl) T.b_VE (by decide +kernel) rfl) pa_nil)))))))) (pss_one ps_never) pss_nil)
      (pss_one (ps_ret (pe_ix (show IxR (Cx.suite (cxOf C8.CX0 X.prog X.w X.K X.mg X.base ["_law_call", "e", "_law_kinds"] "_law_asked" (defScope sAsked) g cdg X.A X.stack s H C8.E0).nox a ((a, oe) :: pn)) (rIxA X.K) from ix_any) (pv 2) pe_int (fun _ _ => rfl))))))))))))))))))), ?_⟩
  · refine ⟨fun pins s' σ H' D I h' => ?_⟩
    obtain ⟨Ech, hW, h2⟩ := h'
    exact (pss_one (ps_ret (pe_tp (pa_cons pe_str (pa_cons (act _ pn xe Ech _ _ (takes_len tk) (fun cls d σ' H' e l => hW cls d σ' H' e l)) pa_nil))))).run pins s' σ H' D I h2
  · refine ⟨fun cls d H' => cls = .ref C ∧ ∃ dd y, d = some dd ∧ H' dd = some (.xd [("what", y)]) ∧ ∀ p H'', Same H' H'' → ob X.K H'' p = some (.tup [.str "BadValue", y]) → Q (.ref p) H'', fun cls d σ' H' e l => ?_, rfl, hc, h⟩
    obtain ⟨rfl, dd, y, rfl, hd, k⟩ := e
    obtain ⟨x0, x1, x2, rfl⟩ : ∃ x0 x1 x2, σ' = [x0, x1, x2] := by
      match σ', l with
      | [x0, x1, x2], _ => exact ⟨x0, x1, x2, rfl⟩
    refine ⟨true, T.exm, fun _ a ha => ?_, fun z => nomatch z⟩
    refine ⟨Nat.zero_le _, fun l hl kl => ?_⟩
    have nl : dd ≠ l := ne_of_none hd hl
    have hd1 : upd H' l (.lst []) dd = some (.xd [("what", y)]) := by rw [upd_ne nl]; exact hd
    refine ⟨_, rfl, .ref (A "BadValue"), rfl, rfl, dd, rfl, ⟨_, hd1⟩, true, (T.k "BadValue" (by decide)).trans rfl, true, rfl, iteT ?_⟩
    refine ⟨_, rfl, .inl ⟨rfl, _, .of upd_same⟩, _, rfl, rfl, rfl, dd, _, y, rfl, hd1, rfl, by rw [sizeLine_eq]; show 2 ≤ 16777216; decide, fun p hp kp => ?_⟩
    have npl : p ≠ l := by rintro rfl; rw [upd_same] at hp; cases hp
    have npd : dd ≠ p := ne_of_none hd1 hp
    refine ⟨l, [], .ref p, rfl, rfl, by rw [upd_ne (Ne.symm npl), upd_same], by rw [sizeLine_eq]; decide, ?_⟩
    have hp0 : H' p = none := by rw [upd_ne npl] at hp; exact hp
    have hd3 : upd (upd (upd H' l (.lst [])) p (.tup [.str "BadValue", y])) l (.lst ([] ++ [.ref p])) dd = some (.xd [("what", y)]) := by rw [upd_ne nl, upd_ne npd]; exact hd1
    have s3 : Same H' (upd (upd (upd H' l (.lst [])) p (.tup [.str "BadValue", y])) l (.lst ([] ++ [.ref p]))) := fun b o e => by
      rw [upd_ne (ne_of_none e hl), upd_ne (ne_of_none e hp0), upd_ne (ne_of_none e hl)]
      exact e
    have ol : ob X.K (upd (upd (upd H' l (.lst [])) p (.tup [.str "BadValue", y])) l (.lst ([] ++ [.ref p]))) l = some (.lst [.ref p]) := ob_new kl
    have op : ob X.K (upd (upd (upd H' l (.lst [])) p (.tup [.str "BadValue", y])) l (.lst ([] ++ [.ref p]))) p = some (.tup [.str "BadValue", y]) := by rw [ob_none kp, upd_ne npl, upd_same]
    generalize upd (upd (upd H' l (.lst [])) p (.tup [.str "BadValue", y])) l (.lst ([] ++ [.ref p])) = H3 at hd3 s3 ol op ⊢
    refine ⟨_, rfl, .ref (A "Mismatch"), rfl, rfl, dd, rfl, ⟨_, hd3⟩, false, (T.k "Mismatch" (by decide)).trans rfl, false, rfl, iteF ?_⟩
    refine ⟨_, rfl, .ref (A "Still"), rfl, rfl, dd, rfl, ⟨_, hd3⟩, false, (T.k "Still" (by decide)).trans rfl, false, rfl, iteF ?_⟩
    refine ⟨_, rfl, .ref (A "Endless"), rfl, rfl, dd, rfl, ⟨_, hd3⟩, false, (T.k "Endless" (by decide)).trans rfl, false, rfl, iteF ?_⟩
    refine ⟨_, rfl, .ref (A "TooMany"), rfl, rfl, dd, rfl, ⟨_, hd3⟩, false, (T.k "TooMany" (by decide)).trans rfl, false, rfl, iteF ?_⟩
    refine ⟨_, rfl, .ref (A "NoName"), rfl, rfl, dd, rfl, ⟨_, hd3⟩, false, (T.k "NoName" (by decide)).trans rfl, false, rfl, iteF ?_⟩
    refine ⟨_, rfl, .ref (A "Taken"), rfl, rfl, dd, rfl, ⟨_, hd3⟩, false, (T.k "Taken" (by decide)).trans rfl, false, rfl, iteF ?_⟩
    refine ⟨_, rfl, .ref (A "Locked"), rfl, rfl, dd, rfl, ⟨_, hd3⟩, false, (T.k "Locked" (by decide)).trans rfl, false, rfl, iteF ?_⟩
    refine ⟨_, rfl, .ref (A "Looped"), rfl, rfl, dd, rfl, ⟨_, hd3⟩, false, (T.k "Looped" (by decide)).trans rfl, false, rfl, iteF ?_⟩
    refine ⟨_, rfl, .ref (A "Broken"), rfl, rfl, dd, rfl, ⟨_, hd3⟩, false, (T.k "Broken" (by decide)).trans rfl, false, rfl, iteF ?_⟩
    refine ⟨_, rfl, .ref (A "ReadError"), rfl, rfl, dd, rfl, ⟨_, hd3⟩, false, (T.k "ReadError" (by decide)).trans rfl, false, rfl, iteF ?_⟩
    refine ⟨_, rfl, l, rfl, _, (by rw [ol]; rfl), rfl, false, rfl, iteF ?_⟩
    refine ⟨_, rfl, .ty "ValueError", rfl, rfl, dd, rfl, ⟨_, hd3⟩, true, T.ve, true, rfl, iteF ?_⟩
    exact ⟨_, rfl, l, 0, rfl, rfl, [.ref p], (by rw [ol]; rfl), .ref p, rfl, k p H3 s3 op⟩
end My

namespace My
open PySem PySem.Spec PyProof.Rows L2
section
variable {P : Program} {w : World} {K : PySem.W.Frag} {mg : Str → Option Value} {base : Heap}
/-! ### the tables, while the draws go on -/
theorem tabs_kp {T : List (Addr × Str)} {H H' : Hp} {s : Addr} {ys : List V} (e : Kp s H H') (hs : H s = some (.lst ys)) (t : LamX.Tabs T H) : LamX.Tabs T H' := fun p hp => by
  obtain ⟨ps, h1, h2, h3⟩ := t p hp
  refine ⟨ps, e _ _ (by rintro z; rw [z, hs] at h1; cases h1) h1, h2, fun pos cv hc => ?_⟩
  obtain ⟨c, e1, e2⟩ := h3 pos cv hc
  exact ⟨c, e1, e _ _ (by rintro z; rw [z, hs] at e2; unfold LamX.CodeO at e2; cases e2) e2⟩
theorem tabs_same {T : List (Addr × Str)} {H H' : Hp} (e : Same H H') (t : LamX.Tabs T H) : LamX.Tabs T H' := t.ext e
/-- all but the store and the tables stands -/
def Bg (s : Addr) (H H' : Hp) : Prop := ∀ b o, b ≠ s → (∀ ps, o ≠ .tbl ps) → H b = some o → H' b = some o
theorem Bg.refl (s : Addr) (H : Hp) : Bg s H H := fun _ _ _ _ h => h
theorem Bg.trans {s : Addr} {H H1 H2 : Hp} (a : Bg s H H1) (b : Bg s H1 H2) : Bg s H H2 := fun c o n m h => b c o n m (a c o n m h)
theorem Bg.kp {s : Addr} {H H1 : Hp} (a : Kp s H H1) : Bg s H H1 := fun c o n _ h => a c o n h
theorem Bg.same {s : Addr} {H H1 : Hp} (a : Same H H1) : Bg s H H1 := fun c o _ _ h => a c o h
theorem Bg.ext {s : Addr} {H H1 : Hp} (a : LamX.ExtN H H1) : Bg s H H1 := fun c o _ m h => a c o h m
theorem ob_bg {H H' : Hp} {s a : Addr} {ys xs : List V} (e : Bg s H H') (hs : H s = some (.lst ys)) (h : ob K H a = some (.tup xs)) : ob K H' a = some (.tup xs) := by
  unfold ob at h ⊢
  split
  · rename_i o q
    rw [q] at h
    exact h
  · rename_i q
    rw [q] at h
    exact e _ _ (by rintro rfl; rw [hs] at h; cases h) (fun ps z => by cases z) h
theorem Fq.bg {H H' : Hp} {s a : Addr} {n : Nat} {ys : List V} {q : Qt} (h : Fq K H n a q) (e : Bg s H H') (hs : H s = some (.lst ys)) : Fq K H' n a q := ⟨ob_bg e hs h.o, h.nf, h.sz⟩
theorem Sto.ext {H H' : Hp} {s : Addr} (h : Sto K H s) (e : LamX.ExtN H H') : Sto K H' s := by
  obtain ⟨sc, ns, i, b, c, d, x, f, h1, h2, h3⟩ := h
  exact ⟨sc, ns, i, b, c, d, x, f, e _ _ h1 (fun ps z => by cases z), e _ _ h2 (fun ps z => by cases z), h3⟩
theorem ob_ext {H H' : Hp} {a : Addr} {z : HO} (e : LamX.ExtN H H') (n : ∀ ps, z ≠ .tbl ps) (h : ob K H a = some z) : ob K H' a = some z := by
  unfold ob at h ⊢
  split
  · rename_i o q
    rw [q] at h
    exact h
  · rename_i q
    rw [q] at h
    exact e _ _ h n
theorem tyO_ntbl {z : HO} (h : (tyO (some z)).isSome) : ∀ ps, z ≠ .tbl ps := fun ps e => by subst e; cases h
theorem tyS_ext {H H' : Hp} {v : V} (e : LamX.ExtN H H') (h : (tyN K H v).isSome) : (tyN K H' v).isSome := by
  cases v with
  | ref a =>
    cases hz : ob K H a with
    | none => rw [tyN_ref, hz] at h; cases h
    | some z =>
      rw [tyN_ref, hz] at h
      rw [tyN_ref, ob_ext e (tyO_ntbl h) hz]
      exact h
  | _ => exact h
theorem Gd.ext {H H' : Hp} {v : V} (e : LamX.ExtN H H') (h : Gd K H v) : Gd K H' v := by
  cases v with
  | ref a =>
    cases hz : ob K H a with
    | none =>
      have := h.ty.1
      rw [tyN_ref, hz] at this
      cases this
    | some z =>
      have nz : ∀ ps, z ≠ .tbl ps := tyO_ntbl (by have := h.ty.1; rw [tyN_ref, hz] at this; exact this)
      have hz' := ob_ext e nz hz
      refine ⟨⟨tyS_ext e h.ty.1, fun b xs ev o x hx => ?_⟩, ?_⟩
      · cases ev
        rw [hz'] at o
        exact tyS_ext e (h.ty.2 a xs rfl (hz.trans o) x hx)
      · have e2 : frOk K H' (.ref a) = frOk K H (.ref a) := by simp only [frOk, hz, hz']
        rw [e2]
        exact h.no
  | _ => exact ⟨⟨h.ty.1, fun _ _ e => by cases e⟩, h.no⟩
structure LawS (K : PySem.W.Frag) (T : List (Addr × Str)) (H : Hp) (s : Addr) : Prop where
  st : Sto K H s
  tb : LamX.Tabs T H
theorem LawS.same {T : List (Addr × Str)} {H H' : Hp} {s : Addr} (h : LawS K T H s) (e : Same H H') : LawS K T H' s := ⟨h.st.same e, tabs_same e h.tb⟩
theorem LawS.kp {T : List (Addr × Str)} {H H' : Hp} {s : Addr} (h : LawS K T H s) (e : Kp s H H') (st : Sto K H' s) : LawS K T H' s := by
  obtain ⟨ys, hy⟩ := h.st.at
  exact ⟨st, tabs_kp e hy h.tb⟩
end
/-! ### what raises, through the class -/
structure MakX (P : Program) (w : World) (K : PySem.W.Frag) (mg : Str → Option Value) (base : Heap) (k : Nat) (x : Str) (C : Addr) (sp : Sp) (dvs : List V) : Prop where
  ex : ∃ (f : Addr) (fd : FuncData) (ps : List Str) (ds : List Value), L2.Mk K C f ∧ FnOk P w K mg base (L2.CX P w) k f fd ps sp ∧ mg x = some (.ref C) ∧ Binds K fd ps ds ∧ Vals dvs ds
structure MetX (P : Program) (w : World) (K : PySem.W.Frag) (mg : Str → Option Value) (base : Heap) (k : Nat) (C : Addr) (m : Str) (sp : Sp) : Prop where
  ex : ∃ (f : Addr) (fd : FuncData) (ps : List Str), Cls K C ∧ Meth K C m f ∧ FnOk P w K mg base (L2.CX P w) k f fd ps sp ∧ Binds K fd ps []
structure StatX (P : Program) (w : World) (K : PySem.W.Frag) (mg : Str → Option Value) (base : Heap) (k : Nat) (C : Addr) (m : Str) (sp : Sp) (dvs : List V) : Prop where
  ex : ∃ (mc : Value) (p g : Addr) (fd : FuncData) (ps : List Str) (ds : List Value), ClX.CRead K C mc ∧ SMet K C mc m p g ∧ FnOk P w K mg base (L2.CX P w) k g fd ps sp ∧ Binds K fd ps ds ∧ Vals dvs ds
section
variable {X : Cx} {j k : Nat} {C : Addr} {x m : Str} {sp : Sp} {dvs : List V} {p pos apos : Pos} {e o : Expr} {es : List Expr} {ta : TE} {t : TA} {W : WX}
theorem pe_mkX (E : XK) (c : MakX X.prog X.w X.K X.mg X.base k x C sp dvs) (hr : Room j X.A) (hk : k + 1 ≤ j) (hg : Gl X x) (tk : Takes X W) (hW : ∀ cls d σ H, E cls d H → W cls d σ H) (ha : PA X (e :: es) t)
    (hdb : (x == ("__debug__" : Str)) = false := by decide) (he : starEach (e :: es) X.env = (false, eval e X.env) :: starEach es X.env := by rfl) (hpl : (backTo pos (starEach es X.env)).any (·.1) = false := by rfl) :
    PE X (.Call (.Name x p) (e :: es) [] pos) (tMake C sp dvs E t) := by
  obtain ⟨f, fd, ps, ds, M, F, hm, b, d⟩ := c.ex
  exact pe_make M F (hr.mono hk) hg hm b d (passes_call tk hW) ha hdb he hpl
theorem pe_metX {pl : Sem Bool} (E : XK) (c : MetX X.prog X.w X.K X.mg X.base k C m sp) (hr : Room j X.A) (hk : k ≤ j) (tk : Takes X W) (hW : ∀ cls d σ H, E cls d H → W cls d σ H) (he : PE X o ta) (ha : PA X (e :: es) t)
    (hst : starEach (e :: es) X.env = (false, eval e X.env) :: starEach es X.env := by rfl) (hpl : (backTo pos (starEach es X.env)).any (·.1) = false := by rfl)
    (ht : eval (.Call (.Attribute o m apos) (e :: es) [] pos) X.env = (do
      let ov ← eval o X.env
      standAt apos.atName
      let (f, first) ← holding [ov] (getMethod ov m pl)
      callWith pos f first (backTo pos (starEach (e :: es) X.env)) (backToKw pos (keywordEach [] X.env))) := by rfl) :
    PE X (.Call (.Attribute o m apos) (e :: es) [] pos) (tMeth C m sp [] E ta t) := by
  obtain ⟨f, fd, ps, hc, hm, F, b⟩ := c.ex
  exact pe_meth (pl := pl) he hc hm F (hr.mono hk) b .nil (passes_call tk hW) ha hst hpl ht
theorem pe_statX {pl : Sem Bool} (E : XK) (c : StatX X.prog X.w X.K X.mg X.base k C m sp dvs) (hr : Room j X.A) (hk : k ≤ j) (tk : Takes X W) (hW : ∀ cls d σ H, E cls d H → W cls d σ H) (he : PE X o ta) (ha : PA X (e :: es) t)
    (hst : starEach (e :: es) X.env = (false, eval e X.env) :: starEach es X.env := by rfl) (hpl : (backTo pos (starEach es X.env)).any (·.1) = false := by rfl)
    (ht : eval (.Call (.Attribute o m apos) (e :: es) [] pos) X.env = (do
      let ov ← eval o X.env
      standAt apos.atName
      let (f, first) ← holding [ov] (getMethod ov m pl)
      callWith pos f first (backTo pos (starEach (e :: es) X.env)) (backToKw pos (keywordEach [] X.env))) := by rfl) :
    PE X (.Call (.Attribute o m apos) (e :: es) [] pos) (tSMeth C sp dvs E ta t) := by
  obtain ⟨mc, p, g, fd, ps, ds, r, s, F, b, d⟩ := c.ex
  exact pe_smeth (pl := pl) he r s F (hr.mono hk) b d (passes_call tk hW) ha hst hpl ht
/-- what is tracked is none of the written part's -/
def tFr (K : PySem.W.Frag) (t : TE) : TE := fun σ H Q => t σ H fun v H' => (∀ a, H' a ≠ none → K.lookup a = none) → Q v H'
theorem pe_fr {t : TE} (h : PE X e t) : PE X e (tFr X.K t) := ⟨fun pins s σ H Q I hw => thn (h.run pins s σ H _ I hw) fun u s1 ⟨v, H1, I1, r, q⟩ => ⟨v, H1, I1, r, q fun a ha => by
  cases z : X.K.lookup a with
  | none => rfl
  | some o => exact absurd (I1.bs a o (I1.ok.mod.kin a o z)).2 ha⟩⟩
end
section
variable {P : Program} {w : World} {K : PySem.W.Frag} {mg : Str → Option Value} {base : Heap}
theorem Fq.ext {H H' : Hp} {n : Nat} {a : Addr} {q : Qt} (h : Fq K H n a q) (e : LamX.ExtN H H') : Fq K H' n a q := ⟨ob_ext e (fun ps z => by cases z) h.o, h.nf, h.sz⟩
theorem Pq.ext {H H' : Hp} {n : Nat} {a : Addr} {q : Qt} (h : Pq K H n a q) (e : LamX.ExtN H H') : Pq K H' n a q := ⟨h.f.ext e, h.lo, h.hi⟩
theorem PerOk.ext {n : Nat} {H H' : Hp} {p : Qt} {v : V} (h : PerOk K n H p v) (e : LamX.ExtN H H') : PerOk K n H' p v := h.imp id fun ⟨a, d, z, f⟩ => ⟨a, d, z, f.ext e⟩
theorem CyAt.ext {C : Addr} {n : Nat} {H H' : Hp} {c : Addr} {p q : Qt} (h : CyAt K C n H c p q) (e : LamX.ExtN H H') : CyAt K C n H' c p q := by
  obtain ⟨dx, a, b, v, h1, h2, h3, h4⟩ := h
  exact ⟨dx, a, b, v, e _ _ h1 (fun ps z => by cases z), h2.ext e, h3.ext e, h4.ext e⟩
theorem ob_putL {H : Hp} {c a : Addr} {ys : List V} {o : HO} {xs : List V} (hc : H c = some (.lst ys)) (h : ob K H a = some (.tup xs)) : ob K (upd H c o) a = some (.tup xs) := by
  unfold ob at h ⊢
  split
  · rename_i z hz
    rw [hz] at h
    exact h
  · rename_i hz
    rw [hz] at h
    rw [upd_ne (by rintro rfl; rw [hc] at h; cases h)]
    exact h
theorem yes_of {σ : L2.St} {H : Hp} {G N : Hp → Prop} (h : G H) : tYes σ H fun b H3 => if b = true then G H3 else N H3 := by
  show (if true = true then G H else N H)
  exact iteT h
def rfs (l : List (Addr × Str)) : List V := l.map fun x => .ref x.1
/-- what the asking needs of the heap -/
structure RS (K : PySem.W.Frag) (H : Hp) (C sr cy : Addr) (n : Nat) (p q : Qt) (bad : V) : Prop where
  st : Sto K H sr
  cy : CyAt K C n H cy p q
  hb : Gd K H bad
theorem RS.ext {H H' : Hp} {C sr cy : Addr} {n : Nat} {p q : Qt} {bad : V} (h : RS K H C sr cy n p q bad) (e : LamX.ExtN H H') : RS K H' C sr cy n p q bad := ⟨h.st.ext e, h.cy.ext e, h.hb.ext e⟩
theorem RS.same {H H' : Hp} {C sr cy : Addr} {n : Nat} {p q : Qt} {bad : V} (h : RS K H C sr cy n p q bad) (e : Same H H') : RS K H' C sr cy n p q bad := h.ext fun b o q _ => e b o q
def AllB (K : PySem.W.Frag) (H : Hp) (l : List (Addr × Str)) : Prop := ∀ x ∈ l, ob K H x.1 = some (.tup [.str "BadValue", .str x.2])
theorem AllB.ext {H H' : Hp} {l : List (Addr × Str)} (h : AllB K H l) (e : LamX.ExtN H H') : AllB K H' l := fun x hx => ob_ext e (fun ps z => by cases z) (h x hx)
theorem AllB.same {H H' : Hp} {l : List (Addr × Str)} (h : AllB K H l) (e : Same H H') : AllB K H' l := fun x hx => ob_same e (h x hx)
theorem AllB.cons {H : Hp} {l : List (Addr × Str)} {a : Addr} {x : Str} (h : AllB K H l) (o : ob K H a = some (.tup [.str "BadValue", .str x])) : AllB K H (l ++ [(a, x)]) := fun y hy => by
  rcases List.mem_append.mp hy with hy | hy
  · exact h y hy
  · rw [List.mem_singleton] at hy
    rw [hy]
    exact o
def CompI (K : PySem.W.Frag) (D : Addr) (ns : List Str) (H0 : Hp) (i : Nat) (H' : Hp) : Prop := ∃ l : List (Addr × Str), H' D = some (.lst (rfs l)) ∧ l.map (·.2) = ns.take i ∧ Same H0 H' ∧ AllB K H' l
theorem eqv_named {H : Hp} {a b : Addr} {l m : List (Addr × Str)} (oa : ob K H a = some (.lst (rfs l))) (o2 : ob K H b = some (.lst (rfs m))) (h : l.map (·.2) = m.map (·.2)) (hm : m.length ≤ 1000) (al : AllB K H l) (am : AllB K H m) : Eqv K H 2 (.ref a) (.ref b) := by
  have hl : l.length = m.length := by
    have e := congrArg List.length h
    simpa using e
  refine .inr ⟨a, b, rfs l, rfs m, rfl, rfl, .inr ⟨oa, o2⟩, by simp [rfs, hl], by simpa [rfs] using hm, fun i x y hx hy => ?_⟩
  unfold rfs at hx hy
  rw [List.getElem?_map] at hx hy
  cases e1 : l[i]? with
  | none => rw [e1] at hx; cases hx
  | some u =>
    cases e2 : m[i]? with
    | none => rw [e2] at hy; cases hy
    | some v =>
      rw [e1] at hx
      rw [e2] at hy
      cases hx
      cases hy
      have n : u.2 = v.2 := by
        have z : (l.map (·.2))[i]? = (m.map (·.2))[i]? := by rw [h]
        rw [List.getElem?_map, List.getElem?_map, e1, e2] at z
        exact Option.some.inj z
      have ou := al u (List.mem_of_getElem? e1)
      rw [n] at ou
      exact eqv_tup ou (am v (List.mem_of_getElem? e2)) rfl (by show 2 ≤ 1000; decide)
abbrev sRefuses : Stmt := topS 68
theorem scRefuses : FnScope ["_law_store_here", "_law_cycle", "_law_asked_here", "_law_bad", "_law_name"] ["_law_store_here", "_law_cycle"] (defScope sRefuses) := ⟨rfl, rfl, rfl, by decide +kernel, rfl, by decide +kernel, by decide +kernel⟩
theorem blkR : BlkOk ["_law_store_here", "_law_cycle", "_law_asked_here", "_law_bad", "_law_name"] (defScope sRefuses) { kind := .function, names := [(".0", .local), ("_law_name", .local)], isGenerator := false, isCoroutine := false, more := [] } [("_law_name", 4)] := ⟨rfl, by decide +kernel, by decide +kernel, by decide +kernel, by decide +kernel⟩
def qLam : Str := ("_law_refuses" ++ ".<locals>.") ++ "<lambda>"
structure AskD (K : PySem.W.Frag) (mg : Str → Option Value) (g : Addr) (oc : Value) (od : Option Addr) (dV kV doc pm : Value) (an : Option Addr) (cdv ct : Value) (osl : Array (Option Value)) : Prop where
  m : mg "_law_asked" = some (.ref g)
  kp : PySem.W.keepIn K (.ref g) = true
  lk : K.lookup g = some ⟨oc, od, .func (PySem.W.fnOf "_law_asked" "_law_asked" (defArgs sAsked) (defBody sAsked) (defScope sAsked) dV kV doc pm an cdv ct), osl⟩
  cd : PySem.W.codeIn K cdv "_law_asked" = true
  b : Binds K (PySem.W.fnOf "_law_asked" "_law_asked" (defArgs sAsked) (defBody sAsked) (defScope sAsked) dV kV doc pm an cdv ct) ["_law_call"] []
def spRefuses (K : PySem.W.Frag) (C Pt : Addr) : Sp := fun vs H Q _ => ∃ (sr cy : Addr) (p q : Qt) (n : Nat), vs = [.ref sr, .ref cy] ∧ LawS K [(Pt, qLam)] H sr ∧ CyAt K C n H cy p q ∧ ∀ H', Bg sr H H' → LawS K [(Pt, qLam)] H' sr → Q (.bl true) H'
theorem ok_refuses {C CB S fa g c Pt : Addr} {A : String → Addr} {oc dV kV doc pm cdv ct oc' dV' kV' doc' pm' ct' : Value} {od an od' an' : Option Addr} {osl osl' : Array (Option Value)} (T : Bt K mg) (Y : CyC K mg C) (B : BvT K mg CB) (AT : AskT K mg CB S A) (AS : AskD K mg g oc od dV kV doc pm an cdv ct osl)
    (lkR : K.lookup fa = some ⟨oc', od', .func (PySem.W.fnOf "_law_refuses" "_law_refuses" (defArgs sRefuses) (defBody sRefuses) (defScope sRefuses) dV' kV' doc' pm' an' (.ref c) ct'), osl'⟩) (cdR : PySem.W.codeIn K (.ref c) "_law_refuses" = true) (TB : LamX.TabB base mg c Pt)
    (MTu : MetX P w K mg base 5 C "turned" (spBadM K CB "by")) (MGe : MetX P w K mg base 5 C "geared" (spBadM K CB "factor")) (MLa : MetX P w K mg base 5 C "later" (spBadM K CB "by"))
    (d__law_same : Kn P w K mg base 4 "_law_same" ["_law_told", "_law_due"] (spSame K 3)) (d__law_bad_frac : Kn P w K mg base 4 "_law_bad_frac" ["_law_store_here"] (spBadFrac K)) : FnOk P w K mg base CX0 9 fa (PySem.W.fnOf "_law_refuses" "_law_refuses" (defArgs sRefuses) (defBody sRefuses) (defScope sRefuses) dV' kV' doc' pm' an' (.ref c) ct') ["_law_store_here", "_law_cycle"] (spRefuses K C Pt) := by
  refine fn_of lkR cdR scRefuses (fun vs H Q E h => ?_) fun A outer s H vs Q E hr h => ?_
  · obtain ⟨sr, cy, p, q, n, rfl, _⟩ := h
    rfl
  obtain ⟨sr, cy, p, q, n, rfl, LS0, hc, k⟩ := h
  refine ⟨_, PSs.nox (pss_cons (ps_set (i := 3) scRefuses.nd rfl (.inr rfl) (pe_kn d__law_bad_frac hr (by rfl) (pa_cons (pv 0) pa_nil)))
      (pss_cons (ps_set (i := 2) scRefuses.nd rfl (.inl rfl) (pe_ls (pa_cons (LamX.pe_lamcall (T := [(Pt, qLam)]) (TT := TAsk K CB) (t := fun E => tMeth C "turned" (spBadM K CB "by") [] E (tVar 1) (tCons (tVar 3) L2.tNil)) (by rfl) AS.m AS.kp AS.lk AS.cd AS.b scAsked rfl (.inl rfl) (asked_gives T B AT) TB rfl (List.mem_cons_self ..) (fun p hp _ => by simp only [List.mem_cons, List.not_mem_nil, or_false] at hp; subst hp; rfl) hr (LamX.lamS_by (by show LamX.lamSB (defScope sRefuses) _ = true; decide +kernel)) rfl (fun _ _ _ _ _ => rfl) (fun A outer s H E f c' hr' => pe_metX E MTu hr' (by omega) (takes_of rfl rfl rfl rfl) (fun _ _ _ _ h => h) (pv 1) (pa_cons (pv 3) pa_nil))) (pa_cons (LamX.pe_lamcall (T := [(Pt, qLam)]) (TT := TAsk K CB) (t := fun E => tMeth C "geared" (spBadM K CB "factor") [] E (tVar 1) (tCons (tVar 3) L2.tNil)) (by rfl) AS.m AS.kp AS.lk AS.cd AS.b scAsked rfl (.inl rfl) (asked_gives T B AT) TB rfl (List.mem_cons_self ..) (fun p hp _ => by simp only [List.mem_cons, List.not_mem_nil, or_false] at hp; subst hp; rfl) hr (LamX.lamS_by (by show LamX.lamSB (defScope sRefuses) _ = true; decide +kernel)) rfl (fun _ _ _ _ _ => rfl) (fun A outer s H E f c' hr' => pe_metX E MGe hr' (by omega) (takes_of rfl rfl rfl rfl) (fun _ _ _ _ h => h) (pv 1) (pa_cons (pv 3) pa_nil))) (pa_cons (LamX.pe_lamcall (T := [(Pt, qLam)]) (TT := TAsk K CB) (t := fun E => tMeth C "later" (spBadM K CB "by") [] E (tVar 1) (tCons (tVar 3) L2.tNil)) (by rfl) AS.m AS.kp AS.lk AS.cd AS.b scAsked rfl (.inl rfl) (asked_gives T B AT) TB rfl (List.mem_cons_self ..) (fun p hp _ => by simp only [List.mem_cons, List.not_mem_nil, or_false] at hp; subst hp; rfl) hr (LamX.lamS_by (by show LamX.lamSB (defScope sRefuses) _ = true; decide +kernel)) rfl (fun _ _ _ _ _ => rfl) (fun A outer s H E f c' hr' => pe_metX E MLa hr' (by omega) (takes_of rfl rfl rfl rfl) (fun _ _ _ _ h => h) (pv 1) (pa_cons (pv 3) pa_nil))) pa_nil)))))
      (pss_one (ps_ret (pe_kn d__law_same hr (by rfl) (pa_cons (pv 2) (pa_cons (pe_fr (pe_lc (own := [("_law_name", 4)]) (g := gName 4) (te := tTp K (tCons (tC (.str "BadValue")) (tCons (tVar 4) L2.tNil))) rfl scRefuses.nd (pi_list (pe_ls (pa_cons pe_str (pa_cons pe_str (pa_cons pe_str pa_nil))))) blkR (fun _ _ _ _ _ => by exact pg_name (i := 4) scRefuses.nd rfl (.inl rfl)) (fun _ _ _ _ _ => pts_nil) (fun _ _ _ _ _ => by exact pe_tp (pa_cons pe_str (pa_cons (pv 4) pa_nil))))) pa_nil))))))), ?_⟩
  simp only [cx_K]
  refine ⟨_, rfl, sr, rfl, LS0.st, fun bad H1 hb1 kp1 st1 => ?_⟩
  have LS1 := LS0.kp kp1 st1
  have R0 : RS K H1 C sr cy n p q bad := ⟨st1, CyAt.kps hc kp1 LS0.st, hb1⟩
  have tb0 := LS1.tb
  have bg0 : Bg sr H H1 := Bg.kp kp1
  have as0 : AllB K H1 [] := fun x hx => by cases hx
  clear LS0 hc hb1 kp1 LS1 st1
  refine ⟨tb0, fun Ha ea ta => ?_⟩
  refine ⟨_, rfl, ap_mt (R0.ext ea).cy (fun _ _ _ => rfl) ⟨_, rfl, ⟨.ref cy, bad, rfl, (R0.ext ea).hb, fun d Hb sb hb => ⟨rfl, d, _, rfl, hb, fun c0 H2 sc oc => ?_⟩⟩⟩⟩
  have sX := sb.trans sc
  have R1 := (R0.ext ea).same sX
  have tb1 := tabs_same sX ta
  have bg1 := bg0.trans ((Bg.ext ea).trans (Bg.same sX))
  have as1 := ((as0.ext ea).same sX).cons oc
  clear R0 tb0 bg0 as0 ea ta sb hb sc oc sX
  refine ⟨tb1, fun Ha ea ta => ?_⟩
  refine ⟨_, rfl, ap_mt (R1.ext ea).cy (fun _ _ _ => rfl) ⟨_, rfl, ⟨.ref cy, bad, rfl, (R1.ext ea).hb, fun d Hb sb hb => ⟨rfl, d, _, rfl, hb, fun c1 H3 sc oc => ?_⟩⟩⟩⟩
  have sX := sb.trans sc
  have R2 := (R1.ext ea).same sX
  have tb2 := tabs_same sX ta
  have bg2 := bg1.trans ((Bg.ext ea).trans (Bg.same sX))
  have as2 := ((as1.ext ea).same sX).cons oc
  clear R1 tb1 bg1 as1 ea ta sb hb sc oc sX
  refine ⟨tb2, fun Ha ea ta => ?_⟩
  refine ⟨_, rfl, ap_mt (R2.ext ea).cy (fun _ _ _ => rfl) ⟨_, rfl, ⟨.ref cy, bad, rfl, (R2.ext ea).hb, fun d Hb sb hb => ⟨rfl, d, _, rfl, hb, fun c2 H4 sc oc => ?_⟩⟩⟩⟩
  have sX := sb.trans sc
  have R3 := (R2.ext ea).same sX
  have tb3 := tabs_same sX ta
  have bg3 := bg2.trans ((Bg.ext ea).trans (Bg.same sX))
  have as3 := ((as2.ext ea).same sX).cons oc
  clear R2 tb2 bg2 as2 ea ta sb hb sc oc sX
  have asz : AllB K H4 [(c0, "by"), (c1, "factor"), (c2, "by")] := as3
  refine ⟨sz2 (by show 3 ≤ 100; decide), fun L hL kL => ?_⟩
  have sL := Same.new hL (.lst (rfs [(c0, "by"), (c1, "factor"), (c2, "by")]))
  have hl := upd_same (H := H4) (a := L) (o := .lst (rfs [(c0, "by"), (c1, "factor"), (c2, "by")]))
  have as16 := asz.same sL
  have R16 := R3.same sL
  have tb16 := tabs_same sL tb3
  have bg16 := bg3.trans (Bg.same sL)
  refine ⟨_, rfl, sz2 (by show 3 ≤ 100; decide), fun M hM kM => ?_⟩
  have hM : upd H4 L (.lst (rfs [(c0, "by"), (c1, "factor"), (c2, "by")])) M = none := hM
  have sM := Same.new hM (.lst ((["by", "factor", "by"] : List Str).map V.str))
  have lm := upd_same (H := upd H4 L (.lst (rfs [(c0, "by"), (c1, "factor"), (c2, "by")]))) (a := M) (o := .lst ((["by", "factor", "by"] : List Str).map V.str))
  have hl17 := sM _ _ hl
  have as17 := as16.same sM
  have R17 := R16.same sM
  have tb17 := tabs_same sM tb16
  have bg17 := bg16.trans (Bg.same sM)
  refine ⟨M, rfl, ⟨_, .of lm⟩, fun D hD => ?_⟩
  have hD : upd (upd H4 L (.lst (rfs [(c0, "by"), (c1, "factor"), (c2, "by")]))) M (.lst ((["by", "factor", "by"] : List Str).map V.str)) D = none := hD
  refine lc_list (xs := (["by", "factor", "by"] : List Str).map V.str) (CompI K D (["by", "factor", "by"] : List Str) (upd (upd H4 L (.lst (rfs [(c0, "by"), (c1, "factor"), (c2, "by")]))) M (.lst ((["by", "factor", "by"] : List Str).map V.str)))) ⟨[], upd_same, rfl, Same.new hD _, fun x hx => by cases hx⟩ ?_ ?_ ?_
  · rintro i H' _ ⟨l, h1, h2, h3, h4⟩
    exact .of (h3 _ _ lm)
  · rintro i x H' hi ⟨l, h1, h2, h3, h4⟩
    obtain ⟨nm, rfl, hnm⟩ : ∃ nm, x = .str nm ∧ (["by", "factor", "by"] : List Str)[i]? = some nm := by
      rw [List.getElem?_map] at hi
      cases z : (["by", "factor", "by"] : List Str)[i]? with
      | none => rw [z] at hi; cases hi
      | some u => rw [z] at hi; exact ⟨u, (Option.some.inj hi).symm, rfl⟩
    refine ⟨rfl, yes_of ?_⟩
    refine ⟨_, rfl, sz2 (by show 2 ≤ 100; decide), fun c hc kc => ?_⟩
    have sC := Same.new hc (.tup [.str "BadValue", .str nm])
    have hD' := sC _ _ h1
    have ll : l.length ≤ 3 := by
      have e := congrArg List.length h2
      rw [List.length_map, List.length_take] at e
      rw [e]
      exact Nat.min_le_right _ _
    refine ⟨rfs l, hD', by rw [show (rfs l).length = l.length from List.length_map _, sizeLine_eq]; omega, l ++ [(c, nm)], ?_, ?_, fun b o e => ?_, fun y hy => ?_⟩
    · rw [upd_same]
      simp [rfs]
    · rw [List.map_append, h2, List.take_add_one, hnm]
      rfl
    · rw [upd_ne (ne_of_none e hD)]
      exact sC _ _ (h3 _ _ e)
    · refine ob_putL hD' ?_
      rcases List.mem_append.mp hy with hy | hy
      · exact ob_same sC (h4 y hy)
      · rw [List.mem_singleton] at hy
        rw [hy]
        exact ob_new kc
  · rintro H' ⟨l, h1, h2, h3, h4⟩
    refine fun fr => ⟨_, _, rfl, eqv_named (l := [(c0, "by"), (c1, "factor"), (c2, "by")]) (m := l) ((ob_none kL).trans (h3 _ _ hl17)) ((ob_none (fr D (by rw [h1]; simp))).trans h1) (by rw [h2]; rfl) ?_ (as17.same h3) h4, fun H'' s'' => ?_⟩
    · have e := congrArg List.length h2
      rw [List.length_map, List.length_take] at e
      rw [e]
      exact Nat.le_trans (Nat.min_le_right _ _) (by decide)
    · exact k H'' (bg17.trans (Bg.same (h3.trans s''))) ⟨(R17.same (h3.trans s'')).st, tabs_same (h3.trans s'') tb17⟩end
end My

namespace My
open PySem PySem.Spec PyProof.Rows L2
section
variable {P : Program} {w : World} {K : PySem.W.Frag} {mg : Str → Option Value} {base : Heap}
abbrev sLaw : Stmt := topS 69
theorem scLaw : FnScope ["_law_script", "_law_store_here", "_law_draws", "_law_row", "_law_cycles", "_law_turn", "_law_by_much", "_law_moment_here", "_law_shift"] ["_law_script"] (defScope sLaw) := ⟨rfl, rfl, rfl, by decide +kernel, rfl, by decide +kernel, by decide +kernel⟩
theorem itsO_ofL' {H : Hp} {a : Addr} {xs : List V} (h : ob K H a = some (.lst xs)) : itsO (ob K H a) = some xs := by rw [h]; rfl
def spLaw (K : PySem.W.Frag) (Pt : Addr) : Sp := fun vs H Q _ => ∃ (a : Addr) (ns : List Int), vs = [.ref a] ∧ SqL K H a (ns.map V.int) ∧ H Pt = some (.tbl #[]) ∧ ∀ H', Q (.bl true) H'
theorem Pq.bg {H H' : Hp} {s a : Addr} {n : Nat} {ys : List V} {q : Qt} (h : Pq K H n a q) (e : Bg s H H') (hs : H s = some (.lst ys)) : Pq K H' n a q := ⟨h.f.bg e hs, h.lo, h.hi⟩
theorem CyAt.bg {C : Addr} {n : Nat} {H H' : Hp} {c s : Addr} {ys : List V} {p q : Qt} (h : CyAt K C n H c p q) (e : Bg s H H') (hs : H s = some (.lst ys)) : CyAt K C n H' c p q := by
  obtain ⟨dx, a, b, v, h1, h2, h3, h4⟩ := h
  exact ⟨dx, a, b, v, e _ _ (by rintro rfl; rw [hs] at h1; cases h1) (fun ps z => by cases z) h1, h2.bg e hs, h3.bg e hs, h4.imp id fun ⟨i, d, z, f⟩ => ⟨i, d, z, f.bg e hs⟩⟩
theorem Fq.putL {H : Hp} {D : Addr} {ys : List V} {o : HO} {n : Nat} {a : Addr} {q : Qt} (h : Fq K H n a q) (hD : H D = some (.lst ys)) : Fq K (upd H D o) n a q := ⟨ob_putL hD h.o, h.nf, h.sz⟩
theorem CyAt.putL {C : Addr} {n : Nat} {H : Hp} {c D : Addr} {ys : List V} {o : HO} {p q : Qt} (h : CyAt K C n H c p q) (hD : H D = some (.lst ys)) : CyAt K C n (upd H D o) c p q := by
  obtain ⟨dx, a, b, v, h1, h2, h3, h4⟩ := h
  exact ⟨dx, a, b, v, by rw [upd_ne (by rintro rfl; rw [hD] at h1; cases h1)]; exact h1, h2.putL hD, ⟨h3.f.putL hD, h3.lo, h3.hi⟩, h4.imp id fun ⟨i, d, z, f⟩ => ⟨i, d, z, f.putL hD⟩⟩
/-- what is drawn: a row, a factor, a moment -/
structure Dr where
  t : Addr
  u : Addr
  bm : Addr
  mm : Addr
  a : Addr
  b : Addr
  p : Qt
  q : Qt
  d : Qt
  m : Qt
structure DrOk (K : PySem.W.Frag) (H : Hp) (x : Dr) : Prop where
  ot : ob K H x.t = some (.tup [.ref x.u, .ref x.bm, .ref x.mm])
  R : Rw K H x.u x.a x.b x.p x.q
  hb : Fq K H 140 x.bm x.d
  hm : Fq K H 133 x.mm x.m
theorem DrOk.same {H H' : Hp} {x : Dr} (h : DrOk K H x) (s : Same H H') : DrOk K H' x := ⟨ob_same s h.ot, h.R.same s, h.hb.same s, h.hm.same s⟩
theorem DrOk.kps {H H' : Hp} {s : Addr} {x : Dr} (h : DrOk K H x) (e : Kp s H H') (st : Sto K H s) : DrOk K H' x := ⟨ob_kps h.ot e st, h.R.kps e st, h.hb.kps e st, h.hm.kps e st⟩
theorem DrOk.bg {H H' : Hp} {s : Addr} {ys : List V} {x : Dr} (h : DrOk K H x) (e : Bg s H H') (hs : H s = some (.lst ys)) : DrOk K H' x := ⟨ob_bg e hs h.ot, ⟨ob_bg e hs h.R.ot, h.R.fa.bg e hs, h.R.fb.bg e hs⟩, h.hb.bg e hs, h.hm.bg e hs⟩
def CompC (K : PySem.W.Frag) (C D : Addr) (ds : List Dr) (H0 : Hp) (i : Nat) (H' : Hp) : Prop := ∃ l : List V, H' D = some (.lst l) ∧ l.length = i ∧ Same H0 H' ∧ ∀ (k : Nat) (x : Dr), k < i → ds[k]? = some x → ∃ c, l[k]? = some (.ref c) ∧ CyAt K C 133 H' c x.p x.q
def LawI (K : PySem.W.Frag) (T : List (Addr × Str)) (sr : Addr) (H1 : Hp) (v0 v1 v2 v4 : Option V) (_ : Nat) (σ : L2.St) (H' : Hp) : Prop := ∃ x3 x5 x6 x7 x8, σ = [v0, v1, v2, x3, v4, x5, x6, x7, x8] ∧ LawS K T H' sr ∧ Bg sr H1 H'
/-- what is tracked is none of the written part's, behind a statement -/
def tFrS (K : PySem.W.Frag) (t : TS) : TS := fun D σ H => t { D with nx := fun σ' H' => (∀ a, H' a ≠ none → K.lookup a = none) → D.nx σ' H' } σ H
theorem ps_fr {X : Cx} {st : Stmt} {t : TS} (h : PS X st t) : PS X st (tFrS X.K t) := ⟨fun pins s σ H D I hw => thn (h.run pins s σ H _ I hw) fun f s1 e => by
  cases f with
  | next =>
    obtain ⟨σ', H', I', q⟩ := e
    refine ⟨σ', H', I', q fun a ha => ?_⟩
    cases z : X.K.lookup a with
    | none => rfl
    | some o => exact absurd (I'.bs a o (I'.ok.mod.kin a o z)).2 ha
  | _ => exact e⟩
theorem blkL : BlkOk ["_law_script", "_law_store_here", "_law_draws", "_law_row", "_law_cycles", "_law_turn", "_law_by_much", "_law_moment_here", "_law_shift"] (defScope sLaw) { kind := .function, names := [(".0", .local), ("_law_row", .local), ("Cycle", .globalImplicit)], isGenerator := false, isCoroutine := false, more := [] } [("_law_row", 3)] := ⟨rfl, by decide +kernel, by decide +kernel, by decide +kernel, by decide +kernel⟩
theorem ob_sameL {H H' : Hp} {a : Addr} {xs : List V} (e : Same H H') (h : ob K H a = some (.lst xs)) : ob K H' a = some (.lst xs) := ob_same e h
theorem ok_law {fa Pt C : Addr} {fd : FuncData} (F : Fun K "law" "law" sLaw fa fd) (mk2 : C8.Mak P w K mg base 5 "Cycle" C (spCyInit K C) []) (d__law_store : Kn P w K mg base 1 "_law_store" ["_law_script"] (spStore K)) (d__law_drawn : Kn P w K mg base 6 "_law_drawn" ["_law_store_here"] (spDrawn K)) (d__law_holds : Kn P w K mg base 9 "_law_holds" ["_law_cycle", "_law_row", "_law_by_much", "_law_moment_here"] (spHolds K C)) (d__law_undone : Kn P w K mg base 9 "_law_undone" ["_law_cycle", "_law_row", "_law_by_much", "_law_shift"] (spUndone K C)) (d__law_refuses : Kn P w K mg base 9 "_law_refuses" ["_law_store_here", "_law_cycle"] (spRefuses K C Pt)) (d__law_deep_told : Kn P w K mg base 10 "_law_deep_told" ["_law_store_here", "_law_cycle", "_law_row", "_law_by_much"] (spDeep K C)) (d__law_is_cycle : Kn P w K mg base 6 "_law_is_cycle" ["_law_cycle", "_law_row"] (spIsCycle K C)) : FnOk P w K mg base CX0 11 fa fd ["_law_script"] (spLaw K Pt) := by
  refine F.ok scLaw (fun vs H Q E h => ?_) (fun cdv A outer s H vs Q E hr h => ?_)
  · obtain ⟨a, ns, rfl, _⟩ := h
    rfl
  obtain ⟨a, ns, rfl, hS, hP, k⟩ := h
  refine ⟨_, (pss_cons (ps_set (i := 1) scLaw.nd rfl (.inl rfl) (pe_kn d__law_store hr (by rfl) (pa_cons (pv 0) pa_nil)))
      (pss_cons (ps_set (i := 2) scLaw.nd rfl (.inl rfl) (pe_ls (pa_cons (pe_kn d__law_drawn hr (by rfl) (pa_cons (pv 1) pa_nil)) (pa_cons (pe_kn d__law_drawn hr (by rfl) (pa_cons (pv 1) pa_nil)) pa_nil))))
      (pss_cons (ps_fr (ps_setLc (i := 4) (own := [("_law_row", 3)]) (g := gName 3) (te := tMake C (spCyInit K C) [] C8.E0 (tCons (tOp (rIxA K) (tOp (rIxA K) (tVar 3) (tC (.int 0))) (tC (.int 0))) (tCons (tOp (rIxA K) (tOp (rIxA K) (tVar 3) (tC (.int 0))) (tC (.int 1))) L2.tNil))) rfl scLaw.nd rfl rfl (sw_true rfl rfl rfl (by rfl)) (pi_list (pv 2)) blkL (fun _ _ _ _ _ => by exact pg_name (i := 3) scLaw.nd rfl (.inl rfl)) (fun _ _ _ _ _ => pts_nil) (fun _ _ _ _ _ => by exact C8.pe_mk mk2 hr (by omega) (by rfl) (pa_cons (pe_ix ix_any (pe_ix ix_any (pv 3) pe_int (fun _ _ => rfl)) pe_int (fun _ _ => rfl)) (pa_cons (pe_ix ix_any (pe_ix ix_any (pv 3) pe_int (fun _ _ => rfl)) pe_int (fun _ _ => rfl)) pa_nil)))))
      (pss_cons (ps_for PassesOwn.never rfl (pi_list (pe_ls (pa_cons pe_int (pa_cons pe_int (pa_cons pe_int pa_nil))))) (pg_name (i := 5) scLaw.nd rfl (.inl rfl)) (pss_cons (ps_asg (pe_ix ix_any (pv 2) (pv 5) (fun _ _ => rfl)) (pg_tp 3 (by rfl) (pgs_cons (pg_name (i := 3) scLaw.nd rfl (.inl rfl)) (pgs_cons (pg_name (i := 6) scLaw.nd rfl (.inl rfl)) (pgs_cons (pg_name (i := 7) scLaw.nd rfl (.inl rfl)) pgs_nil)))))
      (pss_cons (ps_set (i := 8) scLaw.nd rfl (.inl rfl) (pe_ix ix_any (pe_ix ix_any (pv 2) (pe_op op_sub pe_int (pv 5)) (fun _ _ => rfl)) pe_int (fun _ _ => rfl)))
      (pss_cons (ps_if (PW.pt (pw_or (pt_not (pt_val (pe_kn d__law_holds hr (by rfl) (pa_cons (pe_ix ix_any (pv 4) (pv 5) (fun _ _ => rfl)) (pa_cons (pv 3) (pa_cons (pv 6) (pa_cons (pv 7) pa_nil))))))) (pw_or1 (pt_not (pt_val (pe_kn d__law_holds hr (by rfl) (pa_cons (pe_ix ix_any (pv 4) (pv 5) (fun _ _ => rfl)) (pa_cons (pv 3) (pa_cons (pv 8) (pa_cons (pe_tp (pa_cons pe_int (pa_cons pe_int pa_nil))) pa_nil)))))))))) (pss_one (ps_ret pe_bl)) pss_nil)
      (pss_cons (ps_if (PW.pt (pw_or (pt_not (pt_val (pe_kn d__law_undone hr (by rfl) (pa_cons (pe_ix ix_any (pv 4) (pv 5) (fun _ _ => rfl)) (pa_cons (pv 3) (pa_cons (pv 6) (pa_cons (pv 8) pa_nil))))))) (pw_or1 (pt_not (pt_val (pe_kn d__law_refuses hr (by rfl) (pa_cons (pv 1) (pa_cons (pe_ix ix_any (pv 4) (pv 5) (fun _ _ => rfl)) pa_nil)))))))) (pss_one (ps_ret pe_bl)) pss_nil)
      (pss_one (ps_if (PW.pt (pw_or (pt_not (pt_val (pe_kn d__law_deep_told hr (by rfl) (pa_cons (pv 1) (pa_cons (pe_ix ix_any (pv 4) (pv 5) (fun _ _ => rfl)) (pa_cons (pv 3) (pa_cons (pv 6) pa_nil))))))) (pw_or1 (pt_not (pt_val (pe_kn d__law_is_cycle hr (by rfl) (pa_cons (pe_ix ix_any (pv 4) (pv 5) (fun _ _ => rfl)) (pa_cons (pv 3) pa_nil)))))))) (pss_one (ps_ret pe_bl)) pss_nil)))))))
      (pss_one (ps_ret pe_bl)))))), ?_⟩
  have TBL : ∀ H1, Same H H1 → LamX.Tabs [(Pt, qLam)] H1 := fun H1 s1 p hp => by
    simp only [List.mem_cons, List.not_mem_nil, or_false] at hp
    subst hp
    exact LamX.TabS.nil (s1 _ _ hP)
  simp only [cx_K]
  refine ⟨_, rfl, a, ns, rfl, hS, fun sr H1 s1 st1 => ⟨_, rfl, sr, rfl, st1, fun t1 u1 b1 m1 ra1 rb1 p1 q1 d1 mq1 H2 o1 R1 f1 g1 kp2 st2 => ⟨_, rfl, sr, rfl, st2, fun t2 u2 b2 m2 ra2 rb2 p2 q2 d2 mq2 H3 o2 R2 f2 g2 kp3 st3 => ?_⟩⟩⟩
  have LS3 := ((LawS.mk st1 (TBL H1 s1)).kp kp2 st2).kp kp3 st3
  obtain ⟨x1, e1⟩ : ∃ x : Dr, x = ⟨t1, u1, b1, m1, ra1, rb1, p1, q1, d1, mq1⟩ := ⟨_, rfl⟩
  obtain ⟨x2, e2⟩ : ∃ x : Dr, x = ⟨t2, u2, b2, m2, ra2, rb2, p2, q2, d2, mq2⟩ := ⟨_, rfl⟩
  have D1 : DrOk K H3 x1 := (show DrOk K H2 x1 by subst e1; exact ⟨o1, R1, f1, g1⟩).kps kp3 st2
  have D2 : DrOk K H3 x2 := by subst e2; exact ⟨o2, R2, f2, g2⟩
  have et1 : t1 = x1.t := by subst e1; rfl
  have et2 : t2 = x2.t := by subst e2; rfl
  subst et1 et2
  clear e1 e2 o1 R1 f1 g1 o2 R2 f2 g2 kp2 kp3 st1 st2 st3 hS hP TBL s1
  refine ⟨sz2 (by show 2 ≤ 100; decide), fun Ld hLd kLd => ?_⟩
  have sN := Same.new hLd (.lst [.ref x1.t, .ref x2.t])
  have hld := upd_same (H := H3) (a := Ld) (o := .lst [.ref x1.t, .ref x2.t])
  have D1 := D1.same sN
  have D2 := D2.same sN
  have LS := LS3.same sN
  obtain ⟨ys3, hys3⟩ := LS3.st.at
  have nld : Ld ≠ sr := (ne_new hys3 hLd).symm
  generalize upd H3 Ld (.lst [.ref x1.t, .ref x2.t]) = H4 at sN hld D1 D2 LS ⊢
  clear LS3 hLd sN hys3
  refine ⟨_, rfl, Ld, rfl, ⟨_, .of hld⟩, fun D hD => ?_⟩
  refine lc_list (xs := [.ref x1.t, .ref x2.t]) (CompC K C D [x1, x2] H4) ⟨[], upd_same, rfl, Same.new hD _, fun k x hk => absurd hk (Nat.not_lt_zero _)⟩ ?_ ?_ ?_
  · rintro i H' _ ⟨l, h1, h2, h3, h4⟩
    exact .of (h3 _ _ hld)
  · rintro i x H' hi ⟨l, h1, h2, h3, h4⟩
    obtain ⟨y, rfl, hy, Dy⟩ : ∃ y : Dr, x = .ref y.t ∧ [x1, x2][i]? = some y ∧ DrOk K H' y := by
      match i, hi with
      | 0, hi => cases hi; exact ⟨x1, rfl, rfl, D1.same h3⟩
      | 1, hi => cases hi; exact ⟨x2, rfl, rfl, D2.same h3⟩
    have hi2 : i < 2 := by
      match i, hi with
      | 0, _ => decide
      | 1, _ => decide
    refine ⟨rfl, yes_of ?_⟩
    refine ⟨_, rfl, y.t, 0, rfl, rfl, _, itsO_of Dy.ot, _, atI_0 _ _, y.u, 0, rfl, rfl, _, itsO_of Dy.R.ot, _, atI_0 _ _, _, rfl, y.t, 0, rfl, rfl, _, itsO_of Dy.ot, _, atI_0 _ _, y.u, 1, rfl, rfl, _, itsO_of Dy.R.ot, _, atI_1 _ _ _, fun c dx hx hdx hne => ⟨H', c, dx, y.a, y.b, y.p, y.q, 133, rfl, same_make hx hdx, hx, upd_same, Dy.R.fa, Dy.R.fb, by omega, fun H5 s5 hcy => ⟨rfl, l, s5 _ _ h1, by rw [sizeLine_eq]; omega, l ++ [.ref c], upd_same, by rw [List.length_append, h2]; rfl, fun b o e => ?_, fun k z hk hz => ?_⟩⟩⟩
    · rw [upd_ne (ne_of_none e hD)]
      exact s5 _ _ (h3 _ _ e)
    · by_cases hk2 : k < i
      · obtain ⟨c', hc1, hc2⟩ := h4 k z hk2 hz
        exact ⟨c', by rw [List.getElem?_append_left (by omega)]; exact hc1, (hc2.same s5).putL (s5 _ _ h1)⟩
      · have hki : k = i := by omega
        subst hki
        rw [hy] at hz
        cases hz
        exact ⟨c, by rw [List.getElem?_append_right (by omega), h2, Nat.sub_self]; rfl, hcy.putL (s5 _ _ h1)⟩
  rintro H5 ⟨l, h1, h2, h3, h4⟩
  refine fun fr => ?_
  obtain ⟨c1, k1, cy1⟩ := h4 0 x1 (by show 0 < 2; decide) rfl
  obtain ⟨c2, k2, cy2⟩ := h4 1 x2 (by show 1 < 2; decide) rfl
  have h2' : l.length = 2 := h2
  obtain rfl : l = [.ref c1, .ref c2] := by
    match l, h2', k1, k2 with
    | [v1, v2], _, k1, k2 =>
      cases k1
      cases k2
      rfl
  have kD : K.lookup D = none := fr D (by rw [h1]; simp)
  have LS5 := LS.same h3
  have D1 := D1.same h3
  have D2 := D2.same h3
  have hld := h3 _ _ hld
  have nD : D ≠ sr := by
    obtain ⟨ys4, hys4⟩ := LS.st.at
    rintro rfl
    rw [hys4] at hD
    cases hD
  clear h3 h4 h2 h2' k1 k2 fr LS hD
  refine ⟨sz2 (by show 3 ≤ 100; decide), fun le hle kle => ?_⟩
  have sN := Same.new hle (.lst [.int 0, .int 1, .int 0])
  have hl' := upd_same (H := H5) (a := le) (o := .lst [.int 0, .int 1, .int 0])
  obtain ⟨ys, hys⟩ := LS5.st.at
  have ne : le ≠ sr := (ne_new hys hle).symm
  have hld := sN _ _ hld
  have h1 := sN _ _ h1
  have D1 := D1.same sN
  have D2 := D2.same sN
  have cy1 := cy1.same sN
  have cy2 := cy2.same sN
  have LS := LS5.same sN
  have hys' := sN _ _ hys
  generalize upd H5 le (.lst [.int 0, .int 1, .int 0]) = HB at sN hl' hld h1 D1 D2 cy1 cy2 LS hys' ⊢
  clear LS5 hys hle sN
  refine ⟨le, rfl, ⟨_, .of hl'⟩, forI_list (xs := [.int 0, .int 1, .int 0]) (LawI K [(Pt, qLam)] sr HB (some (.ref a)) (some (.ref sr)) (some (.ref Ld)) (some (.ref D))) ⟨none, none, none, none, none, rfl, LS, Bg.refl _ _⟩ ?_ ?_ ?_⟩
  · rintro i σ H' _ ⟨x3, x5, x6, x7, x8, rfl, LS, bg⟩
    exact .of (bg _ _ ne (fun _ z => by cases z) hl')
  · rintro i x σ H' hi ⟨x3, x5, x6, x7, x8, rfl, LS, bg⟩
    obtain ⟨k0, rfl, hk0⟩ : ∃ k0 : Int, x = .int k0 ∧ (k0 = 0 ∨ k0 = 1) := by
      match i, hi with
      | 0, hi => cases hi; exact ⟨0, rfl, .inl rfl⟩
      | 1, hi => cases hi; exact ⟨1, rfl, .inr rfl⟩
      | 2, hi => cases hi; exact ⟨0, rfl, .inl rfl⟩
    obtain ⟨x, y, c, Dx, Dy, hcx, hax, hay, hac⟩ : ∃ (x y : Dr) (c : Addr), DrOk K H' x ∧ DrOk K H' y ∧ CyAt K C 133 H' c x.p x.q ∧ atI [V.ref x1.t, V.ref x2.t] k0 = some (V.ref x.t) ∧ atI [V.ref x1.t, V.ref x2.t] (1 - k0) = some (V.ref y.t) ∧ atI [V.ref c1, V.ref c2] k0 = some (V.ref c) := by
      rcases hk0 with rfl | rfl
      · exact ⟨x1, x2, c1, D1.bg bg hys', D2.bg bg hys', cy1.bg bg hys', rfl, rfl, rfl⟩
      · exact ⟨x2, x1, c2, D2.bg bg hys', D1.bg bg hys', cy2.bg bg hys', rfl, rfl, rfl⟩
    have hld' := bg _ _ nld (fun _ z => by cases z) hld
    have hD' := bg _ _ nD (fun _ z => by cases z) h1
    have old := (ob_none kLd).trans hld'
    have oD := (ob_none kD).trans hD'
    refine ⟨_, rfl, _, rfl, Ld, k0, rfl, rfl, _, itsO_ofL' old, _, hax, x.t, rfl, _, Dx.ot, rfl, _, _, rfl, _, _, rfl, _, _, rfl, rfl, ?_⟩
    refine ⟨_, rfl, _, rfl, 1, k0, rfl, rfl, Ld, 1 - k0, rfl, rfl, _, itsO_ofL' old, _, hay, y.t, 1, rfl, rfl, _, itsO_of Dy.ot, _, atI_1 _ _ _, ?_⟩
    refine ⟨_, rfl, _, rfl, D, k0, rfl, rfl, _, itsO_ofL' oD, _, hac, _, rfl, _, rfl, _, rfl, c, x.u, x.bm, x.mm, x.a, x.b, x.p, x.q, x.d, x.m, 133, 140, 133, rfl, hcx, Dx.R, Dx.hb, Dx.hm, by omega, by omega, by omega, fun H1 s1 => ⟨true, rfl, iteF ?_⟩⟩
    refine ⟨_, rfl, _, rfl, D, k0, rfl, rfl, _, itsO_ofL' (ob_sameL s1 oD), _, hac, _, rfl, _, rfl, sz2 (by show 2 ≤ 100; decide), fun z hz kz => ?_⟩
    have t2 := s1.trans (Same.new hz (.tup [.int 0, .int 1]))
    refine ⟨c, x.u, y.bm, z, x.a, x.b, x.p, x.q, y.d, (0, 1), 133, 140, 10, rfl, hcx.same t2, Dx.R.same t2, Dy.hb.same t2, ⟨ob_new kz, nf01, sz10 (by decide) (by decide)⟩, by omega, by omega, by omega, fun H2 s2 => ⟨true, rfl, iteF ?_⟩⟩
    have t3 := t2.trans s2
    refine ⟨_, rfl, _, rfl, D, k0, rfl, rfl, _, itsO_ofL' (ob_sameL t3 oD), _, hac, _, rfl, _, rfl, _, rfl, c, x.bm, y.bm, .ref x.u, x.p, x.q, x.d, y.d, 133, 140, 140, rfl, hcx.same t3, Dx.hb.same t3, Dy.hb.same t3, by omega, by omega, by omega, fun H3 s3 => ⟨true, rfl, iteF ?_⟩⟩
    have t4 := t3.trans s3
    refine ⟨_, rfl, _, rfl, _, rfl, D, k0, rfl, rfl, _, itsO_ofL' (ob_sameL t4 oD), _, hac, sr, c, x.p, x.q, 133, rfl, LS.same t4, hcx.same t4, fun H5 b5 LS5 => ⟨true, rfl, iteF ?_⟩⟩
    obtain ⟨ys4, hys4⟩ := (LS.same t4).st.at
    have hcx5 := (hcx.same t4).bg b5 hys4
    have Dx5 := (Dx.same t4).bg b5 hys4
    have oD5 := (ob_none kD).trans (b5 _ _ nD (fun _ z => by cases z) (t4 _ _ hD'))
    refine ⟨_, rfl, _, rfl, _, rfl, D, k0, rfl, rfl, _, itsO_ofL' oD5, _, hac, _, rfl, _, rfl, sr, c, x.u, x.bm, x.a, x.b, x.p, x.q, x.d, 133, 140, rfl, LS5.st, hcx5, Dx5.R, Dx5.hb, by omega, by omega, fun H6 kp6 st6 => ⟨true, rfl, iteF ?_⟩⟩
    have hcx6 := hcx5.kps kp6 LS5.st
    have Dx6 := Dx5.kps kp6 LS5.st
    obtain ⟨ys5, hys5⟩ := LS5.st.at
    have oD6 := (ob_none kD).trans (kp6.at nD.symm (b5 _ _ nD (fun _ z => by cases z) (t4 _ _ hD')))
    refine ⟨_, rfl, _, rfl, D, k0, rfl, rfl, _, itsO_ofL' oD6, _, hac, _, rfl, c, x.u, x.a, x.b, x.p, x.q, 133, rfl, hcx6, by omega, Dx6.R.ot, Dx6.R.fa.o, Dx6.R.fb.f.o, fun H7 s7 => ⟨true, rfl, iteF ?_⟩⟩
    exact ⟨_, _, _, _, _, rfl, (LS5.kp kp6 st6).same s7, bg.trans ((Bg.same t4).trans (b5.trans ((Bg.kp kp6).trans (Bg.same s7))))⟩
  · rintro σ H' ⟨x3, x5, x6, x7, x8, rfl, LS, bg⟩
    exact k H'
end
end My

namespace My
open PySem PySem.Spec PyProof.Rows L2
/-- the tuple of two ints that the written part holds -/
theorem ob_con {K : PySem.W.Frag} {z : Addr} {dd : Option Addr} {x y : Int} {t0 t1 : Tok} {n : Nat} {sl : Array (Option Value)} (h : K.lookup z = some ⟨.type "tuple", dd, .seq #[.int x t0, .int y t1] n, sl⟩) (H : Hp) : ob K H z = some (.tup [.int x, .int y]) := by
  unfold ob obK
  rw [h]
  show (if 2 ≤ sizeLine then _ else _) = _
  rw [if_pos (by rw [sizeLine_eq]; omega)]
  rfl
/-! ### the end: what the top has written -/
theorem dfn_mk {K : PySem.W.Frag} {h : Heap} {mg : Str → Option Value} {x : Str} {st : Stmt} {ps : List Str} {f : Addr} {oc kV doc pm cd ct : Value} {od an : Option Addr} {sl : Array (Option Value)} (X : K.In h) (G : h.Ns mainGlobals mg)
    (a : PySem.W.nsIn K mainGlobals x = some (some (.ref f))) (l : K.lookup f = some ⟨oc, od, .func (PySem.W.fnOf x x (defArgs st) (defBody st) (defScope st) .none kV doc pm an cd ct), sl⟩) (c : PySem.W.codeIn K cd x = true) (k : PySem.W.keepIn K (.ref f) = true)
    (hb : ∀ (kV doc pm : Value) (an : Option Addr) (cdv ct : Value) (us : List Value), us.length = ps.length → bindArgs (PySem.W.fnOf x x (defArgs st) (defBody st) (defScope st) .none kV doc pm an cdv ct) ⟨us, []⟩ = pure (ps.zip us)) : Dfn K mg x st ps :=
  ⟨f, _, fun_mk l c k, PySem.W.mg_of X G a, (fun_mk l c k).binds hb⟩
theorem all_mk {P : Program} {w : World} {K : PySem.W.Frag} {h : Heap} {mg : Str → Option Value} {fa : Addr} (X : K.In h) (G : h.Ns mainGlobals mg) (hfa : mg "law" = some (.ref fa)) {f0 : Addr} {oc0 kV0 dc0 pm0 cd0 ct0 : Value} {od0 an0 : Option Addr} {sl0 : Array (Option Value)} {f1 : Addr} {oc1 kV1 dc1 pm1 cd1 ct1 : Value} {od1 an1 : Option Addr} {sl1 : Array (Option Value)} {f2 : Addr} {oc2 kV2 dc2 pm2 cd2 ct2 : Value} {od2 an2 : Option Addr} {sl2 : Array (Option Value)} {f3 : Addr} {oc3 kV3 dc3 pm3 cd3 ct3 : Value} {od3 an3 : Option Addr} {sl3 : Array (Option Value)} {f4 : Addr} {oc4 kV4 dc4 pm4 cd4 ct4 : Value} {od4 an4 : Option Addr} {sl4 : Array (Option Value)} {f5 : Addr} {oc5 kV5 dc5 pm5 cd5 ct5 : Value} {od5 an5 : Option Addr} {sl5 : Array (Option Value)} {f6 : Addr} {oc6 kV6 dc6 pm6 cd6 ct6 : Value} {od6 an6 : Option Addr} {sl6 : Array (Option Value)} {f7 : Addr} {oc7 kV7 dc7 pm7 cd7 ct7 : Value} {od7 an7 : Option Addr} {sl7 : Array (Option Value)} {f8 : Addr} {oc8 kV8 dc8 pm8 cd8 ct8 : Value} {od8 an8 : Option Addr} {sl8 : Array (Option Value)} {f9 : Addr} {oc9 kV9 dc9 pm9 cd9 ct9 : Value} {od9 an9 : Option Addr} {sl9 : Array (Option Value)} {f10 : Addr} {oc10 kV10 dc10 pm10 cd10 ct10 : Value} {od10 an10 : Option Addr} {sl10 : Array (Option Value)} {f11 : Addr} {oc11 kV11 dc11 pm11 cd11 ct11 : Value} {od11 an11 : Option Addr} {sl11 : Array (Option Value)} {f12 : Addr} {oc12 kV12 dc12 pm12 cd12 ct12 : Value} {od12 an12 : Option Addr} {sl12 : Array (Option Value)} {f13 : Addr} {oc13 kV13 dc13 pm13 cd13 ct13 : Value} {od13 an13 : Option Addr} {sl13 : Array (Option Value)} {f14 : Addr} {oc14 kV14 dc14 pm14 cd14 ct14 : Value} {od14 an14 : Option Addr} {sl14 : Array (Option Value)} {f15 : Addr} {oc15 kV15 dc15 pm15 cd15 ct15 : Value} {od15 an15 : Option Addr} {sl15 : Array (Option Value)} {f16 : Addr} {oc16 kV16 dc16 pm16 cd16 ct16 : Value} {od16 an16 : Option Addr} {sl16 : Array (Option Value)} {f17 : Addr} {oc17 kV17 dc17 pm17 cd17 ct17 : Value} {od17 an17 : Option Addr} {sl17 : Array (Option Value)} {f18 : Addr} {oc18 kV18 dc18 pm18 cd18 ct18 : Value} {od18 an18 : Option Addr} {sl18 : Array (Option Value)} {f19 : Addr} {oc19 kV19 dc19 pm19 cd19 ct19 : Value} {od19 an19 : Option Addr} {sl19 : Array (Option Value)} {f20 : Addr} {oc20 kV20 dc20 pm20 cd20 ct20 : Value} {od20 an20 : Option Addr} {sl20 : Array (Option Value)} {f21 : Addr} {oc21 kV21 dc21 pm21 cd21 ct21 : Value} {od21 an21 : Option Addr} {sl21 : Array (Option Value)} {f22 : Addr} {oc22 kV22 dc22 pm22 cd22 ct22 : Value} {od22 an22 : Option Addr} {sl22 : Array (Option Value)} {f23 : Addr} {oc23 kV23 dc23 pm23 cd23 ct23 : Value} {od23 an23 : Option Addr} {sl23 : Array (Option Value)} {f24 : Addr} {oc24 kV24 dc24 pm24 cd24 ct24 : Value} {od24 an24 : Option Addr} {sl24 : Array (Option Value)} {f25 : Addr} {oc25 kV25 dc25 pm25 cd25 ct25 : Value} {od25 an25 : Option Addr} {sl25 : Array (Option Value)} {f26 : Addr} {oc26 kV26 dc26 pm26 cd26 ct26 : Value} {od26 an26 : Option Addr} {sl26 : Array (Option Value)} {f27 : Addr} {oc27 kV27 dc27 pm27 cd27 ct27 : Value} {od27 an27 : Option Addr} {sl27 : Array (Option Value)} {f28 : Addr} {oc28 kV28 dc28 pm28 cd28 ct28 : Value} {od28 an28 : Option Addr} {sl28 : Array (Option Value)} {f29 : Addr} {oc29 kV29 dc29 pm29 cd29 ct29 : Value} {od29 an29 : Option Addr} {sl29 : Array (Option Value)} {f30 : Addr} {oc30 kV30 dc30 pm30 cd30 ct30 : Value} {od30 an30 : Option Addr} {sl30 : Array (Option Value)} {f31 : Addr} {oc31 kV31 dc31 pm31 cd31 ct31 : Value} {od31 an31 : Option Addr} {sl31 : Array (Option Value)} {f32 : Addr} {oc32 kV32 dc32 pm32 cd32 ct32 : Value} {od32 an32 : Option Addr} {sl32 : Array (Option Value)} {f33 : Addr} {oc33 kV33 dc33 pm33 cd33 ct33 : Value} {od33 an33 : Option Addr} {sl33 : Array (Option Value)} {f34 : Addr} {oc34 kV34 dc34 pm34 cd34 ct34 : Value} {od34 an34 : Option Addr} {sl34 : Array (Option Value)} {f35 : Addr} {oc35 kV35 dc35 pm35 cd35 ct35 : Value} {od35 an35 : Option Addr} {sl35 : Array (Option Value)} {f36 : Addr} {oc36 kV36 dc36 pm36 cd36 ct36 : Value} {od36 an36 : Option Addr} {sl36 : Array (Option Value)} {f37 : Addr} {oc37 kV37 dc37 pm37 cd37 ct37 : Value} {od37 an37 : Option Addr} {sl37 : Array (Option Value)} {f38 : Addr} {oc38 kV38 dc38 pm38 cd38 ct38 : Value} {od38 an38 : Option Addr} {sl38 : Array (Option Value)} {f39 : Addr} {oc39 kV39 dc39 pm39 cd39 ct39 : Value} {od39 an39 : Option Addr} {sl39 : Array (Option Value)} {f40 : Addr} {oc40 kV40 dc40 pm40 cd40 ct40 : Value} {od40 an40 : Option Addr} {sl40 : Array (Option Value)} {f41 : Addr} {oc41 kV41 dc41 pm41 cd41 ct41 : Value} {od41 an41 : Option Addr} {sl41 : Array (Option Value)} {f42 : Addr} {oc42 kV42 dc42 pm42 cd42 ct42 : Value} {od42 an42 : Option Addr} {sl42 : Array (Option Value)} {fF tF : Addr} {ocF kVF dcF pmF cdF ctF ocT : Value} {odF anF odT : Option Addr} {slF slT : Array (Option Value)} {tk : Tok} {nT : Nat} {C S fI : Addr} {nm qn : Str} {N0 : Addr} {bs bm : List Value} {sn : List Str} {sub : List Value} {ab : Bool} {col : Option Bool} {dd : Option Addr} {m0 m1 m2 m3 m5 : Option Value} {ocI kVI dcI pmI cdI ctI : Value} {odI anI : Option Addr} {slI : Array (Option Value)} {C_Mismatch : Addr} {C_Still : Addr} {C_Endless : Addr} {C_TooMany : Addr} {C_NoName : Addr} {C_Taken : Addr} {C_Locked : Addr} {C_Looped : Addr} {C_Broken : Addr} {C_ReadError : Addr} {gA : Addr} {ocA kVA dcA pmA cdA ctA : Value} {odA anA : Option Addr} {slA : Array (Option Value)} {CY z0 o0 : Addr} {ddZ : Option Addr} {taZ tbZ : Tok} {nnZ : Nat} {ssZ : Array (Option Value)} {ddO : Option Addr} {taO tbO : Tok} {nnO : Nat} {ssO : Array (Option Value)} {fY tY zi : Addr} {ocTY : Value} {odTY : Option Addr} {slTY : Array (Option Value)} {nTY : Nat} {ocY kVY dcY pmY cdY ctY : Value} {odY anY : Option Addr} {slY : Array (Option Value)} {ddI : Option Addr} {taI tbI : Tok} {nnI : Nat} {ssI : Array (Option Value)} {fTU : Addr} {ocTU kVTU dcTU pmTU cdTU ctTU : Value} {odTU anTU : Option Addr} {slTU : Array (Option Value)} {fPC : Addr} {ocPC kVPC dcPC pmPC cdPC ctPC : Value} {odPC anPC : Option Addr} {slPC : Array (Option Value)} {fTD : Addr} {ocTD kVTD dcTD pmTD cdTD ctTD : Value} {odTD anTD : Option Addr} {slTD : Array (Option Value)} {fGE : Addr} {ocGE kVGE dcGE pmGE cdGE ctGE : Value} {odGE anGE : Option Addr} {slGE : Array (Option Value)} {fLA : Addr} {ocLA kVLA dcLA pmLA cdLA ctLA : Value} {odLA anLA : Option Addr} {slLA : Array (Option Value)} {fEQ : Addr} {ocEQ kVEQ dcEQ pmEQ cdEQ ctEQ : Value} {odEQ anEQ : Option Addr} {slEQ : Array (Option Value)} {fAD : Addr} {ocAD kVAD dcAD pmAD cdAD ctAD : Value} {odAD anAD : Option Addr} {slAD : Array (Option Value)} {fNG : Addr} {ocNG kVNG dcNG pmNG cdNG ctNG : Value} {odNG anNG : Option Addr} {slNG : Array (Option Value)} {fR cR : Addr} {ocR kVR dcR pmR ctR : Value} {odR anR : Option Addr} {slR : Array (Option Value)} {fL : Addr} {ocL kVL dcL pmL cdvL ctL : Value} {odL anL : Option Addr} {slL : Array (Option Value)}
    (a0 : PySem.W.nsIn K mainGlobals "require" = some (some (.ref f0)))
    (l0 : K.lookup f0 = some ⟨oc0, od0, .func (PySem.W.fnOf "require" "require" (defArgs sRequire) (defBody sRequire) (defScope sRequire) .none kV0 dc0 pm0 an0 cd0 ct0), sl0⟩)
    (c0 : PySem.W.codeIn K cd0 "require" = true)
    (k0 : PySem.W.keepIn K (.ref f0) = true)
    (a1 : PySem.W.nsIn K mainGlobals "is_whole" = some (some (.ref f1)))
    (l1 : K.lookup f1 = some ⟨oc1, od1, .func (PySem.W.fnOf "is_whole" "is_whole" (defArgs sWhole) (defBody sWhole) (defScope sWhole) .none kV1 dc1 pm1 an1 cd1 ct1), sl1⟩)
    (c1 : PySem.W.codeIn K cd1 "is_whole" = true)
    (k1 : PySem.W.keepIn K (.ref f1) = true)
    (a2 : PySem.W.nsIn K mainGlobals "is_fraction" = some (some (.ref f2)))
    (l2 : K.lookup f2 = some ⟨oc2, od2, .func (PySem.W.fnOf "is_fraction" "is_fraction" (defArgs sIsFraction) (defBody sIsFraction) (defScope sIsFraction) .none kV2 dc2 pm2 an2 cd2 ct2), sl2⟩)
    (c2 : PySem.W.codeIn K cd2 "is_fraction" = true)
    (k2 : PySem.W.keepIn K (.ref f2) = true)
    (a3 : PySem.W.nsIn K mainGlobals "is_place" = some (some (.ref f3)))
    (l3 : K.lookup f3 = some ⟨oc3, od3, .func (PySem.W.fnOf "is_place" "is_place" (defArgs sIsPlace) (defBody sIsPlace) (defScope sIsPlace) .none kV3 dc3 pm3 an3 cd3 ct3), sl3⟩)
    (c3 : PySem.W.codeIn K cd3 "is_place" = true)
    (k3 : PySem.W.keepIn K (.ref f3) = true)
    (a4 : PySem.W.nsIn K mainGlobals "plus" = some (some (.ref f4)))
    (l4 : K.lookup f4 = some ⟨oc4, od4, .func (PySem.W.fnOf "plus" "plus" (defArgs sPlus) (defBody sPlus) (defScope sPlus) .none kV4 dc4 pm4 an4 cd4 ct4), sl4⟩)
    (c4 : PySem.W.codeIn K cd4 "plus" = true)
    (k4 : PySem.W.keepIn K (.ref f4) = true)
    (a5 : PySem.W.nsIn K mainGlobals "times" = some (some (.ref f5)))
    (l5 : K.lookup f5 = some ⟨oc5, od5, .func (PySem.W.fnOf "times" "times" (defArgs sTimes) (defBody sTimes) (defScope sTimes) .none kV5 dc5 pm5 an5 cd5 ct5), sl5⟩)
    (c5 : PySem.W.codeIn K cd5 "times" = true)
    (k5 : PySem.W.keepIn K (.ref f5) = true)
    (a6 : PySem.W.nsIn K mainGlobals "over" = some (some (.ref f6)))
    (l6 : K.lookup f6 = some ⟨oc6, od6, .func (PySem.W.fnOf "over" "over" (defArgs sOver) (defBody sOver) (defScope sOver) .none kV6 dc6 pm6 an6 cd6 ct6), sl6⟩)
    (c6 : PySem.W.codeIn K cd6 "over" = true)
    (k6 : PySem.W.keepIn K (.ref f6) = true)
    (a7 : PySem.W.nsIn K mainGlobals "magnitude" = some (some (.ref f7)))
    (l7 : K.lookup f7 = some ⟨oc7, od7, .func (PySem.W.fnOf "magnitude" "magnitude" (defArgs sMagn) (defBody sMagn) (defScope sMagn) .none kV7 dc7 pm7 an7 cd7 ct7), sl7⟩)
    (c7 : PySem.W.codeIn K cd7 "magnitude" = true)
    (k7 : PySem.W.keepIn K (.ref f7) = true)
    (a8 : PySem.W.nsIn K mainGlobals "negated" = some (some (.ref f8)))
    (l8 : K.lookup f8 = some ⟨oc8, od8, .func (PySem.W.fnOf "negated" "negated" (defArgs sNegated) (defBody sNegated) (defScope sNegated) .none kV8 dc8 pm8 an8 cd8 ct8), sl8⟩)
    (c8 : PySem.W.codeIn K cd8 "negated" = true)
    (k8 : PySem.W.keepIn K (.ref f8) = true)
    (a9 : PySem.W.nsIn K mainGlobals "part_of" = some (some (.ref f9)))
    (l9 : K.lookup f9 = some ⟨oc9, od9, .func (PySem.W.fnOf "part_of" "part_of" (defArgs sPart) (defBody sPart) (defScope sPart) .none kV9 dc9 pm9 an9 cd9 ct9), sl9⟩)
    (c9 : PySem.W.codeIn K cd9 "part_of" = true)
    (k9 : PySem.W.keepIn K (.ref f9) = true)
    (a10 : PySem.W.nsIn K mainGlobals "_period_of" = some (some (.ref f10)))
    (l10 : K.lookup f10 = some ⟨oc10, od10, .func (PySem.W.fnOf "_period_of" "_period_of" (defArgs sPeriod) (defBody sPeriod) (defScope sPeriod) .none kV10 dc10 pm10 an10 cd10 ct10), sl10⟩)
    (c10 : PySem.W.codeIn K cd10 "_period_of" = true)
    (k10 : PySem.W.keepIn K (.ref f10) = true)
    (a11 : PySem.W.nsIn K mainGlobals "_law_mixed" = some (some (.ref f11)))
    (l11 : K.lookup f11 = some ⟨oc11, od11, .func (PySem.W.fnOf "_law_mixed" "_law_mixed" (defArgs sMixed) (defBody sMixed) (defScope sMixed) .none kV11 dc11 pm11 an11 cd11 ct11), sl11⟩)
    (c11 : PySem.W.codeIn K cd11 "_law_mixed" = true)
    (k11 : PySem.W.keepIn K (.ref f11) = true)
    (a12 : PySem.W.nsIn K mainGlobals "_law_store" = some (some (.ref f12)))
    (l12 : K.lookup f12 = some ⟨oc12, od12, .func (PySem.W.fnOf "_law_store" "_law_store" (defArgs sStore) (defBody sStore) (defScope sStore) .none kV12 dc12 pm12 an12 cd12 ct12), sl12⟩)
    (c12 : PySem.W.codeIn K cd12 "_law_store" = true)
    (k12 : PySem.W.keepIn K (.ref f12) = true)
    (a13 : PySem.W.nsIn K mainGlobals "_law_take" = some (some (.ref f13)))
    (l13 : K.lookup f13 = some ⟨oc13, od13, .func (PySem.W.fnOf "_law_take" "_law_take" (defArgs sTake) (defBody sTake) (defScope sTake) .none kV13 dc13 pm13 an13 cd13 ct13), sl13⟩)
    (c13 : PySem.W.codeIn K cd13 "_law_take" = true)
    (k13 : PySem.W.keepIn K (.ref f13) = true)
    (a14 : PySem.W.nsIn K mainGlobals "_law_pick" = some (some (.ref f14)))
    (l14 : K.lookup f14 = some ⟨oc14, od14, .func (PySem.W.fnOf "_law_pick" "_law_pick" (defArgs sPick) (defBody sPick) (defScope sPick) .none kV14 dc14 pm14 an14 cd14 ct14), sl14⟩)
    (c14 : PySem.W.codeIn K cd14 "_law_pick" = true)
    (k14 : PySem.W.keepIn K (.ref f14) = true)
    (a15 : PySem.W.nsIn K mainGlobals "_law_gcd" = some (some (.ref f15)))
    (l15 : K.lookup f15 = some ⟨oc15, od15, .func (PySem.W.fnOf "_law_gcd" "_law_gcd" (defArgs sGcd) (defBody sGcd) (defScope sGcd) .none kV15 dc15 pm15 an15 cd15 ct15), sl15⟩)
    (c15 : PySem.W.codeIn K cd15 "_law_gcd" = true)
    (k15 : PySem.W.keepIn K (.ref f15) = true)
    (a16 : PySem.W.nsIn K mainGlobals "_law_lowest" = some (some (.ref f16)))
    (l16 : K.lookup f16 = some ⟨oc16, od16, .func (PySem.W.fnOf "_law_lowest" "_law_lowest" (defArgs sLowest) (defBody sLowest) (defScope sLowest) .none kV16 dc16 pm16 an16 cd16 ct16), sl16⟩)
    (c16 : PySem.W.codeIn K cd16 "_law_lowest" = true)
    (k16 : PySem.W.keepIn K (.ref f16) = true)
    (a17 : PySem.W.nsIn K mainGlobals "_law_plus" = some (some (.ref f17)))
    (l17 : K.lookup f17 = some ⟨oc17, od17, .func (PySem.W.fnOf "_law_plus" "_law_plus" (defArgs sLPlus) (defBody sLPlus) (defScope sLPlus) .none kV17 dc17 pm17 an17 cd17 ct17), sl17⟩)
    (c17 : PySem.W.codeIn K cd17 "_law_plus" = true)
    (k17 : PySem.W.keepIn K (.ref f17) = true)
    (a18 : PySem.W.nsIn K mainGlobals "_law_times" = some (some (.ref f18)))
    (l18 : K.lookup f18 = some ⟨oc18, od18, .func (PySem.W.fnOf "_law_times" "_law_times" (defArgs sLTimes) (defBody sLTimes) (defScope sLTimes) .none kV18 dc18 pm18 an18 cd18 ct18), sl18⟩)
    (c18 : PySem.W.codeIn K cd18 "_law_times" = true)
    (k18 : PySem.W.keepIn K (.ref f18) = true)
    (a19 : PySem.W.nsIn K mainGlobals "_law_over" = some (some (.ref f19)))
    (l19 : K.lookup f19 = some ⟨oc19, od19, .func (PySem.W.fnOf "_law_over" "_law_over" (defArgs sLOver) (defBody sLOver) (defScope sLOver) .none kV19 dc19 pm19 an19 cd19 ct19), sl19⟩)
    (c19 : PySem.W.codeIn K cd19 "_law_over" = true)
    (k19 : PySem.W.keepIn K (.ref f19) = true)
    (a20 : PySem.W.nsIn K mainGlobals "_law_part" = some (some (.ref f20)))
    (l20 : K.lookup f20 = some ⟨oc20, od20, .func (PySem.W.fnOf "_law_part" "_law_part" (defArgs sLPart) (defBody sLPart) (defScope sLPart) .none kV20 dc20 pm20 an20 cd20 ct20), sl20⟩)
    (c20 : PySem.W.codeIn K cd20 "_law_part" = true)
    (k20 : PySem.W.keepIn K (.ref f20) = true)
    (a21 : PySem.W.nsIn K mainGlobals "_law_is_whole" = some (some (.ref f21)))
    (l21 : K.lookup f21 = some ⟨oc21, od21, .func (PySem.W.fnOf "_law_is_whole" "_law_is_whole" (defArgs sLWhole) (defBody sLWhole) (defScope sLWhole) .none kV21 dc21 pm21 an21 cd21 ct21), sl21⟩)
    (c21 : PySem.W.codeIn K cd21 "_law_is_whole" = true)
    (k21 : PySem.W.keepIn K (.ref f21) = true)
    (a22 : PySem.W.nsIn K mainGlobals "_law_is_frac" = some (some (.ref f22)))
    (l22 : K.lookup f22 = some ⟨oc22, od22, .func (PySem.W.fnOf "_law_is_frac" "_law_is_frac" (defArgs sLFrac) (defBody sLFrac) (defScope sLFrac) .none kV22 dc22 pm22 an22 cd22 ct22), sl22⟩)
    (c22 : PySem.W.codeIn K cd22 "_law_is_frac" = true)
    (k22 : PySem.W.keepIn K (.ref f22) = true)
    (a23 : PySem.W.nsIn K mainGlobals "_law_is_place" = some (some (.ref f23)))
    (l23 : K.lookup f23 = some ⟨oc23, od23, .func (PySem.W.fnOf "_law_is_place" "_law_is_place" (defArgs sLIsPlace) (defBody sLIsPlace) (defScope sLIsPlace) .none kV23 dc23 pm23 an23 cd23 ct23), sl23⟩)
    (c23 : PySem.W.codeIn K cd23 "_law_is_place" = true)
    (k23 : PySem.W.keepIn K (.ref f23) = true)
    (a24 : PySem.W.nsIn K mainGlobals "_law_same" = some (some (.ref f24)))
    (l24 : K.lookup f24 = some ⟨oc24, od24, .func (PySem.W.fnOf "_law_same" "_law_same" (defArgs sSame) (defBody sSame) (defScope sSame) .none kV24 dc24 pm24 an24 cd24 ct24), sl24⟩)
    (c24 : PySem.W.codeIn K cd24 "_law_same" = true)
    (k24 : PySem.W.keepIn K (.ref f24) = true)
    (a25 : PySem.W.nsIn K mainGlobals "_law_fits" = some (some (.ref f25)))
    (l25 : K.lookup f25 = some ⟨oc25, od25, .func (PySem.W.fnOf "_law_fits" "_law_fits" (defArgs sFits) (defBody sFits) (defScope sFits) .none kV25 dc25 pm25 an25 cd25 ct25), sl25⟩)
    (c25 : PySem.W.codeIn K cd25 "_law_fits" = true)
    (k25 : PySem.W.keepIn K (.ref f25) = true)
    (a26 : PySem.W.nsIn K mainGlobals "_law_whole" = some (some (.ref f26)))
    (l26 : K.lookup f26 = some ⟨oc26, od26, .func (PySem.W.fnOf "_law_whole" "_law_whole" (defArgs sLInt) (defBody sLInt) (defScope sLInt) .none kV26 dc26 pm26 an26 cd26 ct26), sl26⟩)
    (c26 : PySem.W.codeIn K cd26 "_law_whole" = true)
    (k26 : PySem.W.keepIn K (.ref f26) = true)
    (a27 : PySem.W.nsIn K mainGlobals "_law_great" = some (some (.ref f27)))
    (l27 : K.lookup f27 = some ⟨oc27, od27, .func (PySem.W.fnOf "_law_great" "_law_great" (defArgs sGreat) (defBody sGreat) (defScope sGreat) .none kV27 dc27 pm27 an27 cd27 ct27), sl27⟩)
    (c27 : PySem.W.codeIn K cd27 "_law_great" = true)
    (k27 : PySem.W.keepIn K (.ref f27) = true)
    (a28 : PySem.W.nsIn K mainGlobals "_law_frac" = some (some (.ref f28)))
    (l28 : K.lookup f28 = some ⟨oc28, od28, .func (PySem.W.fnOf "_law_frac" "_law_frac" (defArgs sDFrac) (defBody sDFrac) (defScope sDFrac) .none kV28 dc28 pm28 an28 cd28 ct28), sl28⟩)
    (c28 : PySem.W.codeIn K cd28 "_law_frac" = true)
    (k28 : PySem.W.keepIn K (.ref f28) = true)
    (a29 : PySem.W.nsIn K mainGlobals "_law_frac_wide" = some (some (.ref f29)))
    (l29 : K.lookup f29 = some ⟨oc29, od29, .func (PySem.W.fnOf "_law_frac_wide" "_law_frac_wide" (defArgs sDFracW) (defBody sDFracW) (defScope sDFracW) .none kV29 dc29 pm29 an29 cd29 ct29), sl29⟩)
    (c29 : PySem.W.codeIn K cd29 "_law_frac_wide" = true)
    (k29 : PySem.W.keepIn K (.ref f29) = true)
    (a30 : PySem.W.nsIn K mainGlobals "_law_place" = some (some (.ref f30)))
    (l30 : K.lookup f30 = some ⟨oc30, od30, .func (PySem.W.fnOf "_law_place" "_law_place" (defArgs sDPlace) (defBody sDPlace) (defScope sDPlace) .none kV30 dc30 pm30 an30 cd30 ct30), sl30⟩)
    (c30 : PySem.W.codeIn K cd30 "_law_place" = true)
    (k30 : PySem.W.keepIn K (.ref f30) = true)
    (a31 : PySem.W.nsIn K mainGlobals "_law_place_wide" = some (some (.ref f31)))
    (l31 : K.lookup f31 = some ⟨oc31, od31, .func (PySem.W.fnOf "_law_place_wide" "_law_place_wide" (defArgs sDPlaceW) (defBody sDPlaceW) (defScope sDPlaceW) .none kV31 dc31 pm31 an31 cd31 ct31), sl31⟩)
    (c31 : PySem.W.codeIn K cd31 "_law_place_wide" = true)
    (k31 : PySem.W.keepIn K (.ref f31) = true)
    (a32 : PySem.W.nsIn K mainGlobals "_law_moment" = some (some (.ref f32)))
    (l32 : K.lookup f32 = some ⟨oc32, od32, .func (PySem.W.fnOf "_law_moment" "_law_moment" (defArgs sDMoment) (defBody sDMoment) (defScope sDMoment) .none kV32 dc32 pm32 an32 cd32 ct32), sl32⟩)
    (c32 : PySem.W.codeIn K cd32 "_law_moment" = true)
    (k32 : PySem.W.keepIn K (.ref f32) = true)
    (a33 : PySem.W.nsIn K mainGlobals "_law_bad_frac" = some (some (.ref f33)))
    (l33 : K.lookup f33 = some ⟨oc33, od33, .func (PySem.W.fnOf "_law_bad_frac" "_law_bad_frac" (defArgs sBadFrac) (defBody sBadFrac) (defScope sBadFrac) .none kV33 dc33 pm33 an33 cd33 ct33), sl33⟩)
    (c33 : PySem.W.codeIn K cd33 "_law_bad_frac" = true)
    (k33 : PySem.W.keepIn K (.ref f33) = true)
    (a34 : PySem.W.nsIn K mainGlobals "_law_cycle_wide" = some (some (.ref f34)))
    (l34 : K.lookup f34 = some ⟨oc34, od34, .func (PySem.W.fnOf "_law_cycle_wide" "_law_cycle_wide" (defArgs sCycleW) (defBody sCycleW) (defScope sCycleW) .none kV34 dc34 pm34 an34 cd34 ct34), sl34⟩)
    (c34 : PySem.W.codeIn K cd34 "_law_cycle_wide" = true)
    (k34 : PySem.W.keepIn K (.ref f34) = true)
    (a35 : PySem.W.nsIn K mainGlobals "_law_turns" = some (some (.ref f35)))
    (l35 : K.lookup f35 = some ⟨oc35, od35, .func (PySem.W.fnOf "_law_turns" "_law_turns" (defArgs sLTurns) (defBody sLTurns) (defScope sLTurns) .none kV35 dc35 pm35 an35 cd35 ct35), sl35⟩)
    (c35 : PySem.W.codeIn K cd35 "_law_turns" = true)
    (k35 : PySem.W.keepIn K (.ref f35) = true)
    (a36 : PySem.W.nsIn K mainGlobals "_law_place_at" = some (some (.ref f36)))
    (l36 : K.lookup f36 = some ⟨oc36, od36, .func (PySem.W.fnOf "_law_place_at" "_law_place_at" (defArgs sLPlaceAt) (defBody sLPlaceAt) (defScope sLPlaceAt) .none kV36 dc36 pm36 an36 cd36 ct36), sl36⟩)
    (c36 : PySem.W.codeIn K cd36 "_law_place_at" = true)
    (k36 : PySem.W.keepIn K (.ref f36) = true)
    (a37 : PySem.W.nsIn K mainGlobals "_law_cycle_told" = some (some (.ref f37)))
    (l37 : K.lookup f37 = some ⟨oc37, od37, .func (PySem.W.fnOf "_law_cycle_told" "_law_cycle_told" (defArgs sTold) (defBody sTold) (defScope sTold) .none kV37 dc37 pm37 an37 cd37 ct37), sl37⟩)
    (c37 : PySem.W.codeIn K cd37 "_law_cycle_told" = true)
    (k37 : PySem.W.keepIn K (.ref f37) = true)
    (a38 : PySem.W.nsIn K mainGlobals "_law_drawn" = some (some (.ref f38)))
    (l38 : K.lookup f38 = some ⟨oc38, od38, .func (PySem.W.fnOf "_law_drawn" "_law_drawn" (defArgs sDrawn) (defBody sDrawn) (defScope sDrawn) .none kV38 dc38 pm38 an38 cd38 ct38), sl38⟩)
    (c38 : PySem.W.codeIn K cd38 "_law_drawn" = true)
    (k38 : PySem.W.keepIn K (.ref f38) = true)
    (a39 : PySem.W.nsIn K mainGlobals "_law_is_cycle" = some (some (.ref f39)))
    (l39 : K.lookup f39 = some ⟨oc39, od39, .func (PySem.W.fnOf "_law_is_cycle" "_law_is_cycle" (defArgs sIsCycle) (defBody sIsCycle) (defScope sIsCycle) .none kV39 dc39 pm39 an39 cd39 ct39), sl39⟩)
    (c39 : PySem.W.codeIn K cd39 "_law_is_cycle" = true)
    (k39 : PySem.W.keepIn K (.ref f39) = true)
    (a40 : PySem.W.nsIn K mainGlobals "_law_holds" = some (some (.ref f40)))
    (l40 : K.lookup f40 = some ⟨oc40, od40, .func (PySem.W.fnOf "_law_holds" "_law_holds" (defArgs sHolds) (defBody sHolds) (defScope sHolds) .none kV40 dc40 pm40 an40 cd40 ct40), sl40⟩)
    (c40 : PySem.W.codeIn K cd40 "_law_holds" = true)
    (k40 : PySem.W.keepIn K (.ref f40) = true)
    (a41 : PySem.W.nsIn K mainGlobals "_law_undone" = some (some (.ref f41)))
    (l41 : K.lookup f41 = some ⟨oc41, od41, .func (PySem.W.fnOf "_law_undone" "_law_undone" (defArgs sUndone) (defBody sUndone) (defScope sUndone) .none kV41 dc41 pm41 an41 cd41 ct41), sl41⟩)
    (c41 : PySem.W.codeIn K cd41 "_law_undone" = true)
    (k41 : PySem.W.keepIn K (.ref f41) = true)
    (a42 : PySem.W.nsIn K mainGlobals "_law_deep_told" = some (some (.ref f42)))
    (l42 : K.lookup f42 = some ⟨oc42, od42, .func (PySem.W.fnOf "_law_deep_told" "_law_deep_told" (defArgs sDeep) (defBody sDeep) (defScope sDeep) .none kV42 dc42 pm42 an42 cd42 ct42), sl42⟩)
    (c42 : PySem.W.codeIn K cd42 "_law_deep_told" = true)
    (k42 : PySem.W.keepIn K (.ref f42) = true)
    (aF : PySem.W.nsIn K mainGlobals "fraction" = some (some (.ref fF)))
    (lF : K.lookup fF = some ⟨ocF, odF, .func (PySem.W.fnOf "fraction" "fraction" (defArgs sFraction) (defBody sFraction) (defScope sFraction) (.ref tF) kVF dcF pmF anF cdF ctF), slF⟩)
    (cF : PySem.W.codeIn K cdF "fraction" = true)
    (kF : PySem.W.keepIn K (.ref fF) = true)
    (lT : K.lookup tF = some ⟨ocT, odT, .seq #[.int 1 tk] nT, slT⟩)
    (z_int : PySem.W.nsIn K mainGlobals "int" = some none)
    (z_len : PySem.W.nsIn K mainGlobals "len" = some none)
    (z_list : PySem.W.nsIn K mainGlobals "list" = some none)
    (z_abs : PySem.W.nsIn K mainGlobals "abs" = some none)
    (z_range : PySem.W.nsIn K mainGlobals "range" = some none)
    (z_min : PySem.W.nsIn K mainGlobals "min" = some none)
    (z_max : PySem.W.nsIn K mainGlobals "max" = some none)
    (z_isinstance : PySem.W.nsIn K mainGlobals "isinstance" = some none)
    (z_bool : PySem.W.nsIn K mainGlobals "bool" = some none)
    (z_str : PySem.W.nsIn K mainGlobals "str" = some none)
    (z_dict : PySem.W.nsIn K mainGlobals "dict" = some none)
    (z_tuple : PySem.W.nsIn K mainGlobals "tuple" = some none)
    (z_gcd : PySem.W.nsIn K mainGlobals "gcd" = some (some (.builtin "math.gcd")))
    (z_VE : PySem.W.nsIn K mainGlobals "ValueError" = some none)
    (aC : PySem.W.nsIn K mainGlobals "BadValue" = some (some (.ref C)))
    (aS : PySem.W.nsIn K mainGlobals "SkyError" = some (some (.ref S)))
    (xL : K.lookup C = some (excClassObj nm qn C N0 bs bm true sn sub ab col dd m0 m1 m2 m3 m5 "ValueError.__new__"))
    (hbm : PySem.HandSPX.refsVE bm = true)
    (sa : PySem.W.findIn K (.ref C) "__setattr__" = some (some (.builtin "object.__setattr__")))
    (ga : PySem.W.findIn K (.ref C) "__getattribute__" = some (some (.builtin "BaseException.__getattribute__")))
    (gg : PySem.W.findIn K (.ref C) "__getattr__" = some none)
    (gc : PySem.W.findIn K (.ref C) "__class__" = some (some (.builtin "object.__class__")))
    (nw : PySem.W.findIn K (.ref C) "what" = some none)
    (aI : PySem.W.findIn K (.ref C) "__init__" = some (some (.ref fI)))
    (tI : PySem.W.typeIn K (.ref fI) = some (.type "function"))
    (lI : K.lookup fI = some ⟨ocI, odI, .func (PySem.W.fnOf "__init__" "BadValue.__init__" (defArgs sInitB) (defBody sInitB) (defScope sInitB) .none kVI dcI pmI anI cdI ctI), slI⟩)
    (cI : PySem.W.codeIn K cdI "BadValue.__init__" = true)
    (kI : PySem.W.keepIn K (.ref fI) = true)
    (kC : PySem.W.keepIn K (.ref C) = true)
    (eC : PySem.W.subIn K (.ref C) (.type "BaseException") = some true)
    (tC : PySem.W.typeIn K (.ref C) = some (.type "type"))
    (hC : PySem.W.hasDictIn K C = true)
    (mC : PySem.W.mroIn K C (.type "object") = some true)
    (vC : PySem.W.subIn K (.ref C) (.type "ValueError") = some true)
    (spc : PySem.W.specialIn K (.builtin "object.__class__") "__get__" = some (some (.builtin "getset_descriptor.__get__")))
    (tkc : PySem.W.takesIn K (.builtin "object.__class__") = some true)
    (eS : PySem.W.subIn K (.ref S) (.type "BaseException") = some true)
    (hS : PySem.W.hasDictIn K S = true)
    (tS : PySem.W.typeIn K (.ref S) = some (.type "type"))
    (cS : PySem.W.subIn K (.ref C) (.ref S) = some true)
    (a_Mismatch : PySem.W.nsIn K mainGlobals "Mismatch" = some (some (.ref C_Mismatch)))
    (t_Mismatch : PySem.W.typeIn K (.ref C_Mismatch) = some (.type "type"))
    (h_Mismatch : PySem.W.hasDictIn K C_Mismatch = true)
    (s_Mismatch : PySem.W.subIn K (.ref C) (.ref C_Mismatch) = some false)
    (n_Mismatch : (Value.ref C == Value.ref C_Mismatch) = false)
    (a_Still : PySem.W.nsIn K mainGlobals "Still" = some (some (.ref C_Still)))
    (t_Still : PySem.W.typeIn K (.ref C_Still) = some (.type "type"))
    (h_Still : PySem.W.hasDictIn K C_Still = true)
    (s_Still : PySem.W.subIn K (.ref C) (.ref C_Still) = some false)
    (n_Still : (Value.ref C == Value.ref C_Still) = false)
    (a_Endless : PySem.W.nsIn K mainGlobals "Endless" = some (some (.ref C_Endless)))
    (t_Endless : PySem.W.typeIn K (.ref C_Endless) = some (.type "type"))
    (h_Endless : PySem.W.hasDictIn K C_Endless = true)
    (s_Endless : PySem.W.subIn K (.ref C) (.ref C_Endless) = some false)
    (n_Endless : (Value.ref C == Value.ref C_Endless) = false)
    (a_TooMany : PySem.W.nsIn K mainGlobals "TooMany" = some (some (.ref C_TooMany)))
    (t_TooMany : PySem.W.typeIn K (.ref C_TooMany) = some (.type "type"))
    (h_TooMany : PySem.W.hasDictIn K C_TooMany = true)
    (s_TooMany : PySem.W.subIn K (.ref C) (.ref C_TooMany) = some false)
    (n_TooMany : (Value.ref C == Value.ref C_TooMany) = false)
    (a_NoName : PySem.W.nsIn K mainGlobals "NoName" = some (some (.ref C_NoName)))
    (t_NoName : PySem.W.typeIn K (.ref C_NoName) = some (.type "type"))
    (h_NoName : PySem.W.hasDictIn K C_NoName = true)
    (s_NoName : PySem.W.subIn K (.ref C) (.ref C_NoName) = some false)
    (n_NoName : (Value.ref C == Value.ref C_NoName) = false)
    (a_Taken : PySem.W.nsIn K mainGlobals "Taken" = some (some (.ref C_Taken)))
    (t_Taken : PySem.W.typeIn K (.ref C_Taken) = some (.type "type"))
    (h_Taken : PySem.W.hasDictIn K C_Taken = true)
    (s_Taken : PySem.W.subIn K (.ref C) (.ref C_Taken) = some false)
    (n_Taken : (Value.ref C == Value.ref C_Taken) = false)
    (a_Locked : PySem.W.nsIn K mainGlobals "Locked" = some (some (.ref C_Locked)))
    (t_Locked : PySem.W.typeIn K (.ref C_Locked) = some (.type "type"))
    (h_Locked : PySem.W.hasDictIn K C_Locked = true)
    (s_Locked : PySem.W.subIn K (.ref C) (.ref C_Locked) = some false)
    (n_Locked : (Value.ref C == Value.ref C_Locked) = false)
    (a_Looped : PySem.W.nsIn K mainGlobals "Looped" = some (some (.ref C_Looped)))
    (t_Looped : PySem.W.typeIn K (.ref C_Looped) = some (.type "type"))
    (h_Looped : PySem.W.hasDictIn K C_Looped = true)
    (s_Looped : PySem.W.subIn K (.ref C) (.ref C_Looped) = some false)
    (n_Looped : (Value.ref C == Value.ref C_Looped) = false)
    (a_Broken : PySem.W.nsIn K mainGlobals "Broken" = some (some (.ref C_Broken)))
    (t_Broken : PySem.W.typeIn K (.ref C_Broken) = some (.type "type"))
    (h_Broken : PySem.W.hasDictIn K C_Broken = true)
    (s_Broken : PySem.W.subIn K (.ref C) (.ref C_Broken) = some false)
    (n_Broken : (Value.ref C == Value.ref C_Broken) = false)
    (a_ReadError : PySem.W.nsIn K mainGlobals "ReadError" = some (some (.ref C_ReadError)))
    (t_ReadError : PySem.W.typeIn K (.ref C_ReadError) = some (.type "type"))
    (h_ReadError : PySem.W.hasDictIn K C_ReadError = true)
    (s_ReadError : PySem.W.subIn K (.ref C) (.ref C_ReadError) = some false)
    (n_ReadError : (Value.ref C == Value.ref C_ReadError) = false)
    (aA : PySem.W.nsIn K mainGlobals "_law_asked" = some (some (.ref gA)))
    (lA : K.lookup gA = some ⟨ocA, odA, .func (PySem.W.fnOf "_law_asked" "_law_asked" (defArgs sAsked) (defBody sAsked) (defScope sAsked) .none kVA dcA pmA anA cdA ctA), slA⟩)
    (cA : PySem.W.codeIn K cdA "_law_asked" = true)
    (kA : PySem.W.keepIn K (.ref gA) = true)
    (aY : PySem.W.nsIn K mainGlobals "Cycle" = some (some (.ref CY)))
    (aZ : PySem.W.nsIn K mainGlobals "ZERO" = some (some (.ref z0)))
    (o_Z : K.lookup z0 = some ⟨.type "tuple", ddZ, .seq #[.int 0 taZ, .int 1 tbZ] nnZ, ssZ⟩)
    (aO : PySem.W.nsIn K mainGlobals "ONE" = some (some (.ref o0)))
    (o_O : K.lookup o0 = some ⟨.type "tuple", ddO, .seq #[.int 1 taO, .int 1 tbO] nnO, ssO⟩)
    (ypg : PySem.W.plainGet K CY Str.empty = true)
    (yhd : PySem.W.hasDictIn K CY = true)
    (ypo : PySem.W.plainOver K CY = true)
    (ysa : PySem.W.findIn K (.ref CY) "__setattr__" = some (some (.builtin "object.__setattr__")))
    (yn_rate : PySem.W.findIn K (.ref CY) "rate" = some none)
    (yn_start : PySem.W.findIn K (.ref CY) "start" = some none)
    (yn_period : PySem.W.findIn K (.ref CY) "period" = some none)
    (ymk : PySem.W.makesIn K CY = true)
    (ykp : PySem.W.keepIn K (.ref CY) = true)
    (yic : PySem.W.isClsIn K CY = true)
    (yca : PySem.W.findIn K (.ref CY) "__class__" = some (some (.builtin "object.__class__")))
    (yro : PySem.W.mroIn K CY (.type "object") = some true)
    (yin : PySem.W.findIn K (.ref CY) "__init__" = some (some (.ref fY)))
    (yif : PySem.W.isFn K (.ref fY) = true)
    (ysf : PySem.W.selfFirst K CY = true)
    (lY : K.lookup fY = some ⟨ocY, odY, .func (PySem.W.fnOf "__init__" "Cycle.__init__" (defArgs sCyInit) (defBody sCyInit) (defScope sCyInit) (.ref tY) kVY dcY pmY anY cdY ctY), slY⟩)
    (cY : PySem.W.codeIn K cdY "Cycle.__init__" = true)
    (kY : PySem.W.keepIn K (.ref fY) = true)
    (lTY : K.lookup tY = some ⟨ocTY, odTY, .seq #[.ref zi] nTY, slTY⟩)
    (o_I : K.lookup zi = some ⟨.type "tuple", ddI, .seq #[.int 0 taI, .int 1 tbI] nnI, ssI⟩)
    (y1TU : PySem.W.findIn K (.ref CY) "turns" = some (some (.ref fTU)))
    (y2TU : PySem.W.isFn K (.ref fTU) = true)
    (lTU : K.lookup fTU = some ⟨ocTU, odTU, .func (PySem.W.fnOf "turns" "Cycle.turns" (defArgs sCyTurns) (defBody sCyTurns) (defScope sCyTurns) .none kVTU dcTU pmTU anTU cdTU ctTU), slTU⟩)
    (cTU : PySem.W.codeIn K cdTU "Cycle.turns" = true)
    (kTU : PySem.W.keepIn K (.ref fTU) = true)
    (y1PC : PySem.W.findIn K (.ref CY) "place" = some (some (.ref fPC)))
    (y2PC : PySem.W.isFn K (.ref fPC) = true)
    (lPC : K.lookup fPC = some ⟨ocPC, odPC, .func (PySem.W.fnOf "place" "Cycle.place" (defArgs sCyPlace) (defBody sCyPlace) (defScope sCyPlace) .none kVPC dcPC pmPC anPC cdPC ctPC), slPC⟩)
    (cPC : PySem.W.codeIn K cdPC "Cycle.place" = true)
    (kPC : PySem.W.keepIn K (.ref fPC) = true)
    (y1TD : PySem.W.findIn K (.ref CY) "turned" = some (some (.ref fTD)))
    (y2TD : PySem.W.isFn K (.ref fTD) = true)
    (lTD : K.lookup fTD = some ⟨ocTD, odTD, .func (PySem.W.fnOf "turned" "Cycle.turned" (defArgs sCyTurned) (defBody sCyTurned) (defScope sCyTurned) .none kVTD dcTD pmTD anTD cdTD ctTD), slTD⟩)
    (cTD : PySem.W.codeIn K cdTD "Cycle.turned" = true)
    (kTD : PySem.W.keepIn K (.ref fTD) = true)
    (y1GE : PySem.W.findIn K (.ref CY) "geared" = some (some (.ref fGE)))
    (y2GE : PySem.W.isFn K (.ref fGE) = true)
    (lGE : K.lookup fGE = some ⟨ocGE, odGE, .func (PySem.W.fnOf "geared" "Cycle.geared" (defArgs sCyGeared) (defBody sCyGeared) (defScope sCyGeared) .none kVGE dcGE pmGE anGE cdGE ctGE), slGE⟩)
    (cGE : PySem.W.codeIn K cdGE "Cycle.geared" = true)
    (kGE : PySem.W.keepIn K (.ref fGE) = true)
    (y1LA : PySem.W.findIn K (.ref CY) "later" = some (some (.ref fLA)))
    (y2LA : PySem.W.isFn K (.ref fLA) = true)
    (lLA : K.lookup fLA = some ⟨ocLA, odLA, .func (PySem.W.fnOf "later" "Cycle.later" (defArgs sCyLater) (defBody sCyLater) (defScope sCyLater) .none kVLA dcLA pmLA anLA cdLA ctLA), slLA⟩)
    (cLA : PySem.W.codeIn K cdLA "Cycle.later" = true)
    (kLA : PySem.W.keepIn K (.ref fLA) = true)
    (y1EQ : PySem.W.findIn K (.ref CY) "__eq__" = some (some (.ref fEQ)))
    (y2EQ : PySem.W.isFn K (.ref fEQ) = true)
    (lEQ : K.lookup fEQ = some ⟨ocEQ, odEQ, .func (PySem.W.fnOf "__eq__" "Cycle.__eq__" (defArgs sCyEq) (defBody sCyEq) (defScope sCyEq) .none kVEQ dcEQ pmEQ anEQ cdEQ ctEQ), slEQ⟩)
    (cEQ : PySem.W.codeIn K cdEQ "Cycle.__eq__" = true)
    (kEQ : PySem.W.keepIn K (.ref fEQ) = true)
    (y1AD : PySem.W.findIn K (.ref CY) "__add__" = some (some (.ref fAD)))
    (y2AD : PySem.W.isFn K (.ref fAD) = true)
    (lAD : K.lookup fAD = some ⟨ocAD, odAD, .func (PySem.W.fnOf "__add__" "Cycle.__add__" (defArgs sCyAdd) (defBody sCyAdd) (defScope sCyAdd) .none kVAD dcAD pmAD anAD cdAD ctAD), slAD⟩)
    (cAD : PySem.W.codeIn K cdAD "Cycle.__add__" = true)
    (kAD : PySem.W.keepIn K (.ref fAD) = true)
    (y1NG : PySem.W.findIn K (.ref CY) "__neg__" = some (some (.ref fNG)))
    (y2NG : PySem.W.isFn K (.ref fNG) = true)
    (lNG : K.lookup fNG = some ⟨ocNG, odNG, .func (PySem.W.fnOf "__neg__" "Cycle.__neg__" (defArgs sCyNeg) (defBody sCyNeg) (defScope sCyNeg) .none kVNG dcNG pmNG anNG cdNG ctNG), slNG⟩)
    (cNG : PySem.W.codeIn K cdNG "Cycle.__neg__" = true)
    (kNG : PySem.W.keepIn K (.ref fNG) = true)
    (aR : PySem.W.nsIn K mainGlobals "_law_refuses" = some (some (.ref fR)))
    (lR : K.lookup fR = some ⟨ocR, odR, .func (PySem.W.fnOf "_law_refuses" "_law_refuses" (defArgs sRefuses) (defBody sRefuses) (defScope sRefuses) .none kVR dcR pmR anR (.ref cR) ctR), slR⟩)
    (cdR : PySem.W.codeIn K (.ref cR) "_law_refuses" = true)
    (kR : PySem.W.keepIn K (.ref fR) = true)
    (aL : PySem.W.nsIn K mainGlobals "law" = some (some (.ref fL)))
    (lL : K.lookup fL = some ⟨ocL, odL, .func (PySem.W.fnOf "law" "law" (defArgs sLaw) (defBody sLaw) (defScope sLaw) .none kVL dcL pmL anL cdvL ctL), slL⟩)
    (cL : PySem.W.codeIn K cdvL "law" = true)
    (kL : PySem.W.keepIn K (.ref fL) = true) :
    ∃ fd : FuncData, (∀ (s : Shared) (v : Value), BindsTo s fd ⟨[v], []⟩ [("_law_script", v)]) ∧ ∀ base : Heap, K.In base → base.Ns mainGlobals mg → ∀ Pt : Addr, LamX.TabB base mg cR Pt → FnOk P w K mg base CX0 11 fa fd ["_law_script"] (spLaw K Pt) := by
  have DRequire : Dfn K mg "require" sRequire ["well_formed", "what"] := dfn_mk X G a0 l0 c0 k0 fun _ _ _ _ _ _ us hl => match us, hl with | [_, _], _ => rfl
  have DWhole : Dfn K mg "is_whole" sWhole ["value"] := dfn_mk X G a1 l1 c1 k1 fun _ _ _ _ _ _ us hl => match us, hl with | [_], _ => rfl
  have DIsFraction : Dfn K mg "is_fraction" sIsFraction ["value"] := dfn_mk X G a2 l2 c2 k2 fun _ _ _ _ _ _ us hl => match us, hl with | [_], _ => rfl
  have DIsPlace : Dfn K mg "is_place" sIsPlace ["value"] := dfn_mk X G a3 l3 c3 k3 fun _ _ _ _ _ _ us hl => match us, hl with | [_], _ => rfl
  have DPlus : Dfn K mg "plus" sPlus ["left", "right"] := dfn_mk X G a4 l4 c4 k4 fun _ _ _ _ _ _ us hl => match us, hl with | [_, _], _ => rfl
  have DTimes : Dfn K mg "times" sTimes ["left", "right"] := dfn_mk X G a5 l5 c5 k5 fun _ _ _ _ _ _ us hl => match us, hl with | [_, _], _ => rfl
  have DOver : Dfn K mg "over" sOver ["left", "right"] := dfn_mk X G a6 l6 c6 k6 fun _ _ _ _ _ _ us hl => match us, hl with | [_, _], _ => rfl
  have DMagn : Dfn K mg "magnitude" sMagn ["value"] := dfn_mk X G a7 l7 c7 k7 fun _ _ _ _ _ _ us hl => match us, hl with | [_], _ => rfl
  have DNegated : Dfn K mg "negated" sNegated ["value"] := dfn_mk X G a8 l8 c8 k8 fun _ _ _ _ _ _ us hl => match us, hl with | [_], _ => rfl
  have DPart : Dfn K mg "part_of" sPart ["value"] := dfn_mk X G a9 l9 c9 k9 fun _ _ _ _ _ _ us hl => match us, hl with | [_], _ => rfl
  have DPeriod : Dfn K mg "_period_of" sPeriod ["rate"] := dfn_mk X G a10 l10 c10 k10 fun _ _ _ _ _ _ us hl => match us, hl with | [_], _ => rfl
  have DMixed : Dfn K mg "_law_mixed" sMixed ["_law_number", "_law_turn"] := dfn_mk X G a11 l11 c11 k11 fun _ _ _ _ _ _ us hl => match us, hl with | [_, _], _ => rfl
  have DStore : Dfn K mg "_law_store" sStore ["_law_script"] := dfn_mk X G a12 l12 c12 k12 fun _ _ _ _ _ _ us hl => match us, hl with | [_], _ => rfl
  have DTake : Dfn K mg "_law_take" sTake ["_law_store_here", "_law_many"] := dfn_mk X G a13 l13 c13 k13 fun _ _ _ _ _ _ us hl => match us, hl with | [_, _], _ => rfl
  have DPick : Dfn K mg "_law_pick" sPick ["_law_store_here", "_law_row"] := dfn_mk X G a14 l14 c14 k14 fun _ _ _ _ _ _ us hl => match us, hl with | [_, _], _ => rfl
  have DGcd : Dfn K mg "_law_gcd" sGcd ["_law_left", "_law_right"] := dfn_mk X G a15 l15 c15 k15 fun _ _ _ _ _ _ us hl => match us, hl with | [_, _], _ => rfl
  have DLowest : Dfn K mg "_law_lowest" sLowest ["_law_top", "_law_bottom"] := dfn_mk X G a16 l16 c16 k16 fun _ _ _ _ _ _ us hl => match us, hl with | [_, _], _ => rfl
  have DLPlus : Dfn K mg "_law_plus" sLPlus ["_law_left", "_law_right"] := dfn_mk X G a17 l17 c17 k17 fun _ _ _ _ _ _ us hl => match us, hl with | [_, _], _ => rfl
  have DLTimes : Dfn K mg "_law_times" sLTimes ["_law_left", "_law_right"] := dfn_mk X G a18 l18 c18 k18 fun _ _ _ _ _ _ us hl => match us, hl with | [_, _], _ => rfl
  have DLOver : Dfn K mg "_law_over" sLOver ["_law_left", "_law_right"] := dfn_mk X G a19 l19 c19 k19 fun _ _ _ _ _ _ us hl => match us, hl with | [_, _], _ => rfl
  have DLPart : Dfn K mg "_law_part" sLPart ["_law_value"] := dfn_mk X G a20 l20 c20 k20 fun _ _ _ _ _ _ us hl => match us, hl with | [_], _ => rfl
  have DLWhole : Dfn K mg "_law_is_whole" sLWhole ["_law_told"] := dfn_mk X G a21 l21 c21 k21 fun _ _ _ _ _ _ us hl => match us, hl with | [_], _ => rfl
  have DLFrac : Dfn K mg "_law_is_frac" sLFrac ["_law_told"] := dfn_mk X G a22 l22 c22 k22 fun _ _ _ _ _ _ us hl => match us, hl with | [_], _ => rfl
  have DLIsPlace : Dfn K mg "_law_is_place" sLIsPlace ["_law_told"] := dfn_mk X G a23 l23 c23 k23 fun _ _ _ _ _ _ us hl => match us, hl with | [_], _ => rfl
  have DSame : Dfn K mg "_law_same" sSame ["_law_told", "_law_due"] := dfn_mk X G a24 l24 c24 k24 fun _ _ _ _ _ _ us hl => match us, hl with | [_, _], _ => rfl
  have DFits : Dfn K mg "_law_fits" sFits ["_law_thing"] := dfn_mk X G a25 l25 c25 k25 fun _ _ _ _ _ _ us hl => match us, hl with | [_], _ => rfl
  have DLInt : Dfn K mg "_law_whole" sLInt ["_law_store_here", "_law_reach"] := dfn_mk X G a26 l26 c26 k26 fun _ _ _ _ _ _ us hl => match us, hl with | [_, _], _ => rfl
  have DGreat : Dfn K mg "_law_great" sGreat ["_law_store_here"] := dfn_mk X G a27 l27 c27 k27 fun _ _ _ _ _ _ us hl => match us, hl with | [_], _ => rfl
  have DDFrac : Dfn K mg "_law_frac" sDFrac ["_law_store_here"] := dfn_mk X G a28 l28 c28 k28 fun _ _ _ _ _ _ us hl => match us, hl with | [_], _ => rfl
  have DDFracW : Dfn K mg "_law_frac_wide" sDFracW ["_law_store_here"] := dfn_mk X G a29 l29 c29 k29 fun _ _ _ _ _ _ us hl => match us, hl with | [_], _ => rfl
  have DDPlace : Dfn K mg "_law_place" sDPlace ["_law_store_here"] := dfn_mk X G a30 l30 c30 k30 fun _ _ _ _ _ _ us hl => match us, hl with | [_], _ => rfl
  have DDPlaceW : Dfn K mg "_law_place_wide" sDPlaceW ["_law_store_here"] := dfn_mk X G a31 l31 c31 k31 fun _ _ _ _ _ _ us hl => match us, hl with | [_], _ => rfl
  have DDMoment : Dfn K mg "_law_moment" sDMoment ["_law_store_here", "_law_reach"] := dfn_mk X G a32 l32 c32 k32 fun _ _ _ _ _ _ us hl => match us, hl with | [_, _], _ => rfl
  have DBadFrac : Dfn K mg "_law_bad_frac" sBadFrac ["_law_store_here"] := dfn_mk X G a33 l33 c33 k33 fun _ _ _ _ _ _ us hl => match us, hl with | [_], _ => rfl
  have DCycleW : Dfn K mg "_law_cycle_wide" sCycleW ["_law_store_here"] := dfn_mk X G a34 l34 c34 k34 fun _ _ _ _ _ _ us hl => match us, hl with | [_], _ => rfl
  have DLTurns : Dfn K mg "_law_turns" sLTurns ["_law_row", "_law_moment_here"] := dfn_mk X G a35 l35 c35 k35 fun _ _ _ _ _ _ us hl => match us, hl with | [_, _], _ => rfl
  have DLPlaceAt : Dfn K mg "_law_place_at" sLPlaceAt ["_law_row", "_law_moment_here"] := dfn_mk X G a36 l36 c36 k36 fun _ _ _ _ _ _ us hl => match us, hl with | [_, _], _ => rfl
  have DTold : Dfn K mg "_law_cycle_told" sTold ["_law_cycle"] := dfn_mk X G a37 l37 c37 k37 fun _ _ _ _ _ _ us hl => match us, hl with | [_], _ => rfl
  have DDrawn : Dfn K mg "_law_drawn" sDrawn ["_law_store_here"] := dfn_mk X G a38 l38 c38 k38 fun _ _ _ _ _ _ us hl => match us, hl with | [_], _ => rfl
  have DIsCycle : Dfn K mg "_law_is_cycle" sIsCycle ["_law_cycle", "_law_row"] := dfn_mk X G a39 l39 c39 k39 fun _ _ _ _ _ _ us hl => match us, hl with | [_, _], _ => rfl
  have DHolds : Dfn K mg "_law_holds" sHolds ["_law_cycle", "_law_row", "_law_by_much", "_law_moment_here"] := dfn_mk X G a40 l40 c40 k40 fun _ _ _ _ _ _ us hl => match us, hl with | [_, _, _, _], _ => rfl
  have DUndone : Dfn K mg "_law_undone" sUndone ["_law_cycle", "_law_row", "_law_by_much", "_law_shift"] := dfn_mk X G a41 l41 c41 k41 fun _ _ _ _ _ _ us hl => match us, hl with | [_, _, _, _], _ => rfl
  have DDeep : Dfn K mg "_law_deep_told" sDeep ["_law_store_here", "_law_cycle", "_law_row", "_law_by_much"] := dfn_mk X G a42 l42 c42 k42 fun _ _ _ _ _ _ us hl => match us, hl with | [_, _, _, _], _ => rfl
  have DFraction : DfnD K mg "fraction" sFraction ["numerator", "denominator"] := by
    have FD : FunD K "fraction" "fraction" (defArgs sFraction) (defBody sFraction) (defScope sFraction) [.int 1] [] fF _ := ⟨⟨ocF, odF, _, kVF, dcF, pmF, anF, cdF, ctF, slF, rfl, lF, cF, .inr ⟨by simp, tF, _, [.int 1 tk], nT, rfl, lT, rfl, .cons ⟨tk, rfl⟩ .nil⟩, .inl rfl⟩, kF⟩
    obtain ⟨ds, hv, hb⟩ := FD.binds1 (ps := ["numerator", "denominator"]) 2 1 (by simp) rfl fun T kV doc pm an cdv ct us its hu hi => match us, its, hu, hi with
      | [u1, u2], [i1], _, _ => ⟨_, rfl, rfl⟩
    cases hv
    exact ⟨fF, _, _, FD, PySem.W.mg_of X G aF, hb⟩
  have T : Bt K mg := ⟨PySem.W.mg_none_of X G z_int, PySem.W.mg_none_of X G z_len, PySem.W.mg_none_of X G z_list, PySem.W.mg_none_of X G z_abs, PySem.W.mg_none_of X G z_range, PySem.W.mg_none_of X G z_min, PySem.W.mg_none_of X G z_max, PySem.W.mg_none_of X G z_isinstance, PySem.W.mg_none_of X G z_bool, PySem.W.mg_none_of X G z_str, PySem.W.mg_none_of X G z_dict, PySem.W.mg_none_of X G z_tuple, PySem.W.mg_of X G z_gcd⟩
  have FI := fun_mk (st := sInitB) lI cI kI
  have bI := FI.binds (ps := ["self", "what"]) fun _ _ _ _ _ _ us hl => match us, hl with | [_, _], _ => rfl
  have B : BvT K mg C := ⟨PySem.W.mg_of X G aC, ⟨⟨nm, qn, N0, bs, bm, sn, sub, ab, col, dd, m0, m1, m2, m3, m5, xL, hbm⟩, sa, eC, tC, kC⟩, nw, fI, _, aI, tI, FI, bI⟩
  have icC : (PySem.W.clsIn K C).isSome = true := by
    obtain ⟨cd, hc, _⟩ := PySem.W.any_some hC
    rw [hc]; rfl
  let A : String → Addr := fun n => if n = "Mismatch" then C_Mismatch else if n = "Still" then C_Still else if n = "Endless" then C_Endless else if n = "TooMany" then C_TooMany else if n = "NoName" then C_NoName else if n = "Taken" then C_Taken else if n = "Locked" then C_Locked else if n = "Looped" then C_Looped else if n = "Broken" then C_Broken else if n = "ReadError" then C_ReadError else C
  have kit : ∀ D : Addr, PySem.W.typeIn K (.ref D) = some (.type "type") → PySem.W.hasDictIn K D = true → PySem.W.subIn K (.ref C) (.ref D) = some false → (Value.ref C == Value.ref D) = false → PySem.W.kitOne K (.ref C) (.ref D) = some false := fun D h1 h2 h3 h4 => by
    obtain ⟨cd, hc, _⟩ := PySem.W.any_some h2
    unfold PySem.W.kitOne PySem.W.kitCls
    rw [h4, if_neg Bool.false_ne_true]
    show (if ((PySem.W.clsIn K D).isSome && PySem.W.typeIn K (.ref D) == some (.type "type")) = true then PySem.W.subIn K (.ref C) (.ref D) else none) = some false
    rw [hc, h1, if_pos (by rfl)]
    exact h3
  have AT : AskT K mg C S A := {
    sky := PySem.W.mg_of X G aS
    exm := PySem.W.exm_ref eS hS tS cS
    g := fun n hn => by
      simp only [List.mem_cons, List.not_mem_nil, or_false] at hn
      rcases hn with rfl | rfl | rfl | rfl | rfl | rfl | rfl | rfl | rfl | rfl | rfl
      · exact PySem.W.mg_of X G aC
      · exact PySem.W.mg_of X G a_Mismatch
      · exact PySem.W.mg_of X G a_Still
      · exact PySem.W.mg_of X G a_Endless
      · exact PySem.W.mg_of X G a_TooMany
      · exact PySem.W.mg_of X G a_NoName
      · exact PySem.W.mg_of X G a_Taken
      · exact PySem.W.mg_of X G a_Locked
      · exact PySem.W.mg_of X G a_Looped
      · exact PySem.W.mg_of X G a_Broken
      · exact PySem.W.mg_of X G a_ReadError
    k := fun n hn => by
      simp only [List.mem_cons, List.not_mem_nil, or_false] at hn
      rcases hn with rfl | rfl | rfl | rfl | rfl | rfl | rfl | rfl | rfl | rfl | rfl
      · show PySem.W.kitOne K (.ref C) (.ref C) = some true
        unfold PySem.W.kitOne
        rw [if_pos (by simp)]
      · exact kit C_Mismatch t_Mismatch h_Mismatch s_Mismatch n_Mismatch
      · exact kit C_Still t_Still h_Still s_Still n_Still
      · exact kit C_Endless t_Endless h_Endless s_Endless n_Endless
      · exact kit C_TooMany t_TooMany h_TooMany s_TooMany n_TooMany
      · exact kit C_NoName t_NoName h_NoName s_NoName n_NoName
      · exact kit C_Taken t_Taken h_Taken s_Taken n_Taken
      · exact kit C_Locked t_Locked h_Locked s_Locked n_Locked
      · exact kit C_Looped t_Looped h_Looped s_Looped n_Looped
      · exact kit C_Broken t_Broken h_Broken s_Broken n_Broken
      · exact kit C_ReadError t_ReadError h_ReadError s_ReadError n_ReadError
    ve := by
      unfold PySem.W.kitOne PySem.W.kitCls
      rw [if_neg (by simp)]
      show (if PySem.W.kitMeta "ValueError" = true then PySem.W.subIn K (.ref C) (.type "ValueError") else none) = some true
      rw [if_pos (by decide +kernel)]
      exact vC
    b_VE := PySem.W.mg_none_of X G z_VE
    hcl := icC
    hga := ga
    hgt := gg
    hsub := eC
    ha := gc
    hn := spc
    htk := tkc
    hm := mC
    xf := ⟨ga, gg, eC, hC⟩ }
  have FA := fun_mk (st := sAsked) lA cA kA
  have AS : AskD K mg gA ocA odA .none kVA dcA pmA anA cdA ctA slA := ⟨PySem.W.mg_of X G aA, kA, lA, cA, FA.binds (ps := ["_law_call"]) fun _ _ _ _ _ _ us hl => match us, hl with | [_], _ => rfl⟩
  have YC : Cls K CY := ⟨ypg, yhd, ypo, ysa⟩
  have Y : CyC K mg CY := ⟨YC, yn_rate, yn_start, yn_period, PySem.W.mg_of X G aY⟩
  have YI : C8.InsC K CY := ⟨YC, yca, spc, tkc, yro, by
    unfold PySem.W.kitOne
    rw [if_pos (by simp)]⟩
  have C0 : Two01 K mg z0 o0 := ⟨PySem.W.mg_of X G aZ, PySem.W.mg_of X G aO, ob_con o_Z, ob_con o_O⟩
  have YM : L2.Mk K CY fY := ⟨ymk, yin, yif, ykp⟩
  have FY : FunD K "__init__" "Cycle.__init__" (defArgs sCyInit) (defBody sCyInit) (defScope sCyInit) [.ref zi] [] fY _ := ⟨⟨ocY, odY, _, kVY, dcY, pmY, anY, cdY, ctY, slY, rfl, lY, cY, .inr ⟨by simp, tY, _, [.ref zi], nTY, rfl, lTY, rfl, .cons rfl .nil⟩, .inl rfl⟩, kY⟩
  obtain ⟨dsY2, vY2, bY2⟩ := FY.binds1 (ps := ["self", "rate", "start"]) 3 1 (by simp) rfl fun T kV doc pm an cdv ct us its hu hi => match us, its, hu, hi with
    | [u1, u2, u3], [i1], _, _ => ⟨_, rfl, rfl⟩
  obtain ⟨dsY1, vY1, bY1⟩ := FY.binds1 (ps := ["self", "rate", "start"]) 2 0 (by simp) rfl fun T kV doc pm an cdv ct us its hu hi => match us, its, hu, hi with
    | [u1, u2], [i1], _, _ => ⟨_, rfl, rfl⟩
  have ozi := ob_con o_I
  have FTU := fun_mk (st := sCyTurns) lTU cTU kTU
  have bTU := FTU.binds (ps := ["self", "moment"]) fun _ _ _ _ _ _ us hl => match us, hl with | [_, _], _ => rfl
  have MTU : Meth K CY "turns" fTU := ⟨y1TU, y2TU, kTU⟩
  have FPC := fun_mk (st := sCyPlace) lPC cPC kPC
  have bPC := FPC.binds (ps := ["self", "moment"]) fun _ _ _ _ _ _ us hl => match us, hl with | [_, _], _ => rfl
  have MPC : Meth K CY "place" fPC := ⟨y1PC, y2PC, kPC⟩
  have FTD := fun_mk (st := sCyTurned) lTD cTD kTD
  have bTD := FTD.binds (ps := ["self", "by"]) fun _ _ _ _ _ _ us hl => match us, hl with | [_, _], _ => rfl
  have MTD : Meth K CY "turned" fTD := ⟨y1TD, y2TD, kTD⟩
  have FGE := fun_mk (st := sCyGeared) lGE cGE kGE
  have bGE := FGE.binds (ps := ["self", "factor"]) fun _ _ _ _ _ _ us hl => match us, hl with | [_, _], _ => rfl
  have MGE : Meth K CY "geared" fGE := ⟨y1GE, y2GE, kGE⟩
  have FLA := fun_mk (st := sCyLater) lLA cLA kLA
  have bLA := FLA.binds (ps := ["self", "by"]) fun _ _ _ _ _ _ us hl => match us, hl with | [_, _], _ => rfl
  have MLA : Meth K CY "later" fLA := ⟨y1LA, y2LA, kLA⟩
  have FEQ := fun_mk (st := sCyEq) lEQ cEQ kEQ
  have bEQ := FEQ.binds (ps := ["self", "other"]) fun _ _ _ _ _ _ us hl => match us, hl with | [_, _], _ => rfl
  have FAD := fun_mk (st := sCyAdd) lAD cAD kAD
  have bAD := FAD.binds (ps := ["self", "other"]) fun _ _ _ _ _ _ us hl => match us, hl with | [_, _], _ => rfl
  have FNG := fun_mk (st := sCyNeg) lNG cNG kNG
  have bNG := FNG.binds (ps := ["self"]) fun _ _ _ _ _ _ us hl => match us, hl with | [_], _ => rfl
  have FR := fun_mk (st := sRefuses) lR cdR kR
  have bR := FR.binds (ps := ["_law_store_here", "_law_cycle"]) fun _ _ _ _ _ _ us hl => match us, hl with | [_, _], _ => rfl
  have FL := fun_mk (st := sLaw) lL cL kL
  refine ⟨PySem.W.fnOf "law" "law" (defArgs sLaw) (defBody sLaw) (defScope sLaw) .none kVL dcL pmL anL cdvL ctL, fun s v => .of_eq rfl, fun base _ _ Pt TB => ?_⟩
  have e := hfa.symm.trans (PySem.W.mg_of X G aL)
  cases e
  have kMixed := k_Mixed (P := P) (w := w) (base := base) T DMixed
  have kTake := k_Take T DTake kMixed
  have kPick := k_Pick T DPick kTake
  have kGcd := k_Gcd (P := P) (w := w) (base := base) T DGcd
  have kLowest := k_Lowest T DLowest kGcd
  have kRequire := k_Require (P := P) (w := w) (base := base) T DRequire
  have kWhole := k_Whole (P := P) (w := w) (base := base) T DWhole
  have kLWhole := k_LWhole (P := P) (w := w) (base := base) T DLWhole
  have kFraction := k_Fraction T DFraction kRequire kWhole
  have kIsFraction := k_IsFraction T DIsFraction kWhole
  have kIsPlace := k_IsPlace T DIsPlace kIsFraction
  have kPlus := k_Plus T DPlus kRequire kIsFraction kFraction
  have kTimes := k_Times T DTimes kRequire kIsFraction kFraction
  have kOver := k_Over T DOver kRequire kIsFraction kFraction
  have kMagn := k_Magn T DMagn kRequire kIsFraction
  have kNeg := k_Negated T DNegated kRequire kIsFraction
  have kPart := k_Part T DPart kRequire kIsFraction
  have kPeriod := k_Period C0 T DPeriod kMagn kOver
  have kLPlus := k_LPlus T DLPlus kLowest
  have kLTimes := k_LTimes T DLTimes kLowest
  have kLOver := k_LOver T DLOver kLowest
  have kLPart := k_LPart T DLPart kLowest
  have kLFrac := k_LFrac T DLFrac kLWhole kGcd
  have kLIsPlace := k_LIsPlace T DLIsPlace kLFrac
  have kSame := k_same T DSame kLWhole 3
  have kFits := k_Fits2 T DFits (k_Fits T DFits (Kn.none (P := P) (w := w) (base := base) DFits))
  have kLInt := k_LInt T DLInt kTake
  have kGreat := k_Great T DGreat kTake
  have kDFrac := k_DFrac T DDFrac kTake kLowest
  have kDFracW := k_DFracW T DDFracW kTake kLowest kGreat kLInt kDFrac
  have kDPlace := k_DPlace T DDPlace kTake kLowest
  have kDPlaceW := k_DPlaceW T DDPlaceW kTake kLowest kDPlace kGreat
  have kDMoment := k_DMoment T DDMoment kTake kLowest kLInt
  have kStore := k_Store (P := P) (w := w) (base := base) T DStore
  have kBad := k_BadFrac T DBadFrac kTake kDFrac kPick
  have kCycleW := k_CycleW T DCycleW kDFracW kDPlaceW
  have GI : FnOk P w K mg base CX0 5 fY _ ["self", "rate", "start"] (spCyInit K CY) := ok_CyInit T Y kRequire kIsFraction kIsPlace kPeriod FY
  have mk2 : C8.Mak P w K mg base 5 "Cycle" CY (spCyInit K CY) [] := ⟨fY, _, _, dsY2, YM, GI, Y.g, bY2, vY2⟩
  have GTU := ok_CyTurns (P := P) (w := w) (base := base) T Y kRequire kIsFraction kPlus kTimes FTU
  have mTU : C8.Met P w K mg base 4 CY "turns" (spTurns K CY) [] := ⟨fTU, _, _, [], YC, MTU, GTU, bTU, .nil⟩
  have GPC := ok_CyPlace T Y mTU kRequire kIsFraction kPart FPC
  have mPC : C8.Met P w K mg base 5 CY "place" (spPlace K CY) [] := ⟨fPC, _, _, [], YC, MPC, GPC, bPC, .nil⟩
  have GTD := ok_CyTurned T Y mk2 kRequire kIsFraction kPlus kPart FTD
  have mTD : C8.Met P w K mg base 7 CY "turned" (spTurned K CY) [] := ⟨fTD, _, _, [], YC, MTD, GTD, bTD, .nil⟩
  have GGE := ok_CyGeared T Y mk2 kRequire kIsFraction kTimes kPart FGE
  have mGE : C8.Met P w K mg base 7 CY "geared" (spGeared K CY) [] := ⟨fGE, _, _, [], YC, MGE, GGE, bGE, .nil⟩
  have GLA := ok_CyLater T Y mk2 mPC kRequire kIsFraction FLA
  have mLA : C8.Met P w K mg base 7 CY "later" (spLater K CY) [] := ⟨fLA, _, _, [], YC, MLA, GLA, bLA, .nil⟩
  have oE : OpK P w K mg base 5 CY "__eq__" (spCyEq K CY) := ⟨fEQ, _, _, y1EQ, y2EQ, ok_CyEq (P := P) (w := w) (base := base) T Y YI FEQ, bEQ⟩
  have oA : OpK P w K mg base 7 CY "__add__" (spCyAdd K CY) := ⟨fAD, _, _, y1AD, y2AD, ok_CyAdd T Y mk2 kPlus kPart FAD, bAD⟩
  have oN : OpK P w K mg base 7 CY "__neg__" (spCyNeg K CY) := ⟨fNG, _, _, y1NG, y2NG, ok_CyNeg T Y mk2 kNeg kPart FNG, bNG⟩
  have kTold := k_Told Y YI T DTold kLFrac kLIsPlace kSame
  have kIsCycle := k_IsCycle T DIsCycle kTold kSame
  have kLTurns := k_LTurns T DLTurns kLPlus kLTimes
  have kLPlaceAt := k_LPlaceAt T DLPlaceAt kLPart kLTurns
  have kDrawn := k_Drawn T DDrawn kTake kPick kLInt kDFracW kDMoment kDFrac kLOver kCycleW kFits
  have kHolds := k_Holds Y mTD mGE mLA mPC T DHolds kIsCycle kSame kLPlus kLTimes kLPart kLTurns kLPlaceAt kFits
  have kUndone := k_Undone Y ysf oE oA oN mTD mGE mLA T DUndone kIsCycle
  have kDeep := k_Deep mk2 mTU T DDeep kTake kSame kLTurns kHolds
  have xReq := kx_Require (P := P) (w := w) (base := base) B DRequire
  have XTD : MetX P w K mg base 5 CY "turned" (spBadM K C "by") := ⟨fTD, _, _, YC, MTD, kx_CyTurned xReq kRequire kIsFraction kIsPlace FTD, bTD⟩
  have XGE : MetX P w K mg base 5 CY "geared" (spBadM K C "factor") := ⟨fGE, _, _, YC, MGE, kx_CyGeared xReq kRequire kIsFraction kIsPlace FGE, bGE⟩
  have XLA : MetX P w K mg base 5 CY "later" (spBadM K C "by") := ⟨fLA, _, _, YC, MLA, kx_CyLater xReq kRequire kIsFraction kIsPlace FLA, bLA⟩
  have kRef : Kn P w K mg base 9 "_law_refuses" ["_law_store_here", "_law_cycle"] (spRefuses K CY Pt) := ⟨fR, _, PySem.W.mg_of X G aR, kR, bR, ok_refuses T Y B AT AS lR cdR TB XTD XGE XLA kSame kBad⟩
  exact ok_law FL mk2 kStore kDrawn kHolds kUndone kRef kDeep kIsCycle
end My

namespace My
open PySem PySem.Spec PyProof.Rows L2
/-- the end as the head asks for it -/
theorem law_at {l : PySem.W.OpenLaw} {w : World} {K : PySem.W.Frag} {h : Heap} {mg : Str → Option Value} {fa cR Pt : Addr} (hT : h.get? Pt = some { cls := .none, data := .fields #[] }) (nP : K.lookup Pt = none) (C : PySem.W.CodeHd h cR Pt)
    (R : ∃ fd : FuncData, (∀ (s : Shared) (v : Value), BindsTo s fd ⟨[v], []⟩ [("_law_script", v)]) ∧ ∀ base : Heap, K.In base → base.Ns mainGlobals mg → ∀ Pt : Addr, LamX.TabB base mg cR Pt → FnOk l.prog w K mg base CX0 11 fa fd ["_law_script"] (spLaw K Pt)) :
    LamX.LawAtS l w K CX0 11 63 "_law_script" mg fa h := by
  obtain ⟨fd, hb, F⟩ := R
  have one : ∀ {p : Addr × Addr} {q : Addr × Addr → Prop}, q (cR, Pt) → p ∈ [(cR, Pt)] → q p := fun {p q} h hp => by
    rw [List.mem_singleton] at hp
    rw [hp]
    exact h
  refine ⟨fd, [(cR, Pt)], spLaw K Pt, fun p hp => one (q := fun p => h.get? p.2 = _) hT hp, fun p hp => one (q := fun p => K.lookup p.2 = none) nP hp, fun p hp => one (q := fun p => PySem.W.CodeHd h p.1 p.2) C hp, hb, fun H a ns hl hbits hH hS => ?_, fun base X G TB => F base X G Pt (TB (cR, Pt) (List.mem_singleton.mpr rfl))⟩
  exact ⟨a, ns, rfl, hS, hH (cR, Pt) (List.mem_singleton.mpr rfl), fun _ => rfl⟩
theorem walk_mk {l : PySem.W.OpenLaw} {q : Program} {loose : List Str} {XP : (Str → Option Value) → Heap → Prop} {YP : World → Heap → Prop} {d : DefRec} {K : Params → PySem.W.Frag} (hn : l.most = some 63) (hdf : d.params.defaults = [])
    (hY : ∀ (w : World) (h : Heap), YP w h → (K w.params).In h)
    (F : ∀ (w : World) (mg : Str → Option Value) (fa : Addr) (h : Heap), YP w h → (K w.params).In h → h.Ns mainGlobals mg → mg d.name = some (.ref fa) → LamX.LawAtS l w (K w.params) CX0 11 63 "_law_script" mg fa h) :
    PySem.W.WalkO q loose XP YP l.row.toRowW d [] (fun f vs => PySem.call f vs) :=
  LamX.walk_ofTs (CX := fun _ => CX0) hn (by decide) hdf ⟨rfl, by decide, by decide⟩ hY F fun _ _ _ _ _ z => z
end My
open PySem PySem.W PyProof.Rows
set_option maxRecDepth 100000 in
set_option maxHeartbeats 0 in
theorem PySem.Challenge.cw_wheelsky_k12_turned_geared_later_holds : PySem.Challenge.rw_wheelsky_k12_turned_geared_later.Holds := by
  w_on; o_law; k_head; (case hw => w_witness2)
  k_fill
  refine My.walk_mk (l := PySem.Challenge.rw_wheelsky_k12_turned_geared_later) rfl rfl (fun w h Y => km_in_of Y) ?F
  case F =>
    intro w mg fa h Y KX G hmg
    refine' My.law_at (km_tabs_of Y _ (List.mem_cons_self ..)) ?nP ?cH (My.all_mk KX G hmg ?a0 ?l0 ?c0 ?k0 ?a1 ?l1 ?c1 ?k1 ?a2 ?l2 ?c2 ?k2 ?a3 ?l3 ?c3 ?k3 ?a4 ?l4 ?c4 ?k4 ?a5 ?l5 ?c5 ?k5 ?a6 ?l6 ?c6 ?k6 ?a7 ?l7 ?c7 ?k7 ?a8 ?l8 ?c8 ?k8 ?a9 ?l9 ?c9 ?k9 ?a10 ?l10 ?c10 ?k10 ?a11 ?l11 ?c11 ?k11 ?a12 ?l12 ?c12 ?k12 ?a13 ?l13 ?c13 ?k13 ?a14 ?l14 ?c14 ?k14 ?a15 ?l15 ?c15 ?k15 ?a16 ?l16 ?c16 ?k16 ?a17 ?l17 ?c17 ?k17 ?a18 ?l18 ?c18 ?k18 ?a19 ?l19 ?c19 ?k19 ?a20 ?l20 ?c20 ?k20 ?a21 ?l21 ?c21 ?k21 ?a22 ?l22 ?c22 ?k22 ?a23 ?l23 ?c23 ?k23 ?a24 ?l24 ?c24 ?k24 ?a25 ?l25 ?c25 ?k25 ?a26 ?l26 ?c26 ?k26 ?a27 ?l27 ?c27 ?k27 ?a28 ?l28 ?c28 ?k28 ?a29 ?l29 ?c29 ?k29 ?a30 ?l30 ?c30 ?k30 ?a31 ?l31 ?c31 ?k31 ?a32 ?l32 ?c32 ?k32 ?a33 ?l33 ?c33 ?k33 ?a34 ?l34 ?c34 ?k34 ?a35 ?l35 ?c35 ?k35 ?a36 ?l36 ?c36 ?k36 ?a37 ?l37 ?c37 ?k37 ?a38 ?l38 ?c38 ?k38 ?a39 ?l39 ?c39 ?k39 ?a40 ?l40 ?c40 ?k40 ?a41 ?l41 ?c41 ?k41 ?a42 ?l42 ?c42 ?k42 ?aF ?lF ?cF ?kF ?lT ?z_int ?z_len ?z_list ?z_abs ?z_range ?z_min ?z_max ?z_isinstance ?z_bool ?z_str ?z_dict ?z_tuple ?z_gcd ?z_VE ?aC ?aS ?xL ?hbm ?sa ?ga ?gg ?gc ?nw ?aI ?tI ?lI ?cI ?kI ?kC ?eC ?tC ?hC ?mC ?vC ?spc ?tkc ?eS ?hS ?tS ?cS ?a_Mismatch ?t_Mismatch ?h_Mismatch ?s_Mismatch ?n_Mismatch ?a_Still ?t_Still ?h_Still ?s_Still ?n_Still ?a_Endless ?t_Endless ?h_Endless ?s_Endless ?n_Endless ?a_TooMany ?t_TooMany ?h_TooMany ?s_TooMany ?n_TooMany ?a_NoName ?t_NoName ?h_NoName ?s_NoName ?n_NoName ?a_Taken ?t_Taken ?h_Taken ?s_Taken ?n_Taken ?a_Locked ?t_Locked ?h_Locked ?s_Locked ?n_Locked ?a_Looped ?t_Looped ?h_Looped ?s_Looped ?n_Looped ?a_Broken ?t_Broken ?h_Broken ?s_Broken ?n_Broken ?a_ReadError ?t_ReadError ?h_ReadError ?s_ReadError ?n_ReadError ?aA ?lA ?cA ?kA ?aY ?aZ ?o_Z ?aO ?o_O ?ypg ?yhd ?ypo ?ysa ?yn_rate ?yn_start ?yn_period ?ymk ?ykp ?yic ?yca ?yro ?yin ?yif ?ysf ?lY ?cY ?kY ?lTY ?o_I ?y1TU ?y2TU ?lTU ?cTU ?kTU ?y1PC ?y2PC ?lPC ?cPC ?kPC ?y1TD ?y2TD ?lTD ?cTD ?kTD ?y1GE ?y2GE ?lGE ?cGE ?kGE ?y1LA ?y2LA ?lLA ?cLA ?kLA ?y1EQ ?y2EQ ?lEQ ?cEQ ?kEQ ?y1AD ?y2AD ?lAD ?cAD ?kAD ?y1NG ?y2NG ?lNG ?cNG ?kNG ?aR ?lR ?cdR ?kR ?aL ?lL ?cL ?kL)
    (case a0 => k_is); (case l0 => k_is); (case c0 => k_is); (case k0 => k_is); (case a1 => k_is); (case l1 => k_is); (case c1 => k_is); (case k1 => k_is)
    (case a2 => k_is); (case l2 => k_is); (case c2 => k_is); (case k2 => k_is); (case a3 => k_is); (case l3 => k_is); (case c3 => k_is); (case k3 => k_is)
    (case a4 => k_is); (case l4 => k_is); (case c4 => k_is); (case k4 => k_is); (case a5 => k_is); (case l5 => k_is); (case c5 => k_is); (case k5 => k_is)
    (case a6 => k_is); (case l6 => k_is); (case c6 => k_is); (case k6 => k_is); (case a7 => k_is); (case l7 => k_is); (case c7 => k_is); (case k7 => k_is)
    (case a8 => k_is); (case l8 => k_is); (case c8 => k_is); (case k8 => k_is); (case a9 => k_is); (case l9 => k_is); (case c9 => k_is); (case k9 => k_is)
    (case a10 => k_is); (case l10 => k_is); (case c10 => k_is); (case k10 => k_is); (case a11 => k_is); (case l11 => k_is); (case c11 => k_is); (case k11 => k_is)
    (case a12 => k_is); (case l12 => k_is); (case c12 => k_is); (case k12 => k_is); (case a13 => k_is); (case l13 => k_is); (case c13 => k_is); (case k13 => k_is)
    (case a14 => k_is); (case l14 => k_is); (case c14 => k_is); (case k14 => k_is); (case a15 => k_is); (case l15 => k_is); (case c15 => k_is); (case k15 => k_is)
    (case a16 => k_is); (case l16 => k_is); (case c16 => k_is); (case k16 => k_is); (case a17 => k_is); (case l17 => k_is); (case c17 => k_is); (case k17 => k_is)
    (case a18 => k_is); (case l18 => k_is); (case c18 => k_is); (case k18 => k_is); (case a19 => k_is); (case l19 => k_is); (case c19 => k_is); (case k19 => k_is)
    (case a20 => k_is); (case l20 => k_is); (case c20 => k_is); (case k20 => k_is); (case a21 => k_is); (case l21 => k_is); (case c21 => k_is); (case k21 => k_is)
    (case a22 => k_is); (case l22 => k_is); (case c22 => k_is); (case k22 => k_is); (case a23 => k_is); (case l23 => k_is); (case c23 => k_is); (case k23 => k_is)
    (case a24 => k_is); (case l24 => k_is); (case c24 => k_is); (case k24 => k_is); (case a25 => k_is); (case l25 => k_is); (case c25 => k_is); (case k25 => k_is)
    (case a26 => k_is); (case l26 => k_is); (case c26 => k_is); (case k26 => k_is); (case a27 => k_is); (case l27 => k_is); (case c27 => k_is); (case k27 => k_is)
    (case a28 => k_is); (case l28 => k_is); (case c28 => k_is); (case k28 => k_is); (case a29 => k_is); (case l29 => k_is); (case c29 => k_is); (case k29 => k_is)
    (case a30 => k_is); (case l30 => k_is); (case c30 => k_is); (case k30 => k_is); (case a31 => k_is); (case l31 => k_is); (case c31 => k_is); (case k31 => k_is)
    (case a32 => k_is); (case l32 => k_is); (case c32 => k_is); (case k32 => k_is); (case a33 => k_is); (case l33 => k_is); (case c33 => k_is); (case k33 => k_is)
    (case a34 => k_is); (case l34 => k_is); (case c34 => k_is); (case k34 => k_is); (case a35 => k_is); (case l35 => k_is); (case c35 => k_is); (case k35 => k_is)
    (case a36 => k_is); (case l36 => k_is); (case c36 => k_is); (case k36 => k_is); (case a37 => k_is); (case l37 => k_is); (case c37 => k_is); (case k37 => k_is)
    (case a38 => k_is); (case l38 => k_is); (case c38 => k_is); (case k38 => k_is); (case a39 => k_is); (case l39 => k_is); (case c39 => k_is); (case k39 => k_is)
    (case a40 => k_is); (case l40 => k_is); (case c40 => k_is); (case k40 => k_is); (case a41 => k_is); (case l41 => k_is); (case c41 => k_is); (case k41 => k_is)
    (case a42 => k_is); (case l42 => k_is); (case c42 => k_is); (case k42 => k_is); (case aF => k_is); (case lF => k_is); (case cF => k_is); (case kF => k_is)
    (case lT => k_is); (case z_int => k_is); (case z_len => k_is); (case z_list => k_is); (case z_abs => k_is); (case z_range => k_is); (case z_min => k_is); (case z_max => k_is)
    (case z_isinstance => k_is); (case z_bool => k_is); (case z_str => k_is); (case z_dict => k_is); (case z_tuple => k_is); (case z_gcd => k_is); (case z_VE => k_is); (case aC => k_is)
    (case aS => k_is); (case xL => k_is); (case hbm => decide +kernel); (case sa => k_is); (case ga => k_is); (case gg => k_is); (case gc => k_is); (case nw => k_is)
    (case aI => k_is); (case tI => k_is); (case lI => k_is); (case cI => k_is); (case kI => k_is); (case kC => k_is); (case eC => k_is); (case tC => k_is)
    (case hC => k_is); (case mC => k_is); (case vC => k_is); (case spc => k_is); (case tkc => k_is); (case eS => k_is); (case hS => k_is); (case tS => k_is)
    (case cS => k_is); (case a_Mismatch => k_is); (case t_Mismatch => k_is); (case h_Mismatch => k_is); (case s_Mismatch => k_is); (case n_Mismatch => decide +kernel); (case a_Still => k_is); (case t_Still => k_is)
    (case h_Still => k_is); (case s_Still => k_is); (case n_Still => decide +kernel); (case a_Endless => k_is); (case t_Endless => k_is); (case h_Endless => k_is); (case s_Endless => k_is); (case n_Endless => decide +kernel)
    (case a_TooMany => k_is); (case t_TooMany => k_is); (case h_TooMany => k_is); (case s_TooMany => k_is); (case n_TooMany => decide +kernel); (case a_NoName => k_is); (case t_NoName => k_is); (case h_NoName => k_is)
    (case s_NoName => k_is); (case n_NoName => decide +kernel); (case a_Taken => k_is); (case t_Taken => k_is); (case h_Taken => k_is); (case s_Taken => k_is); (case n_Taken => decide +kernel); (case a_Locked => k_is)
    (case t_Locked => k_is); (case h_Locked => k_is); (case s_Locked => k_is); (case n_Locked => decide +kernel); (case a_Looped => k_is); (case t_Looped => k_is); (case h_Looped => k_is); (case s_Looped => k_is)
    (case n_Looped => decide +kernel); (case a_Broken => k_is); (case t_Broken => k_is); (case h_Broken => k_is); (case s_Broken => k_is); (case n_Broken => decide +kernel); (case a_ReadError => k_is); (case t_ReadError => k_is)
    (case h_ReadError => k_is); (case s_ReadError => k_is); (case n_ReadError => decide +kernel); (case aA => k_is); (case lA => k_is); (case cA => k_is); (case kA => k_is); (case aY => k_is)
    (case aZ => k_is); (case o_Z => k_is); (case aO => k_is); (case o_O => k_is); (case ypg => k_is); (case yhd => k_is); (case ypo => k_is); (case ysa => k_is)
    (case yn_rate => k_is); (case yn_start => k_is); (case yn_period => k_is); (case ymk => k_is); (case ykp => k_is); (case yic => k_is); (case yca => k_is); (case yro => k_is)
    (case yin => k_is); (case yif => k_is); (case ysf => k_is); (case lY => k_is); (case cY => k_is); (case kY => k_is); (case lTY => k_is); (case o_I => k_is)
    (case y1TU => k_is); (case y2TU => k_is); (case lTU => k_is); (case cTU => k_is); (case kTU => k_is); (case y1PC => k_is); (case y2PC => k_is); (case lPC => k_is)
    (case cPC => k_is); (case kPC => k_is); (case y1TD => k_is); (case y2TD => k_is); (case lTD => k_is); (case cTD => k_is); (case kTD => k_is); (case y1GE => k_is)
    (case y2GE => k_is); (case lGE => k_is); (case cGE => k_is); (case kGE => k_is); (case y1LA => k_is); (case y2LA => k_is); (case lLA => k_is); (case cLA => k_is)
    (case kLA => k_is); (case y1EQ => k_is); (case y2EQ => k_is); (case lEQ => k_is); (case cEQ => k_is); (case kEQ => k_is); (case y1AD => k_is); (case y2AD => k_is)
    (case lAD => k_is); (case cAD => k_is); (case kAD => k_is); (case y1NG => k_is); (case y2NG => k_is); (case lNG => k_is); (case cNG => k_is); (case kNG => k_is)
    (case aR => k_is); (case lR => k_is); (case cdR => k_is); (case kR => k_is); (case aL => k_is); (case lL => k_is); (case cL => k_is); (case kL => k_is)
    (case cH => exact codeHd_of_K KX (by kernel_rfl))
    (case nP => kernel_rfl)

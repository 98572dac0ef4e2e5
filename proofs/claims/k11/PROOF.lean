import PyProof.Rows.All
import Wide.All
import OpenK.AllK
import Wide.FinOn
import HandS.ForMost
import HandS.Exc
import HandS.Codes
import HandS.Wide
import HandS.WideBits
import HandS.Gcd
import HandS.IsInst
import HandS.Defaults
import HandS.ClsMeth
import HandS.SlotsOwn
import KE.KOpsOwn
import PyProof.InstEq
import HandS.TupLe
import HandS.Comp
import HandS.Ends
import PySem.Challenge.RW_wheelsky_k11_sums_of_cycles
set_option Elab.async false
set_option linter.all false
set_option maxRecDepth 100000
set_option maxHeartbeats 4000000
namespace My
open PySem PySem.Spec PyProof.Rows L2
def topS (i : Nat) : Stmt := PySem.Challenge.pw_wheelsky_k11_sums_of_cycles.main.body.getD i (.Pass ⟨0, 0, 0, 0⟩)
/-! ### a def of the top, and what it is known to keep -/
structure Dfn (K : PySem.W.Frag) (mg : Str → Option Value) (x : Str) (st : Stmt) (ps : List Str) : Prop where
  ex : ∃ f fd, Fun K x x st f fd ∧ mg x = some (.ref f) ∧ Binds K fd ps []
structure Kn (P : Program) (w : World) (K : PySem.W.Frag) (mg : Str → Option Value) (base : Heap) (k : Nat) (x : Str) (ps : List Str) (sp : Sp) : Prop where
  ex : ∃ f fd, mg x = some (.ref f) ∧ PySem.W.keepIn K (.ref f) = true ∧ Binds K fd ps [] ∧ FnOk P w K mg base CX0 k f fd ps sp
theorem Kn.mk' {P : Program} {w : World} {K : PySem.W.Frag} {mg : Str → Option Value} {base : Heap} {x : Str} {st : Stmt} {N ps : List Str} {k : Nat} {sp : Sp} (D : Dfn K mg x st ps) (S : FnScope N ps (defScope st)) (len : ∀ vs H Q E, sp vs H Q E → vs.length = ps.length)
    (hbody : ∀ (f : Addr) (cdv : Value) (A : Around) (outer : List Env) (s : Shared) (H : Hp) (vs : List V) (Q : VK) (E : XK), Room k (A.deeper (envOfC x (defScope st) s.heap.objs.size f cdv)) → sp vs H Q E →
      ∃ t, PSs (cxOf CX0 P w K mg base N x (defScope st) f cdv A outer s H E).nox (defBody st) t ∧ t { nx := fun _ H' => Q .non H', rt := Q } (start N vs) H) : Kn P w K mg base (k + 1) x ps sp := by
  obtain ⟨f, fd, F, m, b⟩ := D.ex
  exact ⟨f, fd, m, F.kp, b, F.ok S len (hbody f)⟩
section
variable {X : Cx}
theorem pe_kn {j k : Nat} {x : Str} {ps : List Str} {sp : Sp} {p pos : Pos} {e : Expr} {es : List Expr} {t : TA} (F : Kn X.prog X.w X.K X.mg X.base k x ps sp) (hr : Room j X.A) (hg : Gl X x) (ha : PA X (e :: es) t) (hj : k ≤ j := by omega)
    (hdb : (x == ("__debug__" : Str)) = false := by decide) (he : starEach (e :: es) X.env = (false, eval e X.env) :: starEach es X.env := by rfl) (hpl : (backTo pos (starEach es X.env)).any (·.1) = false := by rfl) :
    PE X (.Call (.Name x p) (e :: es) [] pos) (tCall sp [] E0 t) := by
  obtain ⟨f, fd, m, kp, b, G⟩ := F.ex
  exact pe_call G (hr.mono hj) hg m kp b .nil pass0 ha hdb he hpl
end
/-! ### heaps -/
/-- all but s stands -/
def Kp (s : Addr) (H H' : Hp) : Prop := ∀ b o, b ≠ s → H b = some o → H' b = some o
theorem Kp.refl (s : Addr) (H : Hp) : Kp s H H := fun _ _ _ e => e
theorem Kp.trans {s : Addr} {H H1 H2 : Hp} (a : Kp s H H1) (b : Kp s H1 H2) : Kp s H H2 := fun c o n e => b c o n (a c o n e)
theorem Kp.same {s : Addr} {H H1 : Hp} (a : Same H H1) : Kp s H H1 := fun b o _ e => a b o e
theorem Same.new {H : Hp} {p : Addr} (h : H p = none) (o : HO) : Same H (upd H p o) := fun b u q => by rw [upd_ne (ne_of_none q h)]; exact q
theorem Kp.upd {s : Addr} {H : Hp} {o : HO} : Kp s H (upd H s o) := fun b u n e => by rw [upd_ne n]; exact e
/-- the store of the draws at s -/
def Sr (K : PySem.W.Frag) (H : Hp) (s : Addr) (sc : Addr) (ns : List Int) (i b c d e f : Int) : Prop :=
  H s = some (.lst [.ref sc, .int i, .int b, .int c, .int d, .int e, .int f]) ∧ H sc = some (.lst (ns.map V.int)) ∧ s ≠ sc ∧ 0 ≤ i ∧ K.lookup s = none ∧ K.lookup sc = none
def Sto (K : PySem.W.Frag) (H : Hp) (s : Addr) : Prop := ∃ sc ns i b c d e f, Sr K H s sc ns i b c d e f
theorem Sr.same {K : PySem.W.Frag} {H H1 : Hp} {s sc : Addr} {ns : List Int} {i b c d e f : Int} (h : Sr K H s sc ns i b c d e f) (a : Same H H1) : Sr K H1 s sc ns i b c d e f := ⟨a _ _ h.1, a _ _ h.2.1, h.2.2⟩
theorem Sto.same {K : PySem.W.Frag} {H H1 : Hp} {s : Addr} (h : Sto K H s) (a : Same H H1) : Sto K H1 s := by
  obtain ⟨sc, ns, i, b, c, d, e, f, h⟩ := h
  exact ⟨sc, ns, i, b, c, d, e, f, h.same a⟩
theorem Sr.put {K : PySem.W.Frag} {H : Hp} {s sc : Addr} {ns : List Int} {i b c d e f i' b' c' d' e' f' : Int} (h : Sr K H s sc ns i b c d e f) (hi : 0 ≤ i') :
    Sr K (upd H s (.lst [.ref sc, .int i', .int b', .int c', .int d', .int e', .int f'])) s sc ns i' b' c' d' e' f' :=
  ⟨upd_same, by rw [upd_ne (Ne.symm h.2.2.1)]; exact h.2.1, h.2.2.1, hi, h.2.2.2.2⟩
theorem Kp.seqT {s : Addr} {K : PySem.W.Frag} {H H' : Hp} {a : Addr} {xs ys : List V} (e : Kp s H H') (hs : H s = some (.lst ys)) (h : SqT K H a xs) : SqT K H' a xs := by
  rcases h with (h | ⟨o, h⟩) | h
  · exact .inl (.inl (e _ _ (by rintro rfl; rw [hs] at h; cases h) h))
  · exact .inl (.inr ⟨o, e _ _ (by rintro rfl; rw [hs] at h; cases h) h⟩)
  · exact .inr h
theorem Same.seqT {K : PySem.W.Frag} {H H' : Hp} {a : Addr} {xs : List V} (e : Same H H') (h : SqT K H a xs) : SqT K H' a xs := by
  rcases h with (h | ⟨o, h⟩) | h
  · exact .inl (.inl (e _ _ h))
  · exact .inl (.inr ⟨o, e _ _ h⟩)
  · exact .inr h
/-- the built-ins' names, unbound -/
structure Bt (K : PySem.W.Frag) (mg : Str → Option Value) : Prop where
  b_int : mg "int" = none
  b_len : mg "len" = none
  b_list : mg "list" = none
  b_abs : mg "abs" = none
  b_range : mg "range" = none
  b_min : mg "min" = none
  b_max : mg "max" = none
  b_isinstance : mg "isinstance" = none
  b_bool : mg "bool" = none
  b_str : mg "str" = none
  b_dict : mg "dict" = none
  b_tuple : mg "tuple" = none
  g_gcd : mg "gcd" = some (.builtin "math.gcd")
end My

namespace My
open PySem PySem.Spec PyProof.Rows L2
theorem cx_K {CX : CXT} {P : Program} {w : World} {K : PySem.W.Frag} {mg : Str → Option Value} {base : Heap} {N : List Str} {qual : Str} {scope : Scope} {f : Addr} {cd : Value} {A : Around} {outer : List Env} {s : Shared} {H : Hp} {E : XK} : (cxOf CX P w K mg base N qual scope f cd A outer s H E).K = K := rfl
/-! ### what stands at an address, the written part first -/
def obK (o : Obj) : Option HO := match o.cls, o.data with
  | .type "tuple", .seq its _ => if its.size ≤ sizeLine then (its.toList.mapM absV).map HO.tup else none
  | _, _ => none
def ob (K : PySem.W.Frag) (H : Hp) (a : Addr) : Option HO := match K.lookup a with
  | some o => obK o
  | none => H a
theorem absV_rel {u : Value} {x : V} (h : absV u = some x) : RelV x u := by
  cases u <;> simp only [absV, Option.some.injEq, reduceCtorEq] at h <;> subst h
  all_goals first | exact rfl | exact ⟨_, rfl⟩
theorem absV_all : ∀ {us : List Value} {xs : List V}, us.mapM absV = some xs → Vals xs us
  | [], xs, h => by
    simp at h
    subst h
    exact .nil
  | u :: us, xs, h => by
    rw [List.mapM_cons] at h
    cases e1 : absV u with
    | none => simp [e1] at h
    | some x =>
      cases e2 : us.mapM absV with
      | none => simp [e1, e2] at h
      | some r =>
        simp [e1, e2] at h
        subst h
        exact .cons (absV_rel e1) (absV_all e2)
theorem obK_tup {o : Obj} {z : HO} (h : obK o = some z) : ∃ xs its n, z = .tup xs ∧ o.cls = .type "tuple" ∧ o.data = .seq its n ∧ its.size ≤ sizeLine ∧ Vals xs its.toList := by
  unfold obK at h
  split at h
  · rename_i its n e1 e2
    split at h
    · rename_i hz
      cases e : its.toList.mapM absV with
      | none => rw [e] at h; cases h
      | some xs =>
        rw [e] at h
        exact ⟨xs, its, n, (Option.some.inj h).symm, e1, e2, hz, absV_all e⟩
    · cases h
  · cases h
theorem ob_none {K : PySem.W.Frag} {H : Hp} {a : Addr} (h : K.lookup a = none) : ob K H a = H a := by unfold ob; rw [h]
theorem ob_tup {K : PySem.W.Frag} {H : Hp} {a : Addr} {xs : List V} (h : ob K H a = some (.tup xs)) : SqT K H a xs := by
  unfold ob at h
  split at h
  · rename_i o e
    obtain ⟨ys, its, n, z, h1, h2, h3, h4⟩ := obK_tup h
    cases z
    exact .inr ⟨o, its, n, e, h1, h2, h3, h4⟩
  · exact .inl (.inl h)
theorem ob_H {K : PySem.W.Frag} {H : Hp} {a : Addr} {z : HO} (h : ob K H a = some z) (n : ∀ xs, z ≠ .tup xs) : H a = some z ∧ K.lookup a = none := by
  unfold ob at h
  split at h
  · obtain ⟨ys, its, n', z', _⟩ := obK_tup h
    exact absurd z' (n ys)
  · rename_i e
    exact ⟨h, e⟩
theorem ob_lst {K : PySem.W.Frag} {H : Hp} {a : Addr} {xs : List V} (h : ob K H a = some (.lst xs)) : SqL K H a xs := .of (ob_H h (fun _ z => by cases z)).1
theorem ob_same {K : PySem.W.Frag} {H H' : Hp} {a : Addr} {z : HO} (e : Same H H') (h : ob K H a = some z) : ob K H' a = some z := by
  unfold ob at h ⊢
  split
  · rename_i o q
    rw [q] at h
    exact h
  · rename_i q
    rw [q] at h
    exact e _ _ h
theorem ob_kp {K : PySem.W.Frag} {H H' : Hp} {s a : Addr} {ys : List V} {z : HO} (e : Kp s H H') (hs : H s = some (.lst ys)) (n : ∀ ys, z ≠ .lst ys) (h : ob K H a = some z) : ob K H' a = some z := by
  unfold ob at h ⊢
  split
  · rename_i o q
    rw [q] at h
    exact h
  · rename_i q
    rw [q] at h
    exact e _ _ (by rintro rfl; rw [hs] at h; exact n _ (Option.some.inj h).symm) h
theorem ob_new {K : PySem.W.Frag} {H : Hp} {p : Addr} {o : HO} (k : K.lookup p = none) : ob K (upd H p o) p = some o := by rw [ob_none k, upd_same]
/-- a built-in type's name, of what stands somewhere -/
def tyO : Option HO → Option String
  | some (.tup _) => some "tuple"
  | some (.lst _) => some "list"
  | some (.dK _) => some "dict"
  | _ => none
def tyN (K : PySem.W.Frag) (H : Hp) : V → Option String
  | .non => some "NoneType"
  | .bl _ => some "bool"
  | .int _ => some "int"
  | .str _ => some "str"
  | .ref a => tyO (ob K H a)
  | _ => none
theorem tyO_tup (xs : List V) : tyO (some (.tup xs)) = some "tuple" := rfl
theorem tyO_lst (xs : List V) : tyO (some (.lst xs)) = some "list" := rfl
theorem tyO_dK (xs : List (Key × V)) : tyO (some (.dK xs)) = some "dict" := rfl
theorem tyN_non {K : PySem.W.Frag} {H : Hp} : tyN K H .non = some "NoneType" := rfl
theorem tyN_bl {K : PySem.W.Frag} {H : Hp} (b : Bool) : tyN K H (.bl b) = some "bool" := rfl
theorem tyN_int {K : PySem.W.Frag} {H : Hp} (b : Int) : tyN K H (.int b) = some "int" := rfl
theorem tyN_str {K : PySem.W.Frag} {H : Hp} (b : Str) : tyN K H (.str b) = some "str" := rfl
theorem tyN_ref {K : PySem.W.Frag} {H : Hp} (a : Addr) : tyN K H (.ref a) = tyO (ob K H a) := rfl
theorem tyN_X {K : PySem.W.Frag} {H : Hp} {x : V} {t : String} (h : tyN K H x = some t) : TyX K H x (.type t) := by
  cases x with
  | non => cases h; exact .base .non
  | bl b => cases h; exact .base (.bl b)
  | int i => cases h; exact .base (.int i)
  | str z => cases h; exact .base (.str z)
  | byt _ => cases h
  | flt _ => cases h
  | ty _ => cases h
  | ref a =>
    have h1 : tyO (ob K H a) = some t := h
    cases e : ob K H a with
    | none => rw [e] at h1; cases h1
    | some z =>
      rw [e] at h1
      cases z with
      | tup xs =>
        cases h1
        unfold ob at e
        split at e
        · rename_i o q
          obtain ⟨_, _, _, _, c, _⟩ := obK_tup e
          exact .kTuple q c
        · exact .base (.tup e)
      | lst xs => cases h1; exact .base (.lst (ob_H e (fun _ z => by cases z)).1)
      | dK kvs => cases h1; exact .base (.dK (ob_H e (fun _ z => by cases z)).1)
      | _ => cases h1
/-- isinstance(x, T) by names -/
def isB (a b : String) : Bool := a == b || (a == "bool" && b == "int")
def rIsN (K : PySem.W.Frag) : List V → Hp → VK → Prop := fun xs H Q => ∃ x n, xs = [x, .ty n] ∧ n ∈ ["int", "bool", "str", "list", "tuple", "dict"] ∧ ∃ t, tyN K H x = some t ∧ Q (.bl (isB t n)) H
theorem tyN_mem {K : PySem.W.Frag} {H : Hp} {x : V} {t : String} (h : tyN K H x = some t) : t ∈ ["NoneType", "bool", "int", "str", "tuple", "list", "dict"] := by
  cases x with
  | non => cases h; decide
  | bl b => cases h; decide
  | int i => cases h; decide
  | str z => cases h; decide
  | byt _ => cases h
  | flt _ => cases h
  | ty _ => cases h
  | ref a =>
    have h1 : tyO (ob K H a) = some t := h
    unfold tyO at h1
    split at h1 <;> first | (cases h1; decide) | cases h1
theorem kit_all : ∀ t ∈ ["NoneType", "bool", "int", "str", "tuple", "list", "dict"], ∀ n ∈ ["int", "bool", "str", "list", "tuple", "dict"], kitB t n = some (isB t n) := by decide +kernel
/-- isinstance(x, (T, ..)) -/
def tyNs : List V → Option (List String)
  | [] => some []
  | .ty n :: r => if n ∈ ["int", "bool", "str", "list", "tuple", "dict"] then (tyNs r).map (n :: ·) else none
  | _ :: _ => none
theorem tyNs_of : ∀ {cs : List V} {ns : List String}, tyNs cs = some ns → cs = ns.map V.ty ∧ ∀ n ∈ ns, n ∈ ["int", "bool", "str", "list", "tuple", "dict"]
  | [], ns, h => by cases h; exact ⟨rfl, fun _ z => absurd z (by simp)⟩
  | c :: r, ns, h => by
    cases c with
    | ty n =>
      unfold tyNs at h
      split at h
      · rename_i hn
        cases e : tyNs r with
        | none => rw [e] at h; cases h
        | some ms =>
          rw [e] at h
          cases h
          obtain ⟨h1, h2⟩ := tyNs_of e
          refine ⟨by rw [h1]; rfl, fun m hm => ?_⟩
          rcases List.mem_cons.mp hm with z | z
          · rw [z]; exact hn
          · exact h2 m z
      · cases h
    | _ => cases h
theorem tyNs_lt : tyNs [.ty "list", .ty "tuple"] = some ["list", "tuple"] := by decide
def rIsT (K : PySem.W.Frag) : List V → Hp → VK → Prop := fun xs H Q => ∃ x tp, xs = [x, .ref tp] ∧ ∃ cs, H tp = some (.tup cs) ∧ ∃ ns, tyNs cs = some ns ∧ ∃ t, tyN K H x = some t ∧ Q (.bl (ns.any (isB t))) H
section
variable {X : Cx}
theorem call_isN : CallR X (.builtin "isinstance") (rIsN X.K) := fun pins s σ H xs us Q I r h => by
  obtain ⟨x, n, rfl, hn, t, ht, q⟩ := h
  exact call_isi pins s σ H _ us Q I r ⟨x, .ty n, .type t, .type n, isB t n, rfl, .ty n, tyN_X ht, kit_ty (kit_all t (tyN_mem ht) n hn), q⟩
theorem kitAny_of {K : PySem.W.Frag} {t : String} (ht : t ∈ ["NoneType", "bool", "int", "str", "tuple", "list", "dict"]) : ∀ {ns : List String}, (∀ n ∈ ns, n ∈ ["int", "bool", "str", "list", "tuple", "dict"]) → PySem.W.kitAny K (.type t) (ns.map Value.type) = some (ns.any (isB t))
  | [], _ => rfl
  | n :: ns, h => by
    have e1 : PySem.W.kitOne K (.type t) (.type n) = some (isB t n) := kit_ty (kit_all t ht n (h n List.mem_cons_self))
    have e2 := kitAny_of (K := K) ht (ns := ns) fun m hm => h m (List.mem_cons_of_mem _ hm)
    rw [List.map_cons, List.any_cons]
    unfold PySem.W.kitAny
    rw [e1]
    cases isB t n
    · simpa using e2
    · rfl
theorem clsV_all : ∀ ns : List String, Paired ClsV (ns.map V.ty) (ns.map Value.type)
  | [] => .nil
  | n :: ns => .cons (.ty n) (clsV_all ns)
theorem call_isT : CallR X (.builtin "isinstance") (rIsT X.K) := fun pins s σ H xs us Q I r h => by
  obtain ⟨x, tp, rfl, cs, hT, ns, hns, t, ht, q⟩ := h
  obtain ⟨rfl, hn⟩ := tyNs_of hns
  exact call_isiT pins s σ H _ us Q I r ⟨x, tp, _, .type t, _, _, rfl, hT, clsV_all ns, tyN_X ht, kitAny_of (tyN_mem ht) hn, q⟩
/-- xs[i], t[i] -/
def itsO : Option HO → Option (List V)
  | some (.tup xs) => some xs
  | some (.lst xs) => some xs
  | _ => none
theorem itsO_tup (xs : List V) : itsO (some (.tup xs)) = some xs := rfl
theorem itsO_lst (xs : List V) : itsO (some (.lst xs)) = some xs := rfl
theorem itsO_or {K : PySem.W.Frag} {H : Hp} {a : Addr} {xs : List V} (h : itsO (ob K H a) = some xs) : SqL K H a xs ∨ SqT K H a xs := by
  cases e : ob K H a with
  | none => rw [e] at h; cases h
  | some z =>
    rw [e] at h
    cases z with
    | tup ys => cases h; exact .inr (ob_tup e)
    | lst ys => cases h; exact .inl (ob_lst e)
    | _ => cases h
def rIxA (K : PySem.W.Frag) : R2 := fun x y H Q => ∃ p i, x = .ref p ∧ y = .int i ∧ ∃ xs, itsO (ob K H p) = some xs ∧ ∃ v, atI xs i = some v ∧ Q v H
theorem ix_any : IxR X (rIxA X.K) := fun value slice pins s σ H x y v u Q I rx ry h hs => by
  obtain ⟨p, i, rfl, rfl, xs, hx, w, hw, q⟩ := h
  rcases itsO_or hx with z | z
  · exact ix_list value slice pins s σ H _ _ v u Q I rx ry ⟨p, xs, i, w, rfl, rfl, z, hw, q⟩ hs
  · exact ix_tup value slice pins s σ H _ _ v u Q I rx ry ⟨p, xs, i, w, rfl, rfl, z, hw, q⟩ hs
theorem call_lenA : CallR X (.builtin "len") (fun xs H Q => ∃ p, xs = [.ref p] ∧ ∃ ys, itsO (ob X.K H p) = some ys ∧ Q (.int ys.length) H) := fun pins s σ H xs us Q I r h => by
  obtain ⟨p, rfl, ys, hy, q⟩ := h
  exact call_len_seq pins s σ H _ us Q I r ⟨p, ys, rfl, itsO_or hy, q⟩
/-! new tuples and lists, away from the written part -/
variable {es : List Expr} {t : TA} {pos : Pos}
def tTp (K : PySem.W.Frag) (t : TA) : TE := fun σ H Q => t σ H fun xs H1 => xs.length ≤ sizeLine ∧ ∀ p, H1 p = none → K.lookup p = none → Q (.ref p) (upd H1 p (.tup xs))
def tLs (K : PySem.W.Frag) (t : TA) : TE := fun σ H Q => t σ H fun xs H1 => xs.length ≤ sizeLine ∧ ∀ p, H1 p = none → K.lookup p = none → Q (.ref p) (upd H1 p (.lst xs))
theorem new_K {pins : List (Addr × Obj)} {σ : L2.St} {H : Hp} {s : Shared} (I : Inv X pins σ H s) : X.K.lookup s.heap.objs.size = none := by
  cases e : X.K.lookup s.heap.objs.size with
  | none => rfl
  | some o => exact absurd (Heap.lt_size (I.kIn _ _ e)) (Nat.lt_irrefl _)
theorem pe_tp {x1} (h : PA X es t) : PE X (.Tuple es x1 pos) (tTp X.K t) := by
  refine ⟨fun pins s σ H Q I hq => ?_⟩
  refine wpAny_Tuple_spliced (thn (h.run pos pins s σ H _ I hq) fun us s1 ⟨xs, H1, I1, r, z, q⟩ => ⟨by rw [← r.length]; exact z, ?_⟩)
  have hf : H1 s1.heap.objs.size = none := I1.hok.fresh (Nat.le_refl _)
  refine ⟨.ref s1.heap.objs.size, upd H1 s1.heap.objs.size (.tup xs), I1.laid (t' := s1.toks) (fun b u e => Heap.get?_push_of_some _ e) (Nat.le_refl _) ?_, rfl, q _ hf (new_K I1)⟩
  exact ⟨z, us, r, ⟨_, Heap.get?_push_size _ rfl, rfl, _, rfl⟩⟩
theorem pe_ls (h : PA X es t) : PE X (.List es pos) (tLs X.K t) := by
  refine ⟨fun pins s σ H Q I hq => ?_⟩
  refine wpAny_List_spliced (thn (h.run pos pins s σ H _ I hq) fun us s1 ⟨xs, H1, I1, r, z, q⟩ => ⟨by rw [← r.length]; exact z, ?_⟩)
  have hf : H1 s1.heap.objs.size = none := I1.hok.fresh (Nat.le_refl _)
  refine ⟨.ref s1.heap.objs.size, upd H1 s1.heap.objs.size (.lst xs), I1.laid (t' := s1.toks) (fun b u e => Heap.get?_push_of_some _ e) (Nat.le_refl _) ?_, rfl, q _ hf (new_K I1)⟩
  exact ⟨z, us, 0, r, Heap.get?_push_size _ rfl⟩
end
/-- a, b = t -/
def gTp (K : PySem.W.Frag) (n : Nat) (t : TGs) : TG := fun v σ H Q => ∃ a, v = .ref a ∧ ∃ xs, ob K H a = some (.tup xs) ∧ xs.length = n ∧ t xs σ H Q
theorem pg_tp {X : Cx} {pos : Pos} {es : List Expr} {k : Nat} {t : TGs} (n : Nat) (hc : X.calm = true) (h : PGs X es t) (hn : (assignEach es X.env).length = n := by rfl) (hst : (assignEach es X.env).findIdx? (·.1) = none := by rfl) : PG X (.Tuple es k pos) (gTp X.K n t) :=
  ⟨fun pins s σ H v u Q I r hw => by
    obtain ⟨a, e, xs, hx, hl, q⟩ := hw
    exact (pg_tup (n := n) hc h hn hst).run pins s σ H v u Q I r ⟨a, xs, e, ob_tup hx, hl, q⟩⟩
/-- {} -/
def tDn (K : PySem.W.Frag) : TE := fun _ H Q => ∀ p, H p = none → K.lookup p = none → Q (.ref p) (upd H p (.dK []))
theorem pe_dn {X : Cx} {pos : Pos} : PE X (.Dict [] [] pos) (tDn X.K) := ⟨fun pins s σ H Q I h => by
  refine wpAny_Dict_empty ⟨.ref s.heap.objs.size, upd H s.heap.objs.size (.dK []), ?_, rfl, h _ (I.hok.fresh (Nat.le_refl _)) (new_K I)⟩
  exact I.laid (t' := s.toks) (fun _ _ e => Heap.get?_push_of_some _ e) (Nat.le_refl _) (dk_empty s.heap I.big)⟩
/-! ### loops -/
def ForI (J : It) (g : TG) (tb : TS) (D : Ends) (σ : L2.St) (H : Hp) : Prop := ∃ W : Nat → Nat → L2.St → Hp → Prop, (∃ m, W 0 m σ H) ∧ ∀ i m σ H, W i m σ H →
  (J.stop i H ∧ D.nx σ H) ∨ (J.go i H ∧ ∃ N : L2.St → Hp → Prop, (∀ σ' H', N σ' H' → ∃ m', m' < m ∧ W (i + 1) m' σ' H') ∧ ∀ x H', J.yld i H x H' → g x σ H' fun σ2 H2 => tb { D with nx := N, ct := N, bk := D.nx } σ2 H2)
theorem tFor_eq (wi : TI) (g : TG) (tb : TS) (D : Ends) (σ : L2.St) (H : Hp) : tFor wi g tb D σ H = wi σ H fun J H1 => ForI J g tb D σ H1 := rfl
section
variable {g : TG} {tb : TS} {D : Ends} {σ : L2.St} {H : Hp}
theorem forI_range {lo : Int} {n : Nat} (Pv : Nat → L2.St → Hp → Prop) (h0 : Pv 0 σ H)
    (hs : ∀ i σ H, i < n → Pv i σ H → g (.int (lo + i)) σ H fun σ2 H2 => tb { D with nx := Pv (i + 1), ct := Pv (i + 1), bk := D.nx } σ2 H2) (hd : ∀ σ H, Pv n σ H → D.nx σ H) : ForI (Itr lo n) g tb D σ H := for_range Pv h0 hs hd
theorem forI_list {K : PySem.W.Frag} {a : Addr} {xs : List V} (Pv : Nat → L2.St → Hp → Prop) (h0 : Pv 0 σ H) (hl : ∀ i σ H, i ≤ xs.length → Pv i σ H → SqL K H a xs)
    (hs : ∀ i x σ H, xs[i]? = some x → Pv i σ H → g x σ H fun σ2 H2 => tb { D with nx := Pv (i + 1), ct := Pv (i + 1), bk := D.nx } σ2 H2) (hd : ∀ σ H, Pv xs.length σ H → D.nx σ H) : ForI (Itl K a) g tb D σ H := for_list Pv h0 hl hs hd
theorem forI_tup {K : PySem.W.Frag} {a : Addr} {xs : List V} (Pv : Nat → L2.St → Hp → Prop) (h0 : Pv 0 σ H) (hl : ∀ i σ H, i ≤ xs.length → Pv i σ H → SqT K H a xs)
    (hs : ∀ i x σ H, xs[i]? = some x → Pv i σ H → g x σ H fun σ2 H2 => tb { D with nx := Pv (i + 1), ct := Pv (i + 1), bk := D.nx } σ2 H2) (hd : ∀ σ H, Pv xs.length σ H → D.nx σ H) : ForI (Itt K a) g tb D σ H := for_tup Pv h0 hl hs hd
end
theorem ca_0 : ((0 : Nat) : Int) = 0 := rfl
theorem ca_1 : ((1 : Nat) : Int) = 1 := rfl
theorem ca_2 : ((2 : Nat) : Int) = 2 := rfl
theorem ca_3 : ((3 : Nat) : Int) = 3 := rfl
theorem ca_4 : ((4 : Nat) : Int) = 4 := rfl
theorem ca_5 : ((5 : Nat) : Int) = 5 := rfl
theorem ca_6 : ((6 : Nat) : Int) = 6 := rfl
theorem ca_7 : ((7 : Nat) : Int) = 7 := rfl
theorem ca_8 : ((8 : Nat) : Int) = 8 := rfl
theorem ca_9 : ((9 : Nat) : Int) = 9 := rfl
theorem ca_10 : ((10 : Nat) : Int) = 10 := rfl
theorem ca_11 : ((11 : Nat) : Int) = 11 := rfl
theorem ca_12 : ((12 : Nat) : Int) = 12 := rfl
theorem ca_13 : ((13 : Nat) : Int) = 13 := rfl
theorem ca_14 : ((14 : Nat) : Int) = 14 := rfl
theorem ca_15 : ((15 : Nat) : Int) = 15 := rfl
theorem ca_16 : ((16 : Nat) : Int) = 16 := rfl
theorem ca_17 : ((17 : Nat) : Int) = 17 := rfl
theorem ca_18 : ((18 : Nat) : Int) = 18 := rfl
theorem ca_19 : ((19 : Nat) : Int) = 19 := rfl
theorem ca_20 : ((20 : Nat) : Int) = 20 := rfl
theorem ca_21 : ((21 : Nat) : Int) = 21 := rfl
theorem ca_22 : ((22 : Nat) : Int) = 22 := rfl
theorem ca_23 : ((23 : Nat) : Int) = 23 := rfl
theorem ca_24 : ((24 : Nat) : Int) = 24 := rfl
theorem ca_25 : ((25 : Nat) : Int) = 25 := rfl
theorem ca_26 : ((26 : Nat) : Int) = 26 := rfl
theorem ca_27 : ((27 : Nat) : Int) = 27 := rfl
theorem ca_28 : ((28 : Nat) : Int) = 28 := rfl
theorem ca_29 : ((29 : Nat) : Int) = 29 := rfl
theorem ca_30 : ((30 : Nat) : Int) = 30 := rfl
theorem nat10 : (10 : Int).natAbs = 10 := rfl
/-- list(xs), away from the written part -/
theorem call_listK {X : Cx} : CallR X (.type "list") (fun xs H Q => ∃ p, xs = [.ref p] ∧ ∃ ys, (SqL X.K H p ys ∨ SqT X.K H p ys) ∧ ∀ l, H l = none → X.K.lookup l = none → Q (.ref l) (upd H l (.lst ys))) := fun pins s σ H xs us Q I r h => by
  obtain ⟨p, e0, ys, hy, k⟩ := h
  subst e0
  obtain ⟨u, e1, ru⟩ := vals1 r
  subst e1
  cases ru
  have laid (its : List Value) (rv : Vals ys its) (hz : ys.length ≤ sizeLine) (hh : Heap) (cap : Nat) (kp : ∀ b o, s.heap.get? b = some o → hh.get? b = some o)
      (e : hh.get? s.heap.objs.size = some { cls := .type "list", dict := none, data := .seq its.toArray cap, slots := #[] }) : EP X pins σ Q (.ref s.heap.objs.size) { s with heap := hh } := by
    have ok : ObjOk X.prog X.w (upd H s.heap.objs.size (.lst ys)) hh s.heap.objs.size (.lst ys) := ⟨hz, its, cap, rv, e⟩
    exact ⟨.ref s.heap.objs.size, _, I.laid (t' := s.toks) kp (Nat.le_refl _) ok, rfl, k _ (I.hok.fresh (Nat.le_refl _)) (new_K I)⟩
  cases hy with
  | inl hy =>
    obtain ⟨its, rv, pl, hz⟩ := I.list hy
    obtain ⟨o, ho, hc, n, hd⟩ := pl.isList
    have hl := rv.length
    exact call_list_seq p (.inl rfl) ho hc hd (laid its rv hz) (by simp only [List.size_toArray]; omega)
  | inr hy =>
    obtain ⟨its, rv, pl, hz⟩ := I.tuple hy
    obtain ⟨o, ho, hc, n, hd⟩ := pl
    have hl := rv.length
    exact call_list_seq p (.inr rfl) ho hc hd (laid its rv hz) (by simp only [List.size_toArray]; omega)
/-- xs[i] = v -/
def setI (xs : List V) (i : Int) (v : V) : Option (List V) := (ixN xs.length i).map fun j => xs.set j v
theorem setI_nat {xs ys : List V} {j : Nat} {v : V} (h : j < xs.length) (e : xs.set j v = ys) : setI xs (j : Int) v = some ys := by
  have e1 : ixN xs.length (j : Int) = some j := by
    unfold ixN
    rw [if_pos (by omega), if_pos (by omega)]
    simp
  unfold setI
  rw [e1, ← e]
  rfl
def rSetA : V → V → V → Hp → (Hp → Prop) → Prop := fun o i v H Q => ∃ p k, o = .ref p ∧ i = .int k ∧ ∃ xs, H p = some (.lst xs) ∧ ∃ ys, setI xs k v = some ys ∧ Q (upd H p (.lst ys))
section
variable {X : Cx}
theorem set_any : PSet X rSetA := by
  intro pins s σ H o i v uo ui uv Q I ro ri rv h
  obtain ⟨p, k, rfl, rfl, xs, hx, ys, hy, q⟩ := h
  unfold setI at hy
  cases e : ixN xs.length k with
  | none => rw [e] at hy; cases hy
  | some j =>
    rw [e] at hy
    cases hy
    exact set_list pins s σ H _ _ _ uo ui uv Q I ro ri rv ⟨p, xs, k, j, rfl, rfl, hx, e, q⟩
end
theorem atI_0 {α : Type} (x0 : α) (l : List α) : atI (x0 :: l) 0 = some x0 := atI_nat (j := 0) rfl
theorem setI_0 (x0 v : V) (l : List V) : setI (x0 :: l) 0 v = some (v :: l) := setI_nat (j := 0) (by simp) (by rfl)
theorem atI_1 {α : Type} (x0 x1 : α) (l : List α) : atI (x0 :: x1 :: l) 1 = some x1 := atI_nat (j := 1) rfl
theorem setI_1 (x0 x1 v : V) (l : List V) : setI (x0 :: x1 :: l) 1 v = some (x0 :: v :: l) := setI_nat (j := 1) (by simp) (by rfl)
theorem atI_2 {α : Type} (x0 x1 x2 : α) (l : List α) : atI (x0 :: x1 :: x2 :: l) 2 = some x2 := atI_nat (j := 2) rfl
theorem setI_2 (x0 x1 x2 v : V) (l : List V) : setI (x0 :: x1 :: x2 :: l) 2 v = some (x0 :: x1 :: v :: l) := setI_nat (j := 2) (by simp) (by rfl)
theorem atI_3 {α : Type} (x0 x1 x2 x3 : α) (l : List α) : atI (x0 :: x1 :: x2 :: x3 :: l) 3 = some x3 := atI_nat (j := 3) rfl
theorem setI_3 (x0 x1 x2 x3 v : V) (l : List V) : setI (x0 :: x1 :: x2 :: x3 :: l) 3 v = some (x0 :: x1 :: x2 :: v :: l) := setI_nat (j := 3) (by simp) (by rfl)
theorem atI_4 {α : Type} (x0 x1 x2 x3 x4 : α) (l : List α) : atI (x0 :: x1 :: x2 :: x3 :: x4 :: l) 4 = some x4 := atI_nat (j := 4) rfl
theorem setI_4 (x0 x1 x2 x3 x4 v : V) (l : List V) : setI (x0 :: x1 :: x2 :: x3 :: x4 :: l) 4 v = some (x0 :: x1 :: x2 :: x3 :: v :: l) := setI_nat (j := 4) (by simp) (by rfl)
theorem atI_5 {α : Type} (x0 x1 x2 x3 x4 x5 : α) (l : List α) : atI (x0 :: x1 :: x2 :: x3 :: x4 :: x5 :: l) 5 = some x5 := atI_nat (j := 5) rfl
theorem setI_5 (x0 x1 x2 x3 x4 x5 v : V) (l : List V) : setI (x0 :: x1 :: x2 :: x3 :: x4 :: x5 :: l) 5 v = some (x0 :: x1 :: x2 :: x3 :: x4 :: v :: l) := setI_nat (j := 5) (by simp) (by rfl)
theorem atI_6 {α : Type} (x0 x1 x2 x3 x4 x5 x6 : α) (l : List α) : atI (x0 :: x1 :: x2 :: x3 :: x4 :: x5 :: x6 :: l) 6 = some x6 := atI_nat (j := 6) rfl
theorem setI_6 (x0 x1 x2 x3 x4 x5 x6 v : V) (l : List V) : setI (x0 :: x1 :: x2 :: x3 :: x4 :: x5 :: x6 :: l) 6 v = some (x0 :: x1 :: x2 :: x3 :: x4 :: x5 :: v :: l) := setI_nat (j := 6) (by simp) (by rfl)
end My

namespace My
open PySem PySem.Spec PyProof.Rows L2
/-! ### numbers: fractions in lowest terms -/
abbrev Qt := Int × Int
def Nf (q : Qt) : Prop := 1 ≤ q.2 ∧ Int.gcd q.1 q.2 = 1
/-- q is t / b in lowest terms -/
def Is (q : Qt) (t b : Int) : Prop := Nf q ∧ q.1 * b = t * q.2
def Sz (k : Nat) (q : Qt) : Prop := q.1.natAbs < 2 ^ k ∧ q.2.natAbs < 2 ^ k
theorem nf_cop {q : Qt} (h : Nf q) : Nat.Coprime q.1.natAbs q.2.natAbs := h.2
theorem nf_unique {p q : Qt} (hp : Nf p) (hq : Nf q) (h : p.1 * q.2 = q.1 * p.2) : p = q := by
  have h1 : p.1.natAbs * q.2.natAbs = q.1.natAbs * p.2.natAbs := by rw [← Int.natAbs_mul, ← Int.natAbs_mul, h]
  have d1 : p.2.natAbs ∣ q.2.natAbs := (nf_cop hp).symm.dvd_of_dvd_mul_left (n := q.2.natAbs) (m := p.1.natAbs) (by rw [h1]; exact Nat.dvd_mul_left _ _)
  have d2 : q.2.natAbs ∣ p.2.natAbs := (nf_cop hq).symm.dvd_of_dvd_mul_left (n := p.2.natAbs) (m := q.1.natAbs) (by rw [← h1]; exact Nat.dvd_mul_left _ _)
  have e := Nat.dvd_antisymm d1 d2
  have a1 := hp.1
  have a2 := hq.1
  have e2 : p.2 = q.2 := by omega
  rw [e2] at h
  have e1 : p.1 = q.1 := Int.eq_of_mul_eq_mul_right (show q.2 ≠ 0 by omega) h
  exact Prod.ext e1 e2
theorem is_unique {p q : Qt} {t b : Int} (hb : b ≠ 0) (hp : Is p t b) (hq : Is q t b) : p = q := by
  refine nf_unique hp.1 hq.1 ?_
  have h1 := hp.2
  have h2 := hq.2
  have h3 : b * (p.1 * q.2) = b * (q.1 * p.2) := by
    have e1 : b * (p.1 * q.2) = (p.1 * b) * q.2 := by rw [Int.mul_comm p.1 b, Int.mul_assoc]
    have e2 : b * (q.1 * p.2) = (q.1 * b) * p.2 := by rw [Int.mul_comm q.1 b, Int.mul_assoc]
    rw [e1, e2, h1, h2, Int.mul_assoc, Int.mul_assoc, Int.mul_comm p.2 q.2]
  exact Int.eq_of_mul_eq_mul_left hb h3
theorem is_le {q : Qt} {t b : Int} (hb : b ≠ 0) (h : Is q t b) : q.1.natAbs ≤ t.natAbs ∧ q.2.natAbs ≤ b.natAbs := by
  have h1 : q.1.natAbs * b.natAbs = t.natAbs * q.2.natAbs := by rw [← Int.natAbs_mul, ← Int.natAbs_mul, h.2]
  have d : q.2.natAbs ∣ b.natAbs := (nf_cop h.1).symm.dvd_of_dvd_mul_left (n := b.natAbs) (m := q.1.natAbs) (by rw [h1]; exact Nat.dvd_mul_left _ _)
  have hb' : 0 < b.natAbs := by omega
  have le2 := Nat.le_of_dvd hb' d
  refine ⟨?_, le2⟩
  have q2 : 0 < q.2.natAbs := by have := h.1.1; omega
  have h2 : q.1.natAbs * q.2.natAbs ≤ t.natAbs * q.2.natAbs := by rw [← h1]; exact Nat.mul_le_mul_left _ le2
  exact Nat.le_of_mul_le_mul_right h2 q2
theorem is_sz {q : Qt} {t b : Int} {k : Nat} (hb : b ≠ 0) (h : Is q t b) (ht : t.natAbs < 2 ^ k) (hk : b.natAbs < 2 ^ k) : Sz k q :=
  ⟨Nat.lt_of_le_of_lt (is_le hb h).1 ht, Nat.lt_of_le_of_lt (is_le hb h).2 hk⟩
/-- exact division by the greatest common divisor -/
theorem gcd_pos {t b : Int} (hb : b ≠ 0) : 0 < Int.gcd t b := Nat.gcd_pos_of_pos_right _ (by omega)
theorem gcd_le {t b : Int} (hb : b ≠ 0) : Int.gcd t b ≤ b.natAbs := Nat.le_of_dvd (by omega) (Nat.gcd_dvd_right _ _)
theorem is_div {t b : Int} (hb : 0 < b) : Is (t / (Int.gcd t b : Nat), b / (Int.gcd t b : Nat)) t b := by
  have hg := gcd_pos (t := t) (b := b) (by omega)
  obtain ⟨x, hx⟩ := Int.gcd_dvd_left (a := t) (b := b)
  obtain ⟨y, hy⟩ := Int.gcd_dvd_right (a := t) (b := b)
  have hg' : ((Int.gcd t b : Nat) : Int) ≠ 0 := by omega
  have e1 : t / (Int.gcd t b : Nat) = x := by conv => lhs; lhs; rw [hx]
                                              exact Int.mul_ediv_cancel_left _ hg'
  have e2 : b / (Int.gcd t b : Nat) = y := by conv => lhs; lhs; rw [hy]
                                              exact Int.mul_ediv_cancel_left _ hg'
  rw [e1, e2]
  have hy0 : 0 < y := by
    rcases Int.lt_trichotomy y 0 with z | z | z
    · have := Int.mul_neg_of_pos_of_neg (show (0 : Int) < (Int.gcd t b : Nat) by omega) z
      omega
    · rw [z, Int.mul_zero] at hy
      omega
    · exact z
  refine ⟨⟨by show 1 ≤ y; omega, ?_⟩, ?_⟩
  · show Int.gcd x y = 1
    have h : Int.gcd t b = Int.gcd t b * Int.gcd x y := by
      have k : Int.gcd (((Int.gcd t b : Nat) : Int) * x) (((Int.gcd t b : Nat) : Int) * y) = Int.gcd t b * Int.gcd x y := by rw [Int.gcd_mul_left, Int.natAbs_natCast]
      rwa [← hx, ← hy] at k
    exact Nat.eq_of_mul_eq_mul_left hg (by rw [← h, Nat.mul_one])
  · show x * b = t * y
    conv => lhs; rw [hy]
    conv => rhs; rw [hx]
    rw [← Int.mul_assoc, Int.mul_comm x]
theorem is_neg {q : Qt} {t b : Int} (h : Is q (-t) (-b)) : Is q t b := ⟨h.1, by have := h.2; rw [Int.mul_neg, Int.neg_mul] at this; omega⟩
theorem gcd_neg2 (t b : Int) : Int.gcd (-t) (-b) = Int.gcd t b := by rw [Int.gcd_neg, Int.neg_gcd]
/-- what fraction hands back -/
theorem is_fdiv {t b : Int} (hb : b ≠ 0) : Is (t.fdiv (if b < 0 then -((Int.gcd t b : Nat) : Int) else (Int.gcd t b : Nat)), b.fdiv (if b < 0 then -((Int.gcd t b : Nat) : Int) else (Int.gcd t b : Nat))) t b := by
  by_cases h : b < 0
  · rw [if_pos h]
    have e := is_div (t := -t) (b := -b) (by omega)
    rw [gcd_neg2] at e
    have k : ∀ x : Int, x.fdiv (-((Int.gcd t b : Nat) : Int)) = (-x) / ((Int.gcd t b : Nat) : Int) := fun x => by
      rw [← Int.fdiv_eq_ediv_of_nonneg _ (by omega), ← Int.neg_fdiv_neg (-x), Int.neg_neg]
    rw [k, k]
    exact is_neg e
  · rw [if_neg h, Int.fdiv_eq_ediv_of_nonneg _ (by omega), Int.fdiv_eq_ediv_of_nonneg _ (by omega)]
    exact is_div (by omega)
theorem mulW {i j : Int} {a b : Nat} (ha : i.natAbs < 2 ^ a) (hb : j.natAbs < 2 ^ b) (h : a + b ≤ 900000) : CMulW i j := by
  refine wide_mul (a := a + 1) (b := b + 1) (Nat.lt_of_lt_of_le ha (Nat.pow_le_pow_right (by omega) (by omega))) (Nat.lt_of_lt_of_le hb (Nat.pow_le_pow_right (by omega) (by omega))) (by omega) (by omega) (by omega)
theorem szMul {i j : Int} {a b : Nat} (ha : i.natAbs < 2 ^ a) (hb : j.natAbs < 2 ^ b) : (i * j).natAbs < 2 ^ (a + b) := wide_lt ha hb
theorem szAdd {i j : Int} {a b c : Nat} (ha : i.natAbs < 2 ^ a) (hb : j.natAbs < 2 ^ b) (h1 : a + 1 ≤ c) (h2 : b + 1 ≤ c) : (i + j).natAbs < 2 ^ c := by
  have e1 : 2 ^ (a + 1) ≤ 2 ^ c := Nat.pow_le_pow_right (by omega) h1
  have e2 : 2 ^ (b + 1) ≤ 2 ^ c := Nat.pow_le_pow_right (by omega) h2
  rw [Nat.pow_succ] at e1 e2
  have := Int.natAbs_add_le i j
  omega
theorem szSub {i j : Int} {a b c : Nat} (ha : i.natAbs < 2 ^ a) (hb : j.natAbs < 2 ^ b) (h1 : a + 1 ≤ c) (h2 : b + 1 ≤ c) : (i - j).natAbs < 2 ^ c := by
  rw [Int.sub_eq_add_neg]
  exact szAdd ha (by rw [Int.natAbs_neg]; exact hb) h1 h2
theorem szMono {i : Int} {a b : Nat} (ha : i.natAbs < 2 ^ a) (h : a ≤ b) : i.natAbs < 2 ^ b := Nat.lt_of_lt_of_le ha (Nat.pow_le_pow_right (by omega) h)
theorem Sz.mono {q : Qt} {a b : Nat} (ha : Sz a q) (h : a ≤ b) : Sz b q := ⟨szMono ha.1 h, szMono ha.2 h⟩
/-- // by any number of a bounded size -/
def CDivX (_ j : Int) : Prop := j ≠ 0 ∧ j.natAbs < 2 ^ 8999
theorem op_fdivX {X : Cx} : OpR X (binaryOp .FloorDiv) (rI CDivX fun i j => .int (i.fdiv j)) := by
  intro pins s σ H x y v u Q I rx ry h
  obtain ⟨i, j, rfl, rfl, hc, q⟩ := h
  obtain ⟨t, rfl⟩ := rx
  obtain ⟨t', rfl⟩ := ry
  exact floordiv_int hc.1 ⟨.int _, H, I.tok _, ⟨_, rfl⟩, q⟩ (.inl (PyProof.noPylong_of_log2 (Nat.lt_of_lt_of_le (PySem.Flt.log2_lt_of (by omega) hc.2) (by omega))))
/-! ### fractions as values -/
def frt (q : Qt) : HO := .tup [.int q.1, .int q.2]
end My

namespace My
open PySem PySem.Spec PyProof.Rows L2
section
variable {P : Program} {w : World} {K : PySem.W.Frag} {mg : Str → Option Value} {base : Heap}
def spMixed : Sp := fun vs H Q _ => ∃ a b : Int, vs = [.int a, .int b] ∧ ∀ r : Int, Q (.int r) H
theorem mulW_mod {i : Int} {n : Int} (h0 : 0 < n) (h : n < 2 ^ 64) : CMulW (i % n) (i % n) := by
  have h1 := Int.emod_nonneg i (show n ≠ 0 by omega)
  have h2 := Int.emod_lt_of_pos i h0
  exact wide_mul (a := 64) (b := 64) (by omega) (by omega) (by omega) (by omega) (by omega)
abbrev sMixed : Stmt := topS 31
theorem scMixed : FnScope ["_law_number", "_law_turn", "_law_value"] ["_law_number", "_law_turn"] (defScope sMixed) := ⟨rfl, rfl, rfl, by decide +kernel, rfl, by decide +kernel, by decide +kernel⟩
theorem k_Mixed (T : Bt K mg) (D : Dfn K mg "_law_mixed" sMixed ["_law_number", "_law_turn"]) : Kn P w K mg base 1 "_law_mixed" ["_law_number", "_law_turn"] spMixed := by
  refine Kn.mk' D scMixed (fun vs H Q E h => ?_) (fun f cdv A outer s H vs Q E hr h => ?_)
  · obtain ⟨a, b, rfl, _⟩ := h
    rfl
  obtain ⟨a, b, rfl, q⟩ := h
  refine ⟨_, (pss_cons (ps_set (i := 2) scMixed.nd rfl (.inl rfl) (pe_op op_mod (pe_op op_add (pe_op op_add (pe_op op_mul (pe_op op_mod (pe_callTy call_int1 (by rfl) T.b_int (by decide +kernel) (pa_cons (pv 0) pa_nil)) pe_int) pe_int) (pe_op op_mul (pv 1) pe_int)) pe_int) pe_int))
      (pss_cons (ps_set (i := 2) scMixed.nd rfl (.inl rfl) (pe_op op_mod (pe_op op_add (pe_op op_add (pe_op op_add (pe_op op_mulW (pv 2) (pv 2)) (pe_op op_mul (pv 2) pe_int)) (pe_op op_mul (pv 1) pe_int)) pe_int) pe_int))
      (pss_cons (ps_set (i := 2) scMixed.nd rfl (.inl rfl) (pe_op op_mod (pe_op op_add (pe_op op_add (pe_op op_mul (pv 2) pe_int) (pe_op op_fdiv (pv 2) pe_int)) pe_int) pe_int))
      (pss_cons (ps_set (i := 2) scMixed.nd rfl (.inl rfl) (pe_op op_mod (pe_op op_add (pe_op op_mulW (pv 2) (pv 2)) (pv 1)) pe_int))
      (pss_one (ps_ret (pe_op op_fdiv (pv 2) pe_int))))))), ?_⟩
  simp only [cx_K, decide_true, decide_false, reduceCtorEq, gTp, gCons, gNil, ca_0, ca_1, ca_2, ca_3, ca_4, ca_5, ca_6, ca_7, ca_8, ca_9, ca_10, ca_11, ca_12, ca_13, ca_14, ca_15, ca_16, ca_17, ca_18, ca_19, ca_20, ca_21, ca_22, ca_23, ca_24, ca_25, ca_26, ca_27, ca_28, ca_29, ca_30, not_true_eq_false, not_false_eq_true, Int.reduceEq, Nat.reduceEqDiff, Nat.reduceLeDiff, rGcd, V.ty.injEq, eq_self, List.not_mem_nil, beq_self_eq_true, HO.lst.injEq, HO.tup.injEq, tFor_eq, iRng1, iList, iTup, nat10, tSeq, rIxA, rSetA, rIsN, rIsT, tTp, tLs, itsO_tup, itsO_lst, tyO_tup, tyO_lst, tyO_dK, tyN_non, tyN_bl, tyN_int, tyN_str, tyN_ref, tyNs_lt, isB, upd_same, upd_upd, sizeLine_eq, List.mem_cons, String.reduceBEq, String.reduceEq, Bool.or_false, Bool.or_true, Bool.and_false, Bool.false_or, Bool.and_self, Bool.false_and, Bool.not_false, Bool.not_true, List.any_cons, List.any_nil, atI_0, setI_0, atI_1, setI_1, atI_2, setI_2, atI_3, setI_3, atI_4, setI_4, atI_5, setI_5, atI_6, setI_6, tAsg, gName, tOp, tUn, tVar, tC, tCons, L2.tNil, tRet, tIfS, tTest, tCB, tCall, rI, rI0, rU, tNext, tB, tAnd, tOr, tNot, tAndV, tOrV, tNotV, tDrop, tIf, tPar, gSub, rIxL, rIxT, rEq, rNe, rSetL, tBits,
    L2.start, List.map_cons, List.map_nil, List.cons_append, List.nil_append, List.append_nil, List.length_cons, List.length_nil, List.replicate, Nat.reduceAdd, Nat.reduceSub, Nat.zero_add, List.getElem?_cons_zero, List.getElem?_cons_succ, List.set_cons_zero, List.set_cons_succ,
    Option.some.injEq, exists_eq_left', exists_eq_left, V.int.injEq, V.bl.injEq, V.ref.injEq, V.str.injEq, List.cons.injEq, reduceCtorEq, and_true, true_and, false_and, and_false, exists_false, or_false, false_or, or_true, true_or, exists_const, CMul, CDiv, CPow, and_assoc, exists_and_left, exists_and_right, Int.reducePow, Int.reduceNeg, Int.reduceLT, Int.reduceLE, Nat.reducePow, Nat.reduceLT, Int.reduceToNat, gt_iff_lt, ge_iff_le, decide_eq_true_eq, Bool.not_eq_true', decide_eq_false_iff_not, scal, ↓reduceIte, Bool.false_eq_true]
  exact ⟨mulW_mod (by omega) (by omega), mulW_mod (by omega) (by omega), q _⟩
theorem at_ints {ns : List Int} {i : Int} (h0 : 0 ≤ i) (h : i < (ns.length : Int)) : ∃ z, atI (ns.map V.int) i = some (.int z) := by
  have hk : i.toNat < ns.length := by omega
  have q : atI (ns.map V.int) ((i.toNat : Nat) : Int) = some (.int ns[i.toNat]) := atI_nat (by rw [List.getElem?_map, List.getElem?_eq_getElem hk] <;> rfl)
  rw [show ((i.toNat : Nat) : Int) = i by omega] at q
  exact ⟨_, q⟩
theorem bits_le {m : Int} (h : m.natAbs < 2 ^ 200) : Builtin.Int.intBits m ≤ 200 := by
  unfold Builtin.Int.intBits
  split
  · omega
  · have := PySem.Flt.log2_lt_of (show 0 < 200 by omega) h
    omega
def TakeA (K : PySem.W.Frag) (s : Addr) (m : Int) (H : Hp) (σ' : L2.St) (H' : Hp) : Prop := ∃ x, σ' = [some (.ref s), some (.int m), x, none, none, none, none] ∧ Kp s H H' ∧ Sto K H' s
def TakeB (K : PySem.W.Frag) (s : Addr) (m : Int) (H : Hp) (σ' : L2.St) (H' : Hp) : Prop := ∃ x n, σ' = [some (.ref s), some (.int m), x, none, some (.int n), none, none] ∧ Kp s H H' ∧ Sto K H' s
def TakeC (s : Addr) (m : Int) (x : Option V) (n : Int) (H3 : Hp) (k : Nat) (σ : L2.St) (H' : Hp) : Prop := ∃ v y, σ = [some (.ref s), some (.int m), x, none, some (.int n), some (.int v), y] ∧ H' = H3
def spTake (K : PySem.W.Frag) : Sp := fun vs H Q _ => ∃ (s : Addr) (m : Int), vs = [.ref s, .int m] ∧ Sto K H s ∧ m < 2 ^ 200 ∧ ∀ r H', 0 ≤ r → (r < m ∨ r = 0) → Kp s H H' → Sto K H' s → Q (.int r) H'
abbrev sTake : Stmt := topS 33
theorem scTake : FnScope ["_law_store_here", "_law_many", "_law_cell", "_law_digit", "_law_number", "_law_value", "_law_k"] ["_law_store_here", "_law_many"] (defScope sTake) := ⟨rfl, rfl, rfl, by decide +kernel, rfl, by decide +kernel, by decide +kernel⟩
theorem k_Take (T : Bt K mg) (D : Dfn K mg "_law_take" sTake ["_law_store_here", "_law_many"]) (d__law_mixed : Kn P w K mg base 1 "_law_mixed" ["_law_number", "_law_turn"] spMixed) : Kn P w K mg base 2 "_law_take" ["_law_store_here", "_law_many"] (spTake K) := by
  refine Kn.mk' D scTake (fun vs H Q E h => ?_) (fun f cdv A outer s H vs Q E hr h => ?_)
  · obtain ⟨a, m, rfl, _⟩ := h
    rfl
  obtain ⟨s, m, rfl, hS, hm, q⟩ := h
  refine ⟨_, (pss_cons (ps_if (pt_cmpR op_lt (pv 1) pe_int (nomark _)) (pss_one (ps_ret pe_int)) pss_nil)
      (pss_cons (ps_asg (pe_op op_add (pe_ix ix_any (pv 0) pe_int (fun _ _ => rfl)) pe_int) (pg_sub (pv 0) pe_int set_any))
      (C8.pss_cut (ps_if (PW.pt (pw_and (pt_cmpR op_lt (pe_ix ix_any (pv 0) pe_int (fun _ _ => rfl)) pe_int (nomark _)) (pw_and (pt_cmpR op_lt (pe_ix ix_any (pv 0) pe_int (fun _ _ => rfl)) pe_int (nomark _)) (pw_and1 (pt_cmpR op_lt (pe_ix ix_any (pv 0) pe_int (fun _ _ => rfl)) (pe_callB call_lenA (by rfl) T.b_len PySem.boot_len (pa_cons (pe_ix ix_any (pv 0) pe_int (fun _ _ => rfl)) pa_nil)) (nomark _)))))) (pss_cons (ps_set (i := 2) scTake.nd rfl (.inl rfl) (pe_callTy call_int1 (by rfl) T.b_int (by decide +kernel) (pa_cons (pe_ix ix_any (pe_ix ix_any (pv 0) pe_int (fun _ _ => rfl)) (pe_ix ix_any (pv 0) pe_int (fun _ _ => rfl)) (fun _ _ => rfl)) pa_nil)))
      (pss_cons (ps_asg (pe_op op_add (pe_ix ix_any (pv 0) pe_int (fun _ _ => rfl)) pe_int) (pg_sub (pv 0) pe_int set_any))
      (pss_one (ps_if (pt_cmpR op_lt (pe_callB call_abs (by rfl) T.b_abs (by decide +kernel) (pa_cons (pv 2) pa_nil)) (pe_op op_pow pe_int pe_int) (nomark _)) (pss_cons (ps_asg pe_int (pg_sub (pv 0) pe_int set_any))
      (pss_one (ps_asg (pv 2) (pg_sub (pv 0) pe_int set_any)))) (pss_one (ps_asg (pe_callB call_abs (by rfl) T.b_abs (by decide +kernel) (pa_cons (pv 2) pa_nil)) (pg_sub (pv 0) pe_int set_any))))))) pss_nil)
      (pss_cons (ps_if (pt_cmpR op_gt (pe_ix ix_any (pv 0) pe_int (fun _ _ => rfl)) pe_int (nomark _)) (pss_cons (ps_set (i := 3) scTake.nd rfl (.inl rfl) (pe_op op_modN (pe_callTy call_int1 (by rfl) T.b_int (by decide +kernel) (pa_cons (pe_ix ix_any (pv 0) pe_int (fun _ _ => rfl)) pa_nil)) (pv 1)))
      (pss_cons (ps_asg (pe_op op_fdivW (pe_ix ix_any (pv 0) pe_int (fun _ _ => rfl)) (pv 1)) (pg_sub (pv 0) pe_int set_any))
      (pss_one (ps_ret (pv 3))))) pss_nil)
      (pss_cons (ps_set (i := 4) scTake.nd rfl (.inl rfl) (pe_ix ix_any (pv 0) pe_int (fun _ _ => rfl)))
      (C8.pss_cut (ps_if (pt_cmpR op_gt (pe_ix ix_any (pv 0) pe_int (fun _ _ => rfl)) pe_int (nomark _)) (pss_cons (ps_asg (pe_op op_sub (pe_ix ix_any (pv 0) pe_int (fun _ _ => rfl)) pe_int) (pg_sub (pv 0) pe_int set_any))
      (pss_one (ps_set (i := 4) scTake.nd rfl (.inl rfl) (pe_ix ix_any (pv 0) pe_int (fun _ _ => rfl))))) pss_nil)
      (pss_cons (ps_set (i := 5) scTake.nd rfl (.inl rfl) pe_int)
      (pss_cons (ps_for PassesOwn.never rfl (pi_range1 (by rfl) T.b_range (pa_cons (pe_op op_add pe_int (pe_op op_fdiv (pe_bits (pv 1)) pe_int)) pa_nil)) (pg_name (i := 6) scTake.nd rfl (.inl rfl)) (pss_one (ps_set (i := 5) scTake.nd rfl (.inl rfl) (pe_op op_add (pe_op op_mul (pv 5) pe_int) (pe_kn d__law_mixed hr (by rfl) (pa_cons (pv 4) (pa_cons (pe_op op_add (pe_op op_mul (pe_ix ix_any (pv 0) pe_int (fun _ _ => rfl)) pe_int) (pv 6)) pa_nil)))))))
      (pss_one (ps_ret (pe_op op_modN (pv 5) (pv 1)))))))))))), ?_⟩
  obtain ⟨sc, ns, i, b, c, d, e, f, hs, hsc, hne, hi, ks, ksc⟩ := hS
  have o1 := (ob_none ks).trans hs
  simp only [o1, hs, cx_K, decide_true, decide_false, reduceCtorEq, gTp, gCons, gNil, ca_0, ca_1, ca_2, ca_3, ca_4, ca_5, ca_6, ca_7, ca_8, ca_9, ca_10, ca_11, ca_12, ca_13, ca_14, ca_15, ca_16, ca_17, ca_18, ca_19, ca_20, ca_21, ca_22, ca_23, ca_24, ca_25, ca_26, ca_27, ca_28, ca_29, ca_30, not_true_eq_false, not_false_eq_true, Int.reduceEq, Nat.reduceEqDiff, Nat.reduceLeDiff, rGcd, V.ty.injEq, eq_self, List.not_mem_nil, beq_self_eq_true, HO.lst.injEq, HO.tup.injEq, tFor_eq, iRng1, iList, iTup, nat10, tSeq, rIxA, rSetA, rIsN, rIsT, tTp, tLs, itsO_tup, itsO_lst, tyO_tup, tyO_lst, tyO_dK, tyN_non, tyN_bl, tyN_int, tyN_str, tyN_ref, tyNs_lt, isB, upd_same, upd_upd, sizeLine_eq, List.mem_cons, String.reduceBEq, String.reduceEq, Bool.or_false, Bool.or_true, Bool.and_false, Bool.false_or, Bool.and_self, Bool.false_and, Bool.not_false, Bool.not_true, List.any_cons, List.any_nil, atI_0, setI_0, atI_1, setI_1, atI_2, setI_2, atI_3, setI_3, atI_4, setI_4, atI_5, setI_5, atI_6, setI_6, tAsg, gName, tOp, tUn, tVar, tC, tCons, L2.tNil, tRet, tIfS, tTest, tCB, tCall, rI, rI0, rU, tNext, tB, tAnd, tOr, tNot, tAndV, tOrV, tNotV, tDrop, tIf, tPar, gSub, rIxL, rIxT, rEq, rNe, rSetL, tBits,
    L2.start, List.map_cons, List.map_nil, List.cons_append, List.nil_append, List.append_nil, List.length_cons, List.length_nil, List.replicate, Nat.reduceAdd, Nat.reduceSub, Nat.zero_add, List.getElem?_cons_zero, List.getElem?_cons_succ, List.set_cons_zero, List.set_cons_succ,
    Option.some.injEq, exists_eq_left', exists_eq_left, V.int.injEq, V.bl.injEq, V.ref.injEq, V.str.injEq, List.cons.injEq, reduceCtorEq, and_true, true_and, false_and, and_false, exists_false, or_false, false_or, or_true, true_or, exists_const, CMul, CDiv, CPow, and_assoc, exists_and_left, exists_and_right, Int.reducePow, Int.reduceNeg, Int.reduceLT, Int.reduceLE, Nat.reducePow, Nat.reduceLT, Int.reduceToNat, gt_iff_lt, ge_iff_le, decide_eq_true_eq, Bool.not_eq_true', decide_eq_false_iff_not, scal, ↓reduceIte, Bool.false_eq_true]
  refine ite2 (fun h2 => ?_) (fun h2 => ?_)
  · exact q 0 H (Int.le_refl 0) (.inr rfl) (Kp.refl _ _) ⟨sc, ns, i, b, c, d, e, f, hs, hsc, hne, hi, ks, ksc⟩
  have S1 := Sr.put (i' := i) (b' := b) (c' := c + 1) (d' := d) (e' := e) (f' := f) (⟨hs, hsc, hne, hi, ks, ksc⟩ : Sr K H s sc ns i b c d e f) hi
  have kp1 : Kp s H (upd H s (.lst [.ref sc, .int i, .int b, .int (c + 1), .int d, .int e, .int f])) := Kp.upd
  generalize upd H s (.lst [.ref sc, .int i, .int b, .int (c + 1), .int d, .int e, .int f]) = H1 at S1 kp1 ⊢
  refine ⟨TakeA K s m H, ?_, ?_⟩
  · obtain ⟨hs, hsc, hne, hi, ks, ksc⟩ := id S1
    have o1 := (ob_none ks).trans hs
    have o2 := (ob_none ksc).trans hsc
    have no : TakeA K s m H [some (.ref s), some (.int m), none, none, none, none, none] H1 := ⟨none, rfl, kp1, _, _, _, _, _, _, _, _, S1⟩
    simp only [o1, o2, hs, List.length_map, cx_K, decide_true, decide_false, reduceCtorEq, gTp, gCons, gNil, ca_0, ca_1, ca_2, ca_3, ca_4, ca_5, ca_6, ca_7, ca_8, ca_9, ca_10, ca_11, ca_12, ca_13, ca_14, ca_15, ca_16, ca_17, ca_18, ca_19, ca_20, ca_21, ca_22, ca_23, ca_24, ca_25, ca_26, ca_27, ca_28, ca_29, ca_30, not_true_eq_false, not_false_eq_true, Int.reduceEq, Nat.reduceEqDiff, Nat.reduceLeDiff, rGcd, V.ty.injEq, eq_self, List.not_mem_nil, beq_self_eq_true, HO.lst.injEq, HO.tup.injEq, tFor_eq, iRng1, iList, iTup, nat10, tSeq, rIxA, rSetA, rIsN, rIsT, tTp, tLs, itsO_tup, itsO_lst, tyO_tup, tyO_lst, tyO_dK, tyN_non, tyN_bl, tyN_int, tyN_str, tyN_ref, tyNs_lt, isB, upd_same, upd_upd, sizeLine_eq, List.mem_cons, String.reduceBEq, String.reduceEq, Bool.or_false, Bool.or_true, Bool.and_false, Bool.false_or, Bool.and_self, Bool.false_and, Bool.not_false, Bool.not_true, List.any_cons, List.any_nil, atI_0, setI_0, atI_1, setI_1, atI_2, setI_2, atI_3, setI_3, atI_4, setI_4, atI_5, setI_5, atI_6, setI_6, tAsg, gName, tOp, tUn, tVar, tC, tCons, L2.tNil, tRet, tIfS, tTest, tCB, tCall, rI, rI0, rU, tNext, tB, tAnd, tOr, tNot, tAndV, tOrV, tNotV, tDrop, tIf, tPar, gSub, rIxL, rIxT, rEq, rNe, rSetL, tBits,
    L2.start, List.map_cons, List.map_nil, List.cons_append, List.nil_append, List.append_nil, List.length_cons, List.length_nil, List.replicate, Nat.reduceAdd, Nat.reduceSub, Nat.zero_add, List.getElem?_cons_zero, List.getElem?_cons_succ, List.set_cons_zero, List.set_cons_succ,
    Option.some.injEq, exists_eq_left', exists_eq_left, V.int.injEq, V.bl.injEq, V.ref.injEq, V.str.injEq, List.cons.injEq, reduceCtorEq, and_true, true_and, false_and, and_false, exists_false, or_false, false_or, or_true, true_or, exists_const, CMul, CDiv, CPow, and_assoc, exists_and_left, exists_and_right, Int.reducePow, Int.reduceNeg, Int.reduceLT, Int.reduceLE, Nat.reducePow, Nat.reduceLT, Int.reduceToNat, gt_iff_lt, ge_iff_le, decide_eq_true_eq, Bool.not_eq_true', decide_eq_false_iff_not, scal, ↓reduceIte, Bool.false_eq_true]
    refine ite2 (fun _ => ?_) (fun _ => no)
    refine ite2 (fun _ => ?_) (fun _ => no)
    refine ite2 (fun hlt => ?_) (fun _ => no)
    obtain ⟨z, hz⟩ := at_ints hi hlt
    simp only [hz, cx_K, decide_true, decide_false, reduceCtorEq, gTp, gCons, gNil, ca_0, ca_1, ca_2, ca_3, ca_4, ca_5, ca_6, ca_7, ca_8, ca_9, ca_10, ca_11, ca_12, ca_13, ca_14, ca_15, ca_16, ca_17, ca_18, ca_19, ca_20, ca_21, ca_22, ca_23, ca_24, ca_25, ca_26, ca_27, ca_28, ca_29, ca_30, not_true_eq_false, not_false_eq_true, Int.reduceEq, Nat.reduceEqDiff, Nat.reduceLeDiff, rGcd, V.ty.injEq, eq_self, List.not_mem_nil, beq_self_eq_true, HO.lst.injEq, HO.tup.injEq, tFor_eq, iRng1, iList, iTup, nat10, tSeq, rIxA, rSetA, rIsN, rIsT, tTp, tLs, itsO_tup, itsO_lst, tyO_tup, tyO_lst, tyO_dK, tyN_non, tyN_bl, tyN_int, tyN_str, tyN_ref, tyNs_lt, isB, upd_same, upd_upd, sizeLine_eq, List.mem_cons, String.reduceBEq, String.reduceEq, Bool.or_false, Bool.or_true, Bool.and_false, Bool.false_or, Bool.and_self, Bool.false_and, Bool.not_false, Bool.not_true, List.any_cons, List.any_nil, atI_0, setI_0, atI_1, setI_1, atI_2, setI_2, atI_3, setI_3, atI_4, setI_4, atI_5, setI_5, atI_6, setI_6, tAsg, gName, tOp, tUn, tVar, tC, tCons, L2.tNil, tRet, tIfS, tTest, tCB, tCall, rI, rI0, rU, tNext, tB, tAnd, tOr, tNot, tAndV, tOrV, tNotV, tDrop, tIf, tPar, gSub, rIxL, rIxT, rEq, rNe, rSetL, tBits,
    L2.start, List.map_cons, List.map_nil, List.cons_append, List.nil_append, List.append_nil, List.length_cons, List.length_nil, List.replicate, Nat.reduceAdd, Nat.reduceSub, Nat.zero_add, List.getElem?_cons_zero, List.getElem?_cons_succ, List.set_cons_zero, List.set_cons_succ,
    Option.some.injEq, exists_eq_left', exists_eq_left, V.int.injEq, V.bl.injEq, V.ref.injEq, V.str.injEq, List.cons.injEq, reduceCtorEq, and_true, true_and, false_and, and_false, exists_false, or_false, false_or, or_true, true_or, exists_const, CMul, CDiv, CPow, and_assoc, exists_and_left, exists_and_right, Int.reducePow, Int.reduceNeg, Int.reduceLT, Int.reduceLE, Nat.reducePow, Nat.reduceLT, Int.reduceToNat, gt_iff_lt, ge_iff_le, decide_eq_true_eq, Bool.not_eq_true', decide_eq_false_iff_not, scal, ↓reduceIte, Bool.false_eq_true]
    refine ite2 (fun _ => ?_) (fun _ => ?_)
    · have S2 := S1.put (i' := i + 1) (b' := b) (c' := c + 1) (d' := d) (e' := 2) (f' := z) (by omega)
      exact ⟨_, rfl, kp1.trans Kp.upd, _, _, _, _, _, _, _, _, S2⟩
    · have S2 := S1.put (i' := i + 1) (b' := if z < 0 then -z else z) (c' := c + 1) (d' := d) (e' := e) (f' := f) (by omega)
      exact ⟨_, rfl, kp1.trans Kp.upd, _, _, _, _, _, _, _, _, S2⟩
  rintro σ' H2 ⟨x, rfl, kp2, sc, ns, i, b, c, d, e, f, S2⟩
  obtain ⟨hs, hsc, hne, hi, ks, ksc⟩ := id S2
  have o1 := (ob_none ks).trans hs
  simp only [o1, hs, cx_K, decide_true, decide_false, reduceCtorEq, gTp, gCons, gNil, ca_0, ca_1, ca_2, ca_3, ca_4, ca_5, ca_6, ca_7, ca_8, ca_9, ca_10, ca_11, ca_12, ca_13, ca_14, ca_15, ca_16, ca_17, ca_18, ca_19, ca_20, ca_21, ca_22, ca_23, ca_24, ca_25, ca_26, ca_27, ca_28, ca_29, ca_30, not_true_eq_false, not_false_eq_true, Int.reduceEq, Nat.reduceEqDiff, Nat.reduceLeDiff, rGcd, V.ty.injEq, eq_self, List.not_mem_nil, beq_self_eq_true, HO.lst.injEq, HO.tup.injEq, tFor_eq, iRng1, iList, iTup, nat10, tSeq, rIxA, rSetA, rIsN, rIsT, tTp, tLs, itsO_tup, itsO_lst, tyO_tup, tyO_lst, tyO_dK, tyN_non, tyN_bl, tyN_int, tyN_str, tyN_ref, tyNs_lt, isB, upd_same, upd_upd, sizeLine_eq, List.mem_cons, String.reduceBEq, String.reduceEq, Bool.or_false, Bool.or_true, Bool.and_false, Bool.false_or, Bool.and_self, Bool.false_and, Bool.not_false, Bool.not_true, List.any_cons, List.any_nil, atI_0, setI_0, atI_1, setI_1, atI_2, setI_2, atI_3, setI_3, atI_4, setI_4, atI_5, setI_5, atI_6, setI_6, tAsg, gName, tOp, tUn, tVar, tC, tCons, L2.tNil, tRet, tIfS, tTest, tCB, tCall, rI, rI0, rU, tNext, tB, tAnd, tOr, tNot, tAndV, tOrV, tNotV, tDrop, tIf, tPar, gSub, rIxL, rIxT, rEq, rNe, rSetL, tBits,
    L2.start, List.map_cons, List.map_nil, List.cons_append, List.nil_append, List.append_nil, List.length_cons, List.length_nil, List.replicate, Nat.reduceAdd, Nat.reduceSub, Nat.zero_add, List.getElem?_cons_zero, List.getElem?_cons_succ, List.set_cons_zero, List.set_cons_succ,
    Option.some.injEq, exists_eq_left', exists_eq_left, V.int.injEq, V.bl.injEq, V.ref.injEq, V.str.injEq, List.cons.injEq, reduceCtorEq, and_true, true_and, false_and, and_false, exists_false, or_false, false_or, or_true, true_or, exists_const, CMul, CDiv, CPow, and_assoc, exists_and_left, exists_and_right, Int.reducePow, Int.reduceNeg, Int.reduceLT, Int.reduceLE, Nat.reducePow, Nat.reduceLT, Int.reduceToNat, gt_iff_lt, ge_iff_le, decide_eq_true_eq, Bool.not_eq_true', decide_eq_false_iff_not, scal, ↓reduceIte, Bool.false_eq_true]
  have hm0 : m ≠ 0 := by omega
  refine ite2 (fun hb => ?_) (fun hb => ?_)
  · have S3 := S2.put (i' := i) (b' := b / m) (c' := c) (d' := d) (e' := e) (f' := f) hi
    refine ⟨hm0, wide_div (b := 200) (by omega) (by omega) (by omega) (by omega), q _ _ ?_ (.inl ?_) (kp2.trans Kp.upd) ⟨_, _, _, _, _, _, _, _, S3⟩⟩
    · rw [Int.fmod_eq_emod_of_nonneg b (by omega)]
      exact Int.emod_nonneg _ hm0
    · rw [Int.fmod_eq_emod_of_nonneg b (by omega)]
      exact Int.emod_lt_of_pos _ (by omega)
  refine ⟨TakeB K s m H, ?_, ?_⟩
  · simp only [o1, hs, cx_K, decide_true, decide_false, reduceCtorEq, gTp, gCons, gNil, ca_0, ca_1, ca_2, ca_3, ca_4, ca_5, ca_6, ca_7, ca_8, ca_9, ca_10, ca_11, ca_12, ca_13, ca_14, ca_15, ca_16, ca_17, ca_18, ca_19, ca_20, ca_21, ca_22, ca_23, ca_24, ca_25, ca_26, ca_27, ca_28, ca_29, ca_30, not_true_eq_false, not_false_eq_true, Int.reduceEq, Nat.reduceEqDiff, Nat.reduceLeDiff, rGcd, V.ty.injEq, eq_self, List.not_mem_nil, beq_self_eq_true, HO.lst.injEq, HO.tup.injEq, tFor_eq, iRng1, iList, iTup, nat10, tSeq, rIxA, rSetA, rIsN, rIsT, tTp, tLs, itsO_tup, itsO_lst, tyO_tup, tyO_lst, tyO_dK, tyN_non, tyN_bl, tyN_int, tyN_str, tyN_ref, tyNs_lt, isB, upd_same, upd_upd, sizeLine_eq, List.mem_cons, String.reduceBEq, String.reduceEq, Bool.or_false, Bool.or_true, Bool.and_false, Bool.false_or, Bool.and_self, Bool.false_and, Bool.not_false, Bool.not_true, List.any_cons, List.any_nil, atI_0, setI_0, atI_1, setI_1, atI_2, setI_2, atI_3, setI_3, atI_4, setI_4, atI_5, setI_5, atI_6, setI_6, tAsg, gName, tOp, tUn, tVar, tC, tCons, L2.tNil, tRet, tIfS, tTest, tCB, tCall, rI, rI0, rU, tNext, tB, tAnd, tOr, tNot, tAndV, tOrV, tNotV, tDrop, tIf, tPar, gSub, rIxL, rIxT, rEq, rNe, rSetL, tBits,
    L2.start, List.map_cons, List.map_nil, List.cons_append, List.nil_append, List.append_nil, List.length_cons, List.length_nil, List.replicate, Nat.reduceAdd, Nat.reduceSub, Nat.zero_add, List.getElem?_cons_zero, List.getElem?_cons_succ, List.set_cons_zero, List.set_cons_succ,
    Option.some.injEq, exists_eq_left', exists_eq_left, V.int.injEq, V.bl.injEq, V.ref.injEq, V.str.injEq, List.cons.injEq, reduceCtorEq, and_true, true_and, false_and, and_false, exists_false, or_false, false_or, or_true, true_or, exists_const, CMul, CDiv, CPow, and_assoc, exists_and_left, exists_and_right, Int.reducePow, Int.reduceNeg, Int.reduceLT, Int.reduceLE, Nat.reducePow, Nat.reduceLT, Int.reduceToNat, gt_iff_lt, ge_iff_le, decide_eq_true_eq, Bool.not_eq_true', decide_eq_false_iff_not, scal, ↓reduceIte, Bool.false_eq_true]
    refine ite2 (fun he => ?_) (fun he => ?_)
    · have S3 := S2.put (i' := i) (b' := b) (c' := c) (d' := d) (e' := e - 1) (f' := f) hi
      have o3 := (ob_none ks).trans S3.1
      simp only [o3, cx_K, decide_true, decide_false, reduceCtorEq, gTp, gCons, gNil, ca_0, ca_1, ca_2, ca_3, ca_4, ca_5, ca_6, ca_7, ca_8, ca_9, ca_10, ca_11, ca_12, ca_13, ca_14, ca_15, ca_16, ca_17, ca_18, ca_19, ca_20, ca_21, ca_22, ca_23, ca_24, ca_25, ca_26, ca_27, ca_28, ca_29, ca_30, not_true_eq_false, not_false_eq_true, Int.reduceEq, Nat.reduceEqDiff, Nat.reduceLeDiff, rGcd, V.ty.injEq, eq_self, List.not_mem_nil, beq_self_eq_true, HO.lst.injEq, HO.tup.injEq, tFor_eq, iRng1, iList, iTup, nat10, tSeq, rIxA, rSetA, rIsN, rIsT, tTp, tLs, itsO_tup, itsO_lst, tyO_tup, tyO_lst, tyO_dK, tyN_non, tyN_bl, tyN_int, tyN_str, tyN_ref, tyNs_lt, isB, upd_same, upd_upd, sizeLine_eq, List.mem_cons, String.reduceBEq, String.reduceEq, Bool.or_false, Bool.or_true, Bool.and_false, Bool.false_or, Bool.and_self, Bool.false_and, Bool.not_false, Bool.not_true, List.any_cons, List.any_nil, atI_0, setI_0, atI_1, setI_1, atI_2, setI_2, atI_3, setI_3, atI_4, setI_4, atI_5, setI_5, atI_6, setI_6, tAsg, gName, tOp, tUn, tVar, tC, tCons, L2.tNil, tRet, tIfS, tTest, tCB, tCall, rI, rI0, rU, tNext, tB, tAnd, tOr, tNot, tAndV, tOrV, tNotV, tDrop, tIf, tPar, gSub, rIxL, rIxT, rEq, rNe, rSetL, tBits,
    L2.start, List.map_cons, List.map_nil, List.cons_append, List.nil_append, List.append_nil, List.length_cons, List.length_nil, List.replicate, Nat.reduceAdd, Nat.reduceSub, Nat.zero_add, List.getElem?_cons_zero, List.getElem?_cons_succ, List.set_cons_zero, List.set_cons_succ,
    Option.some.injEq, exists_eq_left', exists_eq_left, V.int.injEq, V.bl.injEq, V.ref.injEq, V.str.injEq, List.cons.injEq, reduceCtorEq, and_true, true_and, false_and, and_false, exists_false, or_false, false_or, or_true, true_or, exists_const, CMul, CDiv, CPow, and_assoc, exists_and_left, exists_and_right, Int.reducePow, Int.reduceNeg, Int.reduceLT, Int.reduceLE, Nat.reducePow, Nat.reduceLT, Int.reduceToNat, gt_iff_lt, ge_iff_le, decide_eq_true_eq, Bool.not_eq_true', decide_eq_false_iff_not, scal, ↓reduceIte, Bool.false_eq_true]
      exact ⟨_, _, rfl, kp2.trans Kp.upd, _, _, _, _, _, _, _, _, S3⟩
    · exact ⟨_, _, rfl, kp2, _, _, _, _, _, _, _, _, S2⟩
  rintro σ' H3 ⟨x, n, rfl, kp3, sc, ns, i, b, c, d, e, f, S3⟩
  obtain ⟨hs, hsc, hne, hi, ks, ksc⟩ := id S3
  have o1 := (ob_none ks).trans hs
  simp only [o1, hs, cx_K, decide_true, decide_false, reduceCtorEq, gTp, gCons, gNil, ca_0, ca_1, ca_2, ca_3, ca_4, ca_5, ca_6, ca_7, ca_8, ca_9, ca_10, ca_11, ca_12, ca_13, ca_14, ca_15, ca_16, ca_17, ca_18, ca_19, ca_20, ca_21, ca_22, ca_23, ca_24, ca_25, ca_26, ca_27, ca_28, ca_29, ca_30, not_true_eq_false, not_false_eq_true, Int.reduceEq, Nat.reduceEqDiff, Nat.reduceLeDiff, rGcd, V.ty.injEq, eq_self, List.not_mem_nil, beq_self_eq_true, HO.lst.injEq, HO.tup.injEq, tFor_eq, iRng1, iList, iTup, nat10, tSeq, rIxA, rSetA, rIsN, rIsT, tTp, tLs, itsO_tup, itsO_lst, tyO_tup, tyO_lst, tyO_dK, tyN_non, tyN_bl, tyN_int, tyN_str, tyN_ref, tyNs_lt, isB, upd_same, upd_upd, sizeLine_eq, List.mem_cons, String.reduceBEq, String.reduceEq, Bool.or_false, Bool.or_true, Bool.and_false, Bool.false_or, Bool.and_self, Bool.false_and, Bool.not_false, Bool.not_true, List.any_cons, List.any_nil, atI_0, setI_0, atI_1, setI_1, atI_2, setI_2, atI_3, setI_3, atI_4, setI_4, atI_5, setI_5, atI_6, setI_6, tAsg, gName, tOp, tUn, tVar, tC, tCons, L2.tNil, tRet, tIfS, tTest, tCB, tCall, rI, rI0, rU, tNext, tB, tAnd, tOr, tNot, tAndV, tOrV, tNotV, tDrop, tIf, tPar, gSub, rIxL, rIxT, rEq, rNe, rSetL, tBits,
    L2.start, List.map_cons, List.map_nil, List.cons_append, List.nil_append, List.append_nil, List.length_cons, List.length_nil, List.replicate, Nat.reduceAdd, Nat.reduceSub, Nat.zero_add, List.getElem?_cons_zero, List.getElem?_cons_succ, List.set_cons_zero, List.set_cons_succ,
    Option.some.injEq, exists_eq_left', exists_eq_left, V.int.injEq, V.bl.injEq, V.ref.injEq, V.str.injEq, List.cons.injEq, reduceCtorEq, and_true, true_and, false_and, and_false, exists_false, or_false, false_or, or_true, true_or, exists_const, CMul, CDiv, CPow, and_assoc, exists_and_left, exists_and_right, Int.reducePow, Int.reduceNeg, Int.reduceLT, Int.reduceLE, Nat.reducePow, Nat.reduceLT, Int.reduceToNat, gt_iff_lt, ge_iff_le, decide_eq_true_eq, Bool.not_eq_true', decide_eq_false_iff_not, scal, ↓reduceIte, Bool.false_eq_true]
  have hbits : Builtin.Int.intBits m ≤ 200 := bits_le (by omega)
  refine ⟨by omega, by omega, forI_range (TakeC s m x n H3) ⟨0, none, rfl, rfl⟩ ?_ ?_⟩
  · rintro k σ H' hk ⟨v, y, rfl, rfl⟩
    simp only [o1, hs, cx_K, decide_true, decide_false, reduceCtorEq, gTp, gCons, gNil, ca_0, ca_1, ca_2, ca_3, ca_4, ca_5, ca_6, ca_7, ca_8, ca_9, ca_10, ca_11, ca_12, ca_13, ca_14, ca_15, ca_16, ca_17, ca_18, ca_19, ca_20, ca_21, ca_22, ca_23, ca_24, ca_25, ca_26, ca_27, ca_28, ca_29, ca_30, not_true_eq_false, not_false_eq_true, Int.reduceEq, Nat.reduceEqDiff, Nat.reduceLeDiff, rGcd, V.ty.injEq, eq_self, List.not_mem_nil, beq_self_eq_true, HO.lst.injEq, HO.tup.injEq, tFor_eq, iRng1, iList, iTup, nat10, tSeq, rIxA, rSetA, rIsN, rIsT, tTp, tLs, itsO_tup, itsO_lst, tyO_tup, tyO_lst, tyO_dK, tyN_non, tyN_bl, tyN_int, tyN_str, tyN_ref, tyNs_lt, isB, upd_same, upd_upd, sizeLine_eq, List.mem_cons, String.reduceBEq, String.reduceEq, Bool.or_false, Bool.or_true, Bool.and_false, Bool.false_or, Bool.and_self, Bool.false_and, Bool.not_false, Bool.not_true, List.any_cons, List.any_nil, atI_0, setI_0, atI_1, setI_1, atI_2, setI_2, atI_3, setI_3, atI_4, setI_4, atI_5, setI_5, atI_6, setI_6, tAsg, gName, tOp, tUn, tVar, tC, tCons, L2.tNil, tRet, tIfS, tTest, tCB, tCall, rI, rI0, rU, tNext, tB, tAnd, tOr, tNot, tAndV, tOrV, tNotV, tDrop, tIf, tPar, gSub, rIxL, rIxT, rEq, rNe, rSetL, tBits,
    L2.start, List.map_cons, List.map_nil, List.cons_append, List.nil_append, List.append_nil, List.length_cons, List.length_nil, List.replicate, Nat.reduceAdd, Nat.reduceSub, Nat.zero_add, List.getElem?_cons_zero, List.getElem?_cons_succ, List.set_cons_zero, List.set_cons_succ,
    Option.some.injEq, exists_eq_left', exists_eq_left, V.int.injEq, V.bl.injEq, V.ref.injEq, V.str.injEq, List.cons.injEq, reduceCtorEq, and_true, true_and, false_and, and_false, exists_false, or_false, false_or, or_true, true_or, exists_const, CMul, CDiv, CPow, and_assoc, exists_and_left, exists_and_right, Int.reducePow, Int.reduceNeg, Int.reduceLT, Int.reduceLE, Nat.reducePow, Nat.reduceLT, Int.reduceToNat, gt_iff_lt, ge_iff_le, decide_eq_true_eq, Bool.not_eq_true', decide_eq_false_iff_not, scal, ↓reduceIte, Bool.false_eq_true]
    refine ⟨_, _, rfl, fun r => ?_⟩
    simp only [cx_K, decide_true, decide_false, reduceCtorEq, gTp, gCons, gNil, ca_0, ca_1, ca_2, ca_3, ca_4, ca_5, ca_6, ca_7, ca_8, ca_9, ca_10, ca_11, ca_12, ca_13, ca_14, ca_15, ca_16, ca_17, ca_18, ca_19, ca_20, ca_21, ca_22, ca_23, ca_24, ca_25, ca_26, ca_27, ca_28, ca_29, ca_30, not_true_eq_false, not_false_eq_true, Int.reduceEq, Nat.reduceEqDiff, Nat.reduceLeDiff, rGcd, V.ty.injEq, eq_self, List.not_mem_nil, beq_self_eq_true, HO.lst.injEq, HO.tup.injEq, tFor_eq, iRng1, iList, iTup, nat10, tSeq, rIxA, rSetA, rIsN, rIsT, tTp, tLs, itsO_tup, itsO_lst, tyO_tup, tyO_lst, tyO_dK, tyN_non, tyN_bl, tyN_int, tyN_str, tyN_ref, tyNs_lt, isB, upd_same, upd_upd, sizeLine_eq, List.mem_cons, String.reduceBEq, String.reduceEq, Bool.or_false, Bool.or_true, Bool.and_false, Bool.false_or, Bool.and_self, Bool.false_and, Bool.not_false, Bool.not_true, List.any_cons, List.any_nil, atI_0, setI_0, atI_1, setI_1, atI_2, setI_2, atI_3, setI_3, atI_4, setI_4, atI_5, setI_5, atI_6, setI_6, tAsg, gName, tOp, tUn, tVar, tC, tCons, L2.tNil, tRet, tIfS, tTest, tCB, tCall, rI, rI0, rU, tNext, tB, tAnd, tOr, tNot, tAndV, tOrV, tNotV, tDrop, tIf, tPar, gSub, rIxL, rIxT, rEq, rNe, rSetL, tBits,
    L2.start, List.map_cons, List.map_nil, List.cons_append, List.nil_append, List.append_nil, List.length_cons, List.length_nil, List.replicate, Nat.reduceAdd, Nat.reduceSub, Nat.zero_add, List.getElem?_cons_zero, List.getElem?_cons_succ, List.set_cons_zero, List.set_cons_succ,
    Option.some.injEq, exists_eq_left', exists_eq_left, V.int.injEq, V.bl.injEq, V.ref.injEq, V.str.injEq, List.cons.injEq, reduceCtorEq, and_true, true_and, false_and, and_false, exists_false, or_false, false_or, or_true, true_or, exists_const, CMul, CDiv, CPow, and_assoc, exists_and_left, exists_and_right, Int.reducePow, Int.reduceNeg, Int.reduceLT, Int.reduceLE, Nat.reducePow, Nat.reduceLT, Int.reduceToNat, gt_iff_lt, ge_iff_le, decide_eq_true_eq, Bool.not_eq_true', decide_eq_false_iff_not, scal, ↓reduceIte, Bool.false_eq_true]
    exact ⟨_, _, rfl, rfl⟩
  · rintro σ H' ⟨v, y, rfl, rfl⟩
    simp only [cx_K, decide_true, decide_false, reduceCtorEq, gTp, gCons, gNil, ca_0, ca_1, ca_2, ca_3, ca_4, ca_5, ca_6, ca_7, ca_8, ca_9, ca_10, ca_11, ca_12, ca_13, ca_14, ca_15, ca_16, ca_17, ca_18, ca_19, ca_20, ca_21, ca_22, ca_23, ca_24, ca_25, ca_26, ca_27, ca_28, ca_29, ca_30, not_true_eq_false, not_false_eq_true, Int.reduceEq, Nat.reduceEqDiff, Nat.reduceLeDiff, rGcd, V.ty.injEq, eq_self, List.not_mem_nil, beq_self_eq_true, HO.lst.injEq, HO.tup.injEq, tFor_eq, iRng1, iList, iTup, nat10, tSeq, rIxA, rSetA, rIsN, rIsT, tTp, tLs, itsO_tup, itsO_lst, tyO_tup, tyO_lst, tyO_dK, tyN_non, tyN_bl, tyN_int, tyN_str, tyN_ref, tyNs_lt, isB, upd_same, upd_upd, sizeLine_eq, List.mem_cons, String.reduceBEq, String.reduceEq, Bool.or_false, Bool.or_true, Bool.and_false, Bool.false_or, Bool.and_self, Bool.false_and, Bool.not_false, Bool.not_true, List.any_cons, List.any_nil, atI_0, setI_0, atI_1, setI_1, atI_2, setI_2, atI_3, setI_3, atI_4, setI_4, atI_5, setI_5, atI_6, setI_6, tAsg, gName, tOp, tUn, tVar, tC, tCons, L2.tNil, tRet, tIfS, tTest, tCB, tCall, rI, rI0, rU, tNext, tB, tAnd, tOr, tNot, tAndV, tOrV, tNotV, tDrop, tIf, tPar, gSub, rIxL, rIxT, rEq, rNe, rSetL, tBits,
    L2.start, List.map_cons, List.map_nil, List.cons_append, List.nil_append, List.append_nil, List.length_cons, List.length_nil, List.replicate, Nat.reduceAdd, Nat.reduceSub, Nat.zero_add, List.getElem?_cons_zero, List.getElem?_cons_succ, List.set_cons_zero, List.set_cons_succ,
    Option.some.injEq, exists_eq_left', exists_eq_left, V.int.injEq, V.bl.injEq, V.ref.injEq, V.str.injEq, List.cons.injEq, reduceCtorEq, and_true, true_and, false_and, and_false, exists_false, or_false, false_or, or_true, true_or, exists_const, CMul, CDiv, CPow, and_assoc, exists_and_left, exists_and_right, Int.reducePow, Int.reduceNeg, Int.reduceLT, Int.reduceLE, Nat.reducePow, Nat.reduceLT, Int.reduceToNat, gt_iff_lt, ge_iff_le, decide_eq_true_eq, Bool.not_eq_true', decide_eq_false_iff_not, scal, ↓reduceIte, Bool.false_eq_true]
    refine ⟨hm0, q _ _ ?_ (.inl ?_) kp3 ⟨_, _, _, _, _, _, _, _, S3⟩⟩
    · rw [Int.fmod_eq_emod_of_nonneg v (by omega)]
      exact Int.emod_nonneg _ hm0
    · rw [Int.fmod_eq_emod_of_nonneg v (by omega)]
      exact Int.emod_lt_of_pos _ (by omega)
end
end My

namespace My
open PySem PySem.Spec PyProof.Rows L2
section
variable {P : Program} {w : World} {K : PySem.W.Frag} {mg : Str → Option Value} {base : Heap}
theorem abs_if (n : Int) : (if n < 0 then -n else n) = (n.natAbs : Int) := by split <;> omega
def spGcd : Sp := fun vs H Q _ => ∃ a b : Int, vs = [.int a, .int b] ∧ Q (.int ((Int.gcd a b : Nat) : Int)) H
def GcdW (a b : Int) (H : Hp) (σ : L2.St) (H' : Hp) : Prop := ∃ l r : Int, σ = [some (.int l), some (.int r)] ∧ H' = H ∧ 0 ≤ l ∧ 0 ≤ r ∧ Int.gcd l r = Int.gcd a b
def GcdM (σ : L2.St) (_ : Hp) : Nat := match σ with
  | [_, some (.int r)] => r.toNat
  | _ => 0
abbrev sGcd : Stmt := topS 35
theorem scGcd : FnScope ["_law_left", "_law_right"] ["_law_left", "_law_right"] (defScope sGcd) := ⟨rfl, rfl, rfl, by decide +kernel, rfl, by decide +kernel, by decide +kernel⟩
theorem k_Gcd (T : Bt K mg) (D : Dfn K mg "_law_gcd" sGcd ["_law_left", "_law_right"]) : Kn P w K mg base 1 "_law_gcd" ["_law_left", "_law_right"] spGcd := by
  refine Kn.mk' D scGcd (fun vs H Q E h => ?_) (fun f cdv A outer s H vs Q E hr h => ?_)
  · obtain ⟨a, b, rfl, _⟩ := h
    rfl
  obtain ⟨a, b, rfl, q⟩ := h
  refine ⟨_, (pss_cons (ps_set (i := 0) scGcd.nd rfl (.inl rfl) (pe_callB call_abs (by rfl) T.b_abs (by decide +kernel) (pa_cons (pv 0) pa_nil)))
      (pss_cons (ps_set (i := 1) scGcd.nd rfl (.inl rfl) (pe_callB call_abs (by rfl) T.b_abs (by decide +kernel) (pa_cons (pv 1) pa_nil)))
      (pss_cons (ps_while PassesOwn.never (pt_cmpR op_gt (pv 1) pe_int (nomark _)) (pss_one (ps_par (i := 0) (j := 1) (by rfl) scGcd.nd rfl rfl (by decide) rfl rfl (pa_cons (pv 1) (pa_cons (pe_op op_modN (pe_callTy call_int1 (by rfl) T.b_int (by decide +kernel) (pa_cons (pv 0) pa_nil)) (pv 1)) pa_nil)) (by rfl))))
      (pss_one (ps_ret (pv 0)))))), ?_⟩
  simp only [abs_if, cx_K, decide_true, decide_false, reduceCtorEq, gTp, gCons, gNil, ca_0, ca_1, ca_2, ca_3, ca_4, ca_5, ca_6, ca_7, ca_8, ca_9, ca_10, ca_11, ca_12, ca_13, ca_14, ca_15, ca_16, ca_17, ca_18, ca_19, ca_20, ca_21, ca_22, ca_23, ca_24, ca_25, ca_26, ca_27, ca_28, ca_29, ca_30, not_true_eq_false, not_false_eq_true, Int.reduceEq, Nat.reduceEqDiff, Nat.reduceLeDiff, rGcd, V.ty.injEq, eq_self, List.not_mem_nil, beq_self_eq_true, HO.lst.injEq, HO.tup.injEq, tFor_eq, iRng1, iList, iTup, nat10, tSeq, rIxA, rSetA, rIsN, rIsT, tTp, tLs, itsO_tup, itsO_lst, tyO_tup, tyO_lst, tyO_dK, tyN_non, tyN_bl, tyN_int, tyN_str, tyN_ref, tyNs_lt, isB, upd_same, upd_upd, sizeLine_eq, List.mem_cons, String.reduceBEq, String.reduceEq, Bool.or_false, Bool.or_true, Bool.and_false, Bool.false_or, Bool.and_self, Bool.false_and, Bool.not_false, Bool.not_true, List.any_cons, List.any_nil, atI_0, setI_0, atI_1, setI_1, atI_2, setI_2, atI_3, setI_3, atI_4, setI_4, atI_5, setI_5, atI_6, setI_6, tAsg, gName, tOp, tUn, tVar, tC, tCons, L2.tNil, tRet, tIfS, tTest, tCB, tCall, rI, rI0, rU, tNext, tB, tAnd, tOr, tNot, tAndV, tOrV, tNotV, tDrop, tIf, tPar, gSub, rIxL, rIxT, rEq, rNe, rSetL, tBits,
    L2.start, List.map_cons, List.map_nil, List.cons_append, List.nil_append, List.append_nil, List.length_cons, List.length_nil, List.replicate, Nat.reduceAdd, Nat.reduceSub, Nat.zero_add, List.getElem?_cons_zero, List.getElem?_cons_succ, List.set_cons_zero, List.set_cons_succ,
    Option.some.injEq, exists_eq_left', exists_eq_left, V.int.injEq, V.bl.injEq, V.ref.injEq, V.str.injEq, List.cons.injEq, reduceCtorEq, and_true, true_and, false_and, and_false, exists_false, or_false, false_or, or_true, true_or, exists_const, CMul, CDiv, CPow, and_assoc, exists_and_left, exists_and_right, Int.reducePow, Int.reduceNeg, Int.reduceLT, Int.reduceLE, Nat.reducePow, Nat.reduceLT, Int.reduceToNat, gt_iff_lt, ge_iff_le, decide_eq_true_eq, Bool.not_eq_true', decide_eq_false_iff_not, scal, ↓reduceIte, Bool.false_eq_true]
  refine while_by (GcdW a b H) GcdM ⟨_, _, rfl, rfl, by omega, by omega, rfl⟩ ?_ ?_
  · rintro σ H' ⟨l, r, rfl, rfl, hl, hr, e⟩
    simp only [cx_K, decide_true, decide_false, reduceCtorEq, gTp, gCons, gNil, ca_0, ca_1, ca_2, ca_3, ca_4, ca_5, ca_6, ca_7, ca_8, ca_9, ca_10, ca_11, ca_12, ca_13, ca_14, ca_15, ca_16, ca_17, ca_18, ca_19, ca_20, ca_21, ca_22, ca_23, ca_24, ca_25, ca_26, ca_27, ca_28, ca_29, ca_30, not_true_eq_false, not_false_eq_true, Int.reduceEq, Nat.reduceEqDiff, Nat.reduceLeDiff, rGcd, V.ty.injEq, eq_self, List.not_mem_nil, beq_self_eq_true, HO.lst.injEq, HO.tup.injEq, tFor_eq, iRng1, iList, iTup, nat10, tSeq, rIxA, rSetA, rIsN, rIsT, tTp, tLs, itsO_tup, itsO_lst, tyO_tup, tyO_lst, tyO_dK, tyN_non, tyN_bl, tyN_int, tyN_str, tyN_ref, tyNs_lt, isB, upd_same, upd_upd, sizeLine_eq, List.mem_cons, String.reduceBEq, String.reduceEq, Bool.or_false, Bool.or_true, Bool.and_false, Bool.false_or, Bool.and_self, Bool.false_and, Bool.not_false, Bool.not_true, List.any_cons, List.any_nil, atI_0, setI_0, atI_1, setI_1, atI_2, setI_2, atI_3, setI_3, atI_4, setI_4, atI_5, setI_5, atI_6, setI_6, tAsg, gName, tOp, tUn, tVar, tC, tCons, L2.tNil, tRet, tIfS, tTest, tCB, tCall, rI, rI0, rU, tNext, tB, tAnd, tOr, tNot, tAndV, tOrV, tNotV, tDrop, tIf, tPar, gSub, rIxL, rIxT, rEq, rNe, rSetL, tBits,
    L2.start, List.map_cons, List.map_nil, List.cons_append, List.nil_append, List.append_nil, List.length_cons, List.length_nil, List.replicate, Nat.reduceAdd, Nat.reduceSub, Nat.zero_add, List.getElem?_cons_zero, List.getElem?_cons_succ, List.set_cons_zero, List.set_cons_succ,
    Option.some.injEq, exists_eq_left', exists_eq_left, V.int.injEq, V.bl.injEq, V.ref.injEq, V.str.injEq, List.cons.injEq, reduceCtorEq, and_true, true_and, false_and, and_false, exists_false, or_false, false_or, or_true, true_or, exists_const, CMul, CDiv, CPow, and_assoc, exists_and_left, exists_and_right, Int.reducePow, Int.reduceNeg, Int.reduceLT, Int.reduceLE, Nat.reducePow, Nat.reduceLT, Int.reduceToNat, gt_iff_lt, ge_iff_le, decide_eq_true_eq, Bool.not_eq_true', decide_eq_false_iff_not, scal, ↓reduceIte, Bool.false_eq_true]
    refine ite2 (fun h => ?_) (fun h => ?_)
    · refine ⟨by omega, ⟨_, _, rfl, rfl, hr, ?_, ?_⟩, ?_⟩
      · rw [Int.fmod_eq_emod_of_nonneg l hr]
        exact Int.emod_nonneg _ (by omega)
      · rw [Int.fmod_eq_emod_of_nonneg l hr, ← e]
        show Nat.gcd r.natAbs (l % r).natAbs = Nat.gcd l.natAbs r.natAbs
        rw [Int.natAbs_emod_of_nonneg hl, Nat.gcd_comm l.natAbs, Nat.gcd_rec r.natAbs l.natAbs, Nat.gcd_comm]
      · show (l.fmod r).toNat < r.toNat
        rw [Int.fmod_eq_emod_of_nonneg l hr]
        have := Int.emod_lt_of_pos l h
        omega
    · have hr0 : r = 0 := by omega
      subst hr0
      have e2 : l = ((Int.gcd a b : Nat) : Int) := by
        rw [← e, Int.gcd_zero_right]
        omega
      rw [e2]
      exact q
  · rintro σ H' Q' Q2 hq ⟨v, e, i, j, h1, h2, k, ek, h⟩
    exact ⟨v, e, i, j, h1, h2, k, ek, hq _ _ h⟩
/-- the law's own lowest terms; 0 beneath gives 0 -/
def Lw (q : Qt) (t b : Int) : Prop := (b = 0 → q = (0, 1)) ∧ (b ≠ 0 → Is q t b)
/-- hands back a fraction, all else as it was -/
def Gv (K : PySem.W.Frag) (H : Hp) (Q : VK) (q : Qt) : Prop := ∀ (p : Addr) (H' : Hp), Same H H' → ob K H' p = some (frt q) → Q (.ref p) H'
theorem Gv.new {K : PySem.W.Frag} {H : Hp} {Q : VK} {q : Qt} (h : Gv K H Q q) {p : Addr} (hp : H p = none) (kp : K.lookup p = none) : Q (.ref p) (upd H p (.tup [.int q.1, .int q.2])) := h p _ (Same.new hp _) (ob_new kp)
def spLowest (K : PySem.W.Frag) : Sp := fun vs H Q _ => ∃ t b : Int, vs = [.int t, .int b] ∧ b.natAbs < 2 ^ 8000 ∧ ∀ q, Lw q t b → Gv K H Q q
abbrev sLowest : Stmt := topS 36
theorem scLowest : FnScope ["_law_top", "_law_bottom", "_law_common"] ["_law_top", "_law_bottom"] (defScope sLowest) := ⟨rfl, rfl, rfl, by decide +kernel, rfl, by decide +kernel, by decide +kernel⟩
theorem k_Lowest (T : Bt K mg) (D : Dfn K mg "_law_lowest" sLowest ["_law_top", "_law_bottom"]) (d__law_gcd : Kn P w K mg base 1 "_law_gcd" ["_law_left", "_law_right"] spGcd) : Kn P w K mg base 2 "_law_lowest" ["_law_top", "_law_bottom"] (spLowest K) := by
  refine Kn.mk' D scLowest (fun vs H Q E h => ?_) (fun f cdv A outer s H vs Q E hr h => ?_)
  · obtain ⟨t, b, rfl, _⟩ := h
    rfl
  obtain ⟨t, b, rfl, hz, q⟩ := h
  refine ⟨_, (pss_cons (ps_if (pt_cmpR op_eq (pv 1) pe_int (nomark _)) (pss_one (ps_ret (pe_tp (pa_cons pe_int (pa_cons pe_int pa_nil))))) pss_nil)
      (pss_cons (ps_if (pt_cmpR op_lt (pv 1) pe_int (nomark _)) (pss_cons (ps_set (i := 0) scLowest.nd rfl (.inl rfl) (pe_un un_neg (pv 0)))
      (pss_one (ps_set (i := 1) scLowest.nd rfl (.inl rfl) (pe_un un_neg (pv 1))))) pss_nil)
      (pss_cons (ps_set (i := 2) scLowest.nd rfl (.inl rfl) (pe_kn d__law_gcd hr (by rfl) (pa_cons (pv 0) (pa_cons (pv 1) pa_nil))))
      (pss_one (ps_ret (pe_tp (pa_cons (pe_op op_fdivW (pv 0) (pv 2)) (pa_cons (pe_op op_fdivW (pv 1) (pv 2)) pa_nil)))))))), ?_⟩
  simp only [cx_K, decide_true, decide_false, reduceCtorEq, gTp, gCons, gNil, ca_0, ca_1, ca_2, ca_3, ca_4, ca_5, ca_6, ca_7, ca_8, ca_9, ca_10, ca_11, ca_12, ca_13, ca_14, ca_15, ca_16, ca_17, ca_18, ca_19, ca_20, ca_21, ca_22, ca_23, ca_24, ca_25, ca_26, ca_27, ca_28, ca_29, ca_30, not_true_eq_false, not_false_eq_true, Int.reduceEq, Nat.reduceEqDiff, Nat.reduceLeDiff, rGcd, V.ty.injEq, eq_self, List.not_mem_nil, beq_self_eq_true, HO.lst.injEq, HO.tup.injEq, tFor_eq, iRng1, iList, iTup, nat10, tSeq, rIxA, rSetA, rIsN, rIsT, tTp, tLs, itsO_tup, itsO_lst, tyO_tup, tyO_lst, tyO_dK, tyN_non, tyN_bl, tyN_int, tyN_str, tyN_ref, tyNs_lt, isB, upd_same, upd_upd, sizeLine_eq, List.mem_cons, String.reduceBEq, String.reduceEq, Bool.or_false, Bool.or_true, Bool.and_false, Bool.false_or, Bool.and_self, Bool.false_and, Bool.not_false, Bool.not_true, List.any_cons, List.any_nil, atI_0, setI_0, atI_1, setI_1, atI_2, setI_2, atI_3, setI_3, atI_4, setI_4, atI_5, setI_5, atI_6, setI_6, tAsg, gName, tOp, tUn, tVar, tC, tCons, L2.tNil, tRet, tIfS, tTest, tCB, tCall, rI, rI0, rU, tNext, tB, tAnd, tOr, tNot, tAndV, tOrV, tNotV, tDrop, tIf, tPar, gSub, rIxL, rIxT, rEq, rNe, rSetL, tBits,
    L2.start, List.map_cons, List.map_nil, List.cons_append, List.nil_append, List.append_nil, List.length_cons, List.length_nil, List.replicate, Nat.reduceAdd, Nat.reduceSub, Nat.zero_add, List.getElem?_cons_zero, List.getElem?_cons_succ, List.set_cons_zero, List.set_cons_succ,
    Option.some.injEq, exists_eq_left', exists_eq_left, V.int.injEq, V.bl.injEq, V.ref.injEq, V.str.injEq, List.cons.injEq, reduceCtorEq, and_true, true_and, false_and, and_false, exists_false, or_false, false_or, or_true, true_or, exists_const, CMul, CDiv, CPow, and_assoc, exists_and_left, exists_and_right, Int.reducePow, Int.reduceNeg, Int.reduceLT, Int.reduceLE, Nat.reducePow, Nat.reduceLT, Int.reduceToNat, gt_iff_lt, ge_iff_le, decide_eq_true_eq, Bool.not_eq_true', decide_eq_false_iff_not, scal, ↓reduceIte, Bool.false_eq_true]
  refine ite2 (fun h => ?_) (fun h => ?_)
  · exact fun p hp kp => (q (0, 1) ⟨fun _ => rfl, fun z => absurd h z⟩).new hp kp
  have key : ∀ t' b' : Int, 0 < b' → b'.natAbs < 2 ^ 8000 → (∀ q, Is q t' b' → Gv K H Q q) → CDivW t' ((Int.gcd t' b' : Nat) : Int) ∧ CDivW b' ((Int.gcd t' b' : Nat) : Int) ∧ ∀ p, H p = none → K.lookup p = none → Q (.ref p) (upd H p (.tup [.int (t' / ((Int.gcd t' b' : Nat) : Int)), .int (b' / ((Int.gcd t' b' : Nat) : Int))])) := fun t' b' h0 hz hq => by
    have g0 := gcd_pos (t := t') (b := b') (by omega)
    have g1 := gcd_le (t := t') (b := b') (by omega)
    have g2 : ((Int.gcd t' b' : Nat) : Int).natAbs < 2 ^ 8000 := by rw [Int.natAbs_natCast]; omega
    exact ⟨wide_div (b := 8000) (by omega) g2 (by omega) (by omega), wide_div (b := 8000) (by omega) g2 (by omega) (by omega), fun p hp kp => (hq _ (is_div h0)).new hp kp⟩
  refine ite2 (fun hb => ?_) (fun hb => ?_)
  · have k := key (-t) (-b) (by omega) (by rw [Int.natAbs_neg]; exact hz) fun z hz => q z ⟨fun e => absurd e h, fun _ => is_neg hz⟩
    refine ⟨_, _, rfl, ?_⟩
    simp only [cx_K, decide_true, decide_false, reduceCtorEq, gTp, gCons, gNil, ca_0, ca_1, ca_2, ca_3, ca_4, ca_5, ca_6, ca_7, ca_8, ca_9, ca_10, ca_11, ca_12, ca_13, ca_14, ca_15, ca_16, ca_17, ca_18, ca_19, ca_20, ca_21, ca_22, ca_23, ca_24, ca_25, ca_26, ca_27, ca_28, ca_29, ca_30, not_true_eq_false, not_false_eq_true, Int.reduceEq, Nat.reduceEqDiff, Nat.reduceLeDiff, rGcd, V.ty.injEq, eq_self, List.not_mem_nil, beq_self_eq_true, HO.lst.injEq, HO.tup.injEq, tFor_eq, iRng1, iList, iTup, nat10, tSeq, rIxA, rSetA, rIsN, rIsT, tTp, tLs, itsO_tup, itsO_lst, tyO_tup, tyO_lst, tyO_dK, tyN_non, tyN_bl, tyN_int, tyN_str, tyN_ref, tyNs_lt, isB, upd_same, upd_upd, sizeLine_eq, List.mem_cons, String.reduceBEq, String.reduceEq, Bool.or_false, Bool.or_true, Bool.and_false, Bool.false_or, Bool.and_self, Bool.false_and, Bool.not_false, Bool.not_true, List.any_cons, List.any_nil, atI_0, setI_0, atI_1, setI_1, atI_2, setI_2, atI_3, setI_3, atI_4, setI_4, atI_5, setI_5, atI_6, setI_6, tAsg, gName, tOp, tUn, tVar, tC, tCons, L2.tNil, tRet, tIfS, tTest, tCB, tCall, rI, rI0, rU, tNext, tB, tAnd, tOr, tNot, tAndV, tOrV, tNotV, tDrop, tIf, tPar, gSub, rIxL, rIxT, rEq, rNe, rSetL, tBits,
    L2.start, List.map_cons, List.map_nil, List.cons_append, List.nil_append, List.append_nil, List.length_cons, List.length_nil, List.replicate, Nat.reduceAdd, Nat.reduceSub, Nat.zero_add, List.getElem?_cons_zero, List.getElem?_cons_succ, List.set_cons_zero, List.set_cons_succ,
    Option.some.injEq, exists_eq_left', exists_eq_left, V.int.injEq, V.bl.injEq, V.ref.injEq, V.str.injEq, List.cons.injEq, reduceCtorEq, and_true, true_and, false_and, and_false, exists_false, or_false, false_or, or_true, true_or, exists_const, CMul, CDiv, CPow, and_assoc, exists_and_left, exists_and_right, Int.reducePow, Int.reduceNeg, Int.reduceLT, Int.reduceLE, Nat.reducePow, Nat.reduceLT, Int.reduceToNat, gt_iff_lt, ge_iff_le, decide_eq_true_eq, Bool.not_eq_true', decide_eq_false_iff_not, scal, ↓reduceIte, Bool.false_eq_true]
    exact k
  · have k := key t b (by omega) hz fun z hz => q z ⟨fun e => absurd e h, fun _ => hz⟩
    refine ⟨_, _, rfl, ?_⟩
    simp only [cx_K, decide_true, decide_false, reduceCtorEq, gTp, gCons, gNil, ca_0, ca_1, ca_2, ca_3, ca_4, ca_5, ca_6, ca_7, ca_8, ca_9, ca_10, ca_11, ca_12, ca_13, ca_14, ca_15, ca_16, ca_17, ca_18, ca_19, ca_20, ca_21, ca_22, ca_23, ca_24, ca_25, ca_26, ca_27, ca_28, ca_29, ca_30, not_true_eq_false, not_false_eq_true, Int.reduceEq, Nat.reduceEqDiff, Nat.reduceLeDiff, rGcd, V.ty.injEq, eq_self, List.not_mem_nil, beq_self_eq_true, HO.lst.injEq, HO.tup.injEq, tFor_eq, iRng1, iList, iTup, nat10, tSeq, rIxA, rSetA, rIsN, rIsT, tTp, tLs, itsO_tup, itsO_lst, tyO_tup, tyO_lst, tyO_dK, tyN_non, tyN_bl, tyN_int, tyN_str, tyN_ref, tyNs_lt, isB, upd_same, upd_upd, sizeLine_eq, List.mem_cons, String.reduceBEq, String.reduceEq, Bool.or_false, Bool.or_true, Bool.and_false, Bool.false_or, Bool.and_self, Bool.false_and, Bool.not_false, Bool.not_true, List.any_cons, List.any_nil, atI_0, setI_0, atI_1, setI_1, atI_2, setI_2, atI_3, setI_3, atI_4, setI_4, atI_5, setI_5, atI_6, setI_6, tAsg, gName, tOp, tUn, tVar, tC, tCons, L2.tNil, tRet, tIfS, tTest, tCB, tCall, rI, rI0, rU, tNext, tB, tAnd, tOr, tNot, tAndV, tOrV, tNotV, tDrop, tIf, tPar, gSub, rIxL, rIxT, rEq, rNe, rSetL, tBits,
    L2.start, List.map_cons, List.map_nil, List.cons_append, List.nil_append, List.append_nil, List.length_cons, List.length_nil, List.replicate, Nat.reduceAdd, Nat.reduceSub, Nat.zero_add, List.getElem?_cons_zero, List.getElem?_cons_succ, List.set_cons_zero, List.set_cons_succ,
    Option.some.injEq, exists_eq_left', exists_eq_left, V.int.injEq, V.bl.injEq, V.ref.injEq, V.str.injEq, List.cons.injEq, reduceCtorEq, and_true, true_and, false_and, and_false, exists_false, or_false, false_or, or_true, true_or, exists_const, CMul, CDiv, CPow, and_assoc, exists_and_left, exists_and_right, Int.reducePow, Int.reduceNeg, Int.reduceLT, Int.reduceLE, Nat.reducePow, Nat.reduceLT, Int.reduceToNat, gt_iff_lt, ge_iff_le, decide_eq_true_eq, Bool.not_eq_true', decide_eq_false_iff_not, scal, ↓reduceIte, Bool.false_eq_true]
    exact k
end
end My

namespace My
open PySem PySem.Spec PyProof.Rows L2
section
variable {P : Program} {w : World} {K : PySem.W.Frag} {mg : Str → Option Value} {base : Heap}
end
structure DfnD (K : PySem.W.Frag) (mg : Str → Option Value) (x : Str) (st : Stmt) (ps : List Str) : Prop where
  ex : ∃ f fd dvs, FunD K x x (defArgs st) (defBody st) (defScope st) dvs [] f fd ∧ mg x = some (.ref f) ∧ Binds K fd ps []
theorem Kn.mkD {P : Program} {w : World} {K : PySem.W.Frag} {mg : Str → Option Value} {base : Heap} {x : Str} {st : Stmt} {N ps : List Str} {k : Nat} {sp : Sp} (D : DfnD K mg x st ps) (S : FnScope N ps (defScope st)) (len : ∀ vs H Q E, sp vs H Q E → vs.length = ps.length)
    (hbody : ∀ (f : Addr) (cdv : Value) (A : Around) (outer : List Env) (s : Shared) (H : Hp) (vs : List V) (Q : VK) (E : XK), Room k (A.deeper (envOfC x (defScope st) s.heap.objs.size f cdv)) → sp vs H Q E →
      ∃ t, PSs (cxOf CX0 P w K mg base N x (defScope st) f cdv A outer s H E).nox (defBody st) t ∧ t { nx := fun _ H' => Q .non H', rt := Q } (start N vs) H) : Kn P w K mg base (k + 1) x ps sp := by
  obtain ⟨f, fd, dvs, F, m, b⟩ := D.ex
  exact ⟨f, fd, m, F.kp, b, F.ok S len fun cdv A outer s H vs Q E hr h => let ⟨t, a, c⟩ := hbody f cdv A outer s H vs Q E hr h; ⟨t, a.nox, c⟩⟩
section
variable {P : Program} {w : World} {K : PySem.W.Frag} {mg : Str → Option Value} {base : Heap}
def spRequire : Sp := fun vs H Q _ => ∃ x : V, vs = [.bl true, x] ∧ Q .non H
abbrev sRequire : Stmt := topS 7
theorem scRequire : FnScope ["well_formed", "what"] ["well_formed", "what"] (defScope sRequire) := ⟨rfl, rfl, rfl, by decide +kernel, rfl, by decide +kernel, by decide +kernel⟩
theorem k_Require (T : Bt K mg) (D : Dfn K mg "require" sRequire ["well_formed", "what"]) : Kn P w K mg base 1 "require" ["well_formed", "what"] spRequire := by
  refine Kn.mk' D scRequire (fun vs H Q E h => ?_) (fun f cdv A outer s H vs Q E hr h => ?_)
  · obtain ⟨x, rfl, _⟩ := h
    rfl
  obtain ⟨x, rfl, q⟩ := h
  refine ⟨_, (pss_one (ps_if (pt_not (pt_val (pv 0))) (pss_one ps_never) pss_nil)), ?_⟩
  simp only [cx_K, decide_true, decide_false, reduceCtorEq, gTp, gCons, gNil, ca_0, ca_1, ca_2, ca_3, ca_4, ca_5, ca_6, ca_7, ca_8, ca_9, ca_10, ca_11, ca_12, ca_13, ca_14, ca_15, ca_16, ca_17, ca_18, ca_19, ca_20, ca_21, ca_22, ca_23, ca_24, ca_25, ca_26, ca_27, ca_28, ca_29, ca_30, not_true_eq_false, not_false_eq_true, Int.reduceEq, Nat.reduceEqDiff, Nat.reduceLeDiff, rGcd, V.ty.injEq, eq_self, List.not_mem_nil, beq_self_eq_true, HO.lst.injEq, HO.tup.injEq, tFor_eq, iRng1, iList, iTup, nat10, tSeq, rIxA, rSetA, rIsN, rIsT, tTp, tLs, itsO_tup, itsO_lst, tyO_tup, tyO_lst, tyO_dK, tyN_non, tyN_bl, tyN_int, tyN_str, tyN_ref, tyNs_lt, isB, upd_same, upd_upd, sizeLine_eq, List.mem_cons, String.reduceBEq, String.reduceEq, Bool.or_false, Bool.or_true, Bool.and_false, Bool.false_or, Bool.and_self, Bool.false_and, Bool.not_false, Bool.not_true, List.any_cons, List.any_nil, atI_0, setI_0, atI_1, setI_1, atI_2, setI_2, atI_3, setI_3, atI_4, setI_4, atI_5, setI_5, atI_6, setI_6, tAsg, gName, tOp, tUn, tVar, tC, tCons, L2.tNil, tRet, tIfS, tTest, tCB, tCall, rI, rI0, rU, tNext, tB, tAnd, tOr, tNot, tAndV, tOrV, tNotV, tDrop, tIf, tPar, gSub, rIxL, rIxT, rEq, rNe, rSetL, tBits,
    L2.start, List.map_cons, List.map_nil, List.cons_append, List.nil_append, List.append_nil, List.length_cons, List.length_nil, List.replicate, Nat.reduceAdd, Nat.reduceSub, Nat.zero_add, List.getElem?_cons_zero, List.getElem?_cons_succ, List.set_cons_zero, List.set_cons_succ,
    Option.some.injEq, exists_eq_left', exists_eq_left, V.int.injEq, V.bl.injEq, V.ref.injEq, V.str.injEq, List.cons.injEq, reduceCtorEq, and_true, true_and, false_and, and_false, exists_false, or_false, false_or, or_true, true_or, exists_const, CMul, CDiv, CPow, and_assoc, exists_and_left, exists_and_right, Int.reducePow, Int.reduceNeg, Int.reduceLT, Int.reduceLE, Nat.reducePow, Nat.reduceLT, Int.reduceToNat, gt_iff_lt, ge_iff_le, decide_eq_true_eq, Bool.not_eq_true', decide_eq_false_iff_not, scal, ↓reduceIte, Bool.false_eq_true]
  exact q
def wholeV : V → Bool
  | .int _ => true
  | _ => false
theorem wholeV_ty {H : Hp} {v : V} {t : String} (h : tyN K H v = some t) : wholeV v = (t == "int") := by
  cases v with
  | ref a =>
    have h1 : tyO (ob K H a) = some t := h
    unfold tyO at h1
    split at h1 <;> first | (cases h1; rfl) | cases h1
  | _ => first | (cases h; rfl) | cases h
def spWhole (K : PySem.W.Frag) : Sp := fun vs H Q _ => ∃ v, vs = [v] ∧ (tyN K H v).isSome ∧ Q (.bl (wholeV v)) H
abbrev sWhole : Stmt := topS 8
theorem scWhole : FnScope ["value"] ["value"] (defScope sWhole) := ⟨rfl, rfl, rfl, by decide +kernel, rfl, by decide +kernel, by decide +kernel⟩
theorem k_Whole (T : Bt K mg) (D : Dfn K mg "is_whole" sWhole ["value"]) : Kn P w K mg base 1 "is_whole" ["value"] (spWhole K) := by
  refine Kn.mk' D scWhole (fun vs H Q E h => ?_) (fun f cdv A outer s H vs Q E hr h => ?_)
  · obtain ⟨v, rfl, _⟩ := h
    rfl
  obtain ⟨v, rfl, hv, q⟩ := h
  refine ⟨_, (pss_one (ps_ret (pe_and (pe_callB call_isN (by rfl) T.b_isinstance (by decide +kernel) (pa_cons (pv 0) (pa_cons (pe_bltn (v := .ty "int") (by rfl) T.b_int (by decide +kernel) rfl) pa_nil))) (pe_one (pe_not (pe_callB call_isN (by rfl) T.b_isinstance (by decide +kernel) (pa_cons (pv 0) (pa_cons (pe_bltn (v := .ty "bool") (by rfl) T.b_bool (by decide +kernel) rfl) pa_nil)))))))), ?_⟩
  obtain ⟨t, ht⟩ := Option.isSome_iff_exists.mp hv
  rw [wholeV_ty ht] at q
  have mt := tyN_mem ht
  simp only [List.mem_cons, List.not_mem_nil, or_false] at mt
  rcases mt with rfl | rfl | rfl | rfl | rfl | rfl | rfl <;> (simp only [ht, cx_K, decide_true, decide_false, reduceCtorEq, gTp, gCons, gNil, ca_0, ca_1, ca_2, ca_3, ca_4, ca_5, ca_6, ca_7, ca_8, ca_9, ca_10, ca_11, ca_12, ca_13, ca_14, ca_15, ca_16, ca_17, ca_18, ca_19, ca_20, ca_21, ca_22, ca_23, ca_24, ca_25, ca_26, ca_27, ca_28, ca_29, ca_30, not_true_eq_false, not_false_eq_true, Int.reduceEq, Nat.reduceEqDiff, Nat.reduceLeDiff, rGcd, V.ty.injEq, eq_self, List.not_mem_nil, beq_self_eq_true, HO.lst.injEq, HO.tup.injEq, tFor_eq, iRng1, iList, iTup, nat10, tSeq, rIxA, rSetA, rIsN, rIsT, tTp, tLs, itsO_tup, itsO_lst, tyO_tup, tyO_lst, tyO_dK, tyN_non, tyN_bl, tyN_int, tyN_str, tyN_ref, tyNs_lt, isB, upd_same, upd_upd, sizeLine_eq, List.mem_cons, String.reduceBEq, String.reduceEq, Bool.or_false, Bool.or_true, Bool.and_false, Bool.false_or, Bool.and_self, Bool.false_and, Bool.not_false, Bool.not_true, List.any_cons, List.any_nil, atI_0, setI_0, atI_1, setI_1, atI_2, setI_2, atI_3, setI_3, atI_4, setI_4, atI_5, setI_5, atI_6, setI_6, tAsg, gName, tOp, tUn, tVar, tC, tCons, L2.tNil, tRet, tIfS, tTest, tCB, tCall, rI, rI0, rU, tNext, tB, tAnd, tOr, tNot, tAndV, tOrV, tNotV, tDrop, tIf, tPar, gSub, rIxL, rIxT, rEq, rNe, rSetL, tBits,
    L2.start, List.map_cons, List.map_nil, List.cons_append, List.nil_append, List.append_nil, List.length_cons, List.length_nil, List.replicate, Nat.reduceAdd, Nat.reduceSub, Nat.zero_add, List.getElem?_cons_zero, List.getElem?_cons_succ, List.set_cons_zero, List.set_cons_succ,
    Option.some.injEq, exists_eq_left', exists_eq_left, V.int.injEq, V.bl.injEq, V.ref.injEq, V.str.injEq, List.cons.injEq, reduceCtorEq, and_true, true_and, false_and, and_false, exists_false, or_false, false_or, or_true, true_or, exists_const, CMul, CDiv, CPow, and_assoc, exists_and_left, exists_and_right, Int.reducePow, Int.reduceNeg, Int.reduceLT, Int.reduceLE, Nat.reducePow, Nat.reduceLT, Int.reduceToNat, gt_iff_lt, ge_iff_le, decide_eq_true_eq, Bool.not_eq_true', decide_eq_false_iff_not, scal, ↓reduceIte, Bool.false_eq_true]; simpa using q)
abbrev sLWhole : Stmt := topS 41
theorem scLWhole : FnScope ["_law_told"] ["_law_told"] (defScope sLWhole) := ⟨rfl, rfl, rfl, by decide +kernel, rfl, by decide +kernel, by decide +kernel⟩
theorem k_LWhole (T : Bt K mg) (D : Dfn K mg "_law_is_whole" sLWhole ["_law_told"]) : Kn P w K mg base 1 "_law_is_whole" ["_law_told"] (spWhole K) := by
  refine Kn.mk' D scLWhole (fun vs H Q E h => ?_) (fun f cdv A outer s H vs Q E hr h => ?_)
  · obtain ⟨v, rfl, _⟩ := h
    rfl
  obtain ⟨v, rfl, hv, q⟩ := h
  refine ⟨_, (pss_one (ps_ret (pe_and (pe_callB call_isN (by rfl) T.b_isinstance (by decide +kernel) (pa_cons (pv 0) (pa_cons (pe_bltn (v := .ty "int") (by rfl) T.b_int (by decide +kernel) rfl) pa_nil))) (pe_one (pe_not (pe_callB call_isN (by rfl) T.b_isinstance (by decide +kernel) (pa_cons (pv 0) (pa_cons (pe_bltn (v := .ty "bool") (by rfl) T.b_bool (by decide +kernel) rfl) pa_nil)))))))), ?_⟩
  obtain ⟨t, ht⟩ := Option.isSome_iff_exists.mp hv
  rw [wholeV_ty ht] at q
  have mt := tyN_mem ht
  simp only [List.mem_cons, List.not_mem_nil, or_false] at mt
  rcases mt with rfl | rfl | rfl | rfl | rfl | rfl | rfl <;> (simp only [ht, cx_K, decide_true, decide_false, reduceCtorEq, gTp, gCons, gNil, ca_0, ca_1, ca_2, ca_3, ca_4, ca_5, ca_6, ca_7, ca_8, ca_9, ca_10, ca_11, ca_12, ca_13, ca_14, ca_15, ca_16, ca_17, ca_18, ca_19, ca_20, ca_21, ca_22, ca_23, ca_24, ca_25, ca_26, ca_27, ca_28, ca_29, ca_30, not_true_eq_false, not_false_eq_true, Int.reduceEq, Nat.reduceEqDiff, Nat.reduceLeDiff, rGcd, V.ty.injEq, eq_self, List.not_mem_nil, beq_self_eq_true, HO.lst.injEq, HO.tup.injEq, tFor_eq, iRng1, iList, iTup, nat10, tSeq, rIxA, rSetA, rIsN, rIsT, tTp, tLs, itsO_tup, itsO_lst, tyO_tup, tyO_lst, tyO_dK, tyN_non, tyN_bl, tyN_int, tyN_str, tyN_ref, tyNs_lt, isB, upd_same, upd_upd, sizeLine_eq, List.mem_cons, String.reduceBEq, String.reduceEq, Bool.or_false, Bool.or_true, Bool.and_false, Bool.false_or, Bool.and_self, Bool.false_and, Bool.not_false, Bool.not_true, List.any_cons, List.any_nil, atI_0, setI_0, atI_1, setI_1, atI_2, setI_2, atI_3, setI_3, atI_4, setI_4, atI_5, setI_5, atI_6, setI_6, tAsg, gName, tOp, tUn, tVar, tC, tCons, L2.tNil, tRet, tIfS, tTest, tCB, tCall, rI, rI0, rU, tNext, tB, tAnd, tOr, tNot, tAndV, tOrV, tNotV, tDrop, tIf, tPar, gSub, rIxL, rIxT, rEq, rNe, rSetL, tBits,
    L2.start, List.map_cons, List.map_nil, List.cons_append, List.nil_append, List.append_nil, List.length_cons, List.length_nil, List.replicate, Nat.reduceAdd, Nat.reduceSub, Nat.zero_add, List.getElem?_cons_zero, List.getElem?_cons_succ, List.set_cons_zero, List.set_cons_succ,
    Option.some.injEq, exists_eq_left', exists_eq_left, V.int.injEq, V.bl.injEq, V.ref.injEq, V.str.injEq, List.cons.injEq, reduceCtorEq, and_true, true_and, false_and, and_false, exists_false, or_false, false_or, or_true, true_or, exists_const, CMul, CDiv, CPow, and_assoc, exists_and_left, exists_and_right, Int.reducePow, Int.reduceNeg, Int.reduceLT, Int.reduceLE, Nat.reducePow, Nat.reduceLT, Int.reduceToNat, gt_iff_lt, ge_iff_le, decide_eq_true_eq, Bool.not_eq_true', decide_eq_false_iff_not, scal, ↓reduceIte, Bool.false_eq_true]; simpa using q)
def spFraction (K : PySem.W.Frag) : Sp := fun vs H Q _ => ∃ n d : Int, vs = [.int n, .int d] ∧ d ≠ 0 ∧ d.natAbs < 2 ^ 8000 ∧ ∀ q, Is q n d → Gv K H Q q
theorem gcdX {n d : Int} (h0 : d ≠ 0) (hz : d.natAbs < 2 ^ 8000) (x : Int) : CDivX x (if d < 0 then -((Int.gcd n d : Nat) : Int) else (Int.gcd n d : Nat)) := by
  have g0 := gcd_pos (t := n) (b := d) h0
  have g1 := gcd_le (t := n) (b := d) h0
  have e : 2 ^ 8000 ≤ 2 ^ 8999 := Nat.pow_le_pow_right (by omega) (by omega)
  unfold CDivX
  split <;> refine ⟨by omega, by omega⟩
abbrev sFraction : Stmt := topS 12
theorem scFraction : FnScope ["numerator", "denominator", "divisor"] ["numerator", "denominator"] (defScope sFraction) := ⟨rfl, rfl, rfl, by decide +kernel, rfl, by decide +kernel, by decide +kernel⟩
theorem k_Fraction (T : Bt K mg) (D : DfnD K mg "fraction" sFraction ["numerator", "denominator"]) (d_require : Kn P w K mg base 1 "require" ["well_formed", "what"] spRequire) (d_is_whole : Kn P w K mg base 1 "is_whole" ["value"] (spWhole K)) : Kn P w K mg base 2 "fraction" ["numerator", "denominator"] (spFraction K) := by
  refine Kn.mkD D scFraction (fun vs H Q E h => ?_) (fun f cdv A outer s H vs Q E hr h => ?_)
  · obtain ⟨n, d, rfl, _⟩ := h
    rfl
  obtain ⟨n, d, rfl, h0, hz, q⟩ := h
  refine ⟨_, (pss_cons (ps_expr (pe_kn d_require hr (by rfl) (pa_cons (pe_kn d_is_whole hr (by rfl) (pa_cons (pv 0) pa_nil)) (pa_cons pe_str pa_nil))))
      (pss_cons (ps_expr (pe_kn d_require hr (by rfl) (pa_cons (pe_and (pe_kn d_is_whole hr (by rfl) (pa_cons (pv 1) pa_nil)) (pe_one (pe_cmpR op_ne (pv 1) pe_int (nomark _)))) (pa_cons pe_str pa_nil))))
      (pss_cons (ps_set (i := 2) scFraction.nd rfl (.inl rfl) (pe_callBfun cr_gcd (by rfl) T.g_gcd (pa_cons (pv 0) (pa_cons (pv 1) pa_nil))))
      (pss_cons (ps_if (pt_cmpR op_lt (pv 1) pe_int (nomark _)) (pss_one (ps_set (i := 2) scFraction.nd rfl (.inl rfl) (pe_un un_neg (pv 2)))) pss_nil)
      (pss_one (ps_ret (pe_tp (pa_cons (pe_op op_fdivX (pv 0) (pv 2)) (pa_cons (pe_op op_fdivX (pv 1) (pv 2)) pa_nil))))))))), ?_⟩
  simp only [cx_K, decide_true, decide_false, reduceCtorEq, gTp, gCons, gNil, ca_0, ca_1, ca_2, ca_3, ca_4, ca_5, ca_6, ca_7, ca_8, ca_9, ca_10, ca_11, ca_12, ca_13, ca_14, ca_15, ca_16, ca_17, ca_18, ca_19, ca_20, ca_21, ca_22, ca_23, ca_24, ca_25, ca_26, ca_27, ca_28, ca_29, ca_30, not_true_eq_false, not_false_eq_true, Int.reduceEq, Nat.reduceEqDiff, Nat.reduceLeDiff, rGcd, V.ty.injEq, eq_self, List.not_mem_nil, beq_self_eq_true, HO.lst.injEq, HO.tup.injEq, tFor_eq, iRng1, iList, iTup, nat10, tSeq, rIxA, rSetA, rIsN, rIsT, tTp, tLs, itsO_tup, itsO_lst, tyO_tup, tyO_lst, tyO_dK, tyN_non, tyN_bl, tyN_int, tyN_str, tyN_ref, tyNs_lt, isB, upd_same, upd_upd, sizeLine_eq, List.mem_cons, String.reduceBEq, String.reduceEq, Bool.or_false, Bool.or_true, Bool.and_false, Bool.false_or, Bool.and_self, Bool.false_and, Bool.not_false, Bool.not_true, List.any_cons, List.any_nil, atI_0, setI_0, atI_1, setI_1, atI_2, setI_2, atI_3, setI_3, atI_4, setI_4, atI_5, setI_5, atI_6, setI_6, tAsg, gName, tOp, tUn, tVar, tC, tCons, L2.tNil, tRet, tIfS, tTest, tCB, tCall, rI, rI0, rU, tNext, tB, tAnd, tOr, tNot, tAndV, tOrV, tNotV, tDrop, tIf, tPar, gSub, rIxL, rIxT, rEq, rNe, rSetL, tBits,
    L2.start, List.map_cons, List.map_nil, List.cons_append, List.nil_append, List.append_nil, List.length_cons, List.length_nil, List.replicate, Nat.reduceAdd, Nat.reduceSub, Nat.zero_add, List.getElem?_cons_zero, List.getElem?_cons_succ, List.set_cons_zero, List.set_cons_succ,
    Option.some.injEq, exists_eq_left', exists_eq_left, V.int.injEq, V.bl.injEq, V.ref.injEq, V.str.injEq, List.cons.injEq, reduceCtorEq, and_true, true_and, false_and, and_false, exists_false, or_false, false_or, or_true, true_or, exists_const, CMul, CDiv, CPow, and_assoc, exists_and_left, exists_and_right, Int.reducePow, Int.reduceNeg, Int.reduceLT, Int.reduceLE, Nat.reducePow, Nat.reduceLT, Int.reduceToNat, gt_iff_lt, ge_iff_le, decide_eq_true_eq, Bool.not_eq_true', decide_eq_false_iff_not, scal, ↓reduceIte, Bool.false_eq_true]
  refine ⟨_, rfl, rfl, ⟨_, rfl, ⟨_, rfl, rfl, ⟨true, rfl, ?_⟩⟩⟩⟩
  rw [if_pos rfl]
  refine ⟨_, by rw [decide_eq_false h0]; rfl, ?_⟩
  simp only [cx_K, decide_true, decide_false, reduceCtorEq, gTp, gCons, gNil, ca_0, ca_1, ca_2, ca_3, ca_4, ca_5, ca_6, ca_7, ca_8, ca_9, ca_10, ca_11, ca_12, ca_13, ca_14, ca_15, ca_16, ca_17, ca_18, ca_19, ca_20, ca_21, ca_22, ca_23, ca_24, ca_25, ca_26, ca_27, ca_28, ca_29, ca_30, not_true_eq_false, not_false_eq_true, Int.reduceEq, Nat.reduceEqDiff, Nat.reduceLeDiff, rGcd, V.ty.injEq, eq_self, List.not_mem_nil, beq_self_eq_true, HO.lst.injEq, HO.tup.injEq, tFor_eq, iRng1, iList, iTup, nat10, tSeq, rIxA, rSetA, rIsN, rIsT, tTp, tLs, itsO_tup, itsO_lst, tyO_tup, tyO_lst, tyO_dK, tyN_non, tyN_bl, tyN_int, tyN_str, tyN_ref, tyNs_lt, isB, upd_same, upd_upd, sizeLine_eq, List.mem_cons, String.reduceBEq, String.reduceEq, Bool.or_false, Bool.or_true, Bool.and_false, Bool.false_or, Bool.and_self, Bool.false_and, Bool.not_false, Bool.not_true, List.any_cons, List.any_nil, atI_0, setI_0, atI_1, setI_1, atI_2, setI_2, atI_3, setI_3, atI_4, setI_4, atI_5, setI_5, atI_6, setI_6, tAsg, gName, tOp, tUn, tVar, tC, tCons, L2.tNil, tRet, tIfS, tTest, tCB, tCall, rI, rI0, rU, tNext, tB, tAnd, tOr, tNot, tAndV, tOrV, tNotV, tDrop, tIf, tPar, gSub, rIxL, rIxT, rEq, rNe, rSetL, tBits,
    L2.start, List.map_cons, List.map_nil, List.cons_append, List.nil_append, List.append_nil, List.length_cons, List.length_nil, List.replicate, Nat.reduceAdd, Nat.reduceSub, Nat.zero_add, List.getElem?_cons_zero, List.getElem?_cons_succ, List.set_cons_zero, List.set_cons_succ,
    Option.some.injEq, exists_eq_left', exists_eq_left, V.int.injEq, V.bl.injEq, V.ref.injEq, V.str.injEq, List.cons.injEq, reduceCtorEq, and_true, true_and, false_and, and_false, exists_false, or_false, false_or, or_true, true_or, exists_const, CMul, CDiv, CPow, and_assoc, exists_and_left, exists_and_right, Int.reducePow, Int.reduceNeg, Int.reduceLT, Int.reduceLE, Nat.reducePow, Nat.reduceLT, Int.reduceToNat, gt_iff_lt, ge_iff_le, decide_eq_true_eq, Bool.not_eq_true', decide_eq_false_iff_not, scal, ↓reduceIte, Bool.false_eq_true]
  have k := gcdX (n := n) h0 hz
  have v := is_fdiv (t := n) h0
  refine ite2 (fun h => ?_) (fun h => ?_)
  · rw [if_pos h] at v
    simp only [if_pos h] at k
    exact ⟨k _, k _, fun p hp kp => (q _ v).new hp kp⟩
  · rw [if_neg h] at v
    simp only [if_neg h] at k
    exact ⟨k _, k _, fun p hp kp => (q _ v).new hp kp⟩
def frOk (K : PySem.W.Frag) (H : Hp) : V → Bool
  | .ref a => match ob K H a with
    | some (.tup [.int n, .int d]) => decide (1 ≤ d) && decide (Int.gcd n d = 1)
    | _ => false
  | _ => false
theorem frOk_fr {H : Hp} {a : Addr} {q : Qt} (h : ob K H a = some (frt q)) (hn : Nf q) : frOk K H (.ref a) = true := by
  simp only [frOk, h, frt]
  show (decide (1 ≤ q.2) && decide (Int.gcd q.1 q.2 = 1)) = true
  rw [decide_eq_true hn.1, decide_eq_true hn.2]
  rfl
/-- v and, if it is a tuple, its items are of known kinds -/
def Tyd (K : PySem.W.Frag) (H : Hp) (v : V) : Prop := (tyN K H v).isSome ∧ ∀ a xs, v = .ref a → ob K H a = some (.tup xs) → ∀ x ∈ xs, (tyN K H x).isSome
theorem Tyd.fr {H : Hp} {a : Addr} {q : Qt} (h : ob K H a = some (frt q)) : Tyd K H (.ref a) := by
  refine ⟨by rw [tyN_ref, h]; rfl, fun b xs e hx x hm => ?_⟩
  cases e
  rw [h] at hx
  cases hx
  simp only [List.mem_cons, List.not_mem_nil, or_false] at hm
  rcases hm with rfl | rfl <;> rfl
theorem tyN_tuple {H : Hp} {v : V} (h : tyN K H v = some "tuple") : ∃ a xs, v = .ref a ∧ ob K H a = some (.tup xs) := by
  cases v with
  | ref a =>
    have h1 : tyO (ob K H a) = some "tuple" := h
    unfold tyO at h1
    split at h1 <;> first | exact ⟨a, _, rfl, by assumption⟩ | (exfalso; revert h1; decide)
  | _ => exfalso; revert h; simp only [tyN]; decide
def spIsFraction (K : PySem.W.Frag) : Sp := fun vs H Q _ => ∃ v, vs = [v] ∧ Tyd K H v ∧ Q (.bl (frOk K H v)) H
abbrev sIsFraction : Stmt := topS 13
theorem scIsFraction : FnScope ["value", "numerator", "denominator"] ["value"] (defScope sIsFraction) := ⟨rfl, rfl, rfl, by decide +kernel, rfl, by decide +kernel, by decide +kernel⟩
theorem k_IsFraction (T : Bt K mg) (D : Dfn K mg "is_fraction" sIsFraction ["value"]) (d_is_whole : Kn P w K mg base 1 "is_whole" ["value"] (spWhole K)) : Kn P w K mg base 2 "is_fraction" ["value"] (spIsFraction K) := by
  refine Kn.mk' D scIsFraction (fun vs H Q E h => ?_) (fun f cdv A outer s H vs Q E hr h => ?_)
  · obtain ⟨v, rfl, _⟩ := h
    rfl
  obtain ⟨v, rfl, hv, q⟩ := h
  refine ⟨_, (pss_cons (ps_if (PW.pt (pw_or (pt_not (pt_val (pe_callB call_isN (by rfl) T.b_isinstance (by decide +kernel) (pa_cons (pv 0) (pa_cons (pe_bltn (v := .ty "tuple") (by rfl) T.b_tuple (by decide +kernel) rfl) pa_nil))))) (pw_or1 (pt_cmpR op_ne (pe_callB call_lenA (by rfl) T.b_len PySem.boot_len (pa_cons (pv 0) pa_nil)) pe_int (nomark _))))) (pss_one (ps_ret pe_bl)) pss_nil)
      (pss_cons (ps_asg (pv 0) (pg_tp 2 (by rfl) (pgs_cons (pg_name (i := 1) scIsFraction.nd rfl (.inl rfl)) (pgs_cons (pg_name (i := 2) scIsFraction.nd rfl (.inl rfl)) pgs_nil))))
      (pss_cons (ps_if (PW.pt (pw_or (pt_not (pt_val (pe_kn d_is_whole hr (by rfl) (pa_cons (pv 1) pa_nil)))) (pw_or1 (pt_not (pt_val (pe_kn d_is_whole hr (by rfl) (pa_cons (pv 2) pa_nil))))))) (pss_one (ps_ret pe_bl)) pss_nil)
      (pss_one (ps_ret (pe_and (pe_cmpR op_ge (pv 2) pe_int (nomark _)) (pe_one (pe_cmpR op_eq (pe_callBfun cr_gcd (by rfl) T.g_gcd (pa_cons (pv 1) (pa_cons (pv 2) pa_nil))) pe_int (nomark _))))))))), ?_⟩
  obtain ⟨t, ht⟩ := Option.isSome_iff_exists.mp hv.1
  by_cases e : t = "tuple"
  · subst e
    obtain ⟨a, xs, rfl, ha⟩ := tyN_tuple ht
    have hx := hv.2 a xs rfl ha
    match xs, ha, hx with
    | [], ha, hx =>
      have e : frOk K H (.ref a) = false := by simp only [frOk, ha]
      rw [e] at q
      simp only [ha, cx_K, decide_true, decide_false, reduceCtorEq, gTp, gCons, gNil, ca_0, ca_1, ca_2, ca_3, ca_4, ca_5, ca_6, ca_7, ca_8, ca_9, ca_10, ca_11, ca_12, ca_13, ca_14, ca_15, ca_16, ca_17, ca_18, ca_19, ca_20, ca_21, ca_22, ca_23, ca_24, ca_25, ca_26, ca_27, ca_28, ca_29, ca_30, not_true_eq_false, not_false_eq_true, Int.reduceEq, Nat.reduceEqDiff, Nat.reduceLeDiff, rGcd, V.ty.injEq, eq_self, List.not_mem_nil, beq_self_eq_true, HO.lst.injEq, HO.tup.injEq, tFor_eq, iRng1, iList, iTup, nat10, tSeq, rIxA, rSetA, rIsN, rIsT, tTp, tLs, itsO_tup, itsO_lst, tyO_tup, tyO_lst, tyO_dK, tyN_non, tyN_bl, tyN_int, tyN_str, tyN_ref, tyNs_lt, isB, upd_same, upd_upd, sizeLine_eq, List.mem_cons, String.reduceBEq, String.reduceEq, Bool.or_false, Bool.or_true, Bool.and_false, Bool.false_or, Bool.and_self, Bool.false_and, Bool.not_false, Bool.not_true, List.any_cons, List.any_nil, atI_0, setI_0, atI_1, setI_1, atI_2, setI_2, atI_3, setI_3, atI_4, setI_4, atI_5, setI_5, atI_6, setI_6, tAsg, gName, tOp, tUn, tVar, tC, tCons, L2.tNil, tRet, tIfS, tTest, tCB, tCall, rI, rI0, rU, tNext, tB, tAnd, tOr, tNot, tAndV, tOrV, tNotV, tDrop, tIf, tPar, gSub, rIxL, rIxT, rEq, rNe, rSetL, tBits,
    L2.start, List.map_cons, List.map_nil, List.cons_append, List.nil_append, List.append_nil, List.length_cons, List.length_nil, List.replicate, Nat.reduceAdd, Nat.reduceSub, Nat.zero_add, List.getElem?_cons_zero, List.getElem?_cons_succ, List.set_cons_zero, List.set_cons_succ,
    Option.some.injEq, exists_eq_left', exists_eq_left, V.int.injEq, V.bl.injEq, V.ref.injEq, V.str.injEq, List.cons.injEq, reduceCtorEq, and_true, true_and, false_and, and_false, exists_false, or_false, false_or, or_true, true_or, exists_const, CMul, CDiv, CPow, and_assoc, exists_and_left, exists_and_right, Int.reducePow, Int.reduceNeg, Int.reduceLT, Int.reduceLE, Nat.reducePow, Nat.reduceLT, Int.reduceToNat, gt_iff_lt, ge_iff_le, decide_eq_true_eq, Bool.not_eq_true', decide_eq_false_iff_not, scal, ↓reduceIte, Bool.false_eq_true]
      exact q
    | [x], ha, hx =>
      have e : frOk K H (.ref a) = false := by simp only [frOk, ha]
      rw [e] at q
      simp only [ha, cx_K, decide_true, decide_false, reduceCtorEq, gTp, gCons, gNil, ca_0, ca_1, ca_2, ca_3, ca_4, ca_5, ca_6, ca_7, ca_8, ca_9, ca_10, ca_11, ca_12, ca_13, ca_14, ca_15, ca_16, ca_17, ca_18, ca_19, ca_20, ca_21, ca_22, ca_23, ca_24, ca_25, ca_26, ca_27, ca_28, ca_29, ca_30, not_true_eq_false, not_false_eq_true, Int.reduceEq, Nat.reduceEqDiff, Nat.reduceLeDiff, rGcd, V.ty.injEq, eq_self, List.not_mem_nil, beq_self_eq_true, HO.lst.injEq, HO.tup.injEq, tFor_eq, iRng1, iList, iTup, nat10, tSeq, rIxA, rSetA, rIsN, rIsT, tTp, tLs, itsO_tup, itsO_lst, tyO_tup, tyO_lst, tyO_dK, tyN_non, tyN_bl, tyN_int, tyN_str, tyN_ref, tyNs_lt, isB, upd_same, upd_upd, sizeLine_eq, List.mem_cons, String.reduceBEq, String.reduceEq, Bool.or_false, Bool.or_true, Bool.and_false, Bool.false_or, Bool.and_self, Bool.false_and, Bool.not_false, Bool.not_true, List.any_cons, List.any_nil, atI_0, setI_0, atI_1, setI_1, atI_2, setI_2, atI_3, setI_3, atI_4, setI_4, atI_5, setI_5, atI_6, setI_6, tAsg, gName, tOp, tUn, tVar, tC, tCons, L2.tNil, tRet, tIfS, tTest, tCB, tCall, rI, rI0, rU, tNext, tB, tAnd, tOr, tNot, tAndV, tOrV, tNotV, tDrop, tIf, tPar, gSub, rIxL, rIxT, rEq, rNe, rSetL, tBits,
    L2.start, List.map_cons, List.map_nil, List.cons_append, List.nil_append, List.append_nil, List.length_cons, List.length_nil, List.replicate, Nat.reduceAdd, Nat.reduceSub, Nat.zero_add, List.getElem?_cons_zero, List.getElem?_cons_succ, List.set_cons_zero, List.set_cons_succ,
    Option.some.injEq, exists_eq_left', exists_eq_left, V.int.injEq, V.bl.injEq, V.ref.injEq, V.str.injEq, List.cons.injEq, reduceCtorEq, and_true, true_and, false_and, and_false, exists_false, or_false, false_or, or_true, true_or, exists_const, CMul, CDiv, CPow, and_assoc, exists_and_left, exists_and_right, Int.reducePow, Int.reduceNeg, Int.reduceLT, Int.reduceLE, Nat.reducePow, Nat.reduceLT, Int.reduceToNat, gt_iff_lt, ge_iff_le, decide_eq_true_eq, Bool.not_eq_true', decide_eq_false_iff_not, scal, ↓reduceIte, Bool.false_eq_true]
      exact q
    | [x, y], ha, hx =>
      have hx1 := hx x (by simp)
      have hx2 := hx y (by simp)
      simp only [ha, cx_K, decide_true, decide_false, reduceCtorEq, gTp, gCons, gNil, ca_0, ca_1, ca_2, ca_3, ca_4, ca_5, ca_6, ca_7, ca_8, ca_9, ca_10, ca_11, ca_12, ca_13, ca_14, ca_15, ca_16, ca_17, ca_18, ca_19, ca_20, ca_21, ca_22, ca_23, ca_24, ca_25, ca_26, ca_27, ca_28, ca_29, ca_30, not_true_eq_false, not_false_eq_true, Int.reduceEq, Nat.reduceEqDiff, Nat.reduceLeDiff, rGcd, V.ty.injEq, eq_self, List.not_mem_nil, beq_self_eq_true, HO.lst.injEq, HO.tup.injEq, tFor_eq, iRng1, iList, iTup, nat10, tSeq, rIxA, rSetA, rIsN, rIsT, tTp, tLs, itsO_tup, itsO_lst, tyO_tup, tyO_lst, tyO_dK, tyN_non, tyN_bl, tyN_int, tyN_str, tyN_ref, tyNs_lt, isB, upd_same, upd_upd, sizeLine_eq, List.mem_cons, String.reduceBEq, String.reduceEq, Bool.or_false, Bool.or_true, Bool.and_false, Bool.false_or, Bool.and_self, Bool.false_and, Bool.not_false, Bool.not_true, List.any_cons, List.any_nil, atI_0, setI_0, atI_1, setI_1, atI_2, setI_2, atI_3, setI_3, atI_4, setI_4, atI_5, setI_5, atI_6, setI_6, tAsg, gName, tOp, tUn, tVar, tC, tCons, L2.tNil, tRet, tIfS, tTest, tCB, tCall, rI, rI0, rU, tNext, tB, tAnd, tOr, tNot, tAndV, tOrV, tNotV, tDrop, tIf, tPar, gSub, rIxL, rIxT, rEq, rNe, rSetL, tBits,
    L2.start, List.map_cons, List.map_nil, List.cons_append, List.nil_append, List.append_nil, List.length_cons, List.length_nil, List.replicate, Nat.reduceAdd, Nat.reduceSub, Nat.zero_add, List.getElem?_cons_zero, List.getElem?_cons_succ, List.set_cons_zero, List.set_cons_succ,
    Option.some.injEq, exists_eq_left', exists_eq_left, V.int.injEq, V.bl.injEq, V.ref.injEq, V.str.injEq, List.cons.injEq, reduceCtorEq, and_true, true_and, false_and, and_false, exists_false, or_false, false_or, or_true, true_or, exists_const, CMul, CDiv, CPow, and_assoc, exists_and_left, exists_and_right, Int.reducePow, Int.reduceNeg, Int.reduceLT, Int.reduceLE, Nat.reducePow, Nat.reduceLT, Int.reduceToNat, gt_iff_lt, ge_iff_le, decide_eq_true_eq, Bool.not_eq_true', decide_eq_false_iff_not, scal, ↓reduceIte, Bool.false_eq_true]
      refine ⟨_, rfl, hx1, ?_⟩
      cases x with
      | int n =>
        refine ⟨true, rfl, ?_⟩
        rw [if_neg Bool.noConfusion]
        refine ⟨_, rfl, hx2, ?_⟩
        cases y with
        | int d =>
          refine ⟨true, rfl, ?_⟩
          rw [if_neg Bool.noConfusion]
          simp only [ha, cx_K, decide_true, decide_false, reduceCtorEq, gTp, gCons, gNil, ca_0, ca_1, ca_2, ca_3, ca_4, ca_5, ca_6, ca_7, ca_8, ca_9, ca_10, ca_11, ca_12, ca_13, ca_14, ca_15, ca_16, ca_17, ca_18, ca_19, ca_20, ca_21, ca_22, ca_23, ca_24, ca_25, ca_26, ca_27, ca_28, ca_29, ca_30, not_true_eq_false, not_false_eq_true, Int.reduceEq, Nat.reduceEqDiff, Nat.reduceLeDiff, rGcd, V.ty.injEq, eq_self, List.not_mem_nil, beq_self_eq_true, HO.lst.injEq, HO.tup.injEq, tFor_eq, iRng1, iList, iTup, nat10, tSeq, rIxA, rSetA, rIsN, rIsT, tTp, tLs, itsO_tup, itsO_lst, tyO_tup, tyO_lst, tyO_dK, tyN_non, tyN_bl, tyN_int, tyN_str, tyN_ref, tyNs_lt, isB, upd_same, upd_upd, sizeLine_eq, List.mem_cons, String.reduceBEq, String.reduceEq, Bool.or_false, Bool.or_true, Bool.and_false, Bool.false_or, Bool.and_self, Bool.false_and, Bool.not_false, Bool.not_true, List.any_cons, List.any_nil, atI_0, setI_0, atI_1, setI_1, atI_2, setI_2, atI_3, setI_3, atI_4, setI_4, atI_5, setI_5, atI_6, setI_6, tAsg, gName, tOp, tUn, tVar, tC, tCons, L2.tNil, tRet, tIfS, tTest, tCB, tCall, rI, rI0, rU, tNext, tB, tAnd, tOr, tNot, tAndV, tOrV, tNotV, tDrop, tIf, tPar, gSub, rIxL, rIxT, rEq, rNe, rSetL, tBits,
    L2.start, List.map_cons, List.map_nil, List.cons_append, List.nil_append, List.append_nil, List.length_cons, List.length_nil, List.replicate, Nat.reduceAdd, Nat.reduceSub, Nat.zero_add, List.getElem?_cons_zero, List.getElem?_cons_succ, List.set_cons_zero, List.set_cons_succ,
    Option.some.injEq, exists_eq_left', exists_eq_left, V.int.injEq, V.bl.injEq, V.ref.injEq, V.str.injEq, List.cons.injEq, reduceCtorEq, and_true, true_and, false_and, and_false, exists_false, or_false, false_or, or_true, true_or, exists_const, CMul, CDiv, CPow, and_assoc, exists_and_left, exists_and_right, Int.reducePow, Int.reduceNeg, Int.reduceLT, Int.reduceLE, Nat.reducePow, Nat.reduceLT, Int.reduceToNat, gt_iff_lt, ge_iff_le, decide_eq_true_eq, Bool.not_eq_true', decide_eq_false_iff_not, scal, ↓reduceIte, Bool.false_eq_true]
          refine ite2 (fun h => ?_) (fun h => ?_)
          · have e : frOk K H (.ref a) = decide (((n.natAbs.gcd d.natAbs : Nat) : Int) = 1) := by
              simp only [frOk, ha]
              rw [decide_eq_true h, Bool.true_and]
              show decide (Nat.gcd n.natAbs d.natAbs = 1) = _
              exact decide_eq_decide.mpr (by omega)
            rw [e] at q
            exact q
          · have e : frOk K H (.ref a) = false := by
              simp only [frOk, ha]
              rw [decide_eq_false h, Bool.false_and]
            rw [e] at q
            exact q
        | _ =>
          refine ⟨false, rfl, ?_⟩
          rw [if_pos rfl]
          have e : frOk K H (.ref a) = false := by simp only [frOk, ha]
          rw [e] at q
          exact q
      | _ =>
        refine ⟨false, rfl, ?_⟩
        rw [if_pos rfl]
        have e : frOk K H (.ref a) = false := by simp only [frOk, ha]
        rw [e] at q
        exact q
    | x :: y :: z :: r, ha, hx =>
      have e : frOk K H (.ref a) = false := by simp only [frOk, ha]
      rw [e] at q
      simp only [ha, cx_K, decide_true, decide_false, reduceCtorEq, gTp, gCons, gNil, ca_0, ca_1, ca_2, ca_3, ca_4, ca_5, ca_6, ca_7, ca_8, ca_9, ca_10, ca_11, ca_12, ca_13, ca_14, ca_15, ca_16, ca_17, ca_18, ca_19, ca_20, ca_21, ca_22, ca_23, ca_24, ca_25, ca_26, ca_27, ca_28, ca_29, ca_30, not_true_eq_false, not_false_eq_true, Int.reduceEq, Nat.reduceEqDiff, Nat.reduceLeDiff, rGcd, V.ty.injEq, eq_self, List.not_mem_nil, beq_self_eq_true, HO.lst.injEq, HO.tup.injEq, tFor_eq, iRng1, iList, iTup, nat10, tSeq, rIxA, rSetA, rIsN, rIsT, tTp, tLs, itsO_tup, itsO_lst, tyO_tup, tyO_lst, tyO_dK, tyN_non, tyN_bl, tyN_int, tyN_str, tyN_ref, tyNs_lt, isB, upd_same, upd_upd, sizeLine_eq, List.mem_cons, String.reduceBEq, String.reduceEq, Bool.or_false, Bool.or_true, Bool.and_false, Bool.false_or, Bool.and_self, Bool.false_and, Bool.not_false, Bool.not_true, List.any_cons, List.any_nil, atI_0, setI_0, atI_1, setI_1, atI_2, setI_2, atI_3, setI_3, atI_4, setI_4, atI_5, setI_5, atI_6, setI_6, tAsg, gName, tOp, tUn, tVar, tC, tCons, L2.tNil, tRet, tIfS, tTest, tCB, tCall, rI, rI0, rU, tNext, tB, tAnd, tOr, tNot, tAndV, tOrV, tNotV, tDrop, tIf, tPar, gSub, rIxL, rIxT, rEq, rNe, rSetL, tBits,
    L2.start, List.map_cons, List.map_nil, List.cons_append, List.nil_append, List.append_nil, List.length_cons, List.length_nil, List.replicate, Nat.reduceAdd, Nat.reduceSub, Nat.zero_add, List.getElem?_cons_zero, List.getElem?_cons_succ, List.set_cons_zero, List.set_cons_succ,
    Option.some.injEq, exists_eq_left', exists_eq_left, V.int.injEq, V.bl.injEq, V.ref.injEq, V.str.injEq, List.cons.injEq, reduceCtorEq, and_true, true_and, false_and, and_false, exists_false, or_false, false_or, or_true, true_or, exists_const, CMul, CDiv, CPow, and_assoc, exists_and_left, exists_and_right, Int.reducePow, Int.reduceNeg, Int.reduceLT, Int.reduceLE, Nat.reducePow, Nat.reduceLT, Int.reduceToNat, gt_iff_lt, ge_iff_le, decide_eq_true_eq, Bool.not_eq_true', decide_eq_false_iff_not, scal, ↓reduceIte, Bool.false_eq_true]
      refine ite2 (fun h => q) (fun h => ?_)
      exfalso
      omega
  · have e1 : frOk K H v = false := by
      cases v with
      | ref a =>
        have h1 : tyO (ob K H a) = some t := ht
        cases hz : ob K H a with
        | none => simp only [frOk, hz]
        | some z =>
          cases z with
          | tup xs =>
            rw [hz] at h1
            exact absurd (Option.some.inj h1).symm e
          | _ => simp only [frOk, hz]
      | _ => rfl
    rw [e1] at q
    have mt := tyN_mem ht
    simp only [List.mem_cons, List.not_mem_nil, or_false] at mt
    rcases mt with rfl | rfl | rfl | rfl | rfl | rfl | rfl <;> first | exact absurd rfl e | (simp only [ht, cx_K, decide_true, decide_false, reduceCtorEq, gTp, gCons, gNil, ca_0, ca_1, ca_2, ca_3, ca_4, ca_5, ca_6, ca_7, ca_8, ca_9, ca_10, ca_11, ca_12, ca_13, ca_14, ca_15, ca_16, ca_17, ca_18, ca_19, ca_20, ca_21, ca_22, ca_23, ca_24, ca_25, ca_26, ca_27, ca_28, ca_29, ca_30, not_true_eq_false, not_false_eq_true, Int.reduceEq, Nat.reduceEqDiff, Nat.reduceLeDiff, rGcd, V.ty.injEq, eq_self, List.not_mem_nil, beq_self_eq_true, HO.lst.injEq, HO.tup.injEq, tFor_eq, iRng1, iList, iTup, nat10, tSeq, rIxA, rSetA, rIsN, rIsT, tTp, tLs, itsO_tup, itsO_lst, tyO_tup, tyO_lst, tyO_dK, tyN_non, tyN_bl, tyN_int, tyN_str, tyN_ref, tyNs_lt, isB, upd_same, upd_upd, sizeLine_eq, List.mem_cons, String.reduceBEq, String.reduceEq, Bool.or_false, Bool.or_true, Bool.and_false, Bool.false_or, Bool.and_self, Bool.false_and, Bool.not_false, Bool.not_true, List.any_cons, List.any_nil, atI_0, setI_0, atI_1, setI_1, atI_2, setI_2, atI_3, setI_3, atI_4, setI_4, atI_5, setI_5, atI_6, setI_6, tAsg, gName, tOp, tUn, tVar, tC, tCons, L2.tNil, tRet, tIfS, tTest, tCB, tCall, rI, rI0, rU, tNext, tB, tAnd, tOr, tNot, tAndV, tOrV, tNotV, tDrop, tIf, tPar, gSub, rIxL, rIxT, rEq, rNe, rSetL, tBits,
    L2.start, List.map_cons, List.map_nil, List.cons_append, List.nil_append, List.append_nil, List.length_cons, List.length_nil, List.replicate, Nat.reduceAdd, Nat.reduceSub, Nat.zero_add, List.getElem?_cons_zero, List.getElem?_cons_succ, List.set_cons_zero, List.set_cons_succ,
    Option.some.injEq, exists_eq_left', exists_eq_left, V.int.injEq, V.bl.injEq, V.ref.injEq, V.str.injEq, List.cons.injEq, reduceCtorEq, and_true, true_and, false_and, and_false, exists_false, or_false, false_or, or_true, true_or, exists_const, CMul, CDiv, CPow, and_assoc, exists_and_left, exists_and_right, Int.reducePow, Int.reduceNeg, Int.reduceLT, Int.reduceLE, Nat.reducePow, Nat.reduceLT, Int.reduceToNat, gt_iff_lt, ge_iff_le, decide_eq_true_eq, Bool.not_eq_true', decide_eq_false_iff_not, scal, ↓reduceIte, Bool.false_eq_true]; exact q)
end
end My

namespace My
open PySem PySem.Spec PyProof.Rows L2
section
variable {P : Program} {w : World} {K : PySem.W.Frag} {mg : Str → Option Value} {base : Heap}
theorem nf_part {q : Qt} (h : Nf q) : Nf (q.1 % q.2, q.2) := by
  refine ⟨h.1, ?_⟩
  show Int.gcd (q.1 % q.2) q.2 = 1
  have e : q.1 % q.2 = q.1 + (-(q.1 / q.2)) * q.2 := by
    have := Int.emod_add_mul_ediv q.1 q.2
    rw [Int.neg_mul, Int.mul_comm]
    omega
  rw [e, Int.gcd_add_mul_right_left]
  exact h.2
theorem nf_abs {q : Qt} (h : Nf q) : Nf ((q.1.natAbs : Int), q.2) := ⟨h.1, by
  show Int.gcd (q.1.natAbs : Int) q.2 = 1
  rw [← h.2]
  rfl⟩
theorem nf_neg {q : Qt} (h : Nf q) : Nf (-q.1, q.2) := ⟨h.1, by
  show Int.gcd (-q.1) q.2 = 1
  rw [Int.neg_gcd]
  exact h.2⟩
def off (q : Qt) : Qt := (if q.2 < 2 * (q.1 % q.2) then q.1 % q.2 - q.2 else q.1 % q.2, q.2)
theorem nf_off {q : Qt} (h : Nf q) : Nf (off q) := by
  have k := nf_part h
  unfold off
  split
  · refine ⟨h.1, ?_⟩
    show Int.gcd (q.1 % q.2 - q.2) q.2 = 1
    rw [show q.1 % q.2 - q.2 = q.1 % q.2 + (-1) * q.2 by omega, Int.gcd_add_mul_right_left]
    exact k.2
  · exact k
theorem is_self {q : Qt} (h : Nf q) : Is q q.1 q.2 := ⟨h, rfl⟩
def sum2 (p q : Qt) (z : Qt) : Prop := Is z (p.1 * q.2 + q.1 * p.2) (p.2 * q.2)
theorem Nf.ne {q : Qt} (h : Nf q) : q.2 ≠ 0 := by have := h.1; omega
theorem mul_ne {a b : Int} (h1 : 1 ≤ a) (h2 : 1 ≤ b) : a * b ≠ 0 := Int.mul_ne_zero (by omega) (by omega)
theorem szPart {q : Qt} {k : Nat} (h : Nf q) (hz : Sz k q) : Sz k (q.1 % q.2, q.2) := by
  refine ⟨?_, hz.2⟩
  have h1 := Int.emod_nonneg q.1 h.ne
  have h2 := Int.emod_lt_of_pos q.1 (show 0 < q.2 by have := h.1; omega)
  have := hz.2
  show (q.1 % q.2).natAbs < 2 ^ k
  omega
theorem szOff {q : Qt} {k : Nat} (h : Nf q) (hz : Sz k q) : Sz k (off q) := by
  have h1 := Int.emod_nonneg q.1 h.ne
  have h2 := Int.emod_lt_of_pos q.1 (show 0 < q.2 by have := h.1; omega)
  have h3 := hz.2
  have h4 := h.1
  unfold off
  refine ⟨?_, h3⟩
  show (if q.2 < 2 * (q.1 % q.2) then q.1 % q.2 - q.2 else q.1 % q.2).natAbs < 2 ^ k
  split <;> omega
/-- a fraction at a, in lowest terms, of a bounded size -/
structure Fq (K : PySem.W.Frag) (H : Hp) (k : Nat) (a : Addr) (q : Qt) : Prop where
  o : ob K H a = some (.tup [.int q.1, .int q.2])
  nf : Nf q
  sz : Sz k q
theorem Fq.same {H H' : Hp} {k : Nat} {a : Addr} {q : Qt} (h : Fq K H k a q) (s : Same H H') : Fq K H' k a q := ⟨ob_same s h.o, h.nf, h.sz⟩
theorem Fq.kp {H H' : Hp} {k : Nat} {a s : Addr} {q : Qt} {ys : List V} (h : Fq K H k a q) (e : Kp s H H') (hs : H s = some (.lst ys)) : Fq K H' k a q := ⟨ob_kp e hs (fun _ z => by cases z) h.o, h.nf, h.sz⟩
theorem Fq.mono {H : Hp} {j k : Nat} {a : Addr} {q : Qt} (h : Fq K H j a q) (l : j ≤ k) : Fq K H k a q := ⟨h.o, h.nf, h.sz.mono l⟩
def spBin (K : PySem.W.Frag) (R : Qt → Qt → Qt → Prop) : Sp := fun vs H Q _ => ∃ (a b : Addr) (p q : Qt), vs = [.ref a, .ref b] ∧ Fq K H 3000 a p ∧ Fq K H 3000 b q ∧ ∀ z, R p q z → Gv K H Q z
def spUn (K : PySem.W.Frag) (g : Qt → Qt) : Sp := fun vs H Q _ => ∃ (a : Addr) (q : Qt), vs = [.ref a] ∧ Fq K H 8000 a q ∧ Gv K H Q (g q)
def spFloor (K : PySem.W.Frag) : Sp := fun vs H Q _ => ∃ (a : Addr) (q : Qt), vs = [.ref a] ∧ Fq K H 8000 a q ∧ Q (.int (q.1 / q.2)) H
abbrev sPlus : Stmt := topS 15
theorem scPlus : FnScope ["left", "right"] ["left", "right"] (defScope sPlus) := ⟨rfl, rfl, rfl, by decide +kernel, rfl, by decide +kernel, by decide +kernel⟩
theorem k_Plus (T : Bt K mg) (D : Dfn K mg "plus" sPlus ["left", "right"]) (d_require : Kn P w K mg base 1 "require" ["well_formed", "what"] spRequire) (d_is_fraction : Kn P w K mg base 2 "is_fraction" ["value"] (spIsFraction K)) (d_fraction : Kn P w K mg base 2 "fraction" ["numerator", "denominator"] (spFraction K)) : Kn P w K mg base 3 "plus" ["left", "right"] (spBin K sum2) := by
  refine Kn.mk' D scPlus (fun vs H Q E h => ?_) (fun f cdv A outer s H vs Q E hr h => ?_)
  · obtain ⟨a, b, p, q, rfl, _⟩ := h
    rfl
  obtain ⟨a, b, p, q, rfl, hp, hq, k⟩ := h
  refine ⟨_, (pss_cons (ps_expr (pe_kn d_require hr (by rfl) (pa_cons (pe_kn d_is_fraction hr (by rfl) (pa_cons (pv 0) pa_nil)) (pa_cons pe_str pa_nil))))
      (pss_cons (ps_expr (pe_kn d_require hr (by rfl) (pa_cons (pe_kn d_is_fraction hr (by rfl) (pa_cons (pv 1) pa_nil)) (pa_cons pe_str pa_nil))))
      (pss_one (ps_ret (pe_kn d_fraction hr (by rfl) (pa_cons (pe_op op_add (pe_op op_mulW (pe_ix ix_any (pv 0) pe_int (fun _ _ => rfl)) (pe_ix ix_any (pv 1) pe_int (fun _ _ => rfl))) (pe_op op_mulW (pe_ix ix_any (pv 1) pe_int (fun _ _ => rfl)) (pe_ix ix_any (pv 0) pe_int (fun _ _ => rfl)))) (pa_cons (pe_op op_mulW (pe_ix ix_any (pv 0) pe_int (fun _ _ => rfl)) (pe_ix ix_any (pv 1) pe_int (fun _ _ => rfl))) pa_nil))))))), ?_⟩
  simp only [cx_K, decide_true, decide_false, reduceCtorEq, gTp, gCons, gNil, ca_0, ca_1, ca_2, ca_3, ca_4, ca_5, ca_6, ca_7, ca_8, ca_9, ca_10, ca_11, ca_12, ca_13, ca_14, ca_15, ca_16, ca_17, ca_18, ca_19, ca_20, ca_21, ca_22, ca_23, ca_24, ca_25, ca_26, ca_27, ca_28, ca_29, ca_30, not_true_eq_false, not_false_eq_true, Int.reduceEq, Nat.reduceEqDiff, Nat.reduceLeDiff, rGcd, V.ty.injEq, eq_self, List.not_mem_nil, beq_self_eq_true, HO.lst.injEq, HO.tup.injEq, tFor_eq, iRng1, iList, iTup, nat10, tSeq, rIxA, rSetA, rIsN, rIsT, tTp, tLs, itsO_tup, itsO_lst, tyO_tup, tyO_lst, tyO_dK, tyN_non, tyN_bl, tyN_int, tyN_str, tyN_ref, tyNs_lt, isB, upd_same, upd_upd, sizeLine_eq, List.mem_cons, String.reduceBEq, String.reduceEq, Bool.or_false, Bool.or_true, Bool.and_false, Bool.false_or, Bool.and_self, Bool.false_and, Bool.not_false, Bool.not_true, List.any_cons, List.any_nil, atI_0, setI_0, atI_1, setI_1, atI_2, setI_2, atI_3, setI_3, atI_4, setI_4, atI_5, setI_5, atI_6, setI_6, tAsg, gName, tOp, tUn, tVar, tC, tCons, L2.tNil, tRet, tIfS, tTest, tCB, tCall, rI, rI0, rU, tNext, tB, tAnd, tOr, tNot, tAndV, tOrV, tNotV, tDrop, tIf, tPar, gSub, rIxL, rIxT, rEq, rNe, rSetL, tBits,
    L2.start, List.map_cons, List.map_nil, List.cons_append, List.nil_append, List.append_nil, List.length_cons, List.length_nil, List.replicate, Nat.reduceAdd, Nat.reduceSub, Nat.zero_add, List.getElem?_cons_zero, List.getElem?_cons_succ, List.set_cons_zero, List.set_cons_succ,
    Option.some.injEq, exists_eq_left', exists_eq_left, V.int.injEq, V.bl.injEq, V.ref.injEq, V.str.injEq, List.cons.injEq, reduceCtorEq, and_true, true_and, false_and, and_false, exists_false, or_false, false_or, or_true, true_or, exists_const, CMul, CDiv, CPow, and_assoc, exists_and_left, exists_and_right, Int.reducePow, Int.reduceNeg, Int.reduceLT, Int.reduceLE, Nat.reducePow, Nat.reduceLT, Int.reduceToNat, gt_iff_lt, ge_iff_le, decide_eq_true_eq, Bool.not_eq_true', decide_eq_false_iff_not, scal, ↓reduceIte, Bool.false_eq_true]
  refine ⟨_, rfl, Tyd.fr hp.o, _, by rw [frOk_fr hp.o hp.nf], _, rfl, Tyd.fr hq.o, _, by rw [frOk_fr hq.o hq.nf], ?_⟩
  simp only [hp.o, hq.o, cx_K, decide_true, decide_false, reduceCtorEq, gTp, gCons, gNil, ca_0, ca_1, ca_2, ca_3, ca_4, ca_5, ca_6, ca_7, ca_8, ca_9, ca_10, ca_11, ca_12, ca_13, ca_14, ca_15, ca_16, ca_17, ca_18, ca_19, ca_20, ca_21, ca_22, ca_23, ca_24, ca_25, ca_26, ca_27, ca_28, ca_29, ca_30, not_true_eq_false, not_false_eq_true, Int.reduceEq, Nat.reduceEqDiff, Nat.reduceLeDiff, rGcd, V.ty.injEq, eq_self, List.not_mem_nil, beq_self_eq_true, HO.lst.injEq, HO.tup.injEq, tFor_eq, iRng1, iList, iTup, nat10, tSeq, rIxA, rSetA, rIsN, rIsT, tTp, tLs, itsO_tup, itsO_lst, tyO_tup, tyO_lst, tyO_dK, tyN_non, tyN_bl, tyN_int, tyN_str, tyN_ref, tyNs_lt, isB, upd_same, upd_upd, sizeLine_eq, List.mem_cons, String.reduceBEq, String.reduceEq, Bool.or_false, Bool.or_true, Bool.and_false, Bool.false_or, Bool.and_self, Bool.false_and, Bool.not_false, Bool.not_true, List.any_cons, List.any_nil, atI_0, setI_0, atI_1, setI_1, atI_2, setI_2, atI_3, setI_3, atI_4, setI_4, atI_5, setI_5, atI_6, setI_6, tAsg, gName, tOp, tUn, tVar, tC, tCons, L2.tNil, tRet, tIfS, tTest, tCB, tCall, rI, rI0, rU, tNext, tB, tAnd, tOr, tNot, tAndV, tOrV, tNotV, tDrop, tIf, tPar, gSub, rIxL, rIxT, rEq, rNe, rSetL, tBits,
    L2.start, List.map_cons, List.map_nil, List.cons_append, List.nil_append, List.append_nil, List.length_cons, List.length_nil, List.replicate, Nat.reduceAdd, Nat.reduceSub, Nat.zero_add, List.getElem?_cons_zero, List.getElem?_cons_succ, List.set_cons_zero, List.set_cons_succ,
    Option.some.injEq, exists_eq_left', exists_eq_left, V.int.injEq, V.bl.injEq, V.ref.injEq, V.str.injEq, List.cons.injEq, reduceCtorEq, and_true, true_and, false_and, and_false, exists_false, or_false, false_or, or_true, true_or, exists_const, CMul, CDiv, CPow, and_assoc, exists_and_left, exists_and_right, Int.reducePow, Int.reduceNeg, Int.reduceLT, Int.reduceLE, Nat.reducePow, Nat.reduceLT, Int.reduceToNat, gt_iff_lt, ge_iff_le, decide_eq_true_eq, Bool.not_eq_true', decide_eq_false_iff_not, scal, ↓reduceIte, Bool.false_eq_true]
  exact ⟨mulW hp.sz.1 hq.sz.2 (by omega), mulW hq.sz.1 hp.sz.2 (by omega), mulW hp.sz.2 hq.sz.2 (by omega), _, _, rfl, mul_ne hp.nf.1 hq.nf.1, szMono (szMul hp.sz.2 hq.sz.2) (by omega), k⟩
def spLFrac (K : PySem.W.Frag) : Sp := fun vs H Q _ => ∃ (a : Addr) (q : Qt), vs = [.ref a] ∧ Fq K H 8000 a q ∧ Q (.bl true) H
abbrev sLFrac : Stmt := topS 42
theorem scLFrac : FnScope ["_law_told"] ["_law_told"] (defScope sLFrac) := ⟨rfl, rfl, rfl, by decide +kernel, rfl, by decide +kernel, by decide +kernel⟩
theorem k_LFrac (T : Bt K mg) (D : Dfn K mg "_law_is_frac" sLFrac ["_law_told"]) (d__law_is_whole : Kn P w K mg base 1 "_law_is_whole" ["_law_told"] (spWhole K)) (d__law_gcd : Kn P w K mg base 1 "_law_gcd" ["_law_left", "_law_right"] spGcd) : Kn P w K mg base 2 "_law_is_frac" ["_law_told"] (spLFrac K) := by
  refine Kn.mk' D scLFrac (fun vs H Q E h => ?_) (fun f cdv A outer s H vs Q E hr h => ?_)
  · obtain ⟨a, q, rfl, _⟩ := h
    rfl
  obtain ⟨a, q, rfl, hq, k⟩ := h
  refine ⟨_, (pss_cons (ps_if (PW.pt (pw_or (pt_not (pt_val (pe_callB call_isN (by rfl) T.b_isinstance (by decide +kernel) (pa_cons (pv 0) (pa_cons (pe_bltn (v := .ty "tuple") (by rfl) T.b_tuple (by decide +kernel) rfl) pa_nil))))) (pw_or1 (pt_cmpR op_ne (pe_callB call_lenA (by rfl) T.b_len PySem.boot_len (pa_cons (pv 0) pa_nil)) pe_int (nomark _))))) (pss_one (ps_ret pe_bl)) pss_nil)
      (pss_cons (ps_if (PW.pt (pw_or (pt_not (pt_val (pe_kn d__law_is_whole hr (by rfl) (pa_cons (pe_ix ix_any (pv 0) pe_int (fun _ _ => rfl)) pa_nil)))) (pw_or1 (pt_not (pt_val (pe_kn d__law_is_whole hr (by rfl) (pa_cons (pe_ix ix_any (pv 0) pe_int (fun _ _ => rfl)) pa_nil))))))) (pss_one (ps_ret pe_bl)) pss_nil)
      (pss_one (ps_ret (pe_and (pe_cmpR op_gt (pe_ix ix_any (pv 0) pe_int (fun _ _ => rfl)) pe_int (nomark _)) (pe_one (pe_cmpR op_eq (pe_kn d__law_gcd hr (by rfl) (pa_cons (pe_ix ix_any (pv 0) pe_int (fun _ _ => rfl)) (pa_cons (pe_ix ix_any (pv 0) pe_int (fun _ _ => rfl)) pa_nil))) pe_int (nomark _)))))))), ?_⟩
  simp only [hq.o, cx_K, decide_true, decide_false, reduceCtorEq, gTp, gCons, gNil, ca_0, ca_1, ca_2, ca_3, ca_4, ca_5, ca_6, ca_7, ca_8, ca_9, ca_10, ca_11, ca_12, ca_13, ca_14, ca_15, ca_16, ca_17, ca_18, ca_19, ca_20, ca_21, ca_22, ca_23, ca_24, ca_25, ca_26, ca_27, ca_28, ca_29, ca_30, not_true_eq_false, not_false_eq_true, Int.reduceEq, Nat.reduceEqDiff, Nat.reduceLeDiff, rGcd, V.ty.injEq, eq_self, List.not_mem_nil, beq_self_eq_true, HO.lst.injEq, HO.tup.injEq, tFor_eq, iRng1, iList, iTup, nat10, tSeq, rIxA, rSetA, rIsN, rIsT, tTp, tLs, itsO_tup, itsO_lst, tyO_tup, tyO_lst, tyO_dK, tyN_non, tyN_bl, tyN_int, tyN_str, tyN_ref, tyNs_lt, isB, upd_same, upd_upd, sizeLine_eq, List.mem_cons, String.reduceBEq, String.reduceEq, Bool.or_false, Bool.or_true, Bool.and_false, Bool.false_or, Bool.and_self, Bool.false_and, Bool.not_false, Bool.not_true, List.any_cons, List.any_nil, atI_0, setI_0, atI_1, setI_1, atI_2, setI_2, atI_3, setI_3, atI_4, setI_4, atI_5, setI_5, atI_6, setI_6, tAsg, gName, tOp, tUn, tVar, tC, tCons, L2.tNil, tRet, tIfS, tTest, tCB, tCall, rI, rI0, rU, tNext, tB, tAnd, tOr, tNot, tAndV, tOrV, tNotV, tDrop, tIf, tPar, gSub, rIxL, rIxT, rEq, rNe, rSetL, tBits,
    L2.start, List.map_cons, List.map_nil, List.cons_append, List.nil_append, List.append_nil, List.length_cons, List.length_nil, List.replicate, Nat.reduceAdd, Nat.reduceSub, Nat.zero_add, List.getElem?_cons_zero, List.getElem?_cons_succ, List.set_cons_zero, List.set_cons_succ,
    Option.some.injEq, exists_eq_left', exists_eq_left, V.int.injEq, V.bl.injEq, V.ref.injEq, V.str.injEq, List.cons.injEq, reduceCtorEq, and_true, true_and, false_and, and_false, exists_false, or_false, false_or, or_true, true_or, exists_const, CMul, CDiv, CPow, and_assoc, exists_and_left, exists_and_right, Int.reducePow, Int.reduceNeg, Int.reduceLT, Int.reduceLE, Nat.reducePow, Nat.reduceLT, Int.reduceToNat, gt_iff_lt, ge_iff_le, decide_eq_true_eq, Bool.not_eq_true', decide_eq_false_iff_not, scal, ↓reduceIte, Bool.false_eq_true]
  refine ⟨_, rfl, rfl, true, rfl, ?_⟩
  rw [if_neg Bool.noConfusion]
  simp only [hq.o, cx_K, decide_true, decide_false, reduceCtorEq, gTp, gCons, gNil, ca_0, ca_1, ca_2, ca_3, ca_4, ca_5, ca_6, ca_7, ca_8, ca_9, ca_10, ca_11, ca_12, ca_13, ca_14, ca_15, ca_16, ca_17, ca_18, ca_19, ca_20, ca_21, ca_22, ca_23, ca_24, ca_25, ca_26, ca_27, ca_28, ca_29, ca_30, not_true_eq_false, not_false_eq_true, Int.reduceEq, Nat.reduceEqDiff, Nat.reduceLeDiff, rGcd, V.ty.injEq, eq_self, List.not_mem_nil, beq_self_eq_true, HO.lst.injEq, HO.tup.injEq, tFor_eq, iRng1, iList, iTup, nat10, tSeq, rIxA, rSetA, rIsN, rIsT, tTp, tLs, itsO_tup, itsO_lst, tyO_tup, tyO_lst, tyO_dK, tyN_non, tyN_bl, tyN_int, tyN_str, tyN_ref, tyNs_lt, isB, upd_same, upd_upd, sizeLine_eq, List.mem_cons, String.reduceBEq, String.reduceEq, Bool.or_false, Bool.or_true, Bool.and_false, Bool.false_or, Bool.and_self, Bool.false_and, Bool.not_false, Bool.not_true, List.any_cons, List.any_nil, atI_0, setI_0, atI_1, setI_1, atI_2, setI_2, atI_3, setI_3, atI_4, setI_4, atI_5, setI_5, atI_6, setI_6, tAsg, gName, tOp, tUn, tVar, tC, tCons, L2.tNil, tRet, tIfS, tTest, tCB, tCall, rI, rI0, rU, tNext, tB, tAnd, tOr, tNot, tAndV, tOrV, tNotV, tDrop, tIf, tPar, gSub, rIxL, rIxT, rEq, rNe, rSetL, tBits,
    L2.start, List.map_cons, List.map_nil, List.cons_append, List.nil_append, List.append_nil, List.length_cons, List.length_nil, List.replicate, Nat.reduceAdd, Nat.reduceSub, Nat.zero_add, List.getElem?_cons_zero, List.getElem?_cons_succ, List.set_cons_zero, List.set_cons_succ,
    Option.some.injEq, exists_eq_left', exists_eq_left, V.int.injEq, V.bl.injEq, V.ref.injEq, V.str.injEq, List.cons.injEq, reduceCtorEq, and_true, true_and, false_and, and_false, exists_false, or_false, false_or, or_true, true_or, exists_const, CMul, CDiv, CPow, and_assoc, exists_and_left, exists_and_right, Int.reducePow, Int.reduceNeg, Int.reduceLT, Int.reduceLE, Nat.reducePow, Nat.reduceLT, Int.reduceToNat, gt_iff_lt, ge_iff_le, decide_eq_true_eq, Bool.not_eq_true', decide_eq_false_iff_not, scal, ↓reduceIte, Bool.false_eq_true]
  refine ⟨_, rfl, rfl, true, rfl, ?_⟩
  rw [if_neg Bool.noConfusion]
  simp only [hq.o, cx_K, decide_true, decide_false, reduceCtorEq, gTp, gCons, gNil, ca_0, ca_1, ca_2, ca_3, ca_4, ca_5, ca_6, ca_7, ca_8, ca_9, ca_10, ca_11, ca_12, ca_13, ca_14, ca_15, ca_16, ca_17, ca_18, ca_19, ca_20, ca_21, ca_22, ca_23, ca_24, ca_25, ca_26, ca_27, ca_28, ca_29, ca_30, not_true_eq_false, not_false_eq_true, Int.reduceEq, Nat.reduceEqDiff, Nat.reduceLeDiff, rGcd, V.ty.injEq, eq_self, List.not_mem_nil, beq_self_eq_true, HO.lst.injEq, HO.tup.injEq, tFor_eq, iRng1, iList, iTup, nat10, tSeq, rIxA, rSetA, rIsN, rIsT, tTp, tLs, itsO_tup, itsO_lst, tyO_tup, tyO_lst, tyO_dK, tyN_non, tyN_bl, tyN_int, tyN_str, tyN_ref, tyNs_lt, isB, upd_same, upd_upd, sizeLine_eq, List.mem_cons, String.reduceBEq, String.reduceEq, Bool.or_false, Bool.or_true, Bool.and_false, Bool.false_or, Bool.and_self, Bool.false_and, Bool.not_false, Bool.not_true, List.any_cons, List.any_nil, atI_0, setI_0, atI_1, setI_1, atI_2, setI_2, atI_3, setI_3, atI_4, setI_4, atI_5, setI_5, atI_6, setI_6, tAsg, gName, tOp, tUn, tVar, tC, tCons, L2.tNil, tRet, tIfS, tTest, tCB, tCall, rI, rI0, rU, tNext, tB, tAnd, tOr, tNot, tAndV, tOrV, tNotV, tDrop, tIf, tPar, gSub, rIxL, rIxT, rEq, rNe, rSetL, tBits,
    L2.start, List.map_cons, List.map_nil, List.cons_append, List.nil_append, List.append_nil, List.length_cons, List.length_nil, List.replicate, Nat.reduceAdd, Nat.reduceSub, Nat.zero_add, List.getElem?_cons_zero, List.getElem?_cons_succ, List.set_cons_zero, List.set_cons_succ,
    Option.some.injEq, exists_eq_left', exists_eq_left, V.int.injEq, V.bl.injEq, V.ref.injEq, V.str.injEq, List.cons.injEq, reduceCtorEq, and_true, true_and, false_and, and_false, exists_false, or_false, false_or, or_true, true_or, exists_const, CMul, CDiv, CPow, and_assoc, exists_and_left, exists_and_right, Int.reducePow, Int.reduceNeg, Int.reduceLT, Int.reduceLE, Nat.reducePow, Nat.reduceLT, Int.reduceToNat, gt_iff_lt, ge_iff_le, decide_eq_true_eq, Bool.not_eq_true', decide_eq_false_iff_not, scal, ↓reduceIte, Bool.false_eq_true]
  rw [if_pos (show 0 < q.2 by have := hq.nf.1; omega)]
  refine ⟨_, _, rfl, rfl, ?_⟩
  have e : decide (V.int ((Int.gcd q.1 q.2 : Nat) : Int) = V.int 1) = true := by rw [hq.nf.2]; rfl
  rw [e]
  exact k
def dif2 (p q : Qt) (z : Qt) : Prop := Is z (p.1 * q.2 - q.1 * p.2) (p.2 * q.2)
def pro2 (p q : Qt) (z : Qt) : Prop := Is z (p.1 * q.1) (p.2 * q.2)
def quo2 (p q : Qt) (z : Qt) : Prop := Is z (p.1 * q.2) (p.2 * q.1)
def cmp2 (p q : Qt) : Int := if p.1 * q.2 = q.1 * p.2 then 0 else if p.1 * q.2 < q.1 * p.2 then -1 else 1
def spQuo (K : PySem.W.Frag) : Sp := fun vs H Q _ => ∃ (a b : Addr) (p q : Qt), vs = [.ref a, .ref b] ∧ Fq K H 3000 a p ∧ Fq K H 3000 b q ∧ q.1 ≠ 0 ∧ ∀ z, quo2 p q z → Gv K H Q z
def spCmp (K : PySem.W.Frag) : Sp := fun vs H Q _ => ∃ (a b : Addr) (p q : Qt), vs = [.ref a, .ref b] ∧ Fq K H 3000 a p ∧ Fq K H 3000 b q ∧ Q (.int (cmp2 p q)) H
abbrev sMinus : Stmt := topS 16
theorem scMinus : FnScope ["left", "right"] ["left", "right"] (defScope sMinus) := ⟨rfl, rfl, rfl, by decide +kernel, rfl, by decide +kernel, by decide +kernel⟩
theorem k_Minus (T : Bt K mg) (D : Dfn K mg "minus" sMinus ["left", "right"]) (d_require : Kn P w K mg base 1 "require" ["well_formed", "what"] spRequire) (d_is_fraction : Kn P w K mg base 2 "is_fraction" ["value"] (spIsFraction K)) (d_fraction : Kn P w K mg base 2 "fraction" ["numerator", "denominator"] (spFraction K)) : Kn P w K mg base 3 "minus" ["left", "right"] (spBin K dif2) := by
  refine Kn.mk' D scMinus (fun vs H Q E h => ?_) (fun f cdv A outer s H vs Q E hr h => ?_)
  · obtain ⟨a, b, p, q, rfl, _⟩ := h
    rfl
  obtain ⟨a, b, p, q, rfl, hp, hq, k⟩ := h
  refine ⟨_, (pss_cons (ps_expr (pe_kn d_require hr (by rfl) (pa_cons (pe_kn d_is_fraction hr (by rfl) (pa_cons (pv 0) pa_nil)) (pa_cons pe_str pa_nil))))
      (pss_cons (ps_expr (pe_kn d_require hr (by rfl) (pa_cons (pe_kn d_is_fraction hr (by rfl) (pa_cons (pv 1) pa_nil)) (pa_cons pe_str pa_nil))))
      (pss_one (ps_ret (pe_kn d_fraction hr (by rfl) (pa_cons (pe_op op_sub (pe_op op_mulW (pe_ix ix_any (pv 0) pe_int (fun _ _ => rfl)) (pe_ix ix_any (pv 1) pe_int (fun _ _ => rfl))) (pe_op op_mulW (pe_ix ix_any (pv 1) pe_int (fun _ _ => rfl)) (pe_ix ix_any (pv 0) pe_int (fun _ _ => rfl)))) (pa_cons (pe_op op_mulW (pe_ix ix_any (pv 0) pe_int (fun _ _ => rfl)) (pe_ix ix_any (pv 1) pe_int (fun _ _ => rfl))) pa_nil))))))), ?_⟩
  simp only [cx_K, decide_true, decide_false, reduceCtorEq, gTp, gCons, gNil, ca_0, ca_1, ca_2, ca_3, ca_4, ca_5, ca_6, ca_7, ca_8, ca_9, ca_10, ca_11, ca_12, ca_13, ca_14, ca_15, ca_16, ca_17, ca_18, ca_19, ca_20, ca_21, ca_22, ca_23, ca_24, ca_25, ca_26, ca_27, ca_28, ca_29, ca_30, not_true_eq_false, not_false_eq_true, Int.reduceEq, Nat.reduceEqDiff, Nat.reduceLeDiff, rGcd, V.ty.injEq, eq_self, List.not_mem_nil, beq_self_eq_true, HO.lst.injEq, HO.tup.injEq, tFor_eq, iRng1, iList, iTup, nat10, tSeq, rIxA, rSetA, rIsN, rIsT, tTp, tLs, itsO_tup, itsO_lst, tyO_tup, tyO_lst, tyO_dK, tyN_non, tyN_bl, tyN_int, tyN_str, tyN_ref, tyNs_lt, isB, upd_same, upd_upd, sizeLine_eq, List.mem_cons, String.reduceBEq, String.reduceEq, Bool.or_false, Bool.or_true, Bool.and_false, Bool.false_or, Bool.and_self, Bool.false_and, Bool.not_false, Bool.not_true, List.any_cons, List.any_nil, atI_0, setI_0, atI_1, setI_1, atI_2, setI_2, atI_3, setI_3, atI_4, setI_4, atI_5, setI_5, atI_6, setI_6, tAsg, gName, tOp, tUn, tVar, tC, tCons, L2.tNil, tRet, tIfS, tTest, tCB, tCall, rI, rI0, rU, tNext, tB, tAnd, tOr, tNot, tAndV, tOrV, tNotV, tDrop, tIf, tPar, gSub, rIxL, rIxT, rEq, rNe, rSetL, tBits,
    L2.start, List.map_cons, List.map_nil, List.cons_append, List.nil_append, List.append_nil, List.length_cons, List.length_nil, List.replicate, Nat.reduceAdd, Nat.reduceSub, Nat.zero_add, List.getElem?_cons_zero, List.getElem?_cons_succ, List.set_cons_zero, List.set_cons_succ,
    Option.some.injEq, exists_eq_left', exists_eq_left, V.int.injEq, V.bl.injEq, V.ref.injEq, V.str.injEq, List.cons.injEq, reduceCtorEq, and_true, true_and, false_and, and_false, exists_false, or_false, false_or, or_true, true_or, exists_const, CMul, CDiv, CPow, and_assoc, exists_and_left, exists_and_right, Int.reducePow, Int.reduceNeg, Int.reduceLT, Int.reduceLE, Nat.reducePow, Nat.reduceLT, Int.reduceToNat, gt_iff_lt, ge_iff_le, decide_eq_true_eq, Bool.not_eq_true', decide_eq_false_iff_not, scal, ↓reduceIte, Bool.false_eq_true]
  refine ⟨_, rfl, Tyd.fr hp.o, _, by rw [frOk_fr hp.o hp.nf], _, rfl, Tyd.fr hq.o, _, by rw [frOk_fr hq.o hq.nf], ?_⟩
  simp only [hp.o, hq.o, cx_K, decide_true, decide_false, reduceCtorEq, gTp, gCons, gNil, ca_0, ca_1, ca_2, ca_3, ca_4, ca_5, ca_6, ca_7, ca_8, ca_9, ca_10, ca_11, ca_12, ca_13, ca_14, ca_15, ca_16, ca_17, ca_18, ca_19, ca_20, ca_21, ca_22, ca_23, ca_24, ca_25, ca_26, ca_27, ca_28, ca_29, ca_30, not_true_eq_false, not_false_eq_true, Int.reduceEq, Nat.reduceEqDiff, Nat.reduceLeDiff, rGcd, V.ty.injEq, eq_self, List.not_mem_nil, beq_self_eq_true, HO.lst.injEq, HO.tup.injEq, tFor_eq, iRng1, iList, iTup, nat10, tSeq, rIxA, rSetA, rIsN, rIsT, tTp, tLs, itsO_tup, itsO_lst, tyO_tup, tyO_lst, tyO_dK, tyN_non, tyN_bl, tyN_int, tyN_str, tyN_ref, tyNs_lt, isB, upd_same, upd_upd, sizeLine_eq, List.mem_cons, String.reduceBEq, String.reduceEq, Bool.or_false, Bool.or_true, Bool.and_false, Bool.false_or, Bool.and_self, Bool.false_and, Bool.not_false, Bool.not_true, List.any_cons, List.any_nil, atI_0, setI_0, atI_1, setI_1, atI_2, setI_2, atI_3, setI_3, atI_4, setI_4, atI_5, setI_5, atI_6, setI_6, tAsg, gName, tOp, tUn, tVar, tC, tCons, L2.tNil, tRet, tIfS, tTest, tCB, tCall, rI, rI0, rU, tNext, tB, tAnd, tOr, tNot, tAndV, tOrV, tNotV, tDrop, tIf, tPar, gSub, rIxL, rIxT, rEq, rNe, rSetL, tBits,
    L2.start, List.map_cons, List.map_nil, List.cons_append, List.nil_append, List.append_nil, List.length_cons, List.length_nil, List.replicate, Nat.reduceAdd, Nat.reduceSub, Nat.zero_add, List.getElem?_cons_zero, List.getElem?_cons_succ, List.set_cons_zero, List.set_cons_succ,
    Option.some.injEq, exists_eq_left', exists_eq_left, V.int.injEq, V.bl.injEq, V.ref.injEq, V.str.injEq, List.cons.injEq, reduceCtorEq, and_true, true_and, false_and, and_false, exists_false, or_false, false_or, or_true, true_or, exists_const, CMul, CDiv, CPow, and_assoc, exists_and_left, exists_and_right, Int.reducePow, Int.reduceNeg, Int.reduceLT, Int.reduceLE, Nat.reducePow, Nat.reduceLT, Int.reduceToNat, gt_iff_lt, ge_iff_le, decide_eq_true_eq, Bool.not_eq_true', decide_eq_false_iff_not, scal, ↓reduceIte, Bool.false_eq_true]
  exact ⟨mulW hp.sz.1 hq.sz.2 (by omega), mulW hq.sz.1 hp.sz.2 (by omega), mulW hp.sz.2 hq.sz.2 (by omega), _, _, rfl, mul_ne hp.nf.1 hq.nf.1, szMono (szMul hp.sz.2 hq.sz.2) (by omega), k⟩
abbrev sTimes : Stmt := topS 17
theorem scTimes : FnScope ["left", "right"] ["left", "right"] (defScope sTimes) := ⟨rfl, rfl, rfl, by decide +kernel, rfl, by decide +kernel, by decide +kernel⟩
theorem k_Times (T : Bt K mg) (D : Dfn K mg "times" sTimes ["left", "right"]) (d_require : Kn P w K mg base 1 "require" ["well_formed", "what"] spRequire) (d_is_fraction : Kn P w K mg base 2 "is_fraction" ["value"] (spIsFraction K)) (d_fraction : Kn P w K mg base 2 "fraction" ["numerator", "denominator"] (spFraction K)) : Kn P w K mg base 3 "times" ["left", "right"] (spBin K pro2) := by
  refine Kn.mk' D scTimes (fun vs H Q E h => ?_) (fun f cdv A outer s H vs Q E hr h => ?_)
  · obtain ⟨a, b, p, q, rfl, _⟩ := h
    rfl
  obtain ⟨a, b, p, q, rfl, hp, hq, k⟩ := h
  refine ⟨_, (pss_cons (ps_expr (pe_kn d_require hr (by rfl) (pa_cons (pe_kn d_is_fraction hr (by rfl) (pa_cons (pv 0) pa_nil)) (pa_cons pe_str pa_nil))))
      (pss_cons (ps_expr (pe_kn d_require hr (by rfl) (pa_cons (pe_kn d_is_fraction hr (by rfl) (pa_cons (pv 1) pa_nil)) (pa_cons pe_str pa_nil))))
      (pss_one (ps_ret (pe_kn d_fraction hr (by rfl) (pa_cons (pe_op op_mulW (pe_ix ix_any (pv 0) pe_int (fun _ _ => rfl)) (pe_ix ix_any (pv 1) pe_int (fun _ _ => rfl))) (pa_cons (pe_op op_mulW (pe_ix ix_any (pv 0) pe_int (fun _ _ => rfl)) (pe_ix ix_any (pv 1) pe_int (fun _ _ => rfl))) pa_nil))))))), ?_⟩
  simp only [cx_K, decide_true, decide_false, reduceCtorEq, gTp, gCons, gNil, ca_0, ca_1, ca_2, ca_3, ca_4, ca_5, ca_6, ca_7, ca_8, ca_9, ca_10, ca_11, ca_12, ca_13, ca_14, ca_15, ca_16, ca_17, ca_18, ca_19, ca_20, ca_21, ca_22, ca_23, ca_24, ca_25, ca_26, ca_27, ca_28, ca_29, ca_30, not_true_eq_false, not_false_eq_true, Int.reduceEq, Nat.reduceEqDiff, Nat.reduceLeDiff, rGcd, V.ty.injEq, eq_self, List.not_mem_nil, beq_self_eq_true, HO.lst.injEq, HO.tup.injEq, tFor_eq, iRng1, iList, iTup, nat10, tSeq, rIxA, rSetA, rIsN, rIsT, tTp, tLs, itsO_tup, itsO_lst, tyO_tup, tyO_lst, tyO_dK, tyN_non, tyN_bl, tyN_int, tyN_str, tyN_ref, tyNs_lt, isB, upd_same, upd_upd, sizeLine_eq, List.mem_cons, String.reduceBEq, String.reduceEq, Bool.or_false, Bool.or_true, Bool.and_false, Bool.false_or, Bool.and_self, Bool.false_and, Bool.not_false, Bool.not_true, List.any_cons, List.any_nil, atI_0, setI_0, atI_1, setI_1, atI_2, setI_2, atI_3, setI_3, atI_4, setI_4, atI_5, setI_5, atI_6, setI_6, tAsg, gName, tOp, tUn, tVar, tC, tCons, L2.tNil, tRet, tIfS, tTest, tCB, tCall, rI, rI0, rU, tNext, tB, tAnd, tOr, tNot, tAndV, tOrV, tNotV, tDrop, tIf, tPar, gSub, rIxL, rIxT, rEq, rNe, rSetL, tBits,
    L2.start, List.map_cons, List.map_nil, List.cons_append, List.nil_append, List.append_nil, List.length_cons, List.length_nil, List.replicate, Nat.reduceAdd, Nat.reduceSub, Nat.zero_add, List.getElem?_cons_zero, List.getElem?_cons_succ, List.set_cons_zero, List.set_cons_succ,
    Option.some.injEq, exists_eq_left', exists_eq_left, V.int.injEq, V.bl.injEq, V.ref.injEq, V.str.injEq, List.cons.injEq, reduceCtorEq, and_true, true_and, false_and, and_false, exists_false, or_false, false_or, or_true, true_or, exists_const, CMul, CDiv, CPow, and_assoc, exists_and_left, exists_and_right, Int.reducePow, Int.reduceNeg, Int.reduceLT, Int.reduceLE, Nat.reducePow, Nat.reduceLT, Int.reduceToNat, gt_iff_lt, ge_iff_le, decide_eq_true_eq, Bool.not_eq_true', decide_eq_false_iff_not, scal, ↓reduceIte, Bool.false_eq_true]
  refine ⟨_, rfl, Tyd.fr hp.o, _, by rw [frOk_fr hp.o hp.nf], _, rfl, Tyd.fr hq.o, _, by rw [frOk_fr hq.o hq.nf], ?_⟩
  simp only [hp.o, hq.o, cx_K, decide_true, decide_false, reduceCtorEq, gTp, gCons, gNil, ca_0, ca_1, ca_2, ca_3, ca_4, ca_5, ca_6, ca_7, ca_8, ca_9, ca_10, ca_11, ca_12, ca_13, ca_14, ca_15, ca_16, ca_17, ca_18, ca_19, ca_20, ca_21, ca_22, ca_23, ca_24, ca_25, ca_26, ca_27, ca_28, ca_29, ca_30, not_true_eq_false, not_false_eq_true, Int.reduceEq, Nat.reduceEqDiff, Nat.reduceLeDiff, rGcd, V.ty.injEq, eq_self, List.not_mem_nil, beq_self_eq_true, HO.lst.injEq, HO.tup.injEq, tFor_eq, iRng1, iList, iTup, nat10, tSeq, rIxA, rSetA, rIsN, rIsT, tTp, tLs, itsO_tup, itsO_lst, tyO_tup, tyO_lst, tyO_dK, tyN_non, tyN_bl, tyN_int, tyN_str, tyN_ref, tyNs_lt, isB, upd_same, upd_upd, sizeLine_eq, List.mem_cons, String.reduceBEq, String.reduceEq, Bool.or_false, Bool.or_true, Bool.and_false, Bool.false_or, Bool.and_self, Bool.false_and, Bool.not_false, Bool.not_true, List.any_cons, List.any_nil, atI_0, setI_0, atI_1, setI_1, atI_2, setI_2, atI_3, setI_3, atI_4, setI_4, atI_5, setI_5, atI_6, setI_6, tAsg, gName, tOp, tUn, tVar, tC, tCons, L2.tNil, tRet, tIfS, tTest, tCB, tCall, rI, rI0, rU, tNext, tB, tAnd, tOr, tNot, tAndV, tOrV, tNotV, tDrop, tIf, tPar, gSub, rIxL, rIxT, rEq, rNe, rSetL, tBits,
    L2.start, List.map_cons, List.map_nil, List.cons_append, List.nil_append, List.append_nil, List.length_cons, List.length_nil, List.replicate, Nat.reduceAdd, Nat.reduceSub, Nat.zero_add, List.getElem?_cons_zero, List.getElem?_cons_succ, List.set_cons_zero, List.set_cons_succ,
    Option.some.injEq, exists_eq_left', exists_eq_left, V.int.injEq, V.bl.injEq, V.ref.injEq, V.str.injEq, List.cons.injEq, reduceCtorEq, and_true, true_and, false_and, and_false, exists_false, or_false, false_or, or_true, true_or, exists_const, CMul, CDiv, CPow, and_assoc, exists_and_left, exists_and_right, Int.reducePow, Int.reduceNeg, Int.reduceLT, Int.reduceLE, Nat.reducePow, Nat.reduceLT, Int.reduceToNat, gt_iff_lt, ge_iff_le, decide_eq_true_eq, Bool.not_eq_true', decide_eq_false_iff_not, scal, ↓reduceIte, Bool.false_eq_true]
  exact ⟨mulW hp.sz.1 hq.sz.1 (by omega), mulW hp.sz.2 hq.sz.2 (by omega), _, _, rfl, mul_ne hp.nf.1 hq.nf.1, szMono (szMul hp.sz.2 hq.sz.2) (by omega), k⟩
abbrev sOver : Stmt := topS 18
theorem scOver : FnScope ["left", "right"] ["left", "right"] (defScope sOver) := ⟨rfl, rfl, rfl, by decide +kernel, rfl, by decide +kernel, by decide +kernel⟩
theorem k_Over (T : Bt K mg) (D : Dfn K mg "over" sOver ["left", "right"]) (d_require : Kn P w K mg base 1 "require" ["well_formed", "what"] spRequire) (d_is_fraction : Kn P w K mg base 2 "is_fraction" ["value"] (spIsFraction K)) (d_fraction : Kn P w K mg base 2 "fraction" ["numerator", "denominator"] (spFraction K)) : Kn P w K mg base 3 "over" ["left", "right"] (spQuo K) := by
  refine Kn.mk' D scOver (fun vs H Q E h => ?_) (fun f cdv A outer s H vs Q E hr h => ?_)
  · obtain ⟨a, b, p, q, rfl, _⟩ := h
    rfl
  obtain ⟨a, b, p, q, rfl, hp, hq, h0, k⟩ := h
  refine ⟨_, (pss_cons (ps_expr (pe_kn d_require hr (by rfl) (pa_cons (pe_kn d_is_fraction hr (by rfl) (pa_cons (pv 0) pa_nil)) (pa_cons pe_str pa_nil))))
      (pss_cons (ps_expr (pe_kn d_require hr (by rfl) (pa_cons (pe_and (pe_kn d_is_fraction hr (by rfl) (pa_cons (pv 1) pa_nil)) (pe_one (pe_cmpR op_ne (pe_ix ix_any (pv 1) pe_int (fun _ _ => rfl)) pe_int (nomark _)))) (pa_cons pe_str pa_nil))))
      (pss_one (ps_ret (pe_kn d_fraction hr (by rfl) (pa_cons (pe_op op_mulW (pe_ix ix_any (pv 0) pe_int (fun _ _ => rfl)) (pe_ix ix_any (pv 1) pe_int (fun _ _ => rfl))) (pa_cons (pe_op op_mulW (pe_ix ix_any (pv 0) pe_int (fun _ _ => rfl)) (pe_ix ix_any (pv 1) pe_int (fun _ _ => rfl))) pa_nil))))))), ?_⟩
  simp only [cx_K, decide_true, decide_false, reduceCtorEq, gTp, gCons, gNil, ca_0, ca_1, ca_2, ca_3, ca_4, ca_5, ca_6, ca_7, ca_8, ca_9, ca_10, ca_11, ca_12, ca_13, ca_14, ca_15, ca_16, ca_17, ca_18, ca_19, ca_20, ca_21, ca_22, ca_23, ca_24, ca_25, ca_26, ca_27, ca_28, ca_29, ca_30, not_true_eq_false, not_false_eq_true, Int.reduceEq, Nat.reduceEqDiff, Nat.reduceLeDiff, rGcd, V.ty.injEq, eq_self, List.not_mem_nil, beq_self_eq_true, HO.lst.injEq, HO.tup.injEq, tFor_eq, iRng1, iList, iTup, nat10, tSeq, rIxA, rSetA, rIsN, rIsT, tTp, tLs, itsO_tup, itsO_lst, tyO_tup, tyO_lst, tyO_dK, tyN_non, tyN_bl, tyN_int, tyN_str, tyN_ref, tyNs_lt, isB, upd_same, upd_upd, sizeLine_eq, List.mem_cons, String.reduceBEq, String.reduceEq, Bool.or_false, Bool.or_true, Bool.and_false, Bool.false_or, Bool.and_self, Bool.false_and, Bool.not_false, Bool.not_true, List.any_cons, List.any_nil, atI_0, setI_0, atI_1, setI_1, atI_2, setI_2, atI_3, setI_3, atI_4, setI_4, atI_5, setI_5, atI_6, setI_6, tAsg, gName, tOp, tUn, tVar, tC, tCons, L2.tNil, tRet, tIfS, tTest, tCB, tCall, rI, rI0, rU, tNext, tB, tAnd, tOr, tNot, tAndV, tOrV, tNotV, tDrop, tIf, tPar, gSub, rIxL, rIxT, rEq, rNe, rSetL, tBits,
    L2.start, List.map_cons, List.map_nil, List.cons_append, List.nil_append, List.append_nil, List.length_cons, List.length_nil, List.replicate, Nat.reduceAdd, Nat.reduceSub, Nat.zero_add, List.getElem?_cons_zero, List.getElem?_cons_succ, List.set_cons_zero, List.set_cons_succ,
    Option.some.injEq, exists_eq_left', exists_eq_left, V.int.injEq, V.bl.injEq, V.ref.injEq, V.str.injEq, List.cons.injEq, reduceCtorEq, and_true, true_and, false_and, and_false, exists_false, or_false, false_or, or_true, true_or, exists_const, CMul, CDiv, CPow, and_assoc, exists_and_left, exists_and_right, Int.reducePow, Int.reduceNeg, Int.reduceLT, Int.reduceLE, Nat.reducePow, Nat.reduceLT, Int.reduceToNat, gt_iff_lt, ge_iff_le, decide_eq_true_eq, Bool.not_eq_true', decide_eq_false_iff_not, scal, ↓reduceIte, Bool.false_eq_true]
  refine ⟨_, rfl, Tyd.fr hp.o, _, by rw [frOk_fr hp.o hp.nf], _, rfl, Tyd.fr hq.o, true, by rw [frOk_fr hq.o hq.nf], ?_⟩
  rw [if_pos rfl]
  simp only [hq.o, cx_K, decide_true, decide_false, reduceCtorEq, gTp, gCons, gNil, ca_0, ca_1, ca_2, ca_3, ca_4, ca_5, ca_6, ca_7, ca_8, ca_9, ca_10, ca_11, ca_12, ca_13, ca_14, ca_15, ca_16, ca_17, ca_18, ca_19, ca_20, ca_21, ca_22, ca_23, ca_24, ca_25, ca_26, ca_27, ca_28, ca_29, ca_30, not_true_eq_false, not_false_eq_true, Int.reduceEq, Nat.reduceEqDiff, Nat.reduceLeDiff, rGcd, V.ty.injEq, eq_self, List.not_mem_nil, beq_self_eq_true, HO.lst.injEq, HO.tup.injEq, tFor_eq, iRng1, iList, iTup, nat10, tSeq, rIxA, rSetA, rIsN, rIsT, tTp, tLs, itsO_tup, itsO_lst, tyO_tup, tyO_lst, tyO_dK, tyN_non, tyN_bl, tyN_int, tyN_str, tyN_ref, tyNs_lt, isB, upd_same, upd_upd, sizeLine_eq, List.mem_cons, String.reduceBEq, String.reduceEq, Bool.or_false, Bool.or_true, Bool.and_false, Bool.false_or, Bool.and_self, Bool.false_and, Bool.not_false, Bool.not_true, List.any_cons, List.any_nil, atI_0, setI_0, atI_1, setI_1, atI_2, setI_2, atI_3, setI_3, atI_4, setI_4, atI_5, setI_5, atI_6, setI_6, tAsg, gName, tOp, tUn, tVar, tC, tCons, L2.tNil, tRet, tIfS, tTest, tCB, tCall, rI, rI0, rU, tNext, tB, tAnd, tOr, tNot, tAndV, tOrV, tNotV, tDrop, tIf, tPar, gSub, rIxL, rIxT, rEq, rNe, rSetL, tBits,
    L2.start, List.map_cons, List.map_nil, List.cons_append, List.nil_append, List.append_nil, List.length_cons, List.length_nil, List.replicate, Nat.reduceAdd, Nat.reduceSub, Nat.zero_add, List.getElem?_cons_zero, List.getElem?_cons_succ, List.set_cons_zero, List.set_cons_succ,
    Option.some.injEq, exists_eq_left', exists_eq_left, V.int.injEq, V.bl.injEq, V.ref.injEq, V.str.injEq, List.cons.injEq, reduceCtorEq, and_true, true_and, false_and, and_false, exists_false, or_false, false_or, or_true, true_or, exists_const, CMul, CDiv, CPow, and_assoc, exists_and_left, exists_and_right, Int.reducePow, Int.reduceNeg, Int.reduceLT, Int.reduceLE, Nat.reducePow, Nat.reduceLT, Int.reduceToNat, gt_iff_lt, ge_iff_le, decide_eq_true_eq, Bool.not_eq_true', decide_eq_false_iff_not, scal, ↓reduceIte, Bool.false_eq_true]
  refine ⟨_, by rw [decide_eq_false h0]; rfl, ?_⟩
  simp only [hp.o, hq.o, cx_K, decide_true, decide_false, reduceCtorEq, gTp, gCons, gNil, ca_0, ca_1, ca_2, ca_3, ca_4, ca_5, ca_6, ca_7, ca_8, ca_9, ca_10, ca_11, ca_12, ca_13, ca_14, ca_15, ca_16, ca_17, ca_18, ca_19, ca_20, ca_21, ca_22, ca_23, ca_24, ca_25, ca_26, ca_27, ca_28, ca_29, ca_30, not_true_eq_false, not_false_eq_true, Int.reduceEq, Nat.reduceEqDiff, Nat.reduceLeDiff, rGcd, V.ty.injEq, eq_self, List.not_mem_nil, beq_self_eq_true, HO.lst.injEq, HO.tup.injEq, tFor_eq, iRng1, iList, iTup, nat10, tSeq, rIxA, rSetA, rIsN, rIsT, tTp, tLs, itsO_tup, itsO_lst, tyO_tup, tyO_lst, tyO_dK, tyN_non, tyN_bl, tyN_int, tyN_str, tyN_ref, tyNs_lt, isB, upd_same, upd_upd, sizeLine_eq, List.mem_cons, String.reduceBEq, String.reduceEq, Bool.or_false, Bool.or_true, Bool.and_false, Bool.false_or, Bool.and_self, Bool.false_and, Bool.not_false, Bool.not_true, List.any_cons, List.any_nil, atI_0, setI_0, atI_1, setI_1, atI_2, setI_2, atI_3, setI_3, atI_4, setI_4, atI_5, setI_5, atI_6, setI_6, tAsg, gName, tOp, tUn, tVar, tC, tCons, L2.tNil, tRet, tIfS, tTest, tCB, tCall, rI, rI0, rU, tNext, tB, tAnd, tOr, tNot, tAndV, tOrV, tNotV, tDrop, tIf, tPar, gSub, rIxL, rIxT, rEq, rNe, rSetL, tBits,
    L2.start, List.map_cons, List.map_nil, List.cons_append, List.nil_append, List.append_nil, List.length_cons, List.length_nil, List.replicate, Nat.reduceAdd, Nat.reduceSub, Nat.zero_add, List.getElem?_cons_zero, List.getElem?_cons_succ, List.set_cons_zero, List.set_cons_succ,
    Option.some.injEq, exists_eq_left', exists_eq_left, V.int.injEq, V.bl.injEq, V.ref.injEq, V.str.injEq, List.cons.injEq, reduceCtorEq, and_true, true_and, false_and, and_false, exists_false, or_false, false_or, or_true, true_or, exists_const, CMul, CDiv, CPow, and_assoc, exists_and_left, exists_and_right, Int.reducePow, Int.reduceNeg, Int.reduceLT, Int.reduceLE, Nat.reducePow, Nat.reduceLT, Int.reduceToNat, gt_iff_lt, ge_iff_le, decide_eq_true_eq, Bool.not_eq_true', decide_eq_false_iff_not, scal, ↓reduceIte, Bool.false_eq_true]
  exact ⟨mulW hp.sz.1 hq.sz.2 (by omega), mulW hp.sz.2 hq.sz.1 (by omega), _, _, rfl, Int.mul_ne_zero hp.nf.ne h0, szMono (szMul hp.sz.2 hq.sz.1) (by omega), k⟩
abbrev sCompare : Stmt := topS 19
theorem scCompare : FnScope ["left", "right", "scaled_left", "scaled_right"] ["left", "right"] (defScope sCompare) := ⟨rfl, rfl, rfl, by decide +kernel, rfl, by decide +kernel, by decide +kernel⟩
theorem k_Compare (T : Bt K mg) (D : Dfn K mg "compare" sCompare ["left", "right"]) (d_require : Kn P w K mg base 1 "require" ["well_formed", "what"] spRequire) (d_is_fraction : Kn P w K mg base 2 "is_fraction" ["value"] (spIsFraction K)) : Kn P w K mg base 3 "compare" ["left", "right"] (spCmp K) := by
  refine Kn.mk' D scCompare (fun vs H Q E h => ?_) (fun f cdv A outer s H vs Q E hr h => ?_)
  · obtain ⟨a, b, p, q, rfl, _⟩ := h
    rfl
  obtain ⟨a, b, p, q, rfl, hp, hq, k⟩ := h
  refine ⟨_, (pss_cons (ps_expr (pe_kn d_require hr (by rfl) (pa_cons (pe_kn d_is_fraction hr (by rfl) (pa_cons (pv 0) pa_nil)) (pa_cons pe_str pa_nil))))
      (pss_cons (ps_expr (pe_kn d_require hr (by rfl) (pa_cons (pe_kn d_is_fraction hr (by rfl) (pa_cons (pv 1) pa_nil)) (pa_cons pe_str pa_nil))))
      (pss_cons (ps_set (i := 2) scCompare.nd rfl (.inl rfl) (pe_op op_mulW (pe_ix ix_any (pv 0) pe_int (fun _ _ => rfl)) (pe_ix ix_any (pv 1) pe_int (fun _ _ => rfl))))
      (pss_cons (ps_set (i := 3) scCompare.nd rfl (.inl rfl) (pe_op op_mulW (pe_ix ix_any (pv 1) pe_int (fun _ _ => rfl)) (pe_ix ix_any (pv 0) pe_int (fun _ _ => rfl))))
      (pss_cons (ps_if (pt_cmpR op_eq (pv 2) (pv 3) (nomark _)) (pss_one (ps_ret pe_int)) pss_nil)
      (pss_one (ps_ret (pe_ifExp (pt_cmpR op_lt (pv 2) (pv 3) (nomark _)) (pe_un un_neg pe_int) pe_int)))))))), ?_⟩
  simp only [cx_K, decide_true, decide_false, reduceCtorEq, gTp, gCons, gNil, ca_0, ca_1, ca_2, ca_3, ca_4, ca_5, ca_6, ca_7, ca_8, ca_9, ca_10, ca_11, ca_12, ca_13, ca_14, ca_15, ca_16, ca_17, ca_18, ca_19, ca_20, ca_21, ca_22, ca_23, ca_24, ca_25, ca_26, ca_27, ca_28, ca_29, ca_30, not_true_eq_false, not_false_eq_true, Int.reduceEq, Nat.reduceEqDiff, Nat.reduceLeDiff, rGcd, V.ty.injEq, eq_self, List.not_mem_nil, beq_self_eq_true, HO.lst.injEq, HO.tup.injEq, tFor_eq, iRng1, iList, iTup, nat10, tSeq, rIxA, rSetA, rIsN, rIsT, tTp, tLs, itsO_tup, itsO_lst, tyO_tup, tyO_lst, tyO_dK, tyN_non, tyN_bl, tyN_int, tyN_str, tyN_ref, tyNs_lt, isB, upd_same, upd_upd, sizeLine_eq, List.mem_cons, String.reduceBEq, String.reduceEq, Bool.or_false, Bool.or_true, Bool.and_false, Bool.false_or, Bool.and_self, Bool.false_and, Bool.not_false, Bool.not_true, List.any_cons, List.any_nil, atI_0, setI_0, atI_1, setI_1, atI_2, setI_2, atI_3, setI_3, atI_4, setI_4, atI_5, setI_5, atI_6, setI_6, tAsg, gName, tOp, tUn, tVar, tC, tCons, L2.tNil, tRet, tIfS, tTest, tCB, tCall, rI, rI0, rU, tNext, tB, tAnd, tOr, tNot, tAndV, tOrV, tNotV, tDrop, tIf, tPar, gSub, rIxL, rIxT, rEq, rNe, rSetL, tBits,
    L2.start, List.map_cons, List.map_nil, List.cons_append, List.nil_append, List.append_nil, List.length_cons, List.length_nil, List.replicate, Nat.reduceAdd, Nat.reduceSub, Nat.zero_add, List.getElem?_cons_zero, List.getElem?_cons_succ, List.set_cons_zero, List.set_cons_succ,
    Option.some.injEq, exists_eq_left', exists_eq_left, V.int.injEq, V.bl.injEq, V.ref.injEq, V.str.injEq, List.cons.injEq, reduceCtorEq, and_true, true_and, false_and, and_false, exists_false, or_false, false_or, or_true, true_or, exists_const, CMul, CDiv, CPow, and_assoc, exists_and_left, exists_and_right, Int.reducePow, Int.reduceNeg, Int.reduceLT, Int.reduceLE, Nat.reducePow, Nat.reduceLT, Int.reduceToNat, gt_iff_lt, ge_iff_le, decide_eq_true_eq, Bool.not_eq_true', decide_eq_false_iff_not, scal, ↓reduceIte, Bool.false_eq_true]
  refine ⟨_, rfl, Tyd.fr hp.o, _, by rw [frOk_fr hp.o hp.nf], _, rfl, Tyd.fr hq.o, _, by rw [frOk_fr hq.o hq.nf], ?_⟩
  simp only [hp.o, hq.o, cx_K, decide_true, decide_false, reduceCtorEq, gTp, gCons, gNil, ca_0, ca_1, ca_2, ca_3, ca_4, ca_5, ca_6, ca_7, ca_8, ca_9, ca_10, ca_11, ca_12, ca_13, ca_14, ca_15, ca_16, ca_17, ca_18, ca_19, ca_20, ca_21, ca_22, ca_23, ca_24, ca_25, ca_26, ca_27, ca_28, ca_29, ca_30, not_true_eq_false, not_false_eq_true, Int.reduceEq, Nat.reduceEqDiff, Nat.reduceLeDiff, rGcd, V.ty.injEq, eq_self, List.not_mem_nil, beq_self_eq_true, HO.lst.injEq, HO.tup.injEq, tFor_eq, iRng1, iList, iTup, nat10, tSeq, rIxA, rSetA, rIsN, rIsT, tTp, tLs, itsO_tup, itsO_lst, tyO_tup, tyO_lst, tyO_dK, tyN_non, tyN_bl, tyN_int, tyN_str, tyN_ref, tyNs_lt, isB, upd_same, upd_upd, sizeLine_eq, List.mem_cons, String.reduceBEq, String.reduceEq, Bool.or_false, Bool.or_true, Bool.and_false, Bool.false_or, Bool.and_self, Bool.false_and, Bool.not_false, Bool.not_true, List.any_cons, List.any_nil, atI_0, setI_0, atI_1, setI_1, atI_2, setI_2, atI_3, setI_3, atI_4, setI_4, atI_5, setI_5, atI_6, setI_6, tAsg, gName, tOp, tUn, tVar, tC, tCons, L2.tNil, tRet, tIfS, tTest, tCB, tCall, rI, rI0, rU, tNext, tB, tAnd, tOr, tNot, tAndV, tOrV, tNotV, tDrop, tIf, tPar, gSub, rIxL, rIxT, rEq, rNe, rSetL, tBits,
    L2.start, List.map_cons, List.map_nil, List.cons_append, List.nil_append, List.append_nil, List.length_cons, List.length_nil, List.replicate, Nat.reduceAdd, Nat.reduceSub, Nat.zero_add, List.getElem?_cons_zero, List.getElem?_cons_succ, List.set_cons_zero, List.set_cons_succ,
    Option.some.injEq, exists_eq_left', exists_eq_left, V.int.injEq, V.bl.injEq, V.ref.injEq, V.str.injEq, List.cons.injEq, reduceCtorEq, and_true, true_and, false_and, and_false, exists_false, or_false, false_or, or_true, true_or, exists_const, CMul, CDiv, CPow, and_assoc, exists_and_left, exists_and_right, Int.reducePow, Int.reduceNeg, Int.reduceLT, Int.reduceLE, Nat.reducePow, Nat.reduceLT, Int.reduceToNat, gt_iff_lt, ge_iff_le, decide_eq_true_eq, Bool.not_eq_true', decide_eq_false_iff_not, scal, ↓reduceIte, Bool.false_eq_true]
  refine ⟨mulW hp.sz.1 hq.sz.2 (by omega), mulW hq.sz.1 hp.sz.2 (by omega), ?_⟩
  unfold cmp2 at k
  refine ite2 (fun h => ?_) (fun h => ?_)
  · rw [if_pos h] at k
    exact k
  rw [if_neg h] at k
  refine ite2 (fun h => ?_) (fun h => ?_)
  · rw [if_pos h] at k
    exact k
  · rw [if_neg h] at k
    exact k
def spQuot (K : PySem.W.Frag) : Sp := fun vs H Q _ => ∃ (a : Addr) (z : Qt) (t b : Int), vs = [.ref a, .int t, .int b] ∧ Fq K H 3000 a z ∧ Is z t b ∧ t.natAbs < 2 ^ 3000 ∧ b.natAbs < 2 ^ 3000 ∧ Q (.bl true) H
abbrev sLPlus : Stmt := topS 37
theorem scLPlus : FnScope ["_law_left", "_law_right"] ["_law_left", "_law_right"] (defScope sLPlus) := ⟨rfl, rfl, rfl, by decide +kernel, rfl, by decide +kernel, by decide +kernel⟩
theorem k_LPlus (T : Bt K mg) (D : Dfn K mg "_law_plus" sLPlus ["_law_left", "_law_right"]) (d__law_lowest : Kn P w K mg base 2 "_law_lowest" ["_law_top", "_law_bottom"] (spLowest K)) : Kn P w K mg base 3 "_law_plus" ["_law_left", "_law_right"] (spBin K sum2) := by
  refine Kn.mk' D scLPlus (fun vs H Q E h => ?_) (fun f cdv A outer s H vs Q E hr h => ?_)
  · obtain ⟨a, b, p, q, rfl, _⟩ := h
    rfl
  obtain ⟨a, b, p, q, rfl, hp, hq, k⟩ := h
  refine ⟨_, (pss_one (ps_ret (pe_kn d__law_lowest hr (by rfl) (pa_cons (pe_op op_add (pe_op op_mulW (pe_ix ix_any (pv 0) pe_int (fun _ _ => rfl)) (pe_ix ix_any (pv 1) pe_int (fun _ _ => rfl))) (pe_op op_mulW (pe_ix ix_any (pv 1) pe_int (fun _ _ => rfl)) (pe_ix ix_any (pv 0) pe_int (fun _ _ => rfl)))) (pa_cons (pe_op op_mulW (pe_ix ix_any (pv 0) pe_int (fun _ _ => rfl)) (pe_ix ix_any (pv 1) pe_int (fun _ _ => rfl))) pa_nil))))), ?_⟩
  simp only [hp.o, hq.o, cx_K, decide_true, decide_false, reduceCtorEq, gTp, gCons, gNil, ca_0, ca_1, ca_2, ca_3, ca_4, ca_5, ca_6, ca_7, ca_8, ca_9, ca_10, ca_11, ca_12, ca_13, ca_14, ca_15, ca_16, ca_17, ca_18, ca_19, ca_20, ca_21, ca_22, ca_23, ca_24, ca_25, ca_26, ca_27, ca_28, ca_29, ca_30, not_true_eq_false, not_false_eq_true, Int.reduceEq, Nat.reduceEqDiff, Nat.reduceLeDiff, rGcd, V.ty.injEq, eq_self, List.not_mem_nil, beq_self_eq_true, HO.lst.injEq, HO.tup.injEq, tFor_eq, iRng1, iList, iTup, nat10, tSeq, rIxA, rSetA, rIsN, rIsT, tTp, tLs, itsO_tup, itsO_lst, tyO_tup, tyO_lst, tyO_dK, tyN_non, tyN_bl, tyN_int, tyN_str, tyN_ref, tyNs_lt, isB, upd_same, upd_upd, sizeLine_eq, List.mem_cons, String.reduceBEq, String.reduceEq, Bool.or_false, Bool.or_true, Bool.and_false, Bool.false_or, Bool.and_self, Bool.false_and, Bool.not_false, Bool.not_true, List.any_cons, List.any_nil, atI_0, setI_0, atI_1, setI_1, atI_2, setI_2, atI_3, setI_3, atI_4, setI_4, atI_5, setI_5, atI_6, setI_6, tAsg, gName, tOp, tUn, tVar, tC, tCons, L2.tNil, tRet, tIfS, tTest, tCB, tCall, rI, rI0, rU, tNext, tB, tAnd, tOr, tNot, tAndV, tOrV, tNotV, tDrop, tIf, tPar, gSub, rIxL, rIxT, rEq, rNe, rSetL, tBits,
    L2.start, List.map_cons, List.map_nil, List.cons_append, List.nil_append, List.append_nil, List.length_cons, List.length_nil, List.replicate, Nat.reduceAdd, Nat.reduceSub, Nat.zero_add, List.getElem?_cons_zero, List.getElem?_cons_succ, List.set_cons_zero, List.set_cons_succ,
    Option.some.injEq, exists_eq_left', exists_eq_left, V.int.injEq, V.bl.injEq, V.ref.injEq, V.str.injEq, List.cons.injEq, reduceCtorEq, and_true, true_and, false_and, and_false, exists_false, or_false, false_or, or_true, true_or, exists_const, CMul, CDiv, CPow, and_assoc, exists_and_left, exists_and_right, Int.reducePow, Int.reduceNeg, Int.reduceLT, Int.reduceLE, Nat.reducePow, Nat.reduceLT, Int.reduceToNat, gt_iff_lt, ge_iff_le, decide_eq_true_eq, Bool.not_eq_true', decide_eq_false_iff_not, scal, ↓reduceIte, Bool.false_eq_true]
  exact ⟨mulW hp.sz.1 hq.sz.2 (by omega), mulW hq.sz.1 hp.sz.2 (by omega), mulW hp.sz.2 hq.sz.2 (by omega), _, _, rfl, szMono (szMul hp.sz.2 hq.sz.2) (by omega), fun z hz => k z (hz.2 (mul_ne hp.nf.1 hq.nf.1))⟩
abbrev sPart : Stmt := topS 24
theorem scPart : FnScope ["value"] ["value"] (defScope sPart) := ⟨rfl, rfl, rfl, by decide +kernel, rfl, by decide +kernel, by decide +kernel⟩
theorem k_Part (T : Bt K mg) (D : Dfn K mg "part_of" sPart ["value"]) (d_require : Kn P w K mg base 1 "require" ["well_formed", "what"] spRequire) (d_is_fraction : Kn P w K mg base 2 "is_fraction" ["value"] (spIsFraction K)) : Kn P w K mg base 3 "part_of" ["value"] (spUn K fun q => (q.1 % q.2, q.2)) := by
  refine Kn.mk' D scPart (fun vs H Q E h => ?_) (fun f cdv A outer s H vs Q E hr h => ?_)
  · obtain ⟨a, q, rfl, _⟩ := h
    rfl
  obtain ⟨a, q, rfl, hq, k⟩ := h
  refine ⟨_, (pss_cons (ps_expr (pe_kn d_require hr (by rfl) (pa_cons (pe_kn d_is_fraction hr (by rfl) (pa_cons (pv 0) pa_nil)) (pa_cons pe_str pa_nil))))
      (pss_one (ps_ret (pe_tp (pa_cons (pe_op op_modN (pe_ix ix_any (pv 0) pe_int (fun _ _ => rfl)) (pe_ix ix_any (pv 0) pe_int (fun _ _ => rfl))) (pa_cons (pe_ix ix_any (pv 0) pe_int (fun _ _ => rfl)) pa_nil)))))), ?_⟩
  simp only [cx_K, decide_true, decide_false, reduceCtorEq, gTp, gCons, gNil, ca_0, ca_1, ca_2, ca_3, ca_4, ca_5, ca_6, ca_7, ca_8, ca_9, ca_10, ca_11, ca_12, ca_13, ca_14, ca_15, ca_16, ca_17, ca_18, ca_19, ca_20, ca_21, ca_22, ca_23, ca_24, ca_25, ca_26, ca_27, ca_28, ca_29, ca_30, not_true_eq_false, not_false_eq_true, Int.reduceEq, Nat.reduceEqDiff, Nat.reduceLeDiff, rGcd, V.ty.injEq, eq_self, List.not_mem_nil, beq_self_eq_true, HO.lst.injEq, HO.tup.injEq, tFor_eq, iRng1, iList, iTup, nat10, tSeq, rIxA, rSetA, rIsN, rIsT, tTp, tLs, itsO_tup, itsO_lst, tyO_tup, tyO_lst, tyO_dK, tyN_non, tyN_bl, tyN_int, tyN_str, tyN_ref, tyNs_lt, isB, upd_same, upd_upd, sizeLine_eq, List.mem_cons, String.reduceBEq, String.reduceEq, Bool.or_false, Bool.or_true, Bool.and_false, Bool.false_or, Bool.and_self, Bool.false_and, Bool.not_false, Bool.not_true, List.any_cons, List.any_nil, atI_0, setI_0, atI_1, setI_1, atI_2, setI_2, atI_3, setI_3, atI_4, setI_4, atI_5, setI_5, atI_6, setI_6, tAsg, gName, tOp, tUn, tVar, tC, tCons, L2.tNil, tRet, tIfS, tTest, tCB, tCall, rI, rI0, rU, tNext, tB, tAnd, tOr, tNot, tAndV, tOrV, tNotV, tDrop, tIf, tPar, gSub, rIxL, rIxT, rEq, rNe, rSetL, tBits,
    L2.start, List.map_cons, List.map_nil, List.cons_append, List.nil_append, List.append_nil, List.length_cons, List.length_nil, List.replicate, Nat.reduceAdd, Nat.reduceSub, Nat.zero_add, List.getElem?_cons_zero, List.getElem?_cons_succ, List.set_cons_zero, List.set_cons_succ,
    Option.some.injEq, exists_eq_left', exists_eq_left, V.int.injEq, V.bl.injEq, V.ref.injEq, V.str.injEq, List.cons.injEq, reduceCtorEq, and_true, true_and, false_and, and_false, exists_false, or_false, false_or, or_true, true_or, exists_const, CMul, CDiv, CPow, and_assoc, exists_and_left, exists_and_right, Int.reducePow, Int.reduceNeg, Int.reduceLT, Int.reduceLE, Nat.reducePow, Nat.reduceLT, Int.reduceToNat, gt_iff_lt, ge_iff_le, decide_eq_true_eq, Bool.not_eq_true', decide_eq_false_iff_not, scal, ↓reduceIte, Bool.false_eq_true]
  refine ⟨_, rfl, Tyd.fr hq.o, _, by rw [frOk_fr hq.o hq.nf], ?_⟩
  have fm : q.1.fmod q.2 = q.1 % q.2 := Int.fmod_eq_emod_of_nonneg _ (by have := hq.nf.1; omega)
  simp only [hq.o, fm, cx_K, decide_true, decide_false, reduceCtorEq, gTp, gCons, gNil, ca_0, ca_1, ca_2, ca_3, ca_4, ca_5, ca_6, ca_7, ca_8, ca_9, ca_10, ca_11, ca_12, ca_13, ca_14, ca_15, ca_16, ca_17, ca_18, ca_19, ca_20, ca_21, ca_22, ca_23, ca_24, ca_25, ca_26, ca_27, ca_28, ca_29, ca_30, not_true_eq_false, not_false_eq_true, Int.reduceEq, Nat.reduceEqDiff, Nat.reduceLeDiff, rGcd, V.ty.injEq, eq_self, List.not_mem_nil, beq_self_eq_true, HO.lst.injEq, HO.tup.injEq, tFor_eq, iRng1, iList, iTup, nat10, tSeq, rIxA, rSetA, rIsN, rIsT, tTp, tLs, itsO_tup, itsO_lst, tyO_tup, tyO_lst, tyO_dK, tyN_non, tyN_bl, tyN_int, tyN_str, tyN_ref, tyNs_lt, isB, upd_same, upd_upd, sizeLine_eq, List.mem_cons, String.reduceBEq, String.reduceEq, Bool.or_false, Bool.or_true, Bool.and_false, Bool.false_or, Bool.and_self, Bool.false_and, Bool.not_false, Bool.not_true, List.any_cons, List.any_nil, atI_0, setI_0, atI_1, setI_1, atI_2, setI_2, atI_3, setI_3, atI_4, setI_4, atI_5, setI_5, atI_6, setI_6, tAsg, gName, tOp, tUn, tVar, tC, tCons, L2.tNil, tRet, tIfS, tTest, tCB, tCall, rI, rI0, rU, tNext, tB, tAnd, tOr, tNot, tAndV, tOrV, tNotV, tDrop, tIf, tPar, gSub, rIxL, rIxT, rEq, rNe, rSetL, tBits,
    L2.start, List.map_cons, List.map_nil, List.cons_append, List.nil_append, List.append_nil, List.length_cons, List.length_nil, List.replicate, Nat.reduceAdd, Nat.reduceSub, Nat.zero_add, List.getElem?_cons_zero, List.getElem?_cons_succ, List.set_cons_zero, List.set_cons_succ,
    Option.some.injEq, exists_eq_left', exists_eq_left, V.int.injEq, V.bl.injEq, V.ref.injEq, V.str.injEq, List.cons.injEq, reduceCtorEq, and_true, true_and, false_and, and_false, exists_false, or_false, false_or, or_true, true_or, exists_const, CMul, CDiv, CPow, and_assoc, exists_and_left, exists_and_right, Int.reducePow, Int.reduceNeg, Int.reduceLT, Int.reduceLE, Nat.reducePow, Nat.reduceLT, Int.reduceToNat, gt_iff_lt, ge_iff_le, decide_eq_true_eq, Bool.not_eq_true', decide_eq_false_iff_not, scal, ↓reduceIte, Bool.false_eq_true]
  exact ⟨hq.nf.ne, fun p hp kp => k.new hp kp⟩
abbrev sMagn : Stmt := topS 23
theorem scMagn : FnScope ["value"] ["value"] (defScope sMagn) := ⟨rfl, rfl, rfl, by decide +kernel, rfl, by decide +kernel, by decide +kernel⟩
theorem k_Magn (T : Bt K mg) (D : Dfn K mg "magnitude" sMagn ["value"]) (d_require : Kn P w K mg base 1 "require" ["well_formed", "what"] spRequire) (d_is_fraction : Kn P w K mg base 2 "is_fraction" ["value"] (spIsFraction K)) : Kn P w K mg base 3 "magnitude" ["value"] (spUn K fun q => ((q.1.natAbs : Int), q.2)) := by
  refine Kn.mk' D scMagn (fun vs H Q E h => ?_) (fun f cdv A outer s H vs Q E hr h => ?_)
  · obtain ⟨a, q, rfl, _⟩ := h
    rfl
  obtain ⟨a, q, rfl, hq, k⟩ := h
  refine ⟨_, (pss_cons (ps_expr (pe_kn d_require hr (by rfl) (pa_cons (pe_kn d_is_fraction hr (by rfl) (pa_cons (pv 0) pa_nil)) (pa_cons pe_str pa_nil))))
      (pss_one (ps_ret (pe_tp (pa_cons (pe_callB call_abs (by rfl) T.b_abs (by decide +kernel) (pa_cons (pe_ix ix_any (pv 0) pe_int (fun _ _ => rfl)) pa_nil)) (pa_cons (pe_ix ix_any (pv 0) pe_int (fun _ _ => rfl)) pa_nil)))))), ?_⟩
  simp only [cx_K, decide_true, decide_false, reduceCtorEq, gTp, gCons, gNil, ca_0, ca_1, ca_2, ca_3, ca_4, ca_5, ca_6, ca_7, ca_8, ca_9, ca_10, ca_11, ca_12, ca_13, ca_14, ca_15, ca_16, ca_17, ca_18, ca_19, ca_20, ca_21, ca_22, ca_23, ca_24, ca_25, ca_26, ca_27, ca_28, ca_29, ca_30, not_true_eq_false, not_false_eq_true, Int.reduceEq, Nat.reduceEqDiff, Nat.reduceLeDiff, rGcd, V.ty.injEq, eq_self, List.not_mem_nil, beq_self_eq_true, HO.lst.injEq, HO.tup.injEq, tFor_eq, iRng1, iList, iTup, nat10, tSeq, rIxA, rSetA, rIsN, rIsT, tTp, tLs, itsO_tup, itsO_lst, tyO_tup, tyO_lst, tyO_dK, tyN_non, tyN_bl, tyN_int, tyN_str, tyN_ref, tyNs_lt, isB, upd_same, upd_upd, sizeLine_eq, List.mem_cons, String.reduceBEq, String.reduceEq, Bool.or_false, Bool.or_true, Bool.and_false, Bool.false_or, Bool.and_self, Bool.false_and, Bool.not_false, Bool.not_true, List.any_cons, List.any_nil, atI_0, setI_0, atI_1, setI_1, atI_2, setI_2, atI_3, setI_3, atI_4, setI_4, atI_5, setI_5, atI_6, setI_6, tAsg, gName, tOp, tUn, tVar, tC, tCons, L2.tNil, tRet, tIfS, tTest, tCB, tCall, rI, rI0, rU, tNext, tB, tAnd, tOr, tNot, tAndV, tOrV, tNotV, tDrop, tIf, tPar, gSub, rIxL, rIxT, rEq, rNe, rSetL, tBits,
    L2.start, List.map_cons, List.map_nil, List.cons_append, List.nil_append, List.append_nil, List.length_cons, List.length_nil, List.replicate, Nat.reduceAdd, Nat.reduceSub, Nat.zero_add, List.getElem?_cons_zero, List.getElem?_cons_succ, List.set_cons_zero, List.set_cons_succ,
    Option.some.injEq, exists_eq_left', exists_eq_left, V.int.injEq, V.bl.injEq, V.ref.injEq, V.str.injEq, List.cons.injEq, reduceCtorEq, and_true, true_and, false_and, and_false, exists_false, or_false, false_or, or_true, true_or, exists_const, CMul, CDiv, CPow, and_assoc, exists_and_left, exists_and_right, Int.reducePow, Int.reduceNeg, Int.reduceLT, Int.reduceLE, Nat.reducePow, Nat.reduceLT, Int.reduceToNat, gt_iff_lt, ge_iff_le, decide_eq_true_eq, Bool.not_eq_true', decide_eq_false_iff_not, scal, ↓reduceIte, Bool.false_eq_true]
  refine ⟨_, rfl, Tyd.fr hq.o, _, by rw [frOk_fr hq.o hq.nf], ?_⟩
  simp only [hq.o, abs_if, cx_K, decide_true, decide_false, reduceCtorEq, gTp, gCons, gNil, ca_0, ca_1, ca_2, ca_3, ca_4, ca_5, ca_6, ca_7, ca_8, ca_9, ca_10, ca_11, ca_12, ca_13, ca_14, ca_15, ca_16, ca_17, ca_18, ca_19, ca_20, ca_21, ca_22, ca_23, ca_24, ca_25, ca_26, ca_27, ca_28, ca_29, ca_30, not_true_eq_false, not_false_eq_true, Int.reduceEq, Nat.reduceEqDiff, Nat.reduceLeDiff, rGcd, V.ty.injEq, eq_self, List.not_mem_nil, beq_self_eq_true, HO.lst.injEq, HO.tup.injEq, tFor_eq, iRng1, iList, iTup, nat10, tSeq, rIxA, rSetA, rIsN, rIsT, tTp, tLs, itsO_tup, itsO_lst, tyO_tup, tyO_lst, tyO_dK, tyN_non, tyN_bl, tyN_int, tyN_str, tyN_ref, tyNs_lt, isB, upd_same, upd_upd, sizeLine_eq, List.mem_cons, String.reduceBEq, String.reduceEq, Bool.or_false, Bool.or_true, Bool.and_false, Bool.false_or, Bool.and_self, Bool.false_and, Bool.not_false, Bool.not_true, List.any_cons, List.any_nil, atI_0, setI_0, atI_1, setI_1, atI_2, setI_2, atI_3, setI_3, atI_4, setI_4, atI_5, setI_5, atI_6, setI_6, tAsg, gName, tOp, tUn, tVar, tC, tCons, L2.tNil, tRet, tIfS, tTest, tCB, tCall, rI, rI0, rU, tNext, tB, tAnd, tOr, tNot, tAndV, tOrV, tNotV, tDrop, tIf, tPar, gSub, rIxL, rIxT, rEq, rNe, rSetL, tBits,
    L2.start, List.map_cons, List.map_nil, List.cons_append, List.nil_append, List.append_nil, List.length_cons, List.length_nil, List.replicate, Nat.reduceAdd, Nat.reduceSub, Nat.zero_add, List.getElem?_cons_zero, List.getElem?_cons_succ, List.set_cons_zero, List.set_cons_succ,
    Option.some.injEq, exists_eq_left', exists_eq_left, V.int.injEq, V.bl.injEq, V.ref.injEq, V.str.injEq, List.cons.injEq, reduceCtorEq, and_true, true_and, false_and, and_false, exists_false, or_false, false_or, or_true, true_or, exists_const, CMul, CDiv, CPow, and_assoc, exists_and_left, exists_and_right, Int.reducePow, Int.reduceNeg, Int.reduceLT, Int.reduceLE, Nat.reducePow, Nat.reduceLT, Int.reduceToNat, gt_iff_lt, ge_iff_le, decide_eq_true_eq, Bool.not_eq_true', decide_eq_false_iff_not, scal, ↓reduceIte, Bool.false_eq_true]
  exact fun p hp kp => k.new hp kp
abbrev sLPart : Stmt := topS 40
theorem scLPart : FnScope ["_law_value"] ["_law_value"] (defScope sLPart) := ⟨rfl, rfl, rfl, by decide +kernel, rfl, by decide +kernel, by decide +kernel⟩
theorem k_LPart (T : Bt K mg) (D : Dfn K mg "_law_part" sLPart ["_law_value"]) (d__law_lowest : Kn P w K mg base 2 "_law_lowest" ["_law_top", "_law_bottom"] (spLowest K)) : Kn P w K mg base 3 "_law_part" ["_law_value"] (spUn K fun q => (q.1 % q.2, q.2)) := by
  refine Kn.mk' D scLPart (fun vs H Q E h => ?_) (fun f cdv A outer s H vs Q E hr h => ?_)
  · obtain ⟨a, q, rfl, _⟩ := h
    rfl
  obtain ⟨a, q, rfl, hq, k⟩ := h
  refine ⟨_, (pss_one (ps_ret (pe_kn d__law_lowest hr (by rfl) (pa_cons (pe_op op_modN (pe_callTy call_int1 (by rfl) T.b_int (by decide +kernel) (pa_cons (pe_ix ix_any (pv 0) pe_int (fun _ _ => rfl)) pa_nil)) (pe_ix ix_any (pv 0) pe_int (fun _ _ => rfl))) (pa_cons (pe_ix ix_any (pv 0) pe_int (fun _ _ => rfl)) pa_nil))))), ?_⟩
  have fm : q.1.fmod q.2 = q.1 % q.2 := Int.fmod_eq_emod_of_nonneg _ (by have := hq.nf.1; omega)
  simp only [hq.o, fm, cx_K, decide_true, decide_false, reduceCtorEq, gTp, gCons, gNil, ca_0, ca_1, ca_2, ca_3, ca_4, ca_5, ca_6, ca_7, ca_8, ca_9, ca_10, ca_11, ca_12, ca_13, ca_14, ca_15, ca_16, ca_17, ca_18, ca_19, ca_20, ca_21, ca_22, ca_23, ca_24, ca_25, ca_26, ca_27, ca_28, ca_29, ca_30, not_true_eq_false, not_false_eq_true, Int.reduceEq, Nat.reduceEqDiff, Nat.reduceLeDiff, rGcd, V.ty.injEq, eq_self, List.not_mem_nil, beq_self_eq_true, HO.lst.injEq, HO.tup.injEq, tFor_eq, iRng1, iList, iTup, nat10, tSeq, rIxA, rSetA, rIsN, rIsT, tTp, tLs, itsO_tup, itsO_lst, tyO_tup, tyO_lst, tyO_dK, tyN_non, tyN_bl, tyN_int, tyN_str, tyN_ref, tyNs_lt, isB, upd_same, upd_upd, sizeLine_eq, List.mem_cons, String.reduceBEq, String.reduceEq, Bool.or_false, Bool.or_true, Bool.and_false, Bool.false_or, Bool.and_self, Bool.false_and, Bool.not_false, Bool.not_true, List.any_cons, List.any_nil, atI_0, setI_0, atI_1, setI_1, atI_2, setI_2, atI_3, setI_3, atI_4, setI_4, atI_5, setI_5, atI_6, setI_6, tAsg, gName, tOp, tUn, tVar, tC, tCons, L2.tNil, tRet, tIfS, tTest, tCB, tCall, rI, rI0, rU, tNext, tB, tAnd, tOr, tNot, tAndV, tOrV, tNotV, tDrop, tIf, tPar, gSub, rIxL, rIxT, rEq, rNe, rSetL, tBits,
    L2.start, List.map_cons, List.map_nil, List.cons_append, List.nil_append, List.append_nil, List.length_cons, List.length_nil, List.replicate, Nat.reduceAdd, Nat.reduceSub, Nat.zero_add, List.getElem?_cons_zero, List.getElem?_cons_succ, List.set_cons_zero, List.set_cons_succ,
    Option.some.injEq, exists_eq_left', exists_eq_left, V.int.injEq, V.bl.injEq, V.ref.injEq, V.str.injEq, List.cons.injEq, reduceCtorEq, and_true, true_and, false_and, and_false, exists_false, or_false, false_or, or_true, true_or, exists_const, CMul, CDiv, CPow, and_assoc, exists_and_left, exists_and_right, Int.reducePow, Int.reduceNeg, Int.reduceLT, Int.reduceLE, Nat.reducePow, Nat.reduceLT, Int.reduceToNat, gt_iff_lt, ge_iff_le, decide_eq_true_eq, Bool.not_eq_true', decide_eq_false_iff_not, scal, ↓reduceIte, Bool.false_eq_true]
  refine ⟨hq.nf.ne, _, _, rfl, hq.sz.2, fun z hz => ?_⟩
  rw [is_unique hq.nf.ne (hz.2 hq.nf.ne) (is_self (nf_part hq.nf))]
  exact k
def spLFracs (K : PySem.W.Frag) : Sp := fun vs H Q _ => ∃ (l : Addr) (xs : List V), vs = [.ref l] ∧ H l = some (.lst xs) ∧ K.lookup l = none ∧ (∀ x ∈ xs, ∃ a q, x = .ref a ∧ Fq K H 8000 a q) ∧ Q (.bl true) H
def FracsI (l : Addr) (H : Hp) (_ : Nat) (σ : L2.St) (H' : Hp) : Prop := ∃ y, σ = [some (.ref l), y] ∧ H' = H
def spLeaves (K : PySem.W.Frag) : Sp := fun vs H Q _ => ∃ (a b : Addr) (p q : Qt), vs = [.ref a, .ref b] ∧ Fq K H 8000 a p ∧ Fq K H 8000 b q ∧ Q (.bl (decide (q.2 = p.2) && decide ((p.1 - q.1) % p.2 = 0))) H
abbrev sNegated : Stmt := topS 22
theorem scNegated : FnScope ["value"] ["value"] (defScope sNegated) := ⟨rfl, rfl, rfl, by decide +kernel, rfl, by decide +kernel, by decide +kernel⟩
theorem k_Negated (T : Bt K mg) (D : Dfn K mg "negated" sNegated ["value"]) (d_require : Kn P w K mg base 1 "require" ["well_formed", "what"] spRequire) (d_is_fraction : Kn P w K mg base 2 "is_fraction" ["value"] (spIsFraction K)) : Kn P w K mg base 3 "negated" ["value"] (spUn K fun q => (-q.1, q.2)) := by
  refine Kn.mk' D scNegated (fun vs H Q E h => ?_) (fun f cdv A outer s H vs Q E hr h => ?_)
  · obtain ⟨a, q, rfl, _⟩ := h
    rfl
  obtain ⟨a, q, rfl, hq, k⟩ := h
  refine ⟨_, (pss_cons (ps_expr (pe_kn d_require hr (by rfl) (pa_cons (pe_kn d_is_fraction hr (by rfl) (pa_cons (pv 0) pa_nil)) (pa_cons pe_str pa_nil))))
      (pss_one (ps_ret (pe_tp (pa_cons (pe_un un_neg (pe_ix ix_any (pv 0) pe_int (fun _ _ => rfl))) (pa_cons (pe_ix ix_any (pv 0) pe_int (fun _ _ => rfl)) pa_nil)))))), ?_⟩
  simp only [cx_K, decide_true, decide_false, reduceCtorEq, gTp, gCons, gNil, ca_0, ca_1, ca_2, ca_3, ca_4, ca_5, ca_6, ca_7, ca_8, ca_9, ca_10, ca_11, ca_12, ca_13, ca_14, ca_15, ca_16, ca_17, ca_18, ca_19, ca_20, ca_21, ca_22, ca_23, ca_24, ca_25, ca_26, ca_27, ca_28, ca_29, ca_30, not_true_eq_false, not_false_eq_true, Int.reduceEq, Nat.reduceEqDiff, Nat.reduceLeDiff, rGcd, V.ty.injEq, eq_self, List.not_mem_nil, beq_self_eq_true, HO.lst.injEq, HO.tup.injEq, tFor_eq, iRng1, iList, iTup, nat10, tSeq, rIxA, rSetA, rIsN, rIsT, tTp, tLs, itsO_tup, itsO_lst, tyO_tup, tyO_lst, tyO_dK, tyN_non, tyN_bl, tyN_int, tyN_str, tyN_ref, tyNs_lt, isB, upd_same, upd_upd, sizeLine_eq, List.mem_cons, String.reduceBEq, String.reduceEq, Bool.or_false, Bool.or_true, Bool.and_false, Bool.false_or, Bool.and_self, Bool.false_and, Bool.not_false, Bool.not_true, List.any_cons, List.any_nil, atI_0, setI_0, atI_1, setI_1, atI_2, setI_2, atI_3, setI_3, atI_4, setI_4, atI_5, setI_5, atI_6, setI_6, tAsg, gName, tOp, tUn, tVar, tC, tCons, L2.tNil, tRet, tIfS, tTest, tCB, tCall, rI, rI0, rU, tNext, tB, tAnd, tOr, tNot, tAndV, tOrV, tNotV, tDrop, tIf, tPar, gSub, rIxL, rIxT, rEq, rNe, rSetL, tBits,
    L2.start, List.map_cons, List.map_nil, List.cons_append, List.nil_append, List.append_nil, List.length_cons, List.length_nil, List.replicate, Nat.reduceAdd, Nat.reduceSub, Nat.zero_add, List.getElem?_cons_zero, List.getElem?_cons_succ, List.set_cons_zero, List.set_cons_succ,
    Option.some.injEq, exists_eq_left', exists_eq_left, V.int.injEq, V.bl.injEq, V.ref.injEq, V.str.injEq, List.cons.injEq, reduceCtorEq, and_true, true_and, false_and, and_false, exists_false, or_false, false_or, or_true, true_or, exists_const, CMul, CDiv, CPow, and_assoc, exists_and_left, exists_and_right, Int.reducePow, Int.reduceNeg, Int.reduceLT, Int.reduceLE, Nat.reducePow, Nat.reduceLT, Int.reduceToNat, gt_iff_lt, ge_iff_le, decide_eq_true_eq, Bool.not_eq_true', decide_eq_false_iff_not, scal, ↓reduceIte, Bool.false_eq_true]
  refine ⟨_, rfl, Tyd.fr hq.o, _, by rw [frOk_fr hq.o hq.nf], ?_⟩
  simp only [hq.o, cx_K, decide_true, decide_false, reduceCtorEq, gTp, gCons, gNil, ca_0, ca_1, ca_2, ca_3, ca_4, ca_5, ca_6, ca_7, ca_8, ca_9, ca_10, ca_11, ca_12, ca_13, ca_14, ca_15, ca_16, ca_17, ca_18, ca_19, ca_20, ca_21, ca_22, ca_23, ca_24, ca_25, ca_26, ca_27, ca_28, ca_29, ca_30, not_true_eq_false, not_false_eq_true, Int.reduceEq, Nat.reduceEqDiff, Nat.reduceLeDiff, rGcd, V.ty.injEq, eq_self, List.not_mem_nil, beq_self_eq_true, HO.lst.injEq, HO.tup.injEq, tFor_eq, iRng1, iList, iTup, nat10, tSeq, rIxA, rSetA, rIsN, rIsT, tTp, tLs, itsO_tup, itsO_lst, tyO_tup, tyO_lst, tyO_dK, tyN_non, tyN_bl, tyN_int, tyN_str, tyN_ref, tyNs_lt, isB, upd_same, upd_upd, sizeLine_eq, List.mem_cons, String.reduceBEq, String.reduceEq, Bool.or_false, Bool.or_true, Bool.and_false, Bool.false_or, Bool.and_self, Bool.false_and, Bool.not_false, Bool.not_true, List.any_cons, List.any_nil, atI_0, setI_0, atI_1, setI_1, atI_2, setI_2, atI_3, setI_3, atI_4, setI_4, atI_5, setI_5, atI_6, setI_6, tAsg, gName, tOp, tUn, tVar, tC, tCons, L2.tNil, tRet, tIfS, tTest, tCB, tCall, rI, rI0, rU, tNext, tB, tAnd, tOr, tNot, tAndV, tOrV, tNotV, tDrop, tIf, tPar, gSub, rIxL, rIxT, rEq, rNe, rSetL, tBits,
    L2.start, List.map_cons, List.map_nil, List.cons_append, List.nil_append, List.append_nil, List.length_cons, List.length_nil, List.replicate, Nat.reduceAdd, Nat.reduceSub, Nat.zero_add, List.getElem?_cons_zero, List.getElem?_cons_succ, List.set_cons_zero, List.set_cons_succ,
    Option.some.injEq, exists_eq_left', exists_eq_left, V.int.injEq, V.bl.injEq, V.ref.injEq, V.str.injEq, List.cons.injEq, reduceCtorEq, and_true, true_and, false_and, and_false, exists_false, or_false, false_or, or_true, true_or, exists_const, CMul, CDiv, CPow, and_assoc, exists_and_left, exists_and_right, Int.reducePow, Int.reduceNeg, Int.reduceLT, Int.reduceLE, Nat.reducePow, Nat.reduceLT, Int.reduceToNat, gt_iff_lt, ge_iff_le, decide_eq_true_eq, Bool.not_eq_true', decide_eq_false_iff_not, scal, ↓reduceIte, Bool.false_eq_true]
  exact fun p hp kp => k.new hp kp
abbrev sLMinus : Stmt := topS 38
theorem scLMinus : FnScope ["_law_left", "_law_right"] ["_law_left", "_law_right"] (defScope sLMinus) := ⟨rfl, rfl, rfl, by decide +kernel, rfl, by decide +kernel, by decide +kernel⟩
theorem k_LMinus (T : Bt K mg) (D : Dfn K mg "_law_minus" sLMinus ["_law_left", "_law_right"]) (d__law_lowest : Kn P w K mg base 2 "_law_lowest" ["_law_top", "_law_bottom"] (spLowest K)) : Kn P w K mg base 3 "_law_minus" ["_law_left", "_law_right"] (spBin K dif2) := by
  refine Kn.mk' D scLMinus (fun vs H Q E h => ?_) (fun f cdv A outer s H vs Q E hr h => ?_)
  · obtain ⟨a, b, p, q, rfl, _⟩ := h
    rfl
  obtain ⟨a, b, p, q, rfl, hp, hq, k⟩ := h
  refine ⟨_, (pss_one (ps_ret (pe_kn d__law_lowest hr (by rfl) (pa_cons (pe_op op_sub (pe_op op_mulW (pe_ix ix_any (pv 0) pe_int (fun _ _ => rfl)) (pe_ix ix_any (pv 1) pe_int (fun _ _ => rfl))) (pe_op op_mulW (pe_ix ix_any (pv 1) pe_int (fun _ _ => rfl)) (pe_ix ix_any (pv 0) pe_int (fun _ _ => rfl)))) (pa_cons (pe_op op_mulW (pe_ix ix_any (pv 0) pe_int (fun _ _ => rfl)) (pe_ix ix_any (pv 1) pe_int (fun _ _ => rfl))) pa_nil))))), ?_⟩
  simp only [hp.o, hq.o, cx_K, decide_true, decide_false, reduceCtorEq, gTp, gCons, gNil, ca_0, ca_1, ca_2, ca_3, ca_4, ca_5, ca_6, ca_7, ca_8, ca_9, ca_10, ca_11, ca_12, ca_13, ca_14, ca_15, ca_16, ca_17, ca_18, ca_19, ca_20, ca_21, ca_22, ca_23, ca_24, ca_25, ca_26, ca_27, ca_28, ca_29, ca_30, not_true_eq_false, not_false_eq_true, Int.reduceEq, Nat.reduceEqDiff, Nat.reduceLeDiff, rGcd, V.ty.injEq, eq_self, List.not_mem_nil, beq_self_eq_true, HO.lst.injEq, HO.tup.injEq, tFor_eq, iRng1, iList, iTup, nat10, tSeq, rIxA, rSetA, rIsN, rIsT, tTp, tLs, itsO_tup, itsO_lst, tyO_tup, tyO_lst, tyO_dK, tyN_non, tyN_bl, tyN_int, tyN_str, tyN_ref, tyNs_lt, isB, upd_same, upd_upd, sizeLine_eq, List.mem_cons, String.reduceBEq, String.reduceEq, Bool.or_false, Bool.or_true, Bool.and_false, Bool.false_or, Bool.and_self, Bool.false_and, Bool.not_false, Bool.not_true, List.any_cons, List.any_nil, atI_0, setI_0, atI_1, setI_1, atI_2, setI_2, atI_3, setI_3, atI_4, setI_4, atI_5, setI_5, atI_6, setI_6, tAsg, gName, tOp, tUn, tVar, tC, tCons, L2.tNil, tRet, tIfS, tTest, tCB, tCall, rI, rI0, rU, tNext, tB, tAnd, tOr, tNot, tAndV, tOrV, tNotV, tDrop, tIf, tPar, gSub, rIxL, rIxT, rEq, rNe, rSetL, tBits,
    L2.start, List.map_cons, List.map_nil, List.cons_append, List.nil_append, List.append_nil, List.length_cons, List.length_nil, List.replicate, Nat.reduceAdd, Nat.reduceSub, Nat.zero_add, List.getElem?_cons_zero, List.getElem?_cons_succ, List.set_cons_zero, List.set_cons_succ,
    Option.some.injEq, exists_eq_left', exists_eq_left, V.int.injEq, V.bl.injEq, V.ref.injEq, V.str.injEq, List.cons.injEq, reduceCtorEq, and_true, true_and, false_and, and_false, exists_false, or_false, false_or, or_true, true_or, exists_const, CMul, CDiv, CPow, and_assoc, exists_and_left, exists_and_right, Int.reducePow, Int.reduceNeg, Int.reduceLT, Int.reduceLE, Nat.reducePow, Nat.reduceLT, Int.reduceToNat, gt_iff_lt, ge_iff_le, decide_eq_true_eq, Bool.not_eq_true', decide_eq_false_iff_not, scal, ↓reduceIte, Bool.false_eq_true]
  exact ⟨mulW hp.sz.1 hq.sz.2 (by omega), mulW hq.sz.1 hp.sz.2 (by omega), mulW hp.sz.2 hq.sz.2 (by omega), _, _, rfl, szMono (szMul hp.sz.2 hq.sz.2) (by omega), fun z hz => k z (hz.2 (mul_ne hp.nf.1 hq.nf.1))⟩
abbrev sLTimes : Stmt := topS 39
theorem scLTimes : FnScope ["_law_left", "_law_right"] ["_law_left", "_law_right"] (defScope sLTimes) := ⟨rfl, rfl, rfl, by decide +kernel, rfl, by decide +kernel, by decide +kernel⟩
theorem k_LTimes (T : Bt K mg) (D : Dfn K mg "_law_times" sLTimes ["_law_left", "_law_right"]) (d__law_lowest : Kn P w K mg base 2 "_law_lowest" ["_law_top", "_law_bottom"] (spLowest K)) : Kn P w K mg base 3 "_law_times" ["_law_left", "_law_right"] (spBin K pro2) := by
  refine Kn.mk' D scLTimes (fun vs H Q E h => ?_) (fun f cdv A outer s H vs Q E hr h => ?_)
  · obtain ⟨a, b, p, q, rfl, _⟩ := h
    rfl
  obtain ⟨a, b, p, q, rfl, hp, hq, k⟩ := h
  refine ⟨_, (pss_one (ps_ret (pe_kn d__law_lowest hr (by rfl) (pa_cons (pe_op op_mulW (pe_ix ix_any (pv 0) pe_int (fun _ _ => rfl)) (pe_ix ix_any (pv 1) pe_int (fun _ _ => rfl))) (pa_cons (pe_op op_mulW (pe_ix ix_any (pv 0) pe_int (fun _ _ => rfl)) (pe_ix ix_any (pv 1) pe_int (fun _ _ => rfl))) pa_nil))))), ?_⟩
  simp only [hp.o, hq.o, cx_K, decide_true, decide_false, reduceCtorEq, gTp, gCons, gNil, ca_0, ca_1, ca_2, ca_3, ca_4, ca_5, ca_6, ca_7, ca_8, ca_9, ca_10, ca_11, ca_12, ca_13, ca_14, ca_15, ca_16, ca_17, ca_18, ca_19, ca_20, ca_21, ca_22, ca_23, ca_24, ca_25, ca_26, ca_27, ca_28, ca_29, ca_30, not_true_eq_false, not_false_eq_true, Int.reduceEq, Nat.reduceEqDiff, Nat.reduceLeDiff, rGcd, V.ty.injEq, eq_self, List.not_mem_nil, beq_self_eq_true, HO.lst.injEq, HO.tup.injEq, tFor_eq, iRng1, iList, iTup, nat10, tSeq, rIxA, rSetA, rIsN, rIsT, tTp, tLs, itsO_tup, itsO_lst, tyO_tup, tyO_lst, tyO_dK, tyN_non, tyN_bl, tyN_int, tyN_str, tyN_ref, tyNs_lt, isB, upd_same, upd_upd, sizeLine_eq, List.mem_cons, String.reduceBEq, String.reduceEq, Bool.or_false, Bool.or_true, Bool.and_false, Bool.false_or, Bool.and_self, Bool.false_and, Bool.not_false, Bool.not_true, List.any_cons, List.any_nil, atI_0, setI_0, atI_1, setI_1, atI_2, setI_2, atI_3, setI_3, atI_4, setI_4, atI_5, setI_5, atI_6, setI_6, tAsg, gName, tOp, tUn, tVar, tC, tCons, L2.tNil, tRet, tIfS, tTest, tCB, tCall, rI, rI0, rU, tNext, tB, tAnd, tOr, tNot, tAndV, tOrV, tNotV, tDrop, tIf, tPar, gSub, rIxL, rIxT, rEq, rNe, rSetL, tBits,
    L2.start, List.map_cons, List.map_nil, List.cons_append, List.nil_append, List.append_nil, List.length_cons, List.length_nil, List.replicate, Nat.reduceAdd, Nat.reduceSub, Nat.zero_add, List.getElem?_cons_zero, List.getElem?_cons_succ, List.set_cons_zero, List.set_cons_succ,
    Option.some.injEq, exists_eq_left', exists_eq_left, V.int.injEq, V.bl.injEq, V.ref.injEq, V.str.injEq, List.cons.injEq, reduceCtorEq, and_true, true_and, false_and, and_false, exists_false, or_false, false_or, or_true, true_or, exists_const, CMul, CDiv, CPow, and_assoc, exists_and_left, exists_and_right, Int.reducePow, Int.reduceNeg, Int.reduceLT, Int.reduceLE, Nat.reducePow, Nat.reduceLT, Int.reduceToNat, gt_iff_lt, ge_iff_le, decide_eq_true_eq, Bool.not_eq_true', decide_eq_false_iff_not, scal, ↓reduceIte, Bool.false_eq_true]
  exact ⟨mulW hp.sz.1 hq.sz.1 (by omega), mulW hp.sz.2 hq.sz.2 (by omega), _, _, rfl, szMono (szMul hp.sz.2 hq.sz.2) (by omega), fun z hz => k z (hz.2 (mul_ne hp.nf.1 hq.nf.1))⟩
theorem frOk_inv {H : Hp} {v : V} (h : frOk K H v = true) : ∃ a q, v = .ref a ∧ ob K H a = some (.tup [.int q.1, .int q.2]) ∧ Nf q := by
  cases v with
  | ref a =>
    simp only [frOk] at h
    split at h
    · rename_i n d hz
      simp only [Bool.and_eq_true, decide_eq_true_eq] at h
      exact ⟨_, (n, d), rfl, hz, h.1, h.2⟩
    · cases h
  | _ => cases h
/-- a place: a fraction of 0 or more, less than 1 -/
def plOk (K : PySem.W.Frag) (H : Hp) (v : V) : Bool := frOk K H v && match v with
  | .ref a => match ob K H a with
    | some (.tup [.int n, .int d]) => decide (0 ≤ n) && decide (n < d)
    | _ => false
  | _ => false
theorem plOk_no {H : Hp} {v : V} (h : frOk K H v = false) : plOk K H v = false := by unfold plOk; rw [h]; rfl
theorem plOk_fr {H : Hp} {a : Addr} {q : Qt} (h : ob K H a = some (.tup [.int q.1, .int q.2])) (hn : Nf q) : plOk K H (.ref a) = (decide (0 ≤ q.1) && decide (q.1 < q.2)) := by
  have e := frOk_fr (K := K) h hn
  unfold plOk
  rw [e]
  simp only [h, Bool.true_and]
def spIsPlace (K : PySem.W.Frag) : Sp := fun vs H Q _ => ∃ v, vs = [v] ∧ Tyd K H v ∧ Q (.bl (plOk K H v)) H
abbrev sIsPlace : Stmt := topS 14
theorem scIsPlace : FnScope ["value"] ["value"] (defScope sIsPlace) := ⟨rfl, rfl, rfl, by decide +kernel, rfl, by decide +kernel, by decide +kernel⟩
theorem k_IsPlace (T : Bt K mg) (D : Dfn K mg "is_place" sIsPlace ["value"]) (d_is_fraction : Kn P w K mg base 2 "is_fraction" ["value"] (spIsFraction K)) : Kn P w K mg base 3 "is_place" ["value"] (spIsPlace K) := by
  refine Kn.mk' D scIsPlace (fun vs H Q E h => ?_) (fun f cdv A outer s H vs Q E hr h => ?_)
  · obtain ⟨v, rfl, _⟩ := h
    rfl
  obtain ⟨v, rfl, hv, q⟩ := h
  refine ⟨_, (pss_one (ps_ret (pe_and (pe_kn d_is_fraction hr (by rfl) (pa_cons (pv 0) pa_nil)) (pe_one (pe_chain op_le op_lt pe_int (pe_ix ix_any (pv 0) pe_int (fun _ _ => rfl)) (pe_ix ix_any (pv 0) pe_int (fun _ _ => rfl))))))), ?_⟩
  refine ⟨_, rfl, v, rfl, hv, ?_⟩
  cases e : frOk K H v with
  | false =>
    rw [plOk_no e] at q
    exact ⟨false, rfl, q⟩
  | true =>
    obtain ⟨a, z, rfl, ho, hn⟩ := frOk_inv e
    rw [plOk_fr ho hn] at q
    refine ⟨true, rfl, ?_⟩
    rw [if_pos rfl]
    simp only [ho, tChain, cx_K, decide_true, decide_false, reduceCtorEq, gTp, gCons, gNil, ca_0, ca_1, ca_2, ca_3, ca_4, ca_5, ca_6, ca_7, ca_8, ca_9, ca_10, ca_11, ca_12, ca_13, ca_14, ca_15, ca_16, ca_17, ca_18, ca_19, ca_20, ca_21, ca_22, ca_23, ca_24, ca_25, ca_26, ca_27, ca_28, ca_29, ca_30, not_true_eq_false, not_false_eq_true, Int.reduceEq, Nat.reduceEqDiff, Nat.reduceLeDiff, rGcd, V.ty.injEq, eq_self, List.not_mem_nil, beq_self_eq_true, HO.lst.injEq, HO.tup.injEq, tFor_eq, iRng1, iList, iTup, nat10, tSeq, rIxA, rSetA, rIsN, rIsT, tTp, tLs, itsO_tup, itsO_lst, tyO_tup, tyO_lst, tyO_dK, tyN_non, tyN_bl, tyN_int, tyN_str, tyN_ref, tyNs_lt, isB, upd_same, upd_upd, sizeLine_eq, List.mem_cons, String.reduceBEq, String.reduceEq, Bool.or_false, Bool.or_true, Bool.and_false, Bool.false_or, Bool.and_self, Bool.false_and, Bool.not_false, Bool.not_true, List.any_cons, List.any_nil, atI_0, setI_0, atI_1, setI_1, atI_2, setI_2, atI_3, setI_3, atI_4, setI_4, atI_5, setI_5, atI_6, setI_6, tAsg, gName, tOp, tUn, tVar, tC, tCons, L2.tNil, tRet, tIfS, tTest, tCB, tCall, rI, rI0, rU, tNext, tB, tAnd, tOr, tNot, tAndV, tOrV, tNotV, tDrop, tIf, tPar, gSub, rIxL, rIxT, rEq, rNe, rSetL, tBits,
    L2.start, List.map_cons, List.map_nil, List.cons_append, List.nil_append, List.append_nil, List.length_cons, List.length_nil, List.replicate, Nat.reduceAdd, Nat.reduceSub, Nat.zero_add, List.getElem?_cons_zero, List.getElem?_cons_succ, List.set_cons_zero, List.set_cons_succ,
    Option.some.injEq, exists_eq_left', exists_eq_left, V.int.injEq, V.bl.injEq, V.ref.injEq, V.str.injEq, List.cons.injEq, reduceCtorEq, and_true, true_and, false_and, and_false, exists_false, or_false, false_or, or_true, true_or, exists_const, CMul, CDiv, CPow, and_assoc, exists_and_left, exists_and_right, Int.reducePow, Int.reduceNeg, Int.reduceLT, Int.reduceLE, Nat.reducePow, Nat.reduceLT, Int.reduceToNat, gt_iff_lt, ge_iff_le, decide_eq_true_eq, Bool.not_eq_true', decide_eq_false_iff_not, scal, ↓reduceIte, Bool.false_eq_true]
    refine ite2 (fun h => ?_) (fun h => ?_)
    · rw [decide_eq_true h, Bool.true_and] at q
      exact q
    · rw [decide_eq_false h, Bool.false_and] at q
      exact q
def spLPlace (K : PySem.W.Frag) : Sp := fun vs H Q _ => ∃ (a : Addr) (q : Qt), vs = [.ref a] ∧ Fq K H 8000 a q ∧ 0 ≤ q.1 ∧ q.1 < q.2 ∧ Q (.bl true) H
abbrev sLIsPlace : Stmt := topS 43
theorem scLIsPlace : FnScope ["_law_told"] ["_law_told"] (defScope sLIsPlace) := ⟨rfl, rfl, rfl, by decide +kernel, rfl, by decide +kernel, by decide +kernel⟩
theorem k_LIsPlace (T : Bt K mg) (D : Dfn K mg "_law_is_place" sLIsPlace ["_law_told"]) (d__law_is_frac : Kn P w K mg base 2 "_law_is_frac" ["_law_told"] (spLFrac K)) : Kn P w K mg base 3 "_law_is_place" ["_law_told"] (spLPlace K) := by
  refine Kn.mk' D scLIsPlace (fun vs H Q E h => ?_) (fun f cdv A outer s H vs Q E hr h => ?_)
  · obtain ⟨a, q, rfl, _⟩ := h
    rfl
  obtain ⟨a, q, rfl, hq, h0, h1, k⟩ := h
  refine ⟨_, (pss_one (ps_ret (pe_and (pe_kn d__law_is_frac hr (by rfl) (pa_cons (pv 0) pa_nil)) (pe_and (pe_cmpR op_le pe_int (pe_ix ix_any (pv 0) pe_int (fun _ _ => rfl)) (nomark _)) (pe_one (pe_cmpR op_lt (pe_ix ix_any (pv 0) pe_int (fun _ _ => rfl)) (pe_ix ix_any (pv 0) pe_int (fun _ _ => rfl)) (nomark _))))))), ?_⟩
  refine ⟨_, rfl, a, q, rfl, hq, true, rfl, ?_⟩
  simp only [hq.o, cx_K, decide_true, decide_false, reduceCtorEq, gTp, gCons, gNil, ca_0, ca_1, ca_2, ca_3, ca_4, ca_5, ca_6, ca_7, ca_8, ca_9, ca_10, ca_11, ca_12, ca_13, ca_14, ca_15, ca_16, ca_17, ca_18, ca_19, ca_20, ca_21, ca_22, ca_23, ca_24, ca_25, ca_26, ca_27, ca_28, ca_29, ca_30, not_true_eq_false, not_false_eq_true, Int.reduceEq, Nat.reduceEqDiff, Nat.reduceLeDiff, rGcd, V.ty.injEq, eq_self, List.not_mem_nil, beq_self_eq_true, HO.lst.injEq, HO.tup.injEq, tFor_eq, iRng1, iList, iTup, nat10, tSeq, rIxA, rSetA, rIsN, rIsT, tTp, tLs, itsO_tup, itsO_lst, tyO_tup, tyO_lst, tyO_dK, tyN_non, tyN_bl, tyN_int, tyN_str, tyN_ref, tyNs_lt, isB, upd_same, upd_upd, sizeLine_eq, List.mem_cons, String.reduceBEq, String.reduceEq, Bool.or_false, Bool.or_true, Bool.and_false, Bool.false_or, Bool.and_self, Bool.false_and, Bool.not_false, Bool.not_true, List.any_cons, List.any_nil, atI_0, setI_0, atI_1, setI_1, atI_2, setI_2, atI_3, setI_3, atI_4, setI_4, atI_5, setI_5, atI_6, setI_6, tAsg, gName, tOp, tUn, tVar, tC, tCons, L2.tNil, tRet, tIfS, tTest, tCB, tCall, rI, rI0, rU, tNext, tB, tAnd, tOr, tNot, tAndV, tOrV, tNotV, tDrop, tIf, tPar, gSub, rIxL, rIxT, rEq, rNe, rSetL, tBits,
    L2.start, List.map_cons, List.map_nil, List.cons_append, List.nil_append, List.append_nil, List.length_cons, List.length_nil, List.replicate, Nat.reduceAdd, Nat.reduceSub, Nat.zero_add, List.getElem?_cons_zero, List.getElem?_cons_succ, List.set_cons_zero, List.set_cons_succ,
    Option.some.injEq, exists_eq_left', exists_eq_left, V.int.injEq, V.bl.injEq, V.ref.injEq, V.str.injEq, List.cons.injEq, reduceCtorEq, and_true, true_and, false_and, and_false, exists_false, or_false, false_or, or_true, true_or, exists_const, CMul, CDiv, CPow, and_assoc, exists_and_left, exists_and_right, Int.reducePow, Int.reduceNeg, Int.reduceLT, Int.reduceLE, Nat.reducePow, Nat.reduceLT, Int.reduceToNat, gt_iff_lt, ge_iff_le, decide_eq_true_eq, Bool.not_eq_true', decide_eq_false_iff_not, scal, ↓reduceIte, Bool.false_eq_true]
  rw [if_pos h0, decide_eq_true h1]
  exact k
end
end My

namespace My
open PySem PySem.Spec PyProof.Rows L2
section
variable {P : Program} {w : World} {K : PySem.W.Frag} {mg : Str → Option Value} {base : Heap}
/-- an int that the draws gave; all but the store stands -/
def spPick (K : PySem.W.Frag) : Sp := fun vs H Q _ => ∃ (s r : Addr) (xs : List V), vs = [.ref s, .ref r] ∧ Sto K H s ∧ H r = some (.lst xs) ∧ s ≠ r ∧ 0 < xs.length ∧ xs.length < 1000 ∧ ∀ x H', x ∈ xs → Kp s H H' → Sto K H' s → Q x H'
theorem at_mem {α : Type} {xs : List α} {i : Int} (h0 : 0 ≤ i) (h : i < (xs.length : Int)) : ∃ v ∈ xs, atI xs i = some v := by
  have hk : i.toNat < xs.length := by omega
  have q : atI xs ((i.toNat : Nat) : Int) = some xs[i.toNat] := atI_nat (List.getElem?_eq_getElem hk)
  rw [show ((i.toNat : Nat) : Int) = i by omega] at q
  exact ⟨_, List.getElem_mem hk, q⟩
theorem Sto.at {H : Hp} {s : Addr} (h : Sto K H s) : ∃ ys, H s = some (.lst ys) := by
  obtain ⟨sc, ns, i, b, c, d, e, f, h⟩ := h
  exact ⟨_, h.1⟩
theorem Kp.at {s : Addr} {H H' : Hp} {r : Addr} {o : HO} (e : Kp s H H') (n : s ≠ r) (h : H r = some o) : H' r = some o := e _ _ (Ne.symm n) h
abbrev sPick : Stmt := topS 34
theorem scPick : FnScope ["_law_store_here", "_law_row"] ["_law_store_here", "_law_row"] (defScope sPick) := ⟨rfl, rfl, rfl, by decide +kernel, rfl, by decide +kernel, by decide +kernel⟩
theorem k_Pick (T : Bt K mg) (D : Dfn K mg "_law_pick" sPick ["_law_store_here", "_law_row"]) (d__law_take : Kn P w K mg base 2 "_law_take" ["_law_store_here", "_law_many"] (spTake K)) : Kn P w K mg base 3 "_law_pick" ["_law_store_here", "_law_row"] (spPick K) := by
  refine Kn.mk' D scPick (fun vs H Q E h => ?_) (fun f cdv A outer s H vs Q E hr h => ?_)
  · obtain ⟨s, r, xs, rfl, _⟩ := h
    rfl
  obtain ⟨s, r, xs, rfl, hS, hr', ne, hl0, hl1, k⟩ := h
  refine ⟨_, (pss_one (ps_ret (pe_ix ix_list (pv 1) (pe_kn d__law_take hr (by rfl) (pa_cons (pv 0) (pa_cons (pe_callB call_len_seq (by rfl) T.b_len PySem.boot_len (pa_cons (pv 1) pa_nil)) pa_nil))) (fun _ _ => rfl)))), ?_⟩
  simp only [cx_K, decide_true, decide_false, reduceCtorEq, gTp, gCons, gNil, ca_0, ca_1, ca_2, ca_3, ca_4, ca_5, ca_6, ca_7, ca_8, ca_9, ca_10, ca_11, ca_12, ca_13, ca_14, ca_15, ca_16, ca_17, ca_18, ca_19, ca_20, ca_21, ca_22, ca_23, ca_24, ca_25, ca_26, ca_27, ca_28, ca_29, ca_30, not_true_eq_false, not_false_eq_true, Int.reduceEq, Nat.reduceEqDiff, Nat.reduceLeDiff, rGcd, V.ty.injEq, eq_self, List.not_mem_nil, beq_self_eq_true, HO.lst.injEq, HO.tup.injEq, tFor_eq, iRng1, iList, iTup, nat10, tSeq, rIxA, rSetA, rIsN, rIsT, tTp, tLs, itsO_tup, itsO_lst, tyO_tup, tyO_lst, tyO_dK, tyN_non, tyN_bl, tyN_int, tyN_str, tyN_ref, tyNs_lt, isB, upd_same, upd_upd, sizeLine_eq, List.mem_cons, String.reduceBEq, String.reduceEq, Bool.or_false, Bool.or_true, Bool.and_false, Bool.false_or, Bool.and_self, Bool.false_and, Bool.not_false, Bool.not_true, List.any_cons, List.any_nil, atI_0, setI_0, atI_1, setI_1, atI_2, setI_2, atI_3, setI_3, atI_4, setI_4, atI_5, setI_5, atI_6, setI_6, tAsg, gName, tOp, tUn, tVar, tC, tCons, L2.tNil, tRet, tIfS, tTest, tCB, tCall, rI, rI0, rU, tNext, tB, tAnd, tOr, tNot, tAndV, tOrV, tNotV, tDrop, tIf, tPar, gSub, rIxL, rIxT, rEq, rNe, rSetL, tBits,
    L2.start, List.map_cons, List.map_nil, List.cons_append, List.nil_append, List.append_nil, List.length_cons, List.length_nil, List.replicate, Nat.reduceAdd, Nat.reduceSub, Nat.zero_add, List.getElem?_cons_zero, List.getElem?_cons_succ, List.set_cons_zero, List.set_cons_succ,
    Option.some.injEq, exists_eq_left', exists_eq_left, V.int.injEq, V.bl.injEq, V.ref.injEq, V.str.injEq, List.cons.injEq, reduceCtorEq, and_true, true_and, false_and, and_false, exists_false, or_false, false_or, or_true, true_or, exists_const, CMul, CDiv, CPow, and_assoc, exists_and_left, exists_and_right, Int.reducePow, Int.reduceNeg, Int.reduceLT, Int.reduceLE, Nat.reducePow, Nat.reduceLT, Int.reduceToNat, gt_iff_lt, ge_iff_le, decide_eq_true_eq, Bool.not_eq_true', decide_eq_false_iff_not, scal, ↓reduceIte, Bool.false_eq_true]
  refine ⟨xs, .inl (.of hr'), s, _, rfl, hS, by omega, fun i H' h0 h1 kp st => ?_⟩
  obtain ⟨v, hv, e⟩ := at_mem (xs := xs) (i := i) h0 (by omega)
  exact ⟨xs, i, rfl, .of (kp.at ne hr'), v, e, k v H' hv kp st⟩
def spInt (K : PySem.W.Frag) (R : Int → Prop) : Sp := fun vs H Q _ => ∃ (s : Addr), vs = [.ref s] ∧ Sto K H s ∧ ∀ n H', R n → Kp s H H' → Sto K H' s → Q (.int n) H'
def spLInt (K : PySem.W.Frag) : Sp := fun vs H Q _ => ∃ (s : Addr) (r : Int), vs = [.ref s, .int r] ∧ Sto K H s ∧ 1 ≤ r ∧ r < 2 ^ 190 ∧ ∀ n H', -r ≤ n → n ≤ r → Kp s H H' → Sto K H' s → Q (.int n) H'
theorem menu {xs : List V} {i : Int} {R : V → Prop} (h0 : 0 ≤ i) (h : i < (xs.length : Int)) (k : ∀ v ∈ xs, R v) : ∃ v, atI xs i = some v ∧ R v := by
  obtain ⟨v, hv, e⟩ := at_mem h0 h
  exact ⟨v, e, k v hv⟩
abbrev sLInt : Stmt := topS 46
theorem scLInt : FnScope ["_law_store_here", "_law_reach", "_law_spot"] ["_law_store_here", "_law_reach"] (defScope sLInt) := ⟨rfl, rfl, rfl, by decide +kernel, rfl, by decide +kernel, by decide +kernel⟩
theorem k_LInt (T : Bt K mg) (D : Dfn K mg "_law_whole" sLInt ["_law_store_here", "_law_reach"]) (d__law_take : Kn P w K mg base 2 "_law_take" ["_law_store_here", "_law_many"] (spTake K)) : Kn P w K mg base 3 "_law_whole" ["_law_store_here", "_law_reach"] (spLInt K) := by
  refine Kn.mk' D scLInt (fun vs H Q E h => ?_) (fun f cdv A outer s H vs Q E hr h => ?_)
  · obtain ⟨s, r, rfl, _⟩ := h
    rfl
  obtain ⟨s, r, rfl, hS, hr1, hr2, k⟩ := h
  refine ⟨_, (pss_cons (ps_set (i := 2) scLInt.nd rfl (.inl rfl) (pe_kn d__law_take hr (by rfl) (pa_cons (pv 0) (pa_cons pe_int pa_nil))))
      (pss_cons (ps_if (pt_cmpR op_lt (pv 2) pe_int (nomark _)) (pss_one (ps_ret (pe_ix ix_any (pe_ls (pa_cons pe_int (pa_cons (pe_callB (call_min2 rfl) (by rfl) T.b_min (by decide +kernel) (pa_cons pe_int (pa_cons (pv 1) pa_nil))) (pa_cons (pe_un un_neg (pe_callB (call_min2 rfl) (by rfl) T.b_min (by decide +kernel) (pa_cons pe_int (pa_cons (pv 1) pa_nil)))) (pa_cons (pv 1) (pa_cons (pe_un un_neg (pv 1)) pa_nil)))))) (pv 2) (fun _ _ => rfl)))) pss_nil)
      (pss_one (ps_ret (pe_op op_sub (pe_kn d__law_take hr (by rfl) (pa_cons (pv 0) (pa_cons (pe_op op_add (pe_op op_mul pe_int (pv 1)) pe_int) pa_nil))) (pv 1)))))), ?_⟩
  simp only [cx_K, decide_true, decide_false, reduceCtorEq, gTp, gCons, gNil, ca_0, ca_1, ca_2, ca_3, ca_4, ca_5, ca_6, ca_7, ca_8, ca_9, ca_10, ca_11, ca_12, ca_13, ca_14, ca_15, ca_16, ca_17, ca_18, ca_19, ca_20, ca_21, ca_22, ca_23, ca_24, ca_25, ca_26, ca_27, ca_28, ca_29, ca_30, not_true_eq_false, not_false_eq_true, Int.reduceEq, Nat.reduceEqDiff, Nat.reduceLeDiff, rGcd, V.ty.injEq, eq_self, List.not_mem_nil, beq_self_eq_true, HO.lst.injEq, HO.tup.injEq, tFor_eq, iRng1, iList, iTup, nat10, tSeq, rIxA, rSetA, rIsN, rIsT, tTp, tLs, itsO_tup, itsO_lst, tyO_tup, tyO_lst, tyO_dK, tyN_non, tyN_bl, tyN_int, tyN_str, tyN_ref, tyNs_lt, isB, upd_same, upd_upd, sizeLine_eq, List.mem_cons, String.reduceBEq, String.reduceEq, Bool.or_false, Bool.or_true, Bool.and_false, Bool.false_or, Bool.and_self, Bool.false_and, Bool.not_false, Bool.not_true, List.any_cons, List.any_nil, atI_0, setI_0, atI_1, setI_1, atI_2, setI_2, atI_3, setI_3, atI_4, setI_4, atI_5, setI_5, atI_6, setI_6, tAsg, gName, tOp, tUn, tVar, tC, tCons, L2.tNil, tRet, tIfS, tTest, tCB, tCall, rI, rI0, rU, tNext, tB, tAnd, tOr, tNot, tAndV, tOrV, tNotV, tDrop, tIf, tPar, gSub, rIxL, rIxT, rEq, rNe, rSetL, tBits,
    L2.start, List.map_cons, List.map_nil, List.cons_append, List.nil_append, List.append_nil, List.length_cons, List.length_nil, List.replicate, Nat.reduceAdd, Nat.reduceSub, Nat.zero_add, List.getElem?_cons_zero, List.getElem?_cons_succ, List.set_cons_zero, List.set_cons_succ,
    Option.some.injEq, exists_eq_left', exists_eq_left, V.int.injEq, V.bl.injEq, V.ref.injEq, V.str.injEq, List.cons.injEq, reduceCtorEq, and_true, true_and, false_and, and_false, exists_false, or_false, false_or, or_true, true_or, exists_const, CMul, CDiv, CPow, and_assoc, exists_and_left, exists_and_right, Int.reducePow, Int.reduceNeg, Int.reduceLT, Int.reduceLE, Nat.reducePow, Nat.reduceLT, Int.reduceToNat, gt_iff_lt, ge_iff_le, decide_eq_true_eq, Bool.not_eq_true', decide_eq_false_iff_not, scal, ↓reduceIte, Bool.false_eq_true]
  refine ⟨s, 12, rfl, hS, by omega, fun i H1 h0 h1 kp st => ?_⟩
  simp only [cx_K, decide_true, decide_false, reduceCtorEq, gTp, gCons, gNil, ca_0, ca_1, ca_2, ca_3, ca_4, ca_5, ca_6, ca_7, ca_8, ca_9, ca_10, ca_11, ca_12, ca_13, ca_14, ca_15, ca_16, ca_17, ca_18, ca_19, ca_20, ca_21, ca_22, ca_23, ca_24, ca_25, ca_26, ca_27, ca_28, ca_29, ca_30, not_true_eq_false, not_false_eq_true, Int.reduceEq, Nat.reduceEqDiff, Nat.reduceLeDiff, rGcd, V.ty.injEq, eq_self, List.not_mem_nil, beq_self_eq_true, HO.lst.injEq, HO.tup.injEq, tFor_eq, iRng1, iList, iTup, nat10, tSeq, rIxA, rSetA, rIsN, rIsT, tTp, tLs, itsO_tup, itsO_lst, tyO_tup, tyO_lst, tyO_dK, tyN_non, tyN_bl, tyN_int, tyN_str, tyN_ref, tyNs_lt, isB, upd_same, upd_upd, sizeLine_eq, List.mem_cons, String.reduceBEq, String.reduceEq, Bool.or_false, Bool.or_true, Bool.and_false, Bool.false_or, Bool.and_self, Bool.false_and, Bool.not_false, Bool.not_true, List.any_cons, List.any_nil, atI_0, setI_0, atI_1, setI_1, atI_2, setI_2, atI_3, setI_3, atI_4, setI_4, atI_5, setI_5, atI_6, setI_6, tAsg, gName, tOp, tUn, tVar, tC, tCons, L2.tNil, tRet, tIfS, tTest, tCB, tCall, rI, rI0, rU, tNext, tB, tAnd, tOr, tNot, tAndV, tOrV, tNotV, tDrop, tIf, tPar, gSub, rIxL, rIxT, rEq, rNe, rSetL, tBits,
    L2.start, List.map_cons, List.map_nil, List.cons_append, List.nil_append, List.append_nil, List.length_cons, List.length_nil, List.replicate, Nat.reduceAdd, Nat.reduceSub, Nat.zero_add, List.getElem?_cons_zero, List.getElem?_cons_succ, List.set_cons_zero, List.set_cons_succ,
    Option.some.injEq, exists_eq_left', exists_eq_left, V.int.injEq, V.bl.injEq, V.ref.injEq, V.str.injEq, List.cons.injEq, reduceCtorEq, and_true, true_and, false_and, and_false, exists_false, or_false, false_or, or_true, true_or, exists_const, CMul, CDiv, CPow, and_assoc, exists_and_left, exists_and_right, Int.reducePow, Int.reduceNeg, Int.reduceLT, Int.reduceLE, Nat.reducePow, Nat.reduceLT, Int.reduceToNat, gt_iff_lt, ge_iff_le, decide_eq_true_eq, Bool.not_eq_true', decide_eq_false_iff_not, scal, ↓reduceIte, Bool.false_eq_true]
  refine ite2 (fun h => ?_) (fun h => ?_)
  · intro p hp kp'
    rw [ob_new kp']
    simp only [cx_K, decide_true, decide_false, reduceCtorEq, gTp, gCons, gNil, ca_0, ca_1, ca_2, ca_3, ca_4, ca_5, ca_6, ca_7, ca_8, ca_9, ca_10, ca_11, ca_12, ca_13, ca_14, ca_15, ca_16, ca_17, ca_18, ca_19, ca_20, ca_21, ca_22, ca_23, ca_24, ca_25, ca_26, ca_27, ca_28, ca_29, ca_30, not_true_eq_false, not_false_eq_true, Int.reduceEq, Nat.reduceEqDiff, Nat.reduceLeDiff, rGcd, V.ty.injEq, eq_self, List.not_mem_nil, beq_self_eq_true, HO.lst.injEq, HO.tup.injEq, tFor_eq, iRng1, iList, iTup, nat10, tSeq, rIxA, rSetA, rIsN, rIsT, tTp, tLs, itsO_tup, itsO_lst, tyO_tup, tyO_lst, tyO_dK, tyN_non, tyN_bl, tyN_int, tyN_str, tyN_ref, tyNs_lt, isB, upd_same, upd_upd, sizeLine_eq, List.mem_cons, String.reduceBEq, String.reduceEq, Bool.or_false, Bool.or_true, Bool.and_false, Bool.false_or, Bool.and_self, Bool.false_and, Bool.not_false, Bool.not_true, List.any_cons, List.any_nil, atI_0, setI_0, atI_1, setI_1, atI_2, setI_2, atI_3, setI_3, atI_4, setI_4, atI_5, setI_5, atI_6, setI_6, tAsg, gName, tOp, tUn, tVar, tC, tCons, L2.tNil, tRet, tIfS, tTest, tCB, tCall, rI, rI0, rU, tNext, tB, tAnd, tOr, tNot, tAndV, tOrV, tNotV, tDrop, tIf, tPar, gSub, rIxL, rIxT, rEq, rNe, rSetL, tBits,
    L2.start, List.map_cons, List.map_nil, List.cons_append, List.nil_append, List.append_nil, List.length_cons, List.length_nil, List.replicate, Nat.reduceAdd, Nat.reduceSub, Nat.zero_add, List.getElem?_cons_zero, List.getElem?_cons_succ, List.set_cons_zero, List.set_cons_succ,
    Option.some.injEq, exists_eq_left', exists_eq_left, V.int.injEq, V.bl.injEq, V.ref.injEq, V.str.injEq, List.cons.injEq, reduceCtorEq, and_true, true_and, false_and, and_false, exists_false, or_false, false_or, or_true, true_or, exists_const, CMul, CDiv, CPow, and_assoc, exists_and_left, exists_and_right, Int.reducePow, Int.reduceNeg, Int.reduceLT, Int.reduceLE, Nat.reducePow, Nat.reduceLT, Int.reduceToNat, gt_iff_lt, ge_iff_le, decide_eq_true_eq, Bool.not_eq_true', decide_eq_false_iff_not, scal, ↓reduceIte, Bool.false_eq_true]
    refine menu h0 (by simpa using h) fun v hv => ?_
    rw [if_neg (show ¬ r < 1 by omega)] at hv ⊢
    simp only [List.mem_cons, List.not_mem_nil, or_false] at hv
    rcases hv with rfl | rfl | rfl | rfl | rfl <;> exact k _ _ (by omega) (by omega) (kp.trans (Kp.same (Same.new hp _))) (st.same (Same.new hp _))
  · refine ⟨s, _, rfl, st, by omega, fun j H2 h0' h1' kp2 st2 => ?_⟩
    simp only [cx_K, decide_true, decide_false, reduceCtorEq, gTp, gCons, gNil, ca_0, ca_1, ca_2, ca_3, ca_4, ca_5, ca_6, ca_7, ca_8, ca_9, ca_10, ca_11, ca_12, ca_13, ca_14, ca_15, ca_16, ca_17, ca_18, ca_19, ca_20, ca_21, ca_22, ca_23, ca_24, ca_25, ca_26, ca_27, ca_28, ca_29, ca_30, not_true_eq_false, not_false_eq_true, Int.reduceEq, Nat.reduceEqDiff, Nat.reduceLeDiff, rGcd, V.ty.injEq, eq_self, List.not_mem_nil, beq_self_eq_true, HO.lst.injEq, HO.tup.injEq, tFor_eq, iRng1, iList, iTup, nat10, tSeq, rIxA, rSetA, rIsN, rIsT, tTp, tLs, itsO_tup, itsO_lst, tyO_tup, tyO_lst, tyO_dK, tyN_non, tyN_bl, tyN_int, tyN_str, tyN_ref, tyNs_lt, isB, upd_same, upd_upd, sizeLine_eq, List.mem_cons, String.reduceBEq, String.reduceEq, Bool.or_false, Bool.or_true, Bool.and_false, Bool.false_or, Bool.and_self, Bool.false_and, Bool.not_false, Bool.not_true, List.any_cons, List.any_nil, atI_0, setI_0, atI_1, setI_1, atI_2, setI_2, atI_3, setI_3, atI_4, setI_4, atI_5, setI_5, atI_6, setI_6, tAsg, gName, tOp, tUn, tVar, tC, tCons, L2.tNil, tRet, tIfS, tTest, tCB, tCall, rI, rI0, rU, tNext, tB, tAnd, tOr, tNot, tAndV, tOrV, tNotV, tDrop, tIf, tPar, gSub, rIxL, rIxT, rEq, rNe, rSetL, tBits,
    L2.start, List.map_cons, List.map_nil, List.cons_append, List.nil_append, List.append_nil, List.length_cons, List.length_nil, List.replicate, Nat.reduceAdd, Nat.reduceSub, Nat.zero_add, List.getElem?_cons_zero, List.getElem?_cons_succ, List.set_cons_zero, List.set_cons_succ,
    Option.some.injEq, exists_eq_left', exists_eq_left, V.int.injEq, V.bl.injEq, V.ref.injEq, V.str.injEq, List.cons.injEq, reduceCtorEq, and_true, true_and, false_and, and_false, exists_false, or_false, false_or, or_true, true_or, exists_const, CMul, CDiv, CPow, and_assoc, exists_and_left, exists_and_right, Int.reducePow, Int.reduceNeg, Int.reduceLT, Int.reduceLE, Nat.reducePow, Nat.reduceLT, Int.reduceToNat, gt_iff_lt, ge_iff_le, decide_eq_true_eq, Bool.not_eq_true', decide_eq_false_iff_not, scal, ↓reduceIte, Bool.false_eq_true]
    exact k _ _ (by omega) (by omega) (kp.trans kp2) st2
def GreatI (s : Addr) (spot : Int) (H1 : Hp) (_ : Nat) (σ : L2.St) (H' : Hp) : Prop := ∃ v y, σ = [some (.ref s), some (.int spot), some (.int v), y] ∧ H' = H1 ∧ 0 ≤ v ∧ v < 2 ^ 133
abbrev sGreat : Stmt := topS 47
theorem scGreat : FnScope ["_law_store_here", "_law_spot", "_law_value", "_law_k"] ["_law_store_here"] (defScope sGreat) := ⟨rfl, rfl, rfl, by decide +kernel, rfl, by decide +kernel, by decide +kernel⟩
theorem k_Great (T : Bt K mg) (D : Dfn K mg "_law_great" sGreat ["_law_store_here"]) (d__law_take : Kn P w K mg base 2 "_law_take" ["_law_store_here", "_law_many"] (spTake K)) : Kn P w K mg base 3 "_law_great" ["_law_store_here"] (spInt K fun n => n.natAbs < 2 ^ 133) := by
  refine Kn.mk' D scGreat (fun vs H Q E h => ?_) (fun f cdv A outer s H vs Q E hr h => ?_)
  · obtain ⟨s, rfl, _⟩ := h
    rfl
  obtain ⟨s, rfl, hS, k⟩ := h
  refine ⟨_, (pss_cons (ps_set (i := 1) scGreat.nd rfl (.inl rfl) (pe_kn d__law_take hr (by rfl) (pa_cons (pv 0) (pa_cons pe_int pa_nil))))
      (pss_cons (ps_if (pt_cmpR op_lt (pv 1) pe_int (nomark _)) (pss_one (ps_ret (pe_ix ix_any (pe_ls (pa_cons (pe_op op_sub (pe_op op_pow pe_int pe_int) pe_int) (pa_cons (pe_op op_sub pe_int (pe_op op_pow pe_int pe_int)) (pa_cons (pe_op op_pow pe_int pe_int) (pa_cons pe_int pa_nil))))) (pv 1) (fun _ _ => rfl)))) pss_nil)
      (pss_cons (ps_set (i := 2) scGreat.nd rfl (.inl rfl) (pe_kn d__law_take hr (by rfl) (pa_cons (pv 0) (pa_cons (pe_op op_pow pe_int pe_int) pa_nil))))
      (pss_cons (ps_for PassesOwn.never rfl (pi_range1 (by rfl) T.b_range (pa_cons (pe_kn d__law_take hr (by rfl) (pa_cons (pv 0) (pa_cons pe_int pa_nil))) pa_nil)) (pg_name (i := 3) scGreat.nd rfl (.inl rfl)) (pss_one (ps_set (i := 2) scGreat.nd rfl (.inl rfl) (pe_op op_fdiv (pv 2) pe_int))))
      (pss_cons (ps_if (pt_cmpR op_eq (pe_op op_mod (pv 1) pe_int) pe_int (nomark _)) (pss_one (ps_ret (pe_un un_neg (pv 2)))) pss_nil)
      (pss_one (ps_ret (pv 2)))))))), ?_⟩
  simp only [cx_K, decide_true, decide_false, reduceCtorEq, gTp, gCons, gNil, ca_0, ca_1, ca_2, ca_3, ca_4, ca_5, ca_6, ca_7, ca_8, ca_9, ca_10, ca_11, ca_12, ca_13, ca_14, ca_15, ca_16, ca_17, ca_18, ca_19, ca_20, ca_21, ca_22, ca_23, ca_24, ca_25, ca_26, ca_27, ca_28, ca_29, ca_30, not_true_eq_false, not_false_eq_true, Int.reduceEq, Nat.reduceEqDiff, Nat.reduceLeDiff, rGcd, V.ty.injEq, eq_self, List.not_mem_nil, beq_self_eq_true, HO.lst.injEq, HO.tup.injEq, tFor_eq, iRng1, iList, iTup, nat10, tSeq, rIxA, rSetA, rIsN, rIsT, tTp, tLs, itsO_tup, itsO_lst, tyO_tup, tyO_lst, tyO_dK, tyN_non, tyN_bl, tyN_int, tyN_str, tyN_ref, tyNs_lt, isB, upd_same, upd_upd, sizeLine_eq, List.mem_cons, String.reduceBEq, String.reduceEq, Bool.or_false, Bool.or_true, Bool.and_false, Bool.false_or, Bool.and_self, Bool.false_and, Bool.not_false, Bool.not_true, List.any_cons, List.any_nil, atI_0, setI_0, atI_1, setI_1, atI_2, setI_2, atI_3, setI_3, atI_4, setI_4, atI_5, setI_5, atI_6, setI_6, tAsg, gName, tOp, tUn, tVar, tC, tCons, L2.tNil, tRet, tIfS, tTest, tCB, tCall, rI, rI0, rU, tNext, tB, tAnd, tOr, tNot, tAndV, tOrV, tNotV, tDrop, tIf, tPar, gSub, rIxL, rIxT, rEq, rNe, rSetL, tBits,
    L2.start, List.map_cons, List.map_nil, List.cons_append, List.nil_append, List.append_nil, List.length_cons, List.length_nil, List.replicate, Nat.reduceAdd, Nat.reduceSub, Nat.zero_add, List.getElem?_cons_zero, List.getElem?_cons_succ, List.set_cons_zero, List.set_cons_succ,
    Option.some.injEq, exists_eq_left', exists_eq_left, V.int.injEq, V.bl.injEq, V.ref.injEq, V.str.injEq, List.cons.injEq, reduceCtorEq, and_true, true_and, false_and, and_false, exists_false, or_false, false_or, or_true, true_or, exists_const, CMul, CDiv, CPow, and_assoc, exists_and_left, exists_and_right, Int.reducePow, Int.reduceNeg, Int.reduceLT, Int.reduceLE, Nat.reducePow, Nat.reduceLT, Int.reduceToNat, gt_iff_lt, ge_iff_le, decide_eq_true_eq, Bool.not_eq_true', decide_eq_false_iff_not, scal, ↓reduceIte, Bool.false_eq_true]
  refine ⟨s, 12, rfl, hS, by omega, fun i H1 h0 h1 kp st => ?_⟩
  simp only [cx_K, decide_true, decide_false, reduceCtorEq, gTp, gCons, gNil, ca_0, ca_1, ca_2, ca_3, ca_4, ca_5, ca_6, ca_7, ca_8, ca_9, ca_10, ca_11, ca_12, ca_13, ca_14, ca_15, ca_16, ca_17, ca_18, ca_19, ca_20, ca_21, ca_22, ca_23, ca_24, ca_25, ca_26, ca_27, ca_28, ca_29, ca_30, not_true_eq_false, not_false_eq_true, Int.reduceEq, Nat.reduceEqDiff, Nat.reduceLeDiff, rGcd, V.ty.injEq, eq_self, List.not_mem_nil, beq_self_eq_true, HO.lst.injEq, HO.tup.injEq, tFor_eq, iRng1, iList, iTup, nat10, tSeq, rIxA, rSetA, rIsN, rIsT, tTp, tLs, itsO_tup, itsO_lst, tyO_tup, tyO_lst, tyO_dK, tyN_non, tyN_bl, tyN_int, tyN_str, tyN_ref, tyNs_lt, isB, upd_same, upd_upd, sizeLine_eq, List.mem_cons, String.reduceBEq, String.reduceEq, Bool.or_false, Bool.or_true, Bool.and_false, Bool.false_or, Bool.and_self, Bool.false_and, Bool.not_false, Bool.not_true, List.any_cons, List.any_nil, atI_0, setI_0, atI_1, setI_1, atI_2, setI_2, atI_3, setI_3, atI_4, setI_4, atI_5, setI_5, atI_6, setI_6, tAsg, gName, tOp, tUn, tVar, tC, tCons, L2.tNil, tRet, tIfS, tTest, tCB, tCall, rI, rI0, rU, tNext, tB, tAnd, tOr, tNot, tAndV, tOrV, tNotV, tDrop, tIf, tPar, gSub, rIxL, rIxT, rEq, rNe, rSetL, tBits,
    L2.start, List.map_cons, List.map_nil, List.cons_append, List.nil_append, List.append_nil, List.length_cons, List.length_nil, List.replicate, Nat.reduceAdd, Nat.reduceSub, Nat.zero_add, List.getElem?_cons_zero, List.getElem?_cons_succ, List.set_cons_zero, List.set_cons_succ,
    Option.some.injEq, exists_eq_left', exists_eq_left, V.int.injEq, V.bl.injEq, V.ref.injEq, V.str.injEq, List.cons.injEq, reduceCtorEq, and_true, true_and, false_and, and_false, exists_false, or_false, false_or, or_true, true_or, exists_const, CMul, CDiv, CPow, and_assoc, exists_and_left, exists_and_right, Int.reducePow, Int.reduceNeg, Int.reduceLT, Int.reduceLE, Nat.reducePow, Nat.reduceLT, Int.reduceToNat, gt_iff_lt, ge_iff_le, decide_eq_true_eq, Bool.not_eq_true', decide_eq_false_iff_not, scal, ↓reduceIte, Bool.false_eq_true]
  refine ite2 (fun h => ?_) (fun h => ?_)
  · intro p hp kp'
    rw [ob_new kp']
    simp only [cx_K, decide_true, decide_false, reduceCtorEq, gTp, gCons, gNil, ca_0, ca_1, ca_2, ca_3, ca_4, ca_5, ca_6, ca_7, ca_8, ca_9, ca_10, ca_11, ca_12, ca_13, ca_14, ca_15, ca_16, ca_17, ca_18, ca_19, ca_20, ca_21, ca_22, ca_23, ca_24, ca_25, ca_26, ca_27, ca_28, ca_29, ca_30, not_true_eq_false, not_false_eq_true, Int.reduceEq, Nat.reduceEqDiff, Nat.reduceLeDiff, rGcd, V.ty.injEq, eq_self, List.not_mem_nil, beq_self_eq_true, HO.lst.injEq, HO.tup.injEq, tFor_eq, iRng1, iList, iTup, nat10, tSeq, rIxA, rSetA, rIsN, rIsT, tTp, tLs, itsO_tup, itsO_lst, tyO_tup, tyO_lst, tyO_dK, tyN_non, tyN_bl, tyN_int, tyN_str, tyN_ref, tyNs_lt, isB, upd_same, upd_upd, sizeLine_eq, List.mem_cons, String.reduceBEq, String.reduceEq, Bool.or_false, Bool.or_true, Bool.and_false, Bool.false_or, Bool.and_self, Bool.false_and, Bool.not_false, Bool.not_true, List.any_cons, List.any_nil, atI_0, setI_0, atI_1, setI_1, atI_2, setI_2, atI_3, setI_3, atI_4, setI_4, atI_5, setI_5, atI_6, setI_6, tAsg, gName, tOp, tUn, tVar, tC, tCons, L2.tNil, tRet, tIfS, tTest, tCB, tCall, rI, rI0, rU, tNext, tB, tAnd, tOr, tNot, tAndV, tOrV, tNotV, tDrop, tIf, tPar, gSub, rIxL, rIxT, rEq, rNe, rSetL, tBits,
    L2.start, List.map_cons, List.map_nil, List.cons_append, List.nil_append, List.append_nil, List.length_cons, List.length_nil, List.replicate, Nat.reduceAdd, Nat.reduceSub, Nat.zero_add, List.getElem?_cons_zero, List.getElem?_cons_succ, List.set_cons_zero, List.set_cons_succ,
    Option.some.injEq, exists_eq_left', exists_eq_left, V.int.injEq, V.bl.injEq, V.ref.injEq, V.str.injEq, List.cons.injEq, reduceCtorEq, and_true, true_and, false_and, and_false, exists_false, or_false, false_or, or_true, true_or, exists_const, CMul, CDiv, CPow, and_assoc, exists_and_left, exists_and_right, Int.reducePow, Int.reduceNeg, Int.reduceLT, Int.reduceLE, Nat.reducePow, Nat.reduceLT, Int.reduceToNat, gt_iff_lt, ge_iff_le, decide_eq_true_eq, Bool.not_eq_true', decide_eq_false_iff_not, scal, ↓reduceIte, Bool.false_eq_true]
    refine menu h0 (by simpa using h) fun v hv => ?_
    simp only [List.mem_cons, List.not_mem_nil, or_false] at hv
    rcases hv with rfl | rfl | rfl | rfl <;> exact k _ _ (by show Int.natAbs _ < _; omega) (kp.trans (Kp.same (Same.new hp _))) (st.same (Same.new hp _))
  · refine ⟨s, _, rfl, st, by omega, fun j H2 j0 j1 kp2 st2 => ⟨s, 40, rfl, st2, by omega, fun m H3 m0 m1 kp3 st3 => ?_⟩⟩
    simp only [cx_K, decide_true, decide_false, reduceCtorEq, gTp, gCons, gNil, ca_0, ca_1, ca_2, ca_3, ca_4, ca_5, ca_6, ca_7, ca_8, ca_9, ca_10, ca_11, ca_12, ca_13, ca_14, ca_15, ca_16, ca_17, ca_18, ca_19, ca_20, ca_21, ca_22, ca_23, ca_24, ca_25, ca_26, ca_27, ca_28, ca_29, ca_30, not_true_eq_false, not_false_eq_true, Int.reduceEq, Nat.reduceEqDiff, Nat.reduceLeDiff, rGcd, V.ty.injEq, eq_self, List.not_mem_nil, beq_self_eq_true, HO.lst.injEq, HO.tup.injEq, tFor_eq, iRng1, iList, iTup, nat10, tSeq, rIxA, rSetA, rIsN, rIsT, tTp, tLs, itsO_tup, itsO_lst, tyO_tup, tyO_lst, tyO_dK, tyN_non, tyN_bl, tyN_int, tyN_str, tyN_ref, tyNs_lt, isB, upd_same, upd_upd, sizeLine_eq, List.mem_cons, String.reduceBEq, String.reduceEq, Bool.or_false, Bool.or_true, Bool.and_false, Bool.false_or, Bool.and_self, Bool.false_and, Bool.not_false, Bool.not_true, List.any_cons, List.any_nil, atI_0, setI_0, atI_1, setI_1, atI_2, setI_2, atI_3, setI_3, atI_4, setI_4, atI_5, setI_5, atI_6, setI_6, tAsg, gName, tOp, tUn, tVar, tC, tCons, L2.tNil, tRet, tIfS, tTest, tCB, tCall, rI, rI0, rU, tNext, tB, tAnd, tOr, tNot, tAndV, tOrV, tNotV, tDrop, tIf, tPar, gSub, rIxL, rIxT, rEq, rNe, rSetL, tBits,
    L2.start, List.map_cons, List.map_nil, List.cons_append, List.nil_append, List.append_nil, List.length_cons, List.length_nil, List.replicate, Nat.reduceAdd, Nat.reduceSub, Nat.zero_add, List.getElem?_cons_zero, List.getElem?_cons_succ, List.set_cons_zero, List.set_cons_succ,
    Option.some.injEq, exists_eq_left', exists_eq_left, V.int.injEq, V.bl.injEq, V.ref.injEq, V.str.injEq, List.cons.injEq, reduceCtorEq, and_true, true_and, false_and, and_false, exists_false, or_false, false_or, or_true, true_or, exists_const, CMul, CDiv, CPow, and_assoc, exists_and_left, exists_and_right, Int.reducePow, Int.reduceNeg, Int.reduceLT, Int.reduceLE, Nat.reducePow, Nat.reduceLT, Int.reduceToNat, gt_iff_lt, ge_iff_le, decide_eq_true_eq, Bool.not_eq_true', decide_eq_false_iff_not, scal, ↓reduceIte, Bool.false_eq_true]
    refine ⟨by omega, by omega, forI_range (GreatI s i H3) ⟨j, none, rfl, rfl, j0, by omega⟩ ?_ ?_⟩
    · rintro t σ H' _ ⟨v, y, rfl, rfl, v0, v1⟩
      simp only [cx_K, decide_true, decide_false, reduceCtorEq, gTp, gCons, gNil, ca_0, ca_1, ca_2, ca_3, ca_4, ca_5, ca_6, ca_7, ca_8, ca_9, ca_10, ca_11, ca_12, ca_13, ca_14, ca_15, ca_16, ca_17, ca_18, ca_19, ca_20, ca_21, ca_22, ca_23, ca_24, ca_25, ca_26, ca_27, ca_28, ca_29, ca_30, not_true_eq_false, not_false_eq_true, Int.reduceEq, Nat.reduceEqDiff, Nat.reduceLeDiff, rGcd, V.ty.injEq, eq_self, List.not_mem_nil, beq_self_eq_true, HO.lst.injEq, HO.tup.injEq, tFor_eq, iRng1, iList, iTup, nat10, tSeq, rIxA, rSetA, rIsN, rIsT, tTp, tLs, itsO_tup, itsO_lst, tyO_tup, tyO_lst, tyO_dK, tyN_non, tyN_bl, tyN_int, tyN_str, tyN_ref, tyNs_lt, isB, upd_same, upd_upd, sizeLine_eq, List.mem_cons, String.reduceBEq, String.reduceEq, Bool.or_false, Bool.or_true, Bool.and_false, Bool.false_or, Bool.and_self, Bool.false_and, Bool.not_false, Bool.not_true, List.any_cons, List.any_nil, atI_0, setI_0, atI_1, setI_1, atI_2, setI_2, atI_3, setI_3, atI_4, setI_4, atI_5, setI_5, atI_6, setI_6, tAsg, gName, tOp, tUn, tVar, tC, tCons, L2.tNil, tRet, tIfS, tTest, tCB, tCall, rI, rI0, rU, tNext, tB, tAnd, tOr, tNot, tAndV, tOrV, tNotV, tDrop, tIf, tPar, gSub, rIxL, rIxT, rEq, rNe, rSetL, tBits,
    L2.start, List.map_cons, List.map_nil, List.cons_append, List.nil_append, List.append_nil, List.length_cons, List.length_nil, List.replicate, Nat.reduceAdd, Nat.reduceSub, Nat.zero_add, List.getElem?_cons_zero, List.getElem?_cons_succ, List.set_cons_zero, List.set_cons_succ,
    Option.some.injEq, exists_eq_left', exists_eq_left, V.int.injEq, V.bl.injEq, V.ref.injEq, V.str.injEq, List.cons.injEq, reduceCtorEq, and_true, true_and, false_and, and_false, exists_false, or_false, false_or, or_true, true_or, exists_const, CMul, CDiv, CPow, and_assoc, exists_and_left, exists_and_right, Int.reducePow, Int.reduceNeg, Int.reduceLT, Int.reduceLE, Nat.reducePow, Nat.reduceLT, Int.reduceToNat, gt_iff_lt, ge_iff_le, decide_eq_true_eq, Bool.not_eq_true', decide_eq_false_iff_not, scal, ↓reduceIte, Bool.false_eq_true]
      exact ⟨_, _, rfl, rfl, by omega, by omega⟩
    · rintro σ H' ⟨v, y, rfl, rfl, v0, v1⟩
      simp only [cx_K, decide_true, decide_false, reduceCtorEq, gTp, gCons, gNil, ca_0, ca_1, ca_2, ca_3, ca_4, ca_5, ca_6, ca_7, ca_8, ca_9, ca_10, ca_11, ca_12, ca_13, ca_14, ca_15, ca_16, ca_17, ca_18, ca_19, ca_20, ca_21, ca_22, ca_23, ca_24, ca_25, ca_26, ca_27, ca_28, ca_29, ca_30, not_true_eq_false, not_false_eq_true, Int.reduceEq, Nat.reduceEqDiff, Nat.reduceLeDiff, rGcd, V.ty.injEq, eq_self, List.not_mem_nil, beq_self_eq_true, HO.lst.injEq, HO.tup.injEq, tFor_eq, iRng1, iList, iTup, nat10, tSeq, rIxA, rSetA, rIsN, rIsT, tTp, tLs, itsO_tup, itsO_lst, tyO_tup, tyO_lst, tyO_dK, tyN_non, tyN_bl, tyN_int, tyN_str, tyN_ref, tyNs_lt, isB, upd_same, upd_upd, sizeLine_eq, List.mem_cons, String.reduceBEq, String.reduceEq, Bool.or_false, Bool.or_true, Bool.and_false, Bool.false_or, Bool.and_self, Bool.false_and, Bool.not_false, Bool.not_true, List.any_cons, List.any_nil, atI_0, setI_0, atI_1, setI_1, atI_2, setI_2, atI_3, setI_3, atI_4, setI_4, atI_5, setI_5, atI_6, setI_6, tAsg, gName, tOp, tUn, tVar, tC, tCons, L2.tNil, tRet, tIfS, tTest, tCB, tCall, rI, rI0, rU, tNext, tB, tAnd, tOr, tNot, tAndV, tOrV, tNotV, tDrop, tIf, tPar, gSub, rIxL, rIxT, rEq, rNe, rSetL, tBits,
    L2.start, List.map_cons, List.map_nil, List.cons_append, List.nil_append, List.append_nil, List.length_cons, List.length_nil, List.replicate, Nat.reduceAdd, Nat.reduceSub, Nat.zero_add, List.getElem?_cons_zero, List.getElem?_cons_succ, List.set_cons_zero, List.set_cons_succ,
    Option.some.injEq, exists_eq_left', exists_eq_left, V.int.injEq, V.bl.injEq, V.ref.injEq, V.str.injEq, List.cons.injEq, reduceCtorEq, and_true, true_and, false_and, and_false, exists_false, or_false, false_or, or_true, true_or, exists_const, CMul, CDiv, CPow, and_assoc, exists_and_left, exists_and_right, Int.reducePow, Int.reduceNeg, Int.reduceLT, Int.reduceLE, Nat.reducePow, Nat.reduceLT, Int.reduceToNat, gt_iff_lt, ge_iff_le, decide_eq_true_eq, Bool.not_eq_true', decide_eq_false_iff_not, scal, ↓reduceIte, Bool.false_eq_true]
      have kk := (kp.trans kp2).trans kp3
      exact ite2 (fun _ => k _ _ (by show Int.natAbs _ < _; omega) kk st3) (fun _ => k _ _ (by show Int.natAbs _ < _; omega) kk st3)
def spDFrac (K : PySem.W.Frag) (n : Nat) : Sp := fun vs H Q _ => ∃ (s : Addr), vs = [.ref s] ∧ Sto K H s ∧ ∀ a q H', Fq K H' n a q → Kp s H H' → Sto K H' s → Q (.ref a) H'
theorem nf01 : Nf (0, 1) := ⟨by decide, by decide⟩
theorem nf11 : Nf (1, 1) := ⟨by decide, by decide⟩
theorem nfm1 : Nf (-1, 1) := ⟨by decide, by decide⟩
theorem nf12 : Nf (1, 2) := ⟨by decide, by decide⟩
theorem nfm2 : Nf (-1, 2) := ⟨by decide, by decide⟩
theorem sz10 {x y : Int} (h1 : x.natAbs < 1024) (h2 : y.natAbs < 1024) : Sz 10 (x, y) := ⟨by show x.natAbs < _; omega, by show y.natAbs < _; omega⟩
abbrev sDFrac : Stmt := topS 48
theorem scDFrac : FnScope ["_law_store_here", "_law_spot", "_law_bottom"] ["_law_store_here"] (defScope sDFrac) := ⟨rfl, rfl, rfl, by decide +kernel, rfl, by decide +kernel, by decide +kernel⟩
theorem k_DFrac (T : Bt K mg) (D : Dfn K mg "_law_frac" sDFrac ["_law_store_here"]) (d__law_take : Kn P w K mg base 2 "_law_take" ["_law_store_here", "_law_many"] (spTake K)) (d__law_lowest : Kn P w K mg base 2 "_law_lowest" ["_law_top", "_law_bottom"] (spLowest K)) : Kn P w K mg base 3 "_law_frac" ["_law_store_here"] (spDFrac K 10) := by
  refine Kn.mk' D scDFrac (fun vs H Q E h => ?_) (fun f cdv A outer s H vs Q E hr h => ?_)
  · obtain ⟨s, rfl, _⟩ := h
    rfl
  obtain ⟨s, rfl, hS, k⟩ := h
  refine ⟨_, (pss_cons (ps_set (i := 1) scDFrac.nd rfl (.inl rfl) (pe_kn d__law_take hr (by rfl) (pa_cons (pv 0) (pa_cons pe_int pa_nil))))
      (pss_cons (ps_if (pt_cmpR op_lt (pv 1) pe_int (nomark _)) (pss_one (ps_ret (pe_ix ix_any (pe_ls (pa_cons (pe_tp (pa_cons pe_int (pa_cons pe_int pa_nil))) (pa_cons (pe_tp (pa_cons pe_int (pa_cons pe_int pa_nil))) (pa_cons (pe_tp (pa_cons (pe_un un_neg pe_int) (pa_cons pe_int pa_nil))) (pa_cons (pe_tp (pa_cons pe_int (pa_cons pe_int pa_nil))) (pa_cons (pe_tp (pa_cons (pe_un un_neg pe_int) (pa_cons pe_int pa_nil))) pa_nil)))))) (pv 1) (fun _ _ => rfl)))) pss_nil)
      (pss_cons (ps_set (i := 2) scDFrac.nd rfl (.inl rfl) (pe_op op_add pe_int (pe_kn d__law_take hr (by rfl) (pa_cons (pv 0) (pa_cons pe_int pa_nil)))))
      (pss_one (ps_ret (pe_kn d__law_lowest hr (by rfl) (pa_cons (pe_op op_sub (pe_kn d__law_take hr (by rfl) (pa_cons (pv 0) (pa_cons (pe_op op_add (pe_op op_mul pe_int (pv 2)) pe_int) pa_nil))) (pe_op op_mul pe_int (pv 2))) (pa_cons (pv 2) pa_nil)))))))), ?_⟩
  simp only [cx_K, decide_true, decide_false, reduceCtorEq, gTp, gCons, gNil, ca_0, ca_1, ca_2, ca_3, ca_4, ca_5, ca_6, ca_7, ca_8, ca_9, ca_10, ca_11, ca_12, ca_13, ca_14, ca_15, ca_16, ca_17, ca_18, ca_19, ca_20, ca_21, ca_22, ca_23, ca_24, ca_25, ca_26, ca_27, ca_28, ca_29, ca_30, not_true_eq_false, not_false_eq_true, Int.reduceEq, Nat.reduceEqDiff, Nat.reduceLeDiff, rGcd, V.ty.injEq, eq_self, List.not_mem_nil, beq_self_eq_true, HO.lst.injEq, HO.tup.injEq, tFor_eq, iRng1, iList, iTup, nat10, tSeq, rIxA, rSetA, rIsN, rIsT, tTp, tLs, itsO_tup, itsO_lst, tyO_tup, tyO_lst, tyO_dK, tyN_non, tyN_bl, tyN_int, tyN_str, tyN_ref, tyNs_lt, isB, upd_same, upd_upd, sizeLine_eq, List.mem_cons, String.reduceBEq, String.reduceEq, Bool.or_false, Bool.or_true, Bool.and_false, Bool.false_or, Bool.and_self, Bool.false_and, Bool.not_false, Bool.not_true, List.any_cons, List.any_nil, atI_0, setI_0, atI_1, setI_1, atI_2, setI_2, atI_3, setI_3, atI_4, setI_4, atI_5, setI_5, atI_6, setI_6, tAsg, gName, tOp, tUn, tVar, tC, tCons, L2.tNil, tRet, tIfS, tTest, tCB, tCall, rI, rI0, rU, tNext, tB, tAnd, tOr, tNot, tAndV, tOrV, tNotV, tDrop, tIf, tPar, gSub, rIxL, rIxT, rEq, rNe, rSetL, tBits,
    L2.start, List.map_cons, List.map_nil, List.cons_append, List.nil_append, List.append_nil, List.length_cons, List.length_nil, List.replicate, Nat.reduceAdd, Nat.reduceSub, Nat.zero_add, List.getElem?_cons_zero, List.getElem?_cons_succ, List.set_cons_zero, List.set_cons_succ,
    Option.some.injEq, exists_eq_left', exists_eq_left, V.int.injEq, V.bl.injEq, V.ref.injEq, V.str.injEq, List.cons.injEq, reduceCtorEq, and_true, true_and, false_and, and_false, exists_false, or_false, false_or, or_true, true_or, exists_const, CMul, CDiv, CPow, and_assoc, exists_and_left, exists_and_right, Int.reducePow, Int.reduceNeg, Int.reduceLT, Int.reduceLE, Nat.reducePow, Nat.reduceLT, Int.reduceToNat, gt_iff_lt, ge_iff_le, decide_eq_true_eq, Bool.not_eq_true', decide_eq_false_iff_not, scal, ↓reduceIte, Bool.false_eq_true]
  refine ⟨s, 12, rfl, hS, by omega, fun i H1 z0 z1 kp st => ?_⟩
  simp only [cx_K, decide_true, decide_false, reduceCtorEq, gTp, gCons, gNil, ca_0, ca_1, ca_2, ca_3, ca_4, ca_5, ca_6, ca_7, ca_8, ca_9, ca_10, ca_11, ca_12, ca_13, ca_14, ca_15, ca_16, ca_17, ca_18, ca_19, ca_20, ca_21, ca_22, ca_23, ca_24, ca_25, ca_26, ca_27, ca_28, ca_29, ca_30, not_true_eq_false, not_false_eq_true, Int.reduceEq, Nat.reduceEqDiff, Nat.reduceLeDiff, rGcd, V.ty.injEq, eq_self, List.not_mem_nil, beq_self_eq_true, HO.lst.injEq, HO.tup.injEq, tFor_eq, iRng1, iList, iTup, nat10, tSeq, rIxA, rSetA, rIsN, rIsT, tTp, tLs, itsO_tup, itsO_lst, tyO_tup, tyO_lst, tyO_dK, tyN_non, tyN_bl, tyN_int, tyN_str, tyN_ref, tyNs_lt, isB, upd_same, upd_upd, sizeLine_eq, List.mem_cons, String.reduceBEq, String.reduceEq, Bool.or_false, Bool.or_true, Bool.and_false, Bool.false_or, Bool.and_self, Bool.false_and, Bool.not_false, Bool.not_true, List.any_cons, List.any_nil, atI_0, setI_0, atI_1, setI_1, atI_2, setI_2, atI_3, setI_3, atI_4, setI_4, atI_5, setI_5, atI_6, setI_6, tAsg, gName, tOp, tUn, tVar, tC, tCons, L2.tNil, tRet, tIfS, tTest, tCB, tCall, rI, rI0, rU, tNext, tB, tAnd, tOr, tNot, tAndV, tOrV, tNotV, tDrop, tIf, tPar, gSub, rIxL, rIxT, rEq, rNe, rSetL, tBits,
    L2.start, List.map_cons, List.map_nil, List.cons_append, List.nil_append, List.append_nil, List.length_cons, List.length_nil, List.replicate, Nat.reduceAdd, Nat.reduceSub, Nat.zero_add, List.getElem?_cons_zero, List.getElem?_cons_succ, List.set_cons_zero, List.set_cons_succ,
    Option.some.injEq, exists_eq_left', exists_eq_left, V.int.injEq, V.bl.injEq, V.ref.injEq, V.str.injEq, List.cons.injEq, reduceCtorEq, and_true, true_and, false_and, and_false, exists_false, or_false, false_or, or_true, true_or, exists_const, CMul, CDiv, CPow, and_assoc, exists_and_left, exists_and_right, Int.reducePow, Int.reduceNeg, Int.reduceLT, Int.reduceLE, Nat.reducePow, Nat.reduceLT, Int.reduceToNat, gt_iff_lt, ge_iff_le, decide_eq_true_eq, Bool.not_eq_true', decide_eq_false_iff_not, scal, ↓reduceIte, Bool.false_eq_true]
  refine ite2 (fun h => ?_) (fun h => ?_)
  · intro p1 h1 k1 p2 h2 k2 p3 h3 k3 p4 h4 k4 p5 h5 k5 p6 h6 k6
    rw [ob_new k6]
    simp only [cx_K, decide_true, decide_false, reduceCtorEq, gTp, gCons, gNil, ca_0, ca_1, ca_2, ca_3, ca_4, ca_5, ca_6, ca_7, ca_8, ca_9, ca_10, ca_11, ca_12, ca_13, ca_14, ca_15, ca_16, ca_17, ca_18, ca_19, ca_20, ca_21, ca_22, ca_23, ca_24, ca_25, ca_26, ca_27, ca_28, ca_29, ca_30, not_true_eq_false, not_false_eq_true, Int.reduceEq, Nat.reduceEqDiff, Nat.reduceLeDiff, rGcd, V.ty.injEq, eq_self, List.not_mem_nil, beq_self_eq_true, HO.lst.injEq, HO.tup.injEq, tFor_eq, iRng1, iList, iTup, nat10, tSeq, rIxA, rSetA, rIsN, rIsT, tTp, tLs, itsO_tup, itsO_lst, tyO_tup, tyO_lst, tyO_dK, tyN_non, tyN_bl, tyN_int, tyN_str, tyN_ref, tyNs_lt, isB, upd_same, upd_upd, sizeLine_eq, List.mem_cons, String.reduceBEq, String.reduceEq, Bool.or_false, Bool.or_true, Bool.and_false, Bool.false_or, Bool.and_self, Bool.false_and, Bool.not_false, Bool.not_true, List.any_cons, List.any_nil, atI_0, setI_0, atI_1, setI_1, atI_2, setI_2, atI_3, setI_3, atI_4, setI_4, atI_5, setI_5, atI_6, setI_6, tAsg, gName, tOp, tUn, tVar, tC, tCons, L2.tNil, tRet, tIfS, tTest, tCB, tCall, rI, rI0, rU, tNext, tB, tAnd, tOr, tNot, tAndV, tOrV, tNotV, tDrop, tIf, tPar, gSub, rIxL, rIxT, rEq, rNe, rSetL, tBits,
    L2.start, List.map_cons, List.map_nil, List.cons_append, List.nil_append, List.append_nil, List.length_cons, List.length_nil, List.replicate, Nat.reduceAdd, Nat.reduceSub, Nat.zero_add, List.getElem?_cons_zero, List.getElem?_cons_succ, List.set_cons_zero, List.set_cons_succ,
    Option.some.injEq, exists_eq_left', exists_eq_left, V.int.injEq, V.bl.injEq, V.ref.injEq, V.str.injEq, List.cons.injEq, reduceCtorEq, and_true, true_and, false_and, and_false, exists_false, or_false, false_or, or_true, true_or, exists_const, CMul, CDiv, CPow, and_assoc, exists_and_left, exists_and_right, Int.reducePow, Int.reduceNeg, Int.reduceLT, Int.reduceLE, Nat.reducePow, Nat.reduceLT, Int.reduceToNat, gt_iff_lt, ge_iff_le, decide_eq_true_eq, Bool.not_eq_true', decide_eq_false_iff_not, scal, ↓reduceIte, Bool.false_eq_true]
    refine menu z0 (by simpa using h) fun v hv => ?_
    simp only [List.mem_cons, List.not_mem_nil, or_false] at hv
    rcases hv with rfl | rfl | rfl | rfl | rfl
    · exact k _ _ _ ⟨ob_same ((Same.new h2 _).trans ((Same.new h3 _).trans ((Same.new h4 _).trans ((Same.new h5 _).trans (Same.new h6 _))))) (ob_new k1), nf01, sz10 (by decide) (by decide)⟩ (kp.trans (Kp.same ((Same.new h1 _).trans ((Same.new h2 _).trans ((Same.new h3 _).trans ((Same.new h4 _).trans ((Same.new h5 _).trans (Same.new h6 _)))))))) (st.same ((Same.new h1 _).trans ((Same.new h2 _).trans ((Same.new h3 _).trans ((Same.new h4 _).trans ((Same.new h5 _).trans (Same.new h6 _)))))))
    · exact k _ _ _ ⟨ob_same ((Same.new h3 _).trans ((Same.new h4 _).trans ((Same.new h5 _).trans (Same.new h6 _)))) (ob_new k2), nf11, sz10 (by decide) (by decide)⟩ (kp.trans (Kp.same ((Same.new h1 _).trans ((Same.new h2 _).trans ((Same.new h3 _).trans ((Same.new h4 _).trans ((Same.new h5 _).trans (Same.new h6 _)))))))) (st.same ((Same.new h1 _).trans ((Same.new h2 _).trans ((Same.new h3 _).trans ((Same.new h4 _).trans ((Same.new h5 _).trans (Same.new h6 _)))))))
    · exact k _ _ _ ⟨ob_same ((Same.new h4 _).trans ((Same.new h5 _).trans (Same.new h6 _))) (ob_new k3), nfm1, sz10 (by decide) (by decide)⟩ (kp.trans (Kp.same ((Same.new h1 _).trans ((Same.new h2 _).trans ((Same.new h3 _).trans ((Same.new h4 _).trans ((Same.new h5 _).trans (Same.new h6 _)))))))) (st.same ((Same.new h1 _).trans ((Same.new h2 _).trans ((Same.new h3 _).trans ((Same.new h4 _).trans ((Same.new h5 _).trans (Same.new h6 _)))))))
    · exact k _ _ _ ⟨ob_same ((Same.new h5 _).trans (Same.new h6 _)) (ob_new k4), nf12, sz10 (by decide) (by decide)⟩ (kp.trans (Kp.same ((Same.new h1 _).trans ((Same.new h2 _).trans ((Same.new h3 _).trans ((Same.new h4 _).trans ((Same.new h5 _).trans (Same.new h6 _)))))))) (st.same ((Same.new h1 _).trans ((Same.new h2 _).trans ((Same.new h3 _).trans ((Same.new h4 _).trans ((Same.new h5 _).trans (Same.new h6 _)))))))
    · exact k _ _ _ ⟨ob_same (Same.new h6 _) (ob_new k5), nfm2, sz10 (by decide) (by decide)⟩ (kp.trans (Kp.same ((Same.new h1 _).trans ((Same.new h2 _).trans ((Same.new h3 _).trans ((Same.new h4 _).trans ((Same.new h5 _).trans (Same.new h6 _)))))))) (st.same ((Same.new h1 _).trans ((Same.new h2 _).trans ((Same.new h3 _).trans ((Same.new h4 _).trans ((Same.new h5 _).trans (Same.new h6 _)))))))
  · refine ⟨s, 12, rfl, st, by omega, fun j H2 j0 j1 kp2 st2 => ?_⟩
    simp only [cx_K, decide_true, decide_false, reduceCtorEq, gTp, gCons, gNil, ca_0, ca_1, ca_2, ca_3, ca_4, ca_5, ca_6, ca_7, ca_8, ca_9, ca_10, ca_11, ca_12, ca_13, ca_14, ca_15, ca_16, ca_17, ca_18, ca_19, ca_20, ca_21, ca_22, ca_23, ca_24, ca_25, ca_26, ca_27, ca_28, ca_29, ca_30, not_true_eq_false, not_false_eq_true, Int.reduceEq, Nat.reduceEqDiff, Nat.reduceLeDiff, rGcd, V.ty.injEq, eq_self, List.not_mem_nil, beq_self_eq_true, HO.lst.injEq, HO.tup.injEq, tFor_eq, iRng1, iList, iTup, nat10, tSeq, rIxA, rSetA, rIsN, rIsT, tTp, tLs, itsO_tup, itsO_lst, tyO_tup, tyO_lst, tyO_dK, tyN_non, tyN_bl, tyN_int, tyN_str, tyN_ref, tyNs_lt, isB, upd_same, upd_upd, sizeLine_eq, List.mem_cons, String.reduceBEq, String.reduceEq, Bool.or_false, Bool.or_true, Bool.and_false, Bool.false_or, Bool.and_self, Bool.false_and, Bool.not_false, Bool.not_true, List.any_cons, List.any_nil, atI_0, setI_0, atI_1, setI_1, atI_2, setI_2, atI_3, setI_3, atI_4, setI_4, atI_5, setI_5, atI_6, setI_6, tAsg, gName, tOp, tUn, tVar, tC, tCons, L2.tNil, tRet, tIfS, tTest, tCB, tCall, rI, rI0, rU, tNext, tB, tAnd, tOr, tNot, tAndV, tOrV, tNotV, tDrop, tIf, tPar, gSub, rIxL, rIxT, rEq, rNe, rSetL, tBits,
    L2.start, List.map_cons, List.map_nil, List.cons_append, List.nil_append, List.append_nil, List.length_cons, List.length_nil, List.replicate, Nat.reduceAdd, Nat.reduceSub, Nat.zero_add, List.getElem?_cons_zero, List.getElem?_cons_succ, List.set_cons_zero, List.set_cons_succ,
    Option.some.injEq, exists_eq_left', exists_eq_left, V.int.injEq, V.bl.injEq, V.ref.injEq, V.str.injEq, List.cons.injEq, reduceCtorEq, and_true, true_and, false_and, and_false, exists_false, or_false, false_or, or_true, true_or, exists_const, CMul, CDiv, CPow, and_assoc, exists_and_left, exists_and_right, Int.reducePow, Int.reduceNeg, Int.reduceLT, Int.reduceLE, Nat.reducePow, Nat.reduceLT, Int.reduceToNat, gt_iff_lt, ge_iff_le, decide_eq_true_eq, Bool.not_eq_true', decide_eq_false_iff_not, scal, ↓reduceIte, Bool.false_eq_true]
    refine ⟨s, _, rfl, st2, by omega, fun m H3 m0 m1 kp3 st3 => ?_⟩
    simp only [cx_K, decide_true, decide_false, reduceCtorEq, gTp, gCons, gNil, ca_0, ca_1, ca_2, ca_3, ca_4, ca_5, ca_6, ca_7, ca_8, ca_9, ca_10, ca_11, ca_12, ca_13, ca_14, ca_15, ca_16, ca_17, ca_18, ca_19, ca_20, ca_21, ca_22, ca_23, ca_24, ca_25, ca_26, ca_27, ca_28, ca_29, ca_30, not_true_eq_false, not_false_eq_true, Int.reduceEq, Nat.reduceEqDiff, Nat.reduceLeDiff, rGcd, V.ty.injEq, eq_self, List.not_mem_nil, beq_self_eq_true, HO.lst.injEq, HO.tup.injEq, tFor_eq, iRng1, iList, iTup, nat10, tSeq, rIxA, rSetA, rIsN, rIsT, tTp, tLs, itsO_tup, itsO_lst, tyO_tup, tyO_lst, tyO_dK, tyN_non, tyN_bl, tyN_int, tyN_str, tyN_ref, tyNs_lt, isB, upd_same, upd_upd, sizeLine_eq, List.mem_cons, String.reduceBEq, String.reduceEq, Bool.or_false, Bool.or_true, Bool.and_false, Bool.false_or, Bool.and_self, Bool.false_and, Bool.not_false, Bool.not_true, List.any_cons, List.any_nil, atI_0, setI_0, atI_1, setI_1, atI_2, setI_2, atI_3, setI_3, atI_4, setI_4, atI_5, setI_5, atI_6, setI_6, tAsg, gName, tOp, tUn, tVar, tC, tCons, L2.tNil, tRet, tIfS, tTest, tCB, tCall, rI, rI0, rU, tNext, tB, tAnd, tOr, tNot, tAndV, tOrV, tNotV, tDrop, tIf, tPar, gSub, rIxL, rIxT, rEq, rNe, rSetL, tBits,
    L2.start, List.map_cons, List.map_nil, List.cons_append, List.nil_append, List.append_nil, List.length_cons, List.length_nil, List.replicate, Nat.reduceAdd, Nat.reduceSub, Nat.zero_add, List.getElem?_cons_zero, List.getElem?_cons_succ, List.set_cons_zero, List.set_cons_succ,
    Option.some.injEq, exists_eq_left', exists_eq_left, V.int.injEq, V.bl.injEq, V.ref.injEq, V.str.injEq, List.cons.injEq, reduceCtorEq, and_true, true_and, false_and, and_false, exists_false, or_false, false_or, or_true, true_or, exists_const, CMul, CDiv, CPow, and_assoc, exists_and_left, exists_and_right, Int.reducePow, Int.reduceNeg, Int.reduceLT, Int.reduceLE, Nat.reducePow, Nat.reduceLT, Int.reduceToNat, gt_iff_lt, ge_iff_le, decide_eq_true_eq, Bool.not_eq_true', decide_eq_false_iff_not, scal, ↓reduceIte, Bool.false_eq_true]
    refine ⟨_, _, rfl, ?_, fun q hq p H4 s4 o4 => ?_⟩
    · have e : 2 ^ 10 ≤ 2 ^ 8000 := Nat.pow_le_pow_right (by omega) (by omega)
      omega
    · have hI := hq.2 (show 1 + j ≠ 0 by omega)
      exact k p q H4 ⟨o4, hI.1, is_sz (by omega) hI (by omega) (by omega)⟩ (((kp.trans kp2).trans kp3).trans (Kp.same s4)) (st3.same s4)
abbrev sDFracW : Stmt := topS 49
theorem scDFracW : FnScope ["_law_store_here", "_law_spot"] ["_law_store_here"] (defScope sDFracW) := ⟨rfl, rfl, rfl, by decide +kernel, rfl, by decide +kernel, by decide +kernel⟩
theorem k_DFracW (T : Bt K mg) (D : Dfn K mg "_law_frac_wide" sDFracW ["_law_store_here"]) (d__law_take : Kn P w K mg base 2 "_law_take" ["_law_store_here", "_law_many"] (spTake K)) (d__law_lowest : Kn P w K mg base 2 "_law_lowest" ["_law_top", "_law_bottom"] (spLowest K)) (d__law_great : Kn P w K mg base 3 "_law_great" ["_law_store_here"] (spInt K fun n => n.natAbs < 2 ^ 133)) (d__law_whole : Kn P w K mg base 3 "_law_whole" ["_law_store_here", "_law_reach"] (spLInt K)) (d__law_frac : Kn P w K mg base 3 "_law_frac" ["_law_store_here"] (spDFrac K 10)) : Kn P w K mg base 4 "_law_frac_wide" ["_law_store_here"] (spDFrac K 133) := by
  refine Kn.mk' D scDFracW (fun vs H Q E h => ?_) (fun f cdv A outer s H vs Q E hr h => ?_)
  · obtain ⟨s, rfl, _⟩ := h
    rfl
  obtain ⟨s, rfl, hS, k⟩ := h
  refine ⟨_, (pss_cons (ps_set (i := 1) scDFracW.nd rfl (.inl rfl) (pe_kn d__law_take hr (by rfl) (pa_cons (pv 0) (pa_cons pe_int pa_nil))))
      (pss_cons (ps_if (pt_cmpR op_eq (pv 1) pe_int (nomark _)) (pss_one (ps_ret (pe_kn d__law_lowest hr (by rfl) (pa_cons (pe_kn d__law_great hr (by rfl) (pa_cons (pv 0) pa_nil)) (pa_cons (pe_callB (call_max2 rfl) (by rfl) T.b_max (by decide +kernel) (pa_cons pe_int (pa_cons (pe_callB call_abs (by rfl) T.b_abs (by decide +kernel) (pa_cons (pe_kn d__law_great hr (by rfl) (pa_cons (pv 0) pa_nil)) pa_nil)) pa_nil))) pa_nil))))) pss_nil)
      (pss_cons (ps_if (pt_cmpR op_eq (pv 1) pe_int (nomark _)) (pss_one (ps_ret (pe_kn d__law_lowest hr (by rfl) (pa_cons (pe_kn d__law_whole hr (by rfl) (pa_cons (pv 0) (pa_cons (pe_op op_pow pe_int pe_int) pa_nil))) (pa_cons (pe_op op_add pe_int (pe_kn d__law_take hr (by rfl) (pa_cons (pv 0) (pa_cons pe_int pa_nil)))) pa_nil))))) pss_nil)
      (pss_one (ps_ret (pe_kn d__law_frac hr (by rfl) (pa_cons (pv 0) pa_nil))))))), ?_⟩
  simp only [cx_K, decide_true, decide_false, reduceCtorEq, gTp, gCons, gNil, ca_0, ca_1, ca_2, ca_3, ca_4, ca_5, ca_6, ca_7, ca_8, ca_9, ca_10, ca_11, ca_12, ca_13, ca_14, ca_15, ca_16, ca_17, ca_18, ca_19, ca_20, ca_21, ca_22, ca_23, ca_24, ca_25, ca_26, ca_27, ca_28, ca_29, ca_30, not_true_eq_false, not_false_eq_true, Int.reduceEq, Nat.reduceEqDiff, Nat.reduceLeDiff, rGcd, V.ty.injEq, eq_self, List.not_mem_nil, beq_self_eq_true, HO.lst.injEq, HO.tup.injEq, tFor_eq, iRng1, iList, iTup, nat10, tSeq, rIxA, rSetA, rIsN, rIsT, tTp, tLs, itsO_tup, itsO_lst, tyO_tup, tyO_lst, tyO_dK, tyN_non, tyN_bl, tyN_int, tyN_str, tyN_ref, tyNs_lt, isB, upd_same, upd_upd, sizeLine_eq, List.mem_cons, String.reduceBEq, String.reduceEq, Bool.or_false, Bool.or_true, Bool.and_false, Bool.false_or, Bool.and_self, Bool.false_and, Bool.not_false, Bool.not_true, List.any_cons, List.any_nil, atI_0, setI_0, atI_1, setI_1, atI_2, setI_2, atI_3, setI_3, atI_4, setI_4, atI_5, setI_5, atI_6, setI_6, tAsg, gName, tOp, tUn, tVar, tC, tCons, L2.tNil, tRet, tIfS, tTest, tCB, tCall, rI, rI0, rU, tNext, tB, tAnd, tOr, tNot, tAndV, tOrV, tNotV, tDrop, tIf, tPar, gSub, rIxL, rIxT, rEq, rNe, rSetL, tBits,
    L2.start, List.map_cons, List.map_nil, List.cons_append, List.nil_append, List.append_nil, List.length_cons, List.length_nil, List.replicate, Nat.reduceAdd, Nat.reduceSub, Nat.zero_add, List.getElem?_cons_zero, List.getElem?_cons_succ, List.set_cons_zero, List.set_cons_succ,
    Option.some.injEq, exists_eq_left', exists_eq_left, V.int.injEq, V.bl.injEq, V.ref.injEq, V.str.injEq, List.cons.injEq, reduceCtorEq, and_true, true_and, false_and, and_false, exists_false, or_false, false_or, or_true, true_or, exists_const, CMul, CDiv, CPow, and_assoc, exists_and_left, exists_and_right, Int.reducePow, Int.reduceNeg, Int.reduceLT, Int.reduceLE, Nat.reducePow, Nat.reduceLT, Int.reduceToNat, gt_iff_lt, ge_iff_le, decide_eq_true_eq, Bool.not_eq_true', decide_eq_false_iff_not, scal, ↓reduceIte, Bool.false_eq_true]
  refine ⟨s, 8, rfl, hS, by omega, fun i H1 z0 z1 kp st => ?_⟩
  simp only [cx_K, decide_true, decide_false, reduceCtorEq, gTp, gCons, gNil, ca_0, ca_1, ca_2, ca_3, ca_4, ca_5, ca_6, ca_7, ca_8, ca_9, ca_10, ca_11, ca_12, ca_13, ca_14, ca_15, ca_16, ca_17, ca_18, ca_19, ca_20, ca_21, ca_22, ca_23, ca_24, ca_25, ca_26, ca_27, ca_28, ca_29, ca_30, not_true_eq_false, not_false_eq_true, Int.reduceEq, Nat.reduceEqDiff, Nat.reduceLeDiff, rGcd, V.ty.injEq, eq_self, List.not_mem_nil, beq_self_eq_true, HO.lst.injEq, HO.tup.injEq, tFor_eq, iRng1, iList, iTup, nat10, tSeq, rIxA, rSetA, rIsN, rIsT, tTp, tLs, itsO_tup, itsO_lst, tyO_tup, tyO_lst, tyO_dK, tyN_non, tyN_bl, tyN_int, tyN_str, tyN_ref, tyNs_lt, isB, upd_same, upd_upd, sizeLine_eq, List.mem_cons, String.reduceBEq, String.reduceEq, Bool.or_false, Bool.or_true, Bool.and_false, Bool.false_or, Bool.and_self, Bool.false_and, Bool.not_false, Bool.not_true, List.any_cons, List.any_nil, atI_0, setI_0, atI_1, setI_1, atI_2, setI_2, atI_3, setI_3, atI_4, setI_4, atI_5, setI_5, atI_6, setI_6, tAsg, gName, tOp, tUn, tVar, tC, tCons, L2.tNil, tRet, tIfS, tTest, tCB, tCall, rI, rI0, rU, tNext, tB, tAnd, tOr, tNot, tAndV, tOrV, tNotV, tDrop, tIf, tPar, gSub, rIxL, rIxT, rEq, rNe, rSetL, tBits,
    L2.start, List.map_cons, List.map_nil, List.cons_append, List.nil_append, List.append_nil, List.length_cons, List.length_nil, List.replicate, Nat.reduceAdd, Nat.reduceSub, Nat.zero_add, List.getElem?_cons_zero, List.getElem?_cons_succ, List.set_cons_zero, List.set_cons_succ,
    Option.some.injEq, exists_eq_left', exists_eq_left, V.int.injEq, V.bl.injEq, V.ref.injEq, V.str.injEq, List.cons.injEq, reduceCtorEq, and_true, true_and, false_and, and_false, exists_false, or_false, false_or, or_true, true_or, exists_const, CMul, CDiv, CPow, and_assoc, exists_and_left, exists_and_right, Int.reducePow, Int.reduceNeg, Int.reduceLT, Int.reduceLE, Nat.reducePow, Nat.reduceLT, Int.reduceToNat, gt_iff_lt, ge_iff_le, decide_eq_true_eq, Bool.not_eq_true', decide_eq_false_iff_not, scal, ↓reduceIte, Bool.false_eq_true]
  have big : 2 ^ 133 ≤ 2 ^ 8000 := Nat.pow_le_pow_right (by omega) (by omega)
  refine ite2 (fun h => ?_) (fun h => ite2 (fun h' => ?_) (fun h' => ?_))
  · refine ⟨s, rfl, st, fun t H2 ht kp2 st2 => ⟨s, rfl, st2, fun b H3 hb kp3 st3 => ?_⟩⟩
    simp only [abs_if, cx_K, decide_true, decide_false, reduceCtorEq, gTp, gCons, gNil, ca_0, ca_1, ca_2, ca_3, ca_4, ca_5, ca_6, ca_7, ca_8, ca_9, ca_10, ca_11, ca_12, ca_13, ca_14, ca_15, ca_16, ca_17, ca_18, ca_19, ca_20, ca_21, ca_22, ca_23, ca_24, ca_25, ca_26, ca_27, ca_28, ca_29, ca_30, not_true_eq_false, not_false_eq_true, Int.reduceEq, Nat.reduceEqDiff, Nat.reduceLeDiff, rGcd, V.ty.injEq, eq_self, List.not_mem_nil, beq_self_eq_true, HO.lst.injEq, HO.tup.injEq, tFor_eq, iRng1, iList, iTup, nat10, tSeq, rIxA, rSetA, rIsN, rIsT, tTp, tLs, itsO_tup, itsO_lst, tyO_tup, tyO_lst, tyO_dK, tyN_non, tyN_bl, tyN_int, tyN_str, tyN_ref, tyNs_lt, isB, upd_same, upd_upd, sizeLine_eq, List.mem_cons, String.reduceBEq, String.reduceEq, Bool.or_false, Bool.or_true, Bool.and_false, Bool.false_or, Bool.and_self, Bool.false_and, Bool.not_false, Bool.not_true, List.any_cons, List.any_nil, atI_0, setI_0, atI_1, setI_1, atI_2, setI_2, atI_3, setI_3, atI_4, setI_4, atI_5, setI_5, atI_6, setI_6, tAsg, gName, tOp, tUn, tVar, tC, tCons, L2.tNil, tRet, tIfS, tTest, tCB, tCall, rI, rI0, rU, tNext, tB, tAnd, tOr, tNot, tAndV, tOrV, tNotV, tDrop, tIf, tPar, gSub, rIxL, rIxT, rEq, rNe, rSetL, tBits,
    L2.start, List.map_cons, List.map_nil, List.cons_append, List.nil_append, List.append_nil, List.length_cons, List.length_nil, List.replicate, Nat.reduceAdd, Nat.reduceSub, Nat.zero_add, List.getElem?_cons_zero, List.getElem?_cons_succ, List.set_cons_zero, List.set_cons_succ,
    Option.some.injEq, exists_eq_left', exists_eq_left, V.int.injEq, V.bl.injEq, V.ref.injEq, V.str.injEq, List.cons.injEq, reduceCtorEq, and_true, true_and, false_and, and_false, exists_false, or_false, false_or, or_true, true_or, exists_const, CMul, CDiv, CPow, and_assoc, exists_and_left, exists_and_right, Int.reducePow, Int.reduceNeg, Int.reduceLT, Int.reduceLE, Nat.reducePow, Nat.reduceLT, Int.reduceToNat, gt_iff_lt, ge_iff_le, decide_eq_true_eq, Bool.not_eq_true', decide_eq_false_iff_not, scal, ↓reduceIte, Bool.false_eq_true]
    have hd : (if 1 < (b.natAbs : Int) then (b.natAbs : Int) else 1) ≠ 0 ∧ (if 1 < (b.natAbs : Int) then (b.natAbs : Int) else 1).natAbs < 2 ^ 133 := by
      have hb' : b.natAbs < 2 ^ 133 := hb
      split <;> refine ⟨by omega, by omega⟩
    generalize (if 1 < (b.natAbs : Int) then (b.natAbs : Int) else 1) = d at hd ⊢
    refine ⟨_, _, rfl, by omega, fun q hq p H4 s4 o4 => ?_⟩
    have hI := hq.2 hd.1
    exact k p q H4 ⟨o4, hI.1, is_sz hd.1 hI ht hd.2⟩ (((kp.trans kp2).trans kp3).trans (Kp.same s4)) (st3.same s4)
  · refine ⟨s, _, rfl, st, by omega, by omega, fun t H2 t0 t1 kp2 st2 => ⟨s, 1000, rfl, st2, by omega, fun b H3 b0 b1 kp3 st3 => ?_⟩⟩
    simp only [cx_K, decide_true, decide_false, reduceCtorEq, gTp, gCons, gNil, ca_0, ca_1, ca_2, ca_3, ca_4, ca_5, ca_6, ca_7, ca_8, ca_9, ca_10, ca_11, ca_12, ca_13, ca_14, ca_15, ca_16, ca_17, ca_18, ca_19, ca_20, ca_21, ca_22, ca_23, ca_24, ca_25, ca_26, ca_27, ca_28, ca_29, ca_30, not_true_eq_false, not_false_eq_true, Int.reduceEq, Nat.reduceEqDiff, Nat.reduceLeDiff, rGcd, V.ty.injEq, eq_self, List.not_mem_nil, beq_self_eq_true, HO.lst.injEq, HO.tup.injEq, tFor_eq, iRng1, iList, iTup, nat10, tSeq, rIxA, rSetA, rIsN, rIsT, tTp, tLs, itsO_tup, itsO_lst, tyO_tup, tyO_lst, tyO_dK, tyN_non, tyN_bl, tyN_int, tyN_str, tyN_ref, tyNs_lt, isB, upd_same, upd_upd, sizeLine_eq, List.mem_cons, String.reduceBEq, String.reduceEq, Bool.or_false, Bool.or_true, Bool.and_false, Bool.false_or, Bool.and_self, Bool.false_and, Bool.not_false, Bool.not_true, List.any_cons, List.any_nil, atI_0, setI_0, atI_1, setI_1, atI_2, setI_2, atI_3, setI_3, atI_4, setI_4, atI_5, setI_5, atI_6, setI_6, tAsg, gName, tOp, tUn, tVar, tC, tCons, L2.tNil, tRet, tIfS, tTest, tCB, tCall, rI, rI0, rU, tNext, tB, tAnd, tOr, tNot, tAndV, tOrV, tNotV, tDrop, tIf, tPar, gSub, rIxL, rIxT, rEq, rNe, rSetL, tBits,
    L2.start, List.map_cons, List.map_nil, List.cons_append, List.nil_append, List.append_nil, List.length_cons, List.length_nil, List.replicate, Nat.reduceAdd, Nat.reduceSub, Nat.zero_add, List.getElem?_cons_zero, List.getElem?_cons_succ, List.set_cons_zero, List.set_cons_succ,
    Option.some.injEq, exists_eq_left', exists_eq_left, V.int.injEq, V.bl.injEq, V.ref.injEq, V.str.injEq, List.cons.injEq, reduceCtorEq, and_true, true_and, false_and, and_false, exists_false, or_false, false_or, or_true, true_or, exists_const, CMul, CDiv, CPow, and_assoc, exists_and_left, exists_and_right, Int.reducePow, Int.reduceNeg, Int.reduceLT, Int.reduceLE, Nat.reducePow, Nat.reduceLT, Int.reduceToNat, gt_iff_lt, ge_iff_le, decide_eq_true_eq, Bool.not_eq_true', decide_eq_false_iff_not, scal, ↓reduceIte, Bool.false_eq_true]
    refine ⟨_, _, rfl, by omega, fun q hq p H4 s4 o4 => ?_⟩
    have hI := hq.2 (show 1 + b ≠ 0 by omega)
    exact k p q H4 ⟨o4, hI.1, is_sz (by omega) hI (by omega) (by omega)⟩ (((kp.trans kp2).trans kp3).trans (Kp.same s4)) (st3.same s4)
  · exact ⟨s, rfl, st, fun a q H2 hq kp2 st2 => k a q H2 (hq.mono (by omega)) (kp.trans kp2) st2⟩
/-- the script, read alone -/
def spStore (K : PySem.W.Frag) : Sp := fun vs H Q _ => ∃ (a : Addr) (ns : List Int), vs = [.ref a] ∧ SqL K H a (ns.map V.int) ∧ ∀ s H', Same H H' → Sto K H' s → Q (.ref s) H'
def StoreI (a : Addr) (H : Hp) (_ : Nat) (σ : L2.St) (H' : Hp) : Prop := ∃ (v : Int) (y : Option V), σ = [some (.ref a), some (.int v), y] ∧ H' = H
abbrev sStore : Stmt := topS 32
theorem scStore : FnScope ["_law_script", "_law_seed", "_law_cell"] ["_law_script"] (defScope sStore) := ⟨rfl, rfl, rfl, by decide +kernel, rfl, by decide +kernel, by decide +kernel⟩
theorem k_Store (T : Bt K mg) (D : Dfn K mg "_law_store" sStore ["_law_script"]) : Kn P w K mg base 1 "_law_store" ["_law_script"] (spStore K) := by
  refine Kn.mk' D scStore (fun vs H Q E h => ?_) (fun f cdv A outer s H vs Q E hr h => ?_)
  · obtain ⟨a, ns, rfl, _⟩ := h
    rfl
  obtain ⟨a, ns, rfl, hS, k⟩ := h
  refine ⟨_, (pss_cons (ps_set (i := 1) scStore.nd rfl (.inl rfl) (pe_op op_add (pe_callB call_len_seq (by rfl) T.b_len PySem.boot_len (pa_cons (pv 0) pa_nil)) pe_int))
      (pss_cons (ps_for PassesOwn.never rfl (pi_list (pv 0)) (pg_name (i := 2) scStore.nd rfl (.inl rfl)) (pss_one (ps_set (i := 1) scStore.nd rfl (.inl rfl) (pe_op op_mod (pe_op op_add (pe_op op_add (pe_op op_mul (pv 1) pe_int) (pe_op op_mod (pe_callTy call_int1 (by rfl) T.b_int (by decide +kernel) (pa_cons (pv 2) pa_nil)) pe_int)) pe_int) pe_int))))
      (pss_one (ps_ret (pe_ls (pa_cons (pe_callTy call_listK (by rfl) T.b_list (by decide +kernel) (pa_cons (pv 0) pa_nil)) (pa_cons pe_int (pa_cons pe_int (pa_cons pe_int (pa_cons (pv 1) (pa_cons pe_int (pa_cons pe_int pa_nil)))))))))))), ?_⟩
  simp only [cx_K, decide_true, decide_false, reduceCtorEq, gTp, gCons, gNil, ca_0, ca_1, ca_2, ca_3, ca_4, ca_5, ca_6, ca_7, ca_8, ca_9, ca_10, ca_11, ca_12, ca_13, ca_14, ca_15, ca_16, ca_17, ca_18, ca_19, ca_20, ca_21, ca_22, ca_23, ca_24, ca_25, ca_26, ca_27, ca_28, ca_29, ca_30, not_true_eq_false, not_false_eq_true, Int.reduceEq, Nat.reduceEqDiff, Nat.reduceLeDiff, rGcd, V.ty.injEq, eq_self, List.not_mem_nil, beq_self_eq_true, HO.lst.injEq, HO.tup.injEq, tFor_eq, iRng1, iList, iTup, nat10, tSeq, rIxA, rSetA, rIsN, rIsT, tTp, tLs, itsO_tup, itsO_lst, tyO_tup, tyO_lst, tyO_dK, tyN_non, tyN_bl, tyN_int, tyN_str, tyN_ref, tyNs_lt, isB, upd_same, upd_upd, sizeLine_eq, List.mem_cons, String.reduceBEq, String.reduceEq, Bool.or_false, Bool.or_true, Bool.and_false, Bool.false_or, Bool.and_self, Bool.false_and, Bool.not_false, Bool.not_true, List.any_cons, List.any_nil, atI_0, setI_0, atI_1, setI_1, atI_2, setI_2, atI_3, setI_3, atI_4, setI_4, atI_5, setI_5, atI_6, setI_6, tAsg, gName, tOp, tUn, tVar, tC, tCons, L2.tNil, tRet, tIfS, tTest, tCB, tCall, rI, rI0, rU, tNext, tB, tAnd, tOr, tNot, tAndV, tOrV, tNotV, tDrop, tIf, tPar, gSub, rIxL, rIxT, rEq, rNe, rSetL, tBits,
    L2.start, List.map_cons, List.map_nil, List.cons_append, List.nil_append, List.append_nil, List.length_cons, List.length_nil, List.replicate, Nat.reduceAdd, Nat.reduceSub, Nat.zero_add, List.getElem?_cons_zero, List.getElem?_cons_succ, List.set_cons_zero, List.set_cons_succ,
    Option.some.injEq, exists_eq_left', exists_eq_left, V.int.injEq, V.bl.injEq, V.ref.injEq, V.str.injEq, List.cons.injEq, reduceCtorEq, and_true, true_and, false_and, and_false, exists_false, or_false, false_or, or_true, true_or, exists_const, CMul, CDiv, CPow, and_assoc, exists_and_left, exists_and_right, Int.reducePow, Int.reduceNeg, Int.reduceLT, Int.reduceLE, Nat.reducePow, Nat.reduceLT, Int.reduceToNat, gt_iff_lt, ge_iff_le, decide_eq_true_eq, Bool.not_eq_true', decide_eq_false_iff_not, scal, ↓reduceIte, Bool.false_eq_true]
  refine ⟨_, .inl hS, ⟨_, hS⟩, forI_list (xs := ns.map V.int) (StoreI a H) ⟨_, none, rfl, rfl⟩ ?_ ?_ ?_⟩
  · rintro i σ H' _ ⟨v, y, rfl, rfl⟩
    exact hS
  · rintro i x σ H' hi ⟨v, y, rfl, rfl⟩
    obtain ⟨z, rfl⟩ : ∃ z, x = V.int z := by
      rw [List.getElem?_map] at hi
      cases e : ns[i]? with
      | none => rw [e] at hi; cases hi
      | some z => rw [e] at hi; exact ⟨z, (Option.some.inj hi).symm⟩
    simp only [cx_K, decide_true, decide_false, reduceCtorEq, gTp, gCons, gNil, ca_0, ca_1, ca_2, ca_3, ca_4, ca_5, ca_6, ca_7, ca_8, ca_9, ca_10, ca_11, ca_12, ca_13, ca_14, ca_15, ca_16, ca_17, ca_18, ca_19, ca_20, ca_21, ca_22, ca_23, ca_24, ca_25, ca_26, ca_27, ca_28, ca_29, ca_30, not_true_eq_false, not_false_eq_true, Int.reduceEq, Nat.reduceEqDiff, Nat.reduceLeDiff, rGcd, V.ty.injEq, eq_self, List.not_mem_nil, beq_self_eq_true, HO.lst.injEq, HO.tup.injEq, tFor_eq, iRng1, iList, iTup, nat10, tSeq, rIxA, rSetA, rIsN, rIsT, tTp, tLs, itsO_tup, itsO_lst, tyO_tup, tyO_lst, tyO_dK, tyN_non, tyN_bl, tyN_int, tyN_str, tyN_ref, tyNs_lt, isB, upd_same, upd_upd, sizeLine_eq, List.mem_cons, String.reduceBEq, String.reduceEq, Bool.or_false, Bool.or_true, Bool.and_false, Bool.false_or, Bool.and_self, Bool.false_and, Bool.not_false, Bool.not_true, List.any_cons, List.any_nil, atI_0, setI_0, atI_1, setI_1, atI_2, setI_2, atI_3, setI_3, atI_4, setI_4, atI_5, setI_5, atI_6, setI_6, tAsg, gName, tOp, tUn, tVar, tC, tCons, L2.tNil, tRet, tIfS, tTest, tCB, tCall, rI, rI0, rU, tNext, tB, tAnd, tOr, tNot, tAndV, tOrV, tNotV, tDrop, tIf, tPar, gSub, rIxL, rIxT, rEq, rNe, rSetL, tBits,
    L2.start, List.map_cons, List.map_nil, List.cons_append, List.nil_append, List.append_nil, List.length_cons, List.length_nil, List.replicate, Nat.reduceAdd, Nat.reduceSub, Nat.zero_add, List.getElem?_cons_zero, List.getElem?_cons_succ, List.set_cons_zero, List.set_cons_succ,
    Option.some.injEq, exists_eq_left', exists_eq_left, V.int.injEq, V.bl.injEq, V.ref.injEq, V.str.injEq, List.cons.injEq, reduceCtorEq, and_true, true_and, false_and, and_false, exists_false, or_false, false_or, or_true, true_or, exists_const, CMul, CDiv, CPow, and_assoc, exists_and_left, exists_and_right, Int.reducePow, Int.reduceNeg, Int.reduceLT, Int.reduceLE, Nat.reducePow, Nat.reduceLT, Int.reduceToNat, gt_iff_lt, ge_iff_le, decide_eq_true_eq, Bool.not_eq_true', decide_eq_false_iff_not, scal, ↓reduceIte, Bool.false_eq_true]
    exact ⟨_, _, rfl, rfl⟩
  · rintro σ H' ⟨v, y, rfl, rfl⟩
    simp only [cx_K, decide_true, decide_false, reduceCtorEq, gTp, gCons, gNil, ca_0, ca_1, ca_2, ca_3, ca_4, ca_5, ca_6, ca_7, ca_8, ca_9, ca_10, ca_11, ca_12, ca_13, ca_14, ca_15, ca_16, ca_17, ca_18, ca_19, ca_20, ca_21, ca_22, ca_23, ca_24, ca_25, ca_26, ca_27, ca_28, ca_29, ca_30, not_true_eq_false, not_false_eq_true, Int.reduceEq, Nat.reduceEqDiff, Nat.reduceLeDiff, rGcd, V.ty.injEq, eq_self, List.not_mem_nil, beq_self_eq_true, HO.lst.injEq, HO.tup.injEq, tFor_eq, iRng1, iList, iTup, nat10, tSeq, rIxA, rSetA, rIsN, rIsT, tTp, tLs, itsO_tup, itsO_lst, tyO_tup, tyO_lst, tyO_dK, tyN_non, tyN_bl, tyN_int, tyN_str, tyN_ref, tyNs_lt, isB, upd_same, upd_upd, sizeLine_eq, List.mem_cons, String.reduceBEq, String.reduceEq, Bool.or_false, Bool.or_true, Bool.and_false, Bool.false_or, Bool.and_self, Bool.false_and, Bool.not_false, Bool.not_true, List.any_cons, List.any_nil, atI_0, setI_0, atI_1, setI_1, atI_2, setI_2, atI_3, setI_3, atI_4, setI_4, atI_5, setI_5, atI_6, setI_6, tAsg, gName, tOp, tUn, tVar, tC, tCons, L2.tNil, tRet, tIfS, tTest, tCB, tCall, rI, rI0, rU, tNext, tB, tAnd, tOr, tNot, tAndV, tOrV, tNotV, tDrop, tIf, tPar, gSub, rIxL, rIxT, rEq, rNe, rSetL, tBits,
    L2.start, List.map_cons, List.map_nil, List.cons_append, List.nil_append, List.append_nil, List.length_cons, List.length_nil, List.replicate, Nat.reduceAdd, Nat.reduceSub, Nat.zero_add, List.getElem?_cons_zero, List.getElem?_cons_succ, List.set_cons_zero, List.set_cons_succ,
    Option.some.injEq, exists_eq_left', exists_eq_left, V.int.injEq, V.bl.injEq, V.ref.injEq, V.str.injEq, List.cons.injEq, reduceCtorEq, and_true, true_and, false_and, and_false, exists_false, or_false, false_or, or_true, true_or, exists_const, CMul, CDiv, CPow, and_assoc, exists_and_left, exists_and_right, Int.reducePow, Int.reduceNeg, Int.reduceLT, Int.reduceLE, Nat.reducePow, Nat.reduceLT, Int.reduceToNat, gt_iff_lt, ge_iff_le, decide_eq_true_eq, Bool.not_eq_true', decide_eq_false_iff_not, scal, ↓reduceIte, Bool.false_eq_true]
    refine ⟨_, .inl hS, fun l hl kl => ?_⟩
    intro s hs ks
    have s1 := Same.new hl (.lst (ns.map V.int))
    have e1 : upd H' l (.lst (ns.map V.int)) l = some (.lst (ns.map V.int)) := upd_same
    have n1 : s ≠ l := by rintro rfl; rw [upd_same] at hs; cases hs
    exact k s _ (s1.trans (Same.new hs _)) ⟨l, ns, 0, 0, 0, v, 0, 0, upd_same, by rw [upd_ne (Ne.symm n1)]; exact e1, n1, Int.le_refl 0, ks, kl⟩
end
end My

namespace My
open PySem PySem.Spec PyProof.Rows L2
section
variable {P : Program} {w : World} {K : PySem.W.Frag} {mg : Str → Option Value} {base : Heap}
/-- the same data, n levels deep at most -/
def scv : V → Bool
  | .non => true
  | .bl _ => true
  | .int _ => true
  | .str _ => true
  | _ => false
def Eqv (K : PySem.W.Frag) (H : Hp) : Nat → V → V → Prop
  | 0, x, y => x = y ∧ scv x = true
  | n + 1, x, y => (x = y ∧ scv x = true) ∨ ∃ (a b : Addr) (xs ys : List V), x = .ref a ∧ y = .ref b ∧ ((ob K H a = some (.tup xs) ∧ ob K H b = some (.tup ys)) ∨ (ob K H a = some (.lst xs) ∧ ob K H b = some (.lst ys))) ∧ xs.length = ys.length ∧ ys.length ≤ 1000 ∧
      ∀ (i : Nat) x y, xs[i]? = some x → ys[i]? = some y → Eqv K H n x y
theorem Eqv.same {H H' : Hp} (e : Same H H') : ∀ {n : Nat} {x y : V}, Eqv K H n x y → Eqv K H' n x y
  | 0, _, _, h => h
  | n + 1, x, y, .inl h => .inl h
  | n + 1, x, y, .inr ⟨a, b, xs, ys, h1, h2, h3, h4, h5, h6⟩ =>
    .inr ⟨a, b, xs, ys, h1, h2, h3.imp (fun z => ⟨ob_same e z.1, ob_same e z.2⟩) (fun z => ⟨ob_same e z.1, ob_same e z.2⟩), h4, h5, fun i x y hx hy => (h6 i x y hx hy).same e⟩
theorem Eqv.up {H : Hp} : ∀ {n : Nat} {x y : V}, Eqv K H n x y → Eqv K H (n + 1) x y
  | 0, _, _, h => .inl h
  | n + 1, x, y, .inl h => .inl h
  | n + 1, x, y, .inr ⟨a, b, xs, ys, h1, h2, h3, h4, h5, h6⟩ => .inr ⟨a, b, xs, ys, h1, h2, h3, h4, h5, fun i x y hx hy => (h6 i x y hx hy).up⟩
def spSame (K : PySem.W.Frag) : Nat → Sp
  | 0 => fun _ _ _ _ => False
  | n + 1 => fun vs H Q _ => ∃ x y, vs = [x, y] ∧ Eqv K H n x y ∧ ∀ H', Same H H' → Q (.bl true) H'
theorem Eqv.split {H : Hp} {n : Nat} {x y : V} (h : Eqv K H n x y) : (x = y ∧ scv x = true) ∨ ∃ m, n = m + 1 ∧ ∃ (a b : Addr) (xs ys : List V), x = .ref a ∧ y = .ref b ∧ ((ob K H a = some (.tup xs) ∧ ob K H b = some (.tup ys)) ∨ (ob K H a = some (.lst xs) ∧ ob K H b = some (.lst ys))) ∧ xs.length = ys.length ∧ ys.length ≤ 1000 ∧
    ∀ (i : Nat) x y, xs[i]? = some x → ys[i]? = some y → Eqv K H m x y := by
  cases n with
  | zero => exact .inl h
  | succ m =>
    rcases h with h | h
    · exact .inl h
    · exact .inr ⟨m, rfl, h⟩
def SameI (H : Hp) (a b : Addr) (_ : Nat) (σ : L2.St) (H' : Hp) : Prop := ∃ z, σ = [some (.ref a), some (.ref b), z] ∧ Same H H'
theorem Kn.none {x : Str} {ps : List Str} {st : Stmt} (D : Dfn K mg x st ps) : Kn P w K mg base 0 x ps (fun _ _ _ _ => False) := by
  obtain ⟨f, fd, F, m, b⟩ := D.ex
  exact ⟨f, fd, m, F.kp, b, ⟨fun vs H Q E h => h.elim, fun A outer s H args us vs Q E _ _ _ _ h => h.elim⟩⟩
abbrev sSame : Stmt := topS 44
theorem scSame : FnScope ["_law_told", "_law_due", "_law_k"] ["_law_told", "_law_due"] (defScope sSame) := ⟨rfl, rfl, rfl, by decide +kernel, rfl, by decide +kernel, by decide +kernel⟩
theorem k_Same (n : Nat) (T : Bt K mg) (D : Dfn K mg "_law_same" sSame ["_law_told", "_law_due"]) (d__law_is_whole : Kn P w K mg base 1 "_law_is_whole" ["_law_told"] (spWhole K)) (d__law_same : Kn P w K mg base (n + 1) "_law_same" ["_law_told", "_law_due"] (spSame K n)) : Kn P w K mg base (n + 2) "_law_same" ["_law_told", "_law_due"] (spSame K (n + 1)) := by
  refine Kn.mk' D scSame (fun vs H Q E h => ?_) (fun f cdv A outer s H vs Q E hr h => ?_)
  · obtain ⟨x, y, rfl, _⟩ := h
    rfl
  obtain ⟨x, y, rfl, he, k⟩ := h
  refine ⟨_, (pss_cons (ps_if (pt_cmpR op_isN (pv 1) pe_non (nomark _)) (pss_one (ps_ret (pe_cmpR op_isN (pv 0) pe_non (nomark _)))) pss_nil)
      (pss_cons (ps_if (pt_val (pe_callB call_isN (by rfl) T.b_isinstance (by decide +kernel) (pa_cons (pv 1) (pa_cons (pe_bltn (v := .ty "bool") (by rfl) T.b_bool (by decide +kernel) rfl) pa_nil)))) (pss_one (ps_ret (pe_and (pe_callB call_isN (by rfl) T.b_isinstance (by decide +kernel) (pa_cons (pv 0) (pa_cons (pe_bltn (v := .ty "bool") (by rfl) T.b_bool (by decide +kernel) rfl) pa_nil))) (pe_one (pe_cmpR op_eq (pv 0) (pv 1) (nomark _)))))) pss_nil)
      (pss_cons (ps_if (pt_val (pe_callB call_isN (by rfl) T.b_isinstance (by decide +kernel) (pa_cons (pv 1) (pa_cons (pe_bltn (v := .ty "int") (by rfl) T.b_int (by decide +kernel) rfl) pa_nil)))) (pss_one (ps_ret (pe_and (pe_kn d__law_is_whole hr (by rfl) (pa_cons (pv 0) pa_nil)) (pe_one (pe_cmpR op_eq (pv 0) (pv 1) (nomark _)))))) pss_nil)
      (pss_cons (ps_if (pt_val (pe_callB call_isN (by rfl) T.b_isinstance (by decide +kernel) (pa_cons (pv 1) (pa_cons (pe_bltn (v := .ty "str") (by rfl) T.b_str (by decide +kernel) rfl) pa_nil)))) (pss_one (ps_ret (pe_and (pe_callB call_isN (by rfl) T.b_isinstance (by decide +kernel) (pa_cons (pv 0) (pa_cons (pe_bltn (v := .ty "str") (by rfl) T.b_str (by decide +kernel) rfl) pa_nil))) (pe_one (pe_cmpR op_eq (pv 0) (pv 1) (nomark _)))))) pss_nil)
      (pss_cons (ps_if (pt_val (pe_callB call_isN (by rfl) T.b_isinstance (by decide +kernel) (pa_cons (pv 1) (pa_cons (pe_bltn (v := .ty "dict") (by rfl) T.b_dict (by decide +kernel) rfl) pa_nil)))) (pss_cons (ps_if (PW.pt (pw_or (pt_not (pt_val (pe_callB call_isN (by rfl) T.b_isinstance (by decide +kernel) (pa_cons (pv 0) (pa_cons (pe_bltn (v := .ty "dict") (by rfl) T.b_dict (by decide +kernel) rfl) pa_nil))))) (pw_or1 (pt_not (pt_val (pe_kn d__law_same hr (by rfl) (pa_cons (pe_callTy call_list_of (by rfl) T.b_list (by decide +kernel) (pa_cons (pv 0) pa_nil)) (pa_cons (pe_callTy call_list_of (by rfl) T.b_list (by decide +kernel) (pa_cons (pv 1) pa_nil)) pa_nil)))))))) (pss_one (ps_ret pe_bl)) pss_nil)
      (pss_one ps_never)) pss_nil)
      (pss_cons (ps_if (PW.pt (pw_and (pt_val (pe_callB call_isN (by rfl) T.b_isinstance (by decide +kernel) (pa_cons (pv 1) (pa_cons (pe_bltn (v := .ty "list") (by rfl) T.b_list (by decide +kernel) rfl) pa_nil)))) (pw_and1 (pt_not (pt_val (pe_callB call_isN (by rfl) T.b_isinstance (by decide +kernel) (pa_cons (pv 0) (pa_cons (pe_bltn (v := .ty "list") (by rfl) T.b_list (by decide +kernel) rfl) pa_nil)))))))) (pss_one (ps_ret pe_bl)) pss_nil)
      (pss_cons (ps_if (PW.pt (pw_and (pt_val (pe_callB call_isN (by rfl) T.b_isinstance (by decide +kernel) (pa_cons (pv 1) (pa_cons (pe_bltn (v := .ty "tuple") (by rfl) T.b_tuple (by decide +kernel) rfl) pa_nil)))) (pw_and1 (pt_not (pt_val (pe_callB call_isN (by rfl) T.b_isinstance (by decide +kernel) (pa_cons (pv 0) (pa_cons (pe_bltn (v := .ty "tuple") (by rfl) T.b_tuple (by decide +kernel) rfl) pa_nil)))))))) (pss_one (ps_ret pe_bl)) pss_nil)
      (pss_cons (ps_if (PW.pt (pw_or (pt_not (pt_val (pe_callB call_isT (by rfl) T.b_isinstance (by decide +kernel) (pa_cons (pv 1) (pa_cons (pe_tp (pa_cons (pe_bltn (v := .ty "list") (by rfl) T.b_list (by decide +kernel) rfl) (pa_cons (pe_bltn (v := .ty "tuple") (by rfl) T.b_tuple (by decide +kernel) rfl) pa_nil))) pa_nil))))) (pw_or1 (pt_cmpR op_ne (pe_callB call_lenA (by rfl) T.b_len PySem.boot_len (pa_cons (pv 0) pa_nil)) (pe_callB call_lenA (by rfl) T.b_len PySem.boot_len (pa_cons (pv 1) pa_nil)) (nomark _))))) (pss_one (ps_ret pe_bl)) pss_nil)
      (pss_cons (ps_for PassesOwn.never rfl (pi_range1 (by rfl) T.b_range (pa_cons (pe_callB call_lenA (by rfl) T.b_len PySem.boot_len (pa_cons (pv 1) pa_nil)) pa_nil)) (pg_name (i := 2) scSame.nd rfl (.inl rfl)) (pss_one (ps_if (pt_not (pt_val (pe_kn d__law_same hr (by rfl) (pa_cons (pe_ix ix_any (pv 0) (pv 2) (fun _ _ => rfl)) (pa_cons (pe_ix ix_any (pv 1) (pv 2) (fun _ _ => rfl)) pa_nil))))) (pss_one (ps_ret pe_bl)) pss_nil)))
      (pss_one (ps_ret pe_bl))))))))))), ?_⟩
  rcases he.split with ⟨rfl, hsc⟩ | ⟨m, rfl, a, b, xs, ys, rfl, rfl, ho, hl, h1000, hi⟩
  · cases x with
    | non =>
      simp only [cx_K, decide_true, decide_false, reduceCtorEq, gTp, gCons, gNil, ca_0, ca_1, ca_2, ca_3, ca_4, ca_5, ca_6, ca_7, ca_8, ca_9, ca_10, ca_11, ca_12, ca_13, ca_14, ca_15, ca_16, ca_17, ca_18, ca_19, ca_20, ca_21, ca_22, ca_23, ca_24, ca_25, ca_26, ca_27, ca_28, ca_29, ca_30, not_true_eq_false, not_false_eq_true, Int.reduceEq, Nat.reduceEqDiff, Nat.reduceLeDiff, rGcd, V.ty.injEq, eq_self, List.not_mem_nil, beq_self_eq_true, HO.lst.injEq, HO.tup.injEq, tFor_eq, iRng1, iList, iTup, nat10, tSeq, rIxA, rSetA, rIsN, rIsT, tTp, tLs, itsO_tup, itsO_lst, tyO_tup, tyO_lst, tyO_dK, tyN_non, tyN_bl, tyN_int, tyN_str, tyN_ref, tyNs_lt, isB, upd_same, upd_upd, sizeLine_eq, List.mem_cons, String.reduceBEq, String.reduceEq, Bool.or_false, Bool.or_true, Bool.and_false, Bool.false_or, Bool.and_self, Bool.false_and, Bool.not_false, Bool.not_true, List.any_cons, List.any_nil, atI_0, setI_0, atI_1, setI_1, atI_2, setI_2, atI_3, setI_3, atI_4, setI_4, atI_5, setI_5, atI_6, setI_6, tAsg, gName, tOp, tUn, tVar, tC, tCons, L2.tNil, tRet, tIfS, tTest, tCB, tCall, rI, rI0, rU, tNext, tB, tAnd, tOr, tNot, tAndV, tOrV, tNotV, tDrop, tIf, tPar, gSub, rIxL, rIxT, rEq, rNe, rSetL, tBits,
    L2.start, List.map_cons, List.map_nil, List.cons_append, List.nil_append, List.append_nil, List.length_cons, List.length_nil, List.replicate, Nat.reduceAdd, Nat.reduceSub, Nat.zero_add, List.getElem?_cons_zero, List.getElem?_cons_succ, List.set_cons_zero, List.set_cons_succ,
    Option.some.injEq, exists_eq_left', exists_eq_left, V.int.injEq, V.bl.injEq, V.ref.injEq, V.str.injEq, List.cons.injEq, reduceCtorEq, and_true, true_and, false_and, and_false, exists_false, or_false, false_or, or_true, true_or, exists_const, CMul, CDiv, CPow, and_assoc, exists_and_left, exists_and_right, Int.reducePow, Int.reduceNeg, Int.reduceLT, Int.reduceLE, Nat.reducePow, Nat.reduceLT, Int.reduceToNat, gt_iff_lt, ge_iff_le, decide_eq_true_eq, Bool.not_eq_true', decide_eq_false_iff_not, scal, ↓reduceIte, Bool.false_eq_true]
      exact k H (Same.refl H)
    | bl b =>
      simp only [cx_K, decide_true, decide_false, reduceCtorEq, gTp, gCons, gNil, ca_0, ca_1, ca_2, ca_3, ca_4, ca_5, ca_6, ca_7, ca_8, ca_9, ca_10, ca_11, ca_12, ca_13, ca_14, ca_15, ca_16, ca_17, ca_18, ca_19, ca_20, ca_21, ca_22, ca_23, ca_24, ca_25, ca_26, ca_27, ca_28, ca_29, ca_30, not_true_eq_false, not_false_eq_true, Int.reduceEq, Nat.reduceEqDiff, Nat.reduceLeDiff, rGcd, V.ty.injEq, eq_self, List.not_mem_nil, beq_self_eq_true, HO.lst.injEq, HO.tup.injEq, tFor_eq, iRng1, iList, iTup, nat10, tSeq, rIxA, rSetA, rIsN, rIsT, tTp, tLs, itsO_tup, itsO_lst, tyO_tup, tyO_lst, tyO_dK, tyN_non, tyN_bl, tyN_int, tyN_str, tyN_ref, tyNs_lt, isB, upd_same, upd_upd, sizeLine_eq, List.mem_cons, String.reduceBEq, String.reduceEq, Bool.or_false, Bool.or_true, Bool.and_false, Bool.false_or, Bool.and_self, Bool.false_and, Bool.not_false, Bool.not_true, List.any_cons, List.any_nil, atI_0, setI_0, atI_1, setI_1, atI_2, setI_2, atI_3, setI_3, atI_4, setI_4, atI_5, setI_5, atI_6, setI_6, tAsg, gName, tOp, tUn, tVar, tC, tCons, L2.tNil, tRet, tIfS, tTest, tCB, tCall, rI, rI0, rU, tNext, tB, tAnd, tOr, tNot, tAndV, tOrV, tNotV, tDrop, tIf, tPar, gSub, rIxL, rIxT, rEq, rNe, rSetL, tBits,
    L2.start, List.map_cons, List.map_nil, List.cons_append, List.nil_append, List.append_nil, List.length_cons, List.length_nil, List.replicate, Nat.reduceAdd, Nat.reduceSub, Nat.zero_add, List.getElem?_cons_zero, List.getElem?_cons_succ, List.set_cons_zero, List.set_cons_succ,
    Option.some.injEq, exists_eq_left', exists_eq_left, V.int.injEq, V.bl.injEq, V.ref.injEq, V.str.injEq, List.cons.injEq, reduceCtorEq, and_true, true_and, false_and, and_false, exists_false, or_false, false_or, or_true, true_or, exists_const, CMul, CDiv, CPow, and_assoc, exists_and_left, exists_and_right, Int.reducePow, Int.reduceNeg, Int.reduceLT, Int.reduceLE, Nat.reducePow, Nat.reduceLT, Int.reduceToNat, gt_iff_lt, ge_iff_le, decide_eq_true_eq, Bool.not_eq_true', decide_eq_false_iff_not, scal, ↓reduceIte, Bool.false_eq_true]
      exact k H (Same.refl H)
    | int i =>
      simp only [cx_K, decide_true, decide_false, reduceCtorEq, gTp, gCons, gNil, ca_0, ca_1, ca_2, ca_3, ca_4, ca_5, ca_6, ca_7, ca_8, ca_9, ca_10, ca_11, ca_12, ca_13, ca_14, ca_15, ca_16, ca_17, ca_18, ca_19, ca_20, ca_21, ca_22, ca_23, ca_24, ca_25, ca_26, ca_27, ca_28, ca_29, ca_30, not_true_eq_false, not_false_eq_true, Int.reduceEq, Nat.reduceEqDiff, Nat.reduceLeDiff, rGcd, V.ty.injEq, eq_self, List.not_mem_nil, beq_self_eq_true, HO.lst.injEq, HO.tup.injEq, tFor_eq, iRng1, iList, iTup, nat10, tSeq, rIxA, rSetA, rIsN, rIsT, tTp, tLs, itsO_tup, itsO_lst, tyO_tup, tyO_lst, tyO_dK, tyN_non, tyN_bl, tyN_int, tyN_str, tyN_ref, tyNs_lt, isB, upd_same, upd_upd, sizeLine_eq, List.mem_cons, String.reduceBEq, String.reduceEq, Bool.or_false, Bool.or_true, Bool.and_false, Bool.false_or, Bool.and_self, Bool.false_and, Bool.not_false, Bool.not_true, List.any_cons, List.any_nil, atI_0, setI_0, atI_1, setI_1, atI_2, setI_2, atI_3, setI_3, atI_4, setI_4, atI_5, setI_5, atI_6, setI_6, tAsg, gName, tOp, tUn, tVar, tC, tCons, L2.tNil, tRet, tIfS, tTest, tCB, tCall, rI, rI0, rU, tNext, tB, tAnd, tOr, tNot, tAndV, tOrV, tNotV, tDrop, tIf, tPar, gSub, rIxL, rIxT, rEq, rNe, rSetL, tBits,
    L2.start, List.map_cons, List.map_nil, List.cons_append, List.nil_append, List.append_nil, List.length_cons, List.length_nil, List.replicate, Nat.reduceAdd, Nat.reduceSub, Nat.zero_add, List.getElem?_cons_zero, List.getElem?_cons_succ, List.set_cons_zero, List.set_cons_succ,
    Option.some.injEq, exists_eq_left', exists_eq_left, V.int.injEq, V.bl.injEq, V.ref.injEq, V.str.injEq, List.cons.injEq, reduceCtorEq, and_true, true_and, false_and, and_false, exists_false, or_false, false_or, or_true, true_or, exists_const, CMul, CDiv, CPow, and_assoc, exists_and_left, exists_and_right, Int.reducePow, Int.reduceNeg, Int.reduceLT, Int.reduceLE, Nat.reducePow, Nat.reduceLT, Int.reduceToNat, gt_iff_lt, ge_iff_le, decide_eq_true_eq, Bool.not_eq_true', decide_eq_false_iff_not, scal, ↓reduceIte, Bool.false_eq_true]
      exact ⟨_, rfl, rfl, true, rfl, k H (Same.refl H)⟩
    | str z =>
      simp only [cx_K, decide_true, decide_false, reduceCtorEq, gTp, gCons, gNil, ca_0, ca_1, ca_2, ca_3, ca_4, ca_5, ca_6, ca_7, ca_8, ca_9, ca_10, ca_11, ca_12, ca_13, ca_14, ca_15, ca_16, ca_17, ca_18, ca_19, ca_20, ca_21, ca_22, ca_23, ca_24, ca_25, ca_26, ca_27, ca_28, ca_29, ca_30, not_true_eq_false, not_false_eq_true, Int.reduceEq, Nat.reduceEqDiff, Nat.reduceLeDiff, rGcd, V.ty.injEq, eq_self, List.not_mem_nil, beq_self_eq_true, HO.lst.injEq, HO.tup.injEq, tFor_eq, iRng1, iList, iTup, nat10, tSeq, rIxA, rSetA, rIsN, rIsT, tTp, tLs, itsO_tup, itsO_lst, tyO_tup, tyO_lst, tyO_dK, tyN_non, tyN_bl, tyN_int, tyN_str, tyN_ref, tyNs_lt, isB, upd_same, upd_upd, sizeLine_eq, List.mem_cons, String.reduceBEq, String.reduceEq, Bool.or_false, Bool.or_true, Bool.and_false, Bool.false_or, Bool.and_self, Bool.false_and, Bool.not_false, Bool.not_true, List.any_cons, List.any_nil, atI_0, setI_0, atI_1, setI_1, atI_2, setI_2, atI_3, setI_3, atI_4, setI_4, atI_5, setI_5, atI_6, setI_6, tAsg, gName, tOp, tUn, tVar, tC, tCons, L2.tNil, tRet, tIfS, tTest, tCB, tCall, rI, rI0, rU, tNext, tB, tAnd, tOr, tNot, tAndV, tOrV, tNotV, tDrop, tIf, tPar, gSub, rIxL, rIxT, rEq, rNe, rSetL, tBits,
    L2.start, List.map_cons, List.map_nil, List.cons_append, List.nil_append, List.append_nil, List.length_cons, List.length_nil, List.replicate, Nat.reduceAdd, Nat.reduceSub, Nat.zero_add, List.getElem?_cons_zero, List.getElem?_cons_succ, List.set_cons_zero, List.set_cons_succ,
    Option.some.injEq, exists_eq_left', exists_eq_left, V.int.injEq, V.bl.injEq, V.ref.injEq, V.str.injEq, List.cons.injEq, reduceCtorEq, and_true, true_and, false_and, and_false, exists_false, or_false, false_or, or_true, true_or, exists_const, CMul, CDiv, CPow, and_assoc, exists_and_left, exists_and_right, Int.reducePow, Int.reduceNeg, Int.reduceLT, Int.reduceLE, Nat.reducePow, Nat.reduceLT, Int.reduceToNat, gt_iff_lt, ge_iff_le, decide_eq_true_eq, Bool.not_eq_true', decide_eq_false_iff_not, scal, ↓reduceIte, Bool.false_eq_true]
      exact k H (Same.refl H)
    | _ => cases hsc
  rcases ho with ⟨oa, oc⟩ | ⟨oa, oc⟩
  · simp only [oa, oc, cx_K, decide_true, decide_false, reduceCtorEq, gTp, gCons, gNil, ca_0, ca_1, ca_2, ca_3, ca_4, ca_5, ca_6, ca_7, ca_8, ca_9, ca_10, ca_11, ca_12, ca_13, ca_14, ca_15, ca_16, ca_17, ca_18, ca_19, ca_20, ca_21, ca_22, ca_23, ca_24, ca_25, ca_26, ca_27, ca_28, ca_29, ca_30, not_true_eq_false, not_false_eq_true, Int.reduceEq, Nat.reduceEqDiff, Nat.reduceLeDiff, rGcd, V.ty.injEq, eq_self, List.not_mem_nil, beq_self_eq_true, HO.lst.injEq, HO.tup.injEq, tFor_eq, iRng1, iList, iTup, nat10, tSeq, rIxA, rSetA, rIsN, rIsT, tTp, tLs, itsO_tup, itsO_lst, tyO_tup, tyO_lst, tyO_dK, tyN_non, tyN_bl, tyN_int, tyN_str, tyN_ref, tyNs_lt, isB, upd_same, upd_upd, sizeLine_eq, List.mem_cons, String.reduceBEq, String.reduceEq, Bool.or_false, Bool.or_true, Bool.and_false, Bool.false_or, Bool.and_self, Bool.false_and, Bool.not_false, Bool.not_true, List.any_cons, List.any_nil, atI_0, setI_0, atI_1, setI_1, atI_2, setI_2, atI_3, setI_3, atI_4, setI_4, atI_5, setI_5, atI_6, setI_6, tAsg, gName, tOp, tUn, tVar, tC, tCons, L2.tNil, tRet, tIfS, tTest, tCB, tCall, rI, rI0, rU, tNext, tB, tAnd, tOr, tNot, tAndV, tOrV, tNotV, tDrop, tIf, tPar, gSub, rIxL, rIxT, rEq, rNe, rSetL, tBits,
    L2.start, List.map_cons, List.map_nil, List.cons_append, List.nil_append, List.append_nil, List.length_cons, List.length_nil, List.replicate, Nat.reduceAdd, Nat.reduceSub, Nat.zero_add, List.getElem?_cons_zero, List.getElem?_cons_succ, List.set_cons_zero, List.set_cons_succ,
    Option.some.injEq, exists_eq_left', exists_eq_left, V.int.injEq, V.bl.injEq, V.ref.injEq, V.str.injEq, List.cons.injEq, reduceCtorEq, and_true, true_and, false_and, and_false, exists_false, or_false, false_or, or_true, true_or, exists_const, CMul, CDiv, CPow, and_assoc, exists_and_left, exists_and_right, Int.reducePow, Int.reduceNeg, Int.reduceLT, Int.reduceLE, Nat.reducePow, Nat.reduceLT, Int.reduceToNat, gt_iff_lt, ge_iff_le, decide_eq_true_eq, Bool.not_eq_true', decide_eq_false_iff_not, scal, ↓reduceIte, Bool.false_eq_true]
    intro p hp kp
    have s1 := Same.new hp (.tup [V.ty "list", V.ty "tuple"])
    generalize upd H p (.tup [V.ty "list", V.ty "tuple"]) = H1 at s1 ⊢
    have oa1 := ob_same s1 oa
    have oc1 := ob_same s1 oc
    simp only [oa1, oc1, cx_K, decide_true, decide_false, reduceCtorEq, gTp, gCons, gNil, ca_0, ca_1, ca_2, ca_3, ca_4, ca_5, ca_6, ca_7, ca_8, ca_9, ca_10, ca_11, ca_12, ca_13, ca_14, ca_15, ca_16, ca_17, ca_18, ca_19, ca_20, ca_21, ca_22, ca_23, ca_24, ca_25, ca_26, ca_27, ca_28, ca_29, ca_30, not_true_eq_false, not_false_eq_true, Int.reduceEq, Nat.reduceEqDiff, Nat.reduceLeDiff, rGcd, V.ty.injEq, eq_self, List.not_mem_nil, beq_self_eq_true, HO.lst.injEq, HO.tup.injEq, tFor_eq, iRng1, iList, iTup, nat10, tSeq, rIxA, rSetA, rIsN, rIsT, tTp, tLs, itsO_tup, itsO_lst, tyO_tup, tyO_lst, tyO_dK, tyN_non, tyN_bl, tyN_int, tyN_str, tyN_ref, tyNs_lt, isB, upd_same, upd_upd, sizeLine_eq, List.mem_cons, String.reduceBEq, String.reduceEq, Bool.or_false, Bool.or_true, Bool.and_false, Bool.false_or, Bool.and_self, Bool.false_and, Bool.not_false, Bool.not_true, List.any_cons, List.any_nil, atI_0, setI_0, atI_1, setI_1, atI_2, setI_2, atI_3, setI_3, atI_4, setI_4, atI_5, setI_5, atI_6, setI_6, tAsg, gName, tOp, tUn, tVar, tC, tCons, L2.tNil, tRet, tIfS, tTest, tCB, tCall, rI, rI0, rU, tNext, tB, tAnd, tOr, tNot, tAndV, tOrV, tNotV, tDrop, tIf, tPar, gSub, rIxL, rIxT, rEq, rNe, rSetL, tBits,
    L2.start, List.map_cons, List.map_nil, List.cons_append, List.nil_append, List.append_nil, List.length_cons, List.length_nil, List.replicate, Nat.reduceAdd, Nat.reduceSub, Nat.zero_add, List.getElem?_cons_zero, List.getElem?_cons_succ, List.set_cons_zero, List.set_cons_succ,
    Option.some.injEq, exists_eq_left', exists_eq_left, V.int.injEq, V.bl.injEq, V.ref.injEq, V.str.injEq, List.cons.injEq, reduceCtorEq, and_true, true_and, false_and, and_false, exists_false, or_false, false_or, or_true, true_or, exists_const, CMul, CDiv, CPow, and_assoc, exists_and_left, exists_and_right, Int.reducePow, Int.reduceNeg, Int.reduceLT, Int.reduceLE, Nat.reducePow, Nat.reduceLT, Int.reduceToNat, gt_iff_lt, ge_iff_le, decide_eq_true_eq, Bool.not_eq_true', decide_eq_false_iff_not, scal, ↓reduceIte, Bool.false_eq_true]
    rw [if_neg (show ¬ ¬ ((xs.length : Int) = (ys.length : Int)) by omega)]
    refine ⟨by omega, by omega, forI_range (SameI H a b) ⟨none, rfl, s1⟩ ?_ ?_⟩
    · rintro i σ H' hlt ⟨z, rfl, s2⟩
      have hx : i < xs.length := by omega
      have hy : i < ys.length := by omega
      have oa2 := ob_same s2 oa
      have oc2 := ob_same s2 oc
      have ex : atI xs (0 + (i : Int)) = some xs[i] := by rw [Int.zero_add]; exact atI_nat (List.getElem?_eq_getElem hx)
      have ey : atI ys (0 + (i : Int)) = some ys[i] := by rw [Int.zero_add]; exact atI_nat (List.getElem?_eq_getElem hy)
      simp only [oa2, oc2, ex, ey, cx_K, decide_true, decide_false, reduceCtorEq, gTp, gCons, gNil, ca_0, ca_1, ca_2, ca_3, ca_4, ca_5, ca_6, ca_7, ca_8, ca_9, ca_10, ca_11, ca_12, ca_13, ca_14, ca_15, ca_16, ca_17, ca_18, ca_19, ca_20, ca_21, ca_22, ca_23, ca_24, ca_25, ca_26, ca_27, ca_28, ca_29, ca_30, not_true_eq_false, not_false_eq_true, Int.reduceEq, Nat.reduceEqDiff, Nat.reduceLeDiff, rGcd, V.ty.injEq, eq_self, List.not_mem_nil, beq_self_eq_true, HO.lst.injEq, HO.tup.injEq, tFor_eq, iRng1, iList, iTup, nat10, tSeq, rIxA, rSetA, rIsN, rIsT, tTp, tLs, itsO_tup, itsO_lst, tyO_tup, tyO_lst, tyO_dK, tyN_non, tyN_bl, tyN_int, tyN_str, tyN_ref, tyNs_lt, isB, upd_same, upd_upd, sizeLine_eq, List.mem_cons, String.reduceBEq, String.reduceEq, Bool.or_false, Bool.or_true, Bool.and_false, Bool.false_or, Bool.and_self, Bool.false_and, Bool.not_false, Bool.not_true, List.any_cons, List.any_nil, atI_0, setI_0, atI_1, setI_1, atI_2, setI_2, atI_3, setI_3, atI_4, setI_4, atI_5, setI_5, atI_6, setI_6, tAsg, gName, tOp, tUn, tVar, tC, tCons, L2.tNil, tRet, tIfS, tTest, tCB, tCall, rI, rI0, rU, tNext, tB, tAnd, tOr, tNot, tAndV, tOrV, tNotV, tDrop, tIf, tPar, gSub, rIxL, rIxT, rEq, rNe, rSetL, tBits,
    L2.start, List.map_cons, List.map_nil, List.cons_append, List.nil_append, List.append_nil, List.length_cons, List.length_nil, List.replicate, Nat.reduceAdd, Nat.reduceSub, Nat.zero_add, List.getElem?_cons_zero, List.getElem?_cons_succ, List.set_cons_zero, List.set_cons_succ,
    Option.some.injEq, exists_eq_left', exists_eq_left, V.int.injEq, V.bl.injEq, V.ref.injEq, V.str.injEq, List.cons.injEq, reduceCtorEq, and_true, true_and, false_and, and_false, exists_false, or_false, false_or, or_true, true_or, exists_const, CMul, CDiv, CPow, and_assoc, exists_and_left, exists_and_right, Int.reducePow, Int.reduceNeg, Int.reduceLT, Int.reduceLE, Nat.reducePow, Nat.reduceLT, Int.reduceToNat, gt_iff_lt, ge_iff_le, decide_eq_true_eq, Bool.not_eq_true', decide_eq_false_iff_not, scal, ↓reduceIte, Bool.false_eq_true]
      refine ⟨_, _, rfl, (hi i _ _ (List.getElem?_eq_getElem hx) (List.getElem?_eq_getElem hy)).same s2, fun H2 s3 => ⟨true, rfl, ?_⟩⟩
      rw [if_neg Bool.noConfusion]
      exact ⟨_, rfl, s2.trans s3⟩
    · rintro σ H' ⟨z, rfl, s2⟩
      simp only [cx_K, decide_true, decide_false, reduceCtorEq, gTp, gCons, gNil, ca_0, ca_1, ca_2, ca_3, ca_4, ca_5, ca_6, ca_7, ca_8, ca_9, ca_10, ca_11, ca_12, ca_13, ca_14, ca_15, ca_16, ca_17, ca_18, ca_19, ca_20, ca_21, ca_22, ca_23, ca_24, ca_25, ca_26, ca_27, ca_28, ca_29, ca_30, not_true_eq_false, not_false_eq_true, Int.reduceEq, Nat.reduceEqDiff, Nat.reduceLeDiff, rGcd, V.ty.injEq, eq_self, List.not_mem_nil, beq_self_eq_true, HO.lst.injEq, HO.tup.injEq, tFor_eq, iRng1, iList, iTup, nat10, tSeq, rIxA, rSetA, rIsN, rIsT, tTp, tLs, itsO_tup, itsO_lst, tyO_tup, tyO_lst, tyO_dK, tyN_non, tyN_bl, tyN_int, tyN_str, tyN_ref, tyNs_lt, isB, upd_same, upd_upd, sizeLine_eq, List.mem_cons, String.reduceBEq, String.reduceEq, Bool.or_false, Bool.or_true, Bool.and_false, Bool.false_or, Bool.and_self, Bool.false_and, Bool.not_false, Bool.not_true, List.any_cons, List.any_nil, atI_0, setI_0, atI_1, setI_1, atI_2, setI_2, atI_3, setI_3, atI_4, setI_4, atI_5, setI_5, atI_6, setI_6, tAsg, gName, tOp, tUn, tVar, tC, tCons, L2.tNil, tRet, tIfS, tTest, tCB, tCall, rI, rI0, rU, tNext, tB, tAnd, tOr, tNot, tAndV, tOrV, tNotV, tDrop, tIf, tPar, gSub, rIxL, rIxT, rEq, rNe, rSetL, tBits,
    L2.start, List.map_cons, List.map_nil, List.cons_append, List.nil_append, List.append_nil, List.length_cons, List.length_nil, List.replicate, Nat.reduceAdd, Nat.reduceSub, Nat.zero_add, List.getElem?_cons_zero, List.getElem?_cons_succ, List.set_cons_zero, List.set_cons_succ,
    Option.some.injEq, exists_eq_left', exists_eq_left, V.int.injEq, V.bl.injEq, V.ref.injEq, V.str.injEq, List.cons.injEq, reduceCtorEq, and_true, true_and, false_and, and_false, exists_false, or_false, false_or, or_true, true_or, exists_const, CMul, CDiv, CPow, and_assoc, exists_and_left, exists_and_right, Int.reducePow, Int.reduceNeg, Int.reduceLT, Int.reduceLE, Nat.reducePow, Nat.reduceLT, Int.reduceToNat, gt_iff_lt, ge_iff_le, decide_eq_true_eq, Bool.not_eq_true', decide_eq_false_iff_not, scal, ↓reduceIte, Bool.false_eq_true]
      exact k H' s2
  · simp only [oa, oc, cx_K, decide_true, decide_false, reduceCtorEq, gTp, gCons, gNil, ca_0, ca_1, ca_2, ca_3, ca_4, ca_5, ca_6, ca_7, ca_8, ca_9, ca_10, ca_11, ca_12, ca_13, ca_14, ca_15, ca_16, ca_17, ca_18, ca_19, ca_20, ca_21, ca_22, ca_23, ca_24, ca_25, ca_26, ca_27, ca_28, ca_29, ca_30, not_true_eq_false, not_false_eq_true, Int.reduceEq, Nat.reduceEqDiff, Nat.reduceLeDiff, rGcd, V.ty.injEq, eq_self, List.not_mem_nil, beq_self_eq_true, HO.lst.injEq, HO.tup.injEq, tFor_eq, iRng1, iList, iTup, nat10, tSeq, rIxA, rSetA, rIsN, rIsT, tTp, tLs, itsO_tup, itsO_lst, tyO_tup, tyO_lst, tyO_dK, tyN_non, tyN_bl, tyN_int, tyN_str, tyN_ref, tyNs_lt, isB, upd_same, upd_upd, sizeLine_eq, List.mem_cons, String.reduceBEq, String.reduceEq, Bool.or_false, Bool.or_true, Bool.and_false, Bool.false_or, Bool.and_self, Bool.false_and, Bool.not_false, Bool.not_true, List.any_cons, List.any_nil, atI_0, setI_0, atI_1, setI_1, atI_2, setI_2, atI_3, setI_3, atI_4, setI_4, atI_5, setI_5, atI_6, setI_6, tAsg, gName, tOp, tUn, tVar, tC, tCons, L2.tNil, tRet, tIfS, tTest, tCB, tCall, rI, rI0, rU, tNext, tB, tAnd, tOr, tNot, tAndV, tOrV, tNotV, tDrop, tIf, tPar, gSub, rIxL, rIxT, rEq, rNe, rSetL, tBits,
    L2.start, List.map_cons, List.map_nil, List.cons_append, List.nil_append, List.append_nil, List.length_cons, List.length_nil, List.replicate, Nat.reduceAdd, Nat.reduceSub, Nat.zero_add, List.getElem?_cons_zero, List.getElem?_cons_succ, List.set_cons_zero, List.set_cons_succ,
    Option.some.injEq, exists_eq_left', exists_eq_left, V.int.injEq, V.bl.injEq, V.ref.injEq, V.str.injEq, List.cons.injEq, reduceCtorEq, and_true, true_and, false_and, and_false, exists_false, or_false, false_or, or_true, true_or, exists_const, CMul, CDiv, CPow, and_assoc, exists_and_left, exists_and_right, Int.reducePow, Int.reduceNeg, Int.reduceLT, Int.reduceLE, Nat.reducePow, Nat.reduceLT, Int.reduceToNat, gt_iff_lt, ge_iff_le, decide_eq_true_eq, Bool.not_eq_true', decide_eq_false_iff_not, scal, ↓reduceIte, Bool.false_eq_true]
    intro p hp kp
    have s1 := Same.new hp (.tup [V.ty "list", V.ty "tuple"])
    generalize upd H p (.tup [V.ty "list", V.ty "tuple"]) = H1 at s1 ⊢
    have oa1 := ob_same s1 oa
    have oc1 := ob_same s1 oc
    simp only [oa1, oc1, cx_K, decide_true, decide_false, reduceCtorEq, gTp, gCons, gNil, ca_0, ca_1, ca_2, ca_3, ca_4, ca_5, ca_6, ca_7, ca_8, ca_9, ca_10, ca_11, ca_12, ca_13, ca_14, ca_15, ca_16, ca_17, ca_18, ca_19, ca_20, ca_21, ca_22, ca_23, ca_24, ca_25, ca_26, ca_27, ca_28, ca_29, ca_30, not_true_eq_false, not_false_eq_true, Int.reduceEq, Nat.reduceEqDiff, Nat.reduceLeDiff, rGcd, V.ty.injEq, eq_self, List.not_mem_nil, beq_self_eq_true, HO.lst.injEq, HO.tup.injEq, tFor_eq, iRng1, iList, iTup, nat10, tSeq, rIxA, rSetA, rIsN, rIsT, tTp, tLs, itsO_tup, itsO_lst, tyO_tup, tyO_lst, tyO_dK, tyN_non, tyN_bl, tyN_int, tyN_str, tyN_ref, tyNs_lt, isB, upd_same, upd_upd, sizeLine_eq, List.mem_cons, String.reduceBEq, String.reduceEq, Bool.or_false, Bool.or_true, Bool.and_false, Bool.false_or, Bool.and_self, Bool.false_and, Bool.not_false, Bool.not_true, List.any_cons, List.any_nil, atI_0, setI_0, atI_1, setI_1, atI_2, setI_2, atI_3, setI_3, atI_4, setI_4, atI_5, setI_5, atI_6, setI_6, tAsg, gName, tOp, tUn, tVar, tC, tCons, L2.tNil, tRet, tIfS, tTest, tCB, tCall, rI, rI0, rU, tNext, tB, tAnd, tOr, tNot, tAndV, tOrV, tNotV, tDrop, tIf, tPar, gSub, rIxL, rIxT, rEq, rNe, rSetL, tBits,
    L2.start, List.map_cons, List.map_nil, List.cons_append, List.nil_append, List.append_nil, List.length_cons, List.length_nil, List.replicate, Nat.reduceAdd, Nat.reduceSub, Nat.zero_add, List.getElem?_cons_zero, List.getElem?_cons_succ, List.set_cons_zero, List.set_cons_succ,
    Option.some.injEq, exists_eq_left', exists_eq_left, V.int.injEq, V.bl.injEq, V.ref.injEq, V.str.injEq, List.cons.injEq, reduceCtorEq, and_true, true_and, false_and, and_false, exists_false, or_false, false_or, or_true, true_or, exists_const, CMul, CDiv, CPow, and_assoc, exists_and_left, exists_and_right, Int.reducePow, Int.reduceNeg, Int.reduceLT, Int.reduceLE, Nat.reducePow, Nat.reduceLT, Int.reduceToNat, gt_iff_lt, ge_iff_le, decide_eq_true_eq, Bool.not_eq_true', decide_eq_false_iff_not, scal, ↓reduceIte, Bool.false_eq_true]
    rw [if_neg (show ¬ ¬ ((xs.length : Int) = (ys.length : Int)) by omega)]
    refine ⟨by omega, by omega, forI_range (SameI H a b) ⟨none, rfl, s1⟩ ?_ ?_⟩
    · rintro i σ H' hlt ⟨z, rfl, s2⟩
      have hx : i < xs.length := by omega
      have hy : i < ys.length := by omega
      have oa2 := ob_same s2 oa
      have oc2 := ob_same s2 oc
      have ex : atI xs (0 + (i : Int)) = some xs[i] := by rw [Int.zero_add]; exact atI_nat (List.getElem?_eq_getElem hx)
      have ey : atI ys (0 + (i : Int)) = some ys[i] := by rw [Int.zero_add]; exact atI_nat (List.getElem?_eq_getElem hy)
      simp only [oa2, oc2, ex, ey, cx_K, decide_true, decide_false, reduceCtorEq, gTp, gCons, gNil, ca_0, ca_1, ca_2, ca_3, ca_4, ca_5, ca_6, ca_7, ca_8, ca_9, ca_10, ca_11, ca_12, ca_13, ca_14, ca_15, ca_16, ca_17, ca_18, ca_19, ca_20, ca_21, ca_22, ca_23, ca_24, ca_25, ca_26, ca_27, ca_28, ca_29, ca_30, not_true_eq_false, not_false_eq_true, Int.reduceEq, Nat.reduceEqDiff, Nat.reduceLeDiff, rGcd, V.ty.injEq, eq_self, List.not_mem_nil, beq_self_eq_true, HO.lst.injEq, HO.tup.injEq, tFor_eq, iRng1, iList, iTup, nat10, tSeq, rIxA, rSetA, rIsN, rIsT, tTp, tLs, itsO_tup, itsO_lst, tyO_tup, tyO_lst, tyO_dK, tyN_non, tyN_bl, tyN_int, tyN_str, tyN_ref, tyNs_lt, isB, upd_same, upd_upd, sizeLine_eq, List.mem_cons, String.reduceBEq, String.reduceEq, Bool.or_false, Bool.or_true, Bool.and_false, Bool.false_or, Bool.and_self, Bool.false_and, Bool.not_false, Bool.not_true, List.any_cons, List.any_nil, atI_0, setI_0, atI_1, setI_1, atI_2, setI_2, atI_3, setI_3, atI_4, setI_4, atI_5, setI_5, atI_6, setI_6, tAsg, gName, tOp, tUn, tVar, tC, tCons, L2.tNil, tRet, tIfS, tTest, tCB, tCall, rI, rI0, rU, tNext, tB, tAnd, tOr, tNot, tAndV, tOrV, tNotV, tDrop, tIf, tPar, gSub, rIxL, rIxT, rEq, rNe, rSetL, tBits,
    L2.start, List.map_cons, List.map_nil, List.cons_append, List.nil_append, List.append_nil, List.length_cons, List.length_nil, List.replicate, Nat.reduceAdd, Nat.reduceSub, Nat.zero_add, List.getElem?_cons_zero, List.getElem?_cons_succ, List.set_cons_zero, List.set_cons_succ,
    Option.some.injEq, exists_eq_left', exists_eq_left, V.int.injEq, V.bl.injEq, V.ref.injEq, V.str.injEq, List.cons.injEq, reduceCtorEq, and_true, true_and, false_and, and_false, exists_false, or_false, false_or, or_true, true_or, exists_const, CMul, CDiv, CPow, and_assoc, exists_and_left, exists_and_right, Int.reducePow, Int.reduceNeg, Int.reduceLT, Int.reduceLE, Nat.reducePow, Nat.reduceLT, Int.reduceToNat, gt_iff_lt, ge_iff_le, decide_eq_true_eq, Bool.not_eq_true', decide_eq_false_iff_not, scal, ↓reduceIte, Bool.false_eq_true]
      refine ⟨_, _, rfl, (hi i _ _ (List.getElem?_eq_getElem hx) (List.getElem?_eq_getElem hy)).same s2, fun H2 s3 => ⟨true, rfl, ?_⟩⟩
      rw [if_neg Bool.noConfusion]
      exact ⟨_, rfl, s2.trans s3⟩
    · rintro σ H' ⟨z, rfl, s2⟩
      simp only [cx_K, decide_true, decide_false, reduceCtorEq, gTp, gCons, gNil, ca_0, ca_1, ca_2, ca_3, ca_4, ca_5, ca_6, ca_7, ca_8, ca_9, ca_10, ca_11, ca_12, ca_13, ca_14, ca_15, ca_16, ca_17, ca_18, ca_19, ca_20, ca_21, ca_22, ca_23, ca_24, ca_25, ca_26, ca_27, ca_28, ca_29, ca_30, not_true_eq_false, not_false_eq_true, Int.reduceEq, Nat.reduceEqDiff, Nat.reduceLeDiff, rGcd, V.ty.injEq, eq_self, List.not_mem_nil, beq_self_eq_true, HO.lst.injEq, HO.tup.injEq, tFor_eq, iRng1, iList, iTup, nat10, tSeq, rIxA, rSetA, rIsN, rIsT, tTp, tLs, itsO_tup, itsO_lst, tyO_tup, tyO_lst, tyO_dK, tyN_non, tyN_bl, tyN_int, tyN_str, tyN_ref, tyNs_lt, isB, upd_same, upd_upd, sizeLine_eq, List.mem_cons, String.reduceBEq, String.reduceEq, Bool.or_false, Bool.or_true, Bool.and_false, Bool.false_or, Bool.and_self, Bool.false_and, Bool.not_false, Bool.not_true, List.any_cons, List.any_nil, atI_0, setI_0, atI_1, setI_1, atI_2, setI_2, atI_3, setI_3, atI_4, setI_4, atI_5, setI_5, atI_6, setI_6, tAsg, gName, tOp, tUn, tVar, tC, tCons, L2.tNil, tRet, tIfS, tTest, tCB, tCall, rI, rI0, rU, tNext, tB, tAnd, tOr, tNot, tAndV, tOrV, tNotV, tDrop, tIf, tPar, gSub, rIxL, rIxT, rEq, rNe, rSetL, tBits,
    L2.start, List.map_cons, List.map_nil, List.cons_append, List.nil_append, List.append_nil, List.length_cons, List.length_nil, List.replicate, Nat.reduceAdd, Nat.reduceSub, Nat.zero_add, List.getElem?_cons_zero, List.getElem?_cons_succ, List.set_cons_zero, List.set_cons_succ,
    Option.some.injEq, exists_eq_left', exists_eq_left, V.int.injEq, V.bl.injEq, V.ref.injEq, V.str.injEq, List.cons.injEq, reduceCtorEq, and_true, true_and, false_and, and_false, exists_false, or_false, false_or, or_true, true_or, exists_const, CMul, CDiv, CPow, and_assoc, exists_and_left, exists_and_right, Int.reducePow, Int.reduceNeg, Int.reduceLT, Int.reduceLE, Nat.reducePow, Nat.reduceLT, Int.reduceToNat, gt_iff_lt, ge_iff_le, decide_eq_true_eq, Bool.not_eq_true', decide_eq_false_iff_not, scal, ↓reduceIte, Bool.false_eq_true]
      exact k H' s2
theorem k_same (T : Bt K mg) (D : Dfn K mg "_law_same" sSame ["_law_told", "_law_due"]) (d : Kn P w K mg base 1 "_law_is_whole" ["_law_told"] (spWhole K)) : ∀ n : Nat, Kn P w K mg base (n + 1) "_law_same" ["_law_told", "_law_due"] (spSame K n)
  | 0 => by
    obtain ⟨f, fd, m, kp, b, G⟩ := (Kn.none (P := P) (w := w) (base := base) D).ex
    exact ⟨f, fd, m, kp, b, (G.mono (Nat.zero_le _)).imp fun vs H Q E h => h.elim⟩
  | n + 1 => k_Same n T D d (k_same T D d n)
end
end My

namespace My
open PySem PySem.Spec PyProof.Rows L2
section
variable {P : Program} {w : World} {K : PySem.W.Frag} {mg : Str → Option Value} {base : Heap}
/-! ### what is no fraction -/
def fr2 : List V → Bool
  | [.int n, .int d] => decide (1 ≤ d) && decide (Int.gcd n d = 1)
  | _ => false
theorem frOk_tup {H : Hp} {a : Addr} {xs : List V} (o : ob K H a = some (.tup xs)) : frOk K H (.ref a) = fr2 xs := by
  simp only [frOk, o]
  unfold fr2
  split <;> simp_all
theorem tyN_same {H H' : Hp} {v : V} {t : String} (e : Same H H') (h : tyN K H v = some t) : tyN K H' v = some t := by
  cases v with
  | ref a =>
    have h1 : tyO (ob K H a) = some t := h
    show tyO (ob K H' a) = some t
    cases hz : ob K H a with
    | none => rw [hz] at h1; cases h1
    | some z => rw [ob_same e hz, ← hz]; exact h1
  | _ => exact h
theorem tyS_same {H H' : Hp} {v : V} (e : Same H H') (h : (tyN K H v).isSome) : (tyN K H' v).isSome := by
  obtain ⟨t, ht⟩ := Option.isSome_iff_exists.mp h
  rw [tyN_same e ht]
  rfl
theorem ob_back {H H' : Hp} {a : Addr} {z : HO} (e : Same H H') (h : (tyN K H (.ref a)).isSome) (o : ob K H' a = some z) : ob K H a = some z := by
  cases hz : ob K H a with
  | none =>
    rw [tyN_ref, hz] at h
    cases h
  | some y =>
    rw [← o, ob_same e hz]
structure Gd (K : PySem.W.Frag) (H : Hp) (v : V) : Prop where
  ty : Tyd K H v
  no : frOk K H v = false
theorem Gd.same {H H' : Hp} {v : V} (e : Same H H') (h : Gd K H v) : Gd K H' v := by
  refine ⟨⟨tyS_same e h.ty.1, fun a xs ev o x hx => ?_⟩, ?_⟩
  · subst ev
    exact tyS_same e (h.ty.2 a xs rfl (ob_back e h.ty.1 o) x hx)
  · cases v with
    | ref a =>
      cases hz : ob K H a with
      | none =>
        have := h.ty.1
        rw [tyN_ref, hz] at this
        cases this
      | some z =>
        have e2 : frOk K H' (.ref a) = frOk K H (.ref a) := by simp only [frOk, hz, ob_same e hz]
        rw [e2]
        exact h.no
    | _ => rfl
theorem gd_sc {H : Hp} {v : V} (h : scv v = true) : Gd K H v := by
  refine ⟨⟨?_, fun a xs e => ?_⟩, ?_⟩
  · cases v <;> first | rfl | cases h
  · subst e; cases h
  · cases v <;> first | rfl | cases h
theorem gd_tup {H : Hp} {a : Addr} {xs : List V} (o : ob K H a = some (.tup xs)) (hx : ∀ x ∈ xs, (tyN K H x).isSome) (f : fr2 xs = false) : Gd K H (.ref a) := by
  refine ⟨⟨by rw [tyN_ref, o]; rfl, fun b ys e o' => ?_⟩, by rw [frOk_tup o]; exact f⟩
  cases e
  rw [o] at o'
  cases o'
  exact hx
theorem gd_lst {H : Hp} {a : Addr} {xs : List V} (o : ob K H a = some (.lst xs)) : Gd K H (.ref a) := by
  refine ⟨⟨by rw [tyN_ref, o]; rfl, fun b ys e o' => ?_⟩, by simp only [frOk, o]⟩
  cases e
  rw [o] at o'
  cases o'
theorem gd_dict {H : Hp} {a : Addr} {xs : List (Key × V)} (o : ob K H a = some (.dK xs)) : Gd K H (.ref a) := by
  refine ⟨⟨by rw [tyN_ref, o]; rfl, fun b ys e o' => ?_⟩, by simp only [frOk, o]⟩
  cases e
  rw [o] at o'
  cases o'
/-! ### displays that only make -/
def Mk (R : Hp → V → Prop) (te : TE) : Prop := ∀ σ H Q, (∀ v H', Same H H' → R H' v → Q v H') → te σ H Q
def MkL (R : Hp → V → Prop) (n : Nat) (ta : TA) : Prop := ∀ σ H Q, (∀ vs H', Same H H' → vs.length = n → (∀ v ∈ vs, R H' v) → Q vs H') → ta σ H Q
theorem mkL_nil {R : Hp → V → Prop} : MkL R 0 L2.tNil := fun σ H Q k => k [] H (Same.refl H) rfl fun _ z => absurd z (by simp)
theorem mkL_cons {R : Hp → V → Prop} {n : Nat} {te : TE} {ta : TA} (mono : ∀ (H H' : Hp) (v : V), Same H H' → R H v → R H' v) (h1 : Mk R te) (h2 : MkL R n ta) : MkL R (n + 1) (tCons te ta) := fun σ H Q k =>
  h1 σ H _ fun v H1 s1 r1 => h2 σ H1 _ fun vs H2 s2 hn hr => k (v :: vs) H2 (s1.trans s2) (by rw [List.length_cons, hn]) fun x hx => by
    rcases List.mem_cons.mp hx with e | e
    · subst e; exact mono _ _ _ s2 r1
    · exact hr x e
theorem mk_c {v : V} (h : scv v = true) : Mk (Gd K) (tC v) := fun σ H Q k => k v H (Same.refl H) (gd_sc h)
theorem mk_tc {ta : TA} (xs : List V) (e : ∀ σ H Q, Q xs H → ta σ H Q) (hs : xs.all scv = true) (hf : fr2 xs = false) (hl : xs.length ≤ 100 := by decide) : Mk (Gd K) (tTp K ta) := fun σ H Q k => by
  refine e σ H _ ⟨by rw [sizeLine_eq]; omega, fun p hp kp => k _ _ (Same.new hp _) (gd_tup (ob_new kp) (fun x hx => ?_) hf)⟩
  exact (gd_sc (K := K) (H := upd H p (.tup xs)) (List.all_eq_true.mp hs x hx)).ty.1
theorem mk_ls {ta : TA} {n : Nat} {R : Hp → V → Prop} (h : MkL R n ta) (hl : n ≤ 100 := by decide) : Mk (Gd K) (tLs K ta) := fun σ H Q k =>
  h σ H _ fun vs H1 s1 hn _ => ⟨by rw [sizeLine_eq]; omega, fun p hp kp => k _ _ (s1.trans (Same.new hp _)) (gd_lst (ob_new kp))⟩
theorem mk_dn : Mk (Gd K) (tDn K) := fun σ H Q k p hp kp => k _ _ (Same.new hp _) (gd_dict (ob_new kp))
theorem mk_any {R : Hp → V → Prop} {te : TE} (h : Mk R te) : Mk (fun _ _ => True) te := fun σ H Q k => h σ H Q fun v H' s _ => k v H' s True.intro
theorem mk_tup {ta : TA} {n : Nat} {R : Hp → V → Prop} (h : MkL R n ta) (hl : n ≤ 100 := by decide) : Mk (fun _ _ => True) (tTp K ta) := fun σ H Q k =>
  h σ H _ fun vs H1 s1 hn _ => ⟨by rw [sizeLine_eq]; omega, fun p hp kp => k _ _ (s1.trans (Same.new hp _)) True.intro⟩
/-! the same where names are read -/
def MkA (σ : L2.St) (H0 : Hp) (R : Hp → V → Prop) (te : TE) : Prop := ∀ H, Same H0 H → ∀ Q, (∀ v H', Same H H' → R H' v → Q v H') → te σ H Q
def MkAL (σ : L2.St) (H0 : Hp) (R : Hp → V → Prop) (n : Nat) (ta : TA) : Prop := ∀ H, Same H0 H → ∀ Q, (∀ vs H', Same H H' → vs.length = n → (∀ v ∈ vs, R H' v) → Q vs H') → ta σ H Q
theorem mkA_nil {σ : L2.St} {H0 : Hp} {R : Hp → V → Prop} : MkAL σ H0 R 0 L2.tNil := fun H _ Q k => k [] H (Same.refl H) rfl fun _ z => absurd z (by simp)
theorem mkA_cons {σ : L2.St} {H0 : Hp} {R : Hp → V → Prop} {n : Nat} {te : TE} {ta : TA} (mono : ∀ (H H' : Hp) (v : V), Same H H' → R H v → R H' v) (h1 : MkA σ H0 R te) (h2 : MkAL σ H0 R n ta) : MkAL σ H0 R (n + 1) (tCons te ta) := fun H s Q k =>
  h1 H s _ fun v H1 s1 r1 => h2 H1 (s.trans s1) _ fun vs H2 s2 hn hr => k (v :: vs) H2 (s1.trans s2) (by rw [List.length_cons, hn]) fun x hx => by
    rcases List.mem_cons.mp hx with e | e
    · subst e; exact mono _ _ _ s2 r1
    · exact hr x e
theorem mkA_tc {σ : L2.St} {H0 : Hp} {ta : TA} (xs : List V) (e : ∀ H, Same H0 H → ∀ Q, Q xs H → ta σ H Q) (hs : ∀ x ∈ xs, (tyN K H0 x).isSome) (hf : fr2 xs = false) (hl : xs.length ≤ 100) : MkA σ H0 (Gd K) (tTp K ta) := fun H s Q k => by
  refine e H s _ ⟨by rw [sizeLine_eq]; omega, fun p hp kp => k _ _ (Same.new hp _) (gd_tup (ob_new kp) (fun x hx => ?_) hf)⟩
  exact tyS_same (s.trans (Same.new hp _)) (hs x hx)
theorem mkA_lc {σ : L2.St} {H0 : Hp} {ta : TA} (xs : List V) (e : ∀ H, Same H0 H → ∀ Q, Q xs H → ta σ H Q) (hl : xs.length ≤ 100) : MkA σ H0 (Gd K) (tLs K ta) := fun H s Q k => by
  exact e H s _ ⟨by rw [sizeLine_eq]; omega, fun p hp kp => k _ _ (Same.new hp _) (gd_lst (ob_new kp))⟩
theorem lsA {ta : TA} {n : Nat} {R : Hp → V → Prop} {σ : L2.St} {H : Hp} {Q : VK} (mono : ∀ (H H' : Hp) (v : V), Same H H' → R H v → R H' v) (h : MkAL σ H R n ta) (hl : n ≤ 100)
    (k : ∀ vs p H', Same H H' → H p = none → K.lookup p = none → vs.length = n → (∀ v ∈ vs, R H' v) → H' p = some (.lst vs) → Q (.ref p) H') : tLs K ta σ H Q :=
  h H (Same.refl H) _ fun vs H1 s1 hn hr => ⟨by rw [sizeLine_eq]; omega, fun p hp kp => k vs p _ (s1.trans (Same.new hp _)) (s1.free hp) kp hn (fun v hv => mono _ _ _ (Same.new hp _) (hr v hv)) upd_same⟩
/-! what is no fraction stays so while the draws go on -/
theorem ob_kp2 {H H' : Hp} {s a : Addr} {z : HO} (e : Kp s H H') (n : a ≠ s) (h : ob K H a = some z) : ob K H' a = some z := by
  unfold ob at h ⊢
  split
  · rename_i o q
    rw [q] at h
    exact h
  · rename_i q
    rw [q] at h
    exact e _ _ n h
theorem Sto.ob {H : Hp} {s : Addr} (h : Sto K H s) : ∃ ys, My.ob K H s = some (.lst ys) := by
  obtain ⟨sc, ns, i, b, c, d, e, f, h⟩ := h
  exact ⟨_, (ob_none h.2.2.2.2.1).trans h.1⟩
theorem tyS_kp {H H' : Hp} {s : Addr} {v : V} (e : Kp s H H') (t : Sto K H' s) (h : (tyN K H v).isSome) : (tyN K H' v).isSome := by
  cases v with
  | ref a =>
    by_cases ha : a = s
    · subst ha
      obtain ⟨ys, hy⟩ := t.ob
      rw [tyN_ref, hy]
      rfl
    · cases hz : ob K H a with
      | none => rw [tyN_ref, hz] at h; cases h
      | some z =>
        rw [tyN_ref, ob_kp2 e ha hz, ← hz]
        exact h
  | _ => exact h
theorem Gd.kp {H H' : Hp} {s : Addr} {v : V} (e : Kp s H H') (t : Sto K H' s) (h : Gd K H v) : Gd K H' v := by
  cases v with
  | ref a =>
    by_cases ha : a = s
    · subst ha
      obtain ⟨ys, hy⟩ := t.ob
      exact gd_lst hy
    · cases hz : ob K H a with
      | none =>
        have := h.ty.1
        rw [tyN_ref, hz] at this
        cases this
      | some z =>
        have hz' := ob_kp2 e ha hz
        refine ⟨⟨tyS_kp e t h.ty.1, fun b xs ev o x hx => ?_⟩, ?_⟩
        · cases ev
          rw [hz'] at o
          exact tyS_kp e t (h.ty.2 a xs rfl (hz.trans o) x hx)
        · have e2 : frOk K H' (.ref a) = frOk K H (.ref a) := by simp only [frOk, hz, hz']
          rw [e2]
          exact h.no
  | _ => exact ⟨⟨h.ty.1, fun _ _ e => by cases e⟩, h.no⟩
/-- a list display of such things -/
theorem lsX {ta : TA} {n : Nat} {R : Hp → V → Prop} {σ : L2.St} {H : Hp} {Q : VK} (mono : ∀ (H H' : Hp) (v : V), Same H H' → R H v → R H' v) (h : MkL R n ta) (hl : n ≤ 100)
    (k : ∀ vs p H', Same H H' → H p = none → K.lookup p = none → vs.length = n → (∀ v ∈ vs, R H' v) → H' p = some (.lst vs) → Q (.ref p) H') : tLs K ta σ H Q :=
  h σ H _ fun vs H1 s1 hn hr => ⟨by rw [sizeLine_eq]; omega, fun p hp kp => k vs p _ (s1.trans (Same.new hp _)) (s1.free hp) kp hn (fun v hv => mono _ _ _ (Same.new hp _) (hr v hv)) upd_same⟩
end
end My

namespace My
open PySem PySem.Spec PyProof.Rows L2
section
variable {P : Program} {w : World} {K : PySem.W.Frag} {mg : Str → Option Value} {base : Heap}
theorem nf_int (w : Int) : Nf (w, 1) := ⟨by show (1 : Int) ≤ 1; omega, by show Int.gcd w 1 = 1; exact Int.gcd_one_right _⟩
theorem sz_of {x y : Int} {k : Nat} (h1 : x.natAbs < 2 ^ k) (h2 : y.natAbs < 2 ^ k) : Sz k (x, y) := ⟨h1, h2⟩
theorem ne_new {H : Hp} {s p : Addr} {ys : List V} (h : H s = some (.lst ys)) (hp : H p = none) : s ≠ p := ne_of_none h hp
/-- a place at a -/
structure Pq (K : PySem.W.Frag) (H : Hp) (n : Nat) (a : Addr) (q : Qt) : Prop where
  f : Fq K H n a q
  lo : 0 ≤ q.1
  hi : q.1 < q.2
theorem Pq.mono {H : Hp} {j n : Nat} {a : Addr} {q : Qt} (h : Pq K H j a q) (l : j ≤ n) : Pq K H n a q := ⟨h.f.mono l, h.lo, h.hi⟩
theorem Pq.same {H H' : Hp} {n : Nat} {a : Addr} {q : Qt} (h : Pq K H n a q) (s : Same H H') : Pq K H' n a q := ⟨h.f.same s, h.lo, h.hi⟩
theorem Pq.kp {H H' : Hp} {n : Nat} {a s : Addr} {q : Qt} {ys : List V} (h : Pq K H n a q) (e : Kp s H H') (hs : H s = some (.lst ys)) : Pq K H' n a q := ⟨h.f.kp e hs, h.lo, h.hi⟩
theorem is_in {q : Qt} {t b : Int} (h : Is q t b) (h0 : 0 ≤ t) (h1 : t < b) : 0 ≤ q.1 ∧ q.1 < q.2 := by
  have e := h.2
  have n := h.1.1
  have b0 : 0 < b := by omega
  refine ⟨Int.not_lt.mp fun c => ?_, Int.not_le.mp fun c => ?_⟩
  · have z1 : q.1 * b < 0 := Int.mul_neg_of_neg_of_pos c b0
    have z2 : 0 ≤ t * q.2 := Int.mul_nonneg h0 (by omega)
    omega
  · have z1 : q.2 * b ≤ q.1 * b := Int.mul_le_mul_of_nonneg_right c (by omega)
    have z2 : t * q.2 < b * q.2 := Int.mul_lt_mul_of_pos_right h1 (by omega)
    have z3 : q.2 * b = b * q.2 := Int.mul_comm _ _
    omega
def spDPlace (K : PySem.W.Frag) (n : Nat) : Sp := fun vs H Q _ => ∃ (s : Addr), vs = [.ref s] ∧ Sto K H s ∧ ∀ a q H', Pq K H' n a q → Kp s H H' → Sto K H' s → Q (.ref a) H'
theorem nf1112 : Nf (11, 12) := ⟨by decide, by decide⟩
theorem nf21 : Nf (2, 1) := ⟨by decide, by decide⟩
theorem nf112 : Nf (1, 12) := ⟨by decide, by decide⟩
abbrev sDPlace : Stmt := topS 50
theorem scDPlace : FnScope ["_law_store_here", "_law_spot", "_law_bottom"] ["_law_store_here"] (defScope sDPlace) := ⟨rfl, rfl, rfl, by decide +kernel, rfl, by decide +kernel, by decide +kernel⟩
theorem k_DPlace (T : Bt K mg) (D : Dfn K mg "_law_place" sDPlace ["_law_store_here"]) (d__law_take : Kn P w K mg base 2 "_law_take" ["_law_store_here", "_law_many"] (spTake K)) (d__law_lowest : Kn P w K mg base 2 "_law_lowest" ["_law_top", "_law_bottom"] (spLowest K)) : Kn P w K mg base 3 "_law_place" ["_law_store_here"] (spDPlace K 10) := by
  refine Kn.mk' D scDPlace (fun vs H Q E h => ?_) (fun f cdv A outer s H vs Q E hr h => ?_)
  · obtain ⟨s, rfl, _⟩ := h
    rfl
  obtain ⟨s, rfl, hS, k⟩ := h
  refine ⟨_, (pss_cons (ps_set (i := 1) scDPlace.nd rfl (.inl rfl) (pe_kn d__law_take hr (by rfl) (pa_cons (pv 0) (pa_cons pe_int pa_nil))))
      (pss_cons (ps_if (pt_cmpR op_lt (pv 1) pe_int (nomark _)) (pss_one (ps_ret (pe_ix ix_any (pe_ls (pa_cons (pe_tp (pa_cons pe_int (pa_cons pe_int pa_nil))) (pa_cons (pe_tp (pa_cons pe_int (pa_cons pe_int pa_nil))) (pa_cons (pe_tp (pa_cons pe_int (pa_cons pe_int pa_nil))) pa_nil)))) (pv 1) (fun _ _ => rfl)))) pss_nil)
      (pss_cons (ps_set (i := 2) scDPlace.nd rfl (.inl rfl) (pe_op op_add pe_int (pe_kn d__law_take hr (by rfl) (pa_cons (pv 0) (pa_cons pe_int pa_nil)))))
      (pss_one (ps_ret (pe_kn d__law_lowest hr (by rfl) (pa_cons (pe_kn d__law_take hr (by rfl) (pa_cons (pv 0) (pa_cons (pv 2) pa_nil))) (pa_cons (pv 2) pa_nil)))))))), ?_⟩
  simp only [cx_K, decide_true, decide_false, reduceCtorEq, gTp, gCons, gNil, ca_0, ca_1, ca_2, ca_3, ca_4, ca_5, ca_6, ca_7, ca_8, ca_9, ca_10, ca_11, ca_12, ca_13, ca_14, ca_15, ca_16, ca_17, ca_18, ca_19, ca_20, ca_21, ca_22, ca_23, ca_24, ca_25, ca_26, ca_27, ca_28, ca_29, ca_30, not_true_eq_false, not_false_eq_true, Int.reduceEq, Nat.reduceEqDiff, Nat.reduceLeDiff, rGcd, V.ty.injEq, eq_self, List.not_mem_nil, beq_self_eq_true, HO.lst.injEq, HO.tup.injEq, tFor_eq, iRng1, iList, iTup, nat10, tSeq, rIxA, rSetA, rIsN, rIsT, tTp, tLs, itsO_tup, itsO_lst, tyO_tup, tyO_lst, tyO_dK, tyN_non, tyN_bl, tyN_int, tyN_str, tyN_ref, tyNs_lt, isB, upd_same, upd_upd, sizeLine_eq, List.mem_cons, String.reduceBEq, String.reduceEq, Bool.or_false, Bool.or_true, Bool.and_false, Bool.false_or, Bool.and_self, Bool.false_and, Bool.not_false, Bool.not_true, List.any_cons, List.any_nil, atI_0, setI_0, atI_1, setI_1, atI_2, setI_2, atI_3, setI_3, atI_4, setI_4, atI_5, setI_5, atI_6, setI_6, tAsg, gName, tOp, tUn, tVar, tC, tCons, L2.tNil, tRet, tIfS, tTest, tCB, tCall, rI, rI0, rU, tNext, tB, tAnd, tOr, tNot, tAndV, tOrV, tNotV, tDrop, tIf, tPar, gSub, rIxL, rIxT, rEq, rNe, rSetL, tBits,
    L2.start, List.map_cons, List.map_nil, List.cons_append, List.nil_append, List.append_nil, List.length_cons, List.length_nil, List.replicate, Nat.reduceAdd, Nat.reduceSub, Nat.zero_add, List.getElem?_cons_zero, List.getElem?_cons_succ, List.set_cons_zero, List.set_cons_succ,
    Option.some.injEq, exists_eq_left', exists_eq_left, V.int.injEq, V.bl.injEq, V.ref.injEq, V.str.injEq, List.cons.injEq, reduceCtorEq, and_true, true_and, false_and, and_false, exists_false, or_false, false_or, or_true, true_or, exists_const, CMul, CDiv, CPow, and_assoc, exists_and_left, exists_and_right, Int.reducePow, Int.reduceNeg, Int.reduceLT, Int.reduceLE, Nat.reducePow, Nat.reduceLT, Int.reduceToNat, gt_iff_lt, ge_iff_le, decide_eq_true_eq, Bool.not_eq_true', decide_eq_false_iff_not, scal, ↓reduceIte, Bool.false_eq_true]
  refine ⟨s, 12, rfl, hS, by omega, fun i H1 z0 z1 kp st => ?_⟩
  simp only [cx_K, decide_true, decide_false, reduceCtorEq, gTp, gCons, gNil, ca_0, ca_1, ca_2, ca_3, ca_4, ca_5, ca_6, ca_7, ca_8, ca_9, ca_10, ca_11, ca_12, ca_13, ca_14, ca_15, ca_16, ca_17, ca_18, ca_19, ca_20, ca_21, ca_22, ca_23, ca_24, ca_25, ca_26, ca_27, ca_28, ca_29, ca_30, not_true_eq_false, not_false_eq_true, Int.reduceEq, Nat.reduceEqDiff, Nat.reduceLeDiff, rGcd, V.ty.injEq, eq_self, List.not_mem_nil, beq_self_eq_true, HO.lst.injEq, HO.tup.injEq, tFor_eq, iRng1, iList, iTup, nat10, tSeq, rIxA, rSetA, rIsN, rIsT, tTp, tLs, itsO_tup, itsO_lst, tyO_tup, tyO_lst, tyO_dK, tyN_non, tyN_bl, tyN_int, tyN_str, tyN_ref, tyNs_lt, isB, upd_same, upd_upd, sizeLine_eq, List.mem_cons, String.reduceBEq, String.reduceEq, Bool.or_false, Bool.or_true, Bool.and_false, Bool.false_or, Bool.and_self, Bool.false_and, Bool.not_false, Bool.not_true, List.any_cons, List.any_nil, atI_0, setI_0, atI_1, setI_1, atI_2, setI_2, atI_3, setI_3, atI_4, setI_4, atI_5, setI_5, atI_6, setI_6, tAsg, gName, tOp, tUn, tVar, tC, tCons, L2.tNil, tRet, tIfS, tTest, tCB, tCall, rI, rI0, rU, tNext, tB, tAnd, tOr, tNot, tAndV, tOrV, tNotV, tDrop, tIf, tPar, gSub, rIxL, rIxT, rEq, rNe, rSetL, tBits,
    L2.start, List.map_cons, List.map_nil, List.cons_append, List.nil_append, List.append_nil, List.length_cons, List.length_nil, List.replicate, Nat.reduceAdd, Nat.reduceSub, Nat.zero_add, List.getElem?_cons_zero, List.getElem?_cons_succ, List.set_cons_zero, List.set_cons_succ,
    Option.some.injEq, exists_eq_left', exists_eq_left, V.int.injEq, V.bl.injEq, V.ref.injEq, V.str.injEq, List.cons.injEq, reduceCtorEq, and_true, true_and, false_and, and_false, exists_false, or_false, false_or, or_true, true_or, exists_const, CMul, CDiv, CPow, and_assoc, exists_and_left, exists_and_right, Int.reducePow, Int.reduceNeg, Int.reduceLT, Int.reduceLE, Nat.reducePow, Nat.reduceLT, Int.reduceToNat, gt_iff_lt, ge_iff_le, decide_eq_true_eq, Bool.not_eq_true', decide_eq_false_iff_not, scal, ↓reduceIte, Bool.false_eq_true]
  refine ite2 (fun h => ?_) (fun h => ?_)
  · intro p1 h1 k1 p2 h2 k2 p3 h3 k3 p4 h4 k4
    rw [ob_new k4]
    simp only [cx_K, decide_true, decide_false, reduceCtorEq, gTp, gCons, gNil, ca_0, ca_1, ca_2, ca_3, ca_4, ca_5, ca_6, ca_7, ca_8, ca_9, ca_10, ca_11, ca_12, ca_13, ca_14, ca_15, ca_16, ca_17, ca_18, ca_19, ca_20, ca_21, ca_22, ca_23, ca_24, ca_25, ca_26, ca_27, ca_28, ca_29, ca_30, not_true_eq_false, not_false_eq_true, Int.reduceEq, Nat.reduceEqDiff, Nat.reduceLeDiff, rGcd, V.ty.injEq, eq_self, List.not_mem_nil, beq_self_eq_true, HO.lst.injEq, HO.tup.injEq, tFor_eq, iRng1, iList, iTup, nat10, tSeq, rIxA, rSetA, rIsN, rIsT, tTp, tLs, itsO_tup, itsO_lst, tyO_tup, tyO_lst, tyO_dK, tyN_non, tyN_bl, tyN_int, tyN_str, tyN_ref, tyNs_lt, isB, upd_same, upd_upd, sizeLine_eq, List.mem_cons, String.reduceBEq, String.reduceEq, Bool.or_false, Bool.or_true, Bool.and_false, Bool.false_or, Bool.and_self, Bool.false_and, Bool.not_false, Bool.not_true, List.any_cons, List.any_nil, atI_0, setI_0, atI_1, setI_1, atI_2, setI_2, atI_3, setI_3, atI_4, setI_4, atI_5, setI_5, atI_6, setI_6, tAsg, gName, tOp, tUn, tVar, tC, tCons, L2.tNil, tRet, tIfS, tTest, tCB, tCall, rI, rI0, rU, tNext, tB, tAnd, tOr, tNot, tAndV, tOrV, tNotV, tDrop, tIf, tPar, gSub, rIxL, rIxT, rEq, rNe, rSetL, tBits,
    L2.start, List.map_cons, List.map_nil, List.cons_append, List.nil_append, List.append_nil, List.length_cons, List.length_nil, List.replicate, Nat.reduceAdd, Nat.reduceSub, Nat.zero_add, List.getElem?_cons_zero, List.getElem?_cons_succ, List.set_cons_zero, List.set_cons_succ,
    Option.some.injEq, exists_eq_left', exists_eq_left, V.int.injEq, V.bl.injEq, V.ref.injEq, V.str.injEq, List.cons.injEq, reduceCtorEq, and_true, true_and, false_and, and_false, exists_false, or_false, false_or, or_true, true_or, exists_const, CMul, CDiv, CPow, and_assoc, exists_and_left, exists_and_right, Int.reducePow, Int.reduceNeg, Int.reduceLT, Int.reduceLE, Nat.reducePow, Nat.reduceLT, Int.reduceToNat, gt_iff_lt, ge_iff_le, decide_eq_true_eq, Bool.not_eq_true', decide_eq_false_iff_not, scal, ↓reduceIte, Bool.false_eq_true]
    refine menu z0 (by show i < 3; omega) fun v hv => ?_
    simp only [List.mem_cons, List.not_mem_nil, or_false] at hv
    rcases hv with rfl | rfl | rfl
    · exact k _ _ _ ⟨⟨ob_same ((Same.new h2 _).trans ((Same.new h3 _).trans (Same.new h4 _))) (ob_new k1), nf01, sz10 (by decide) (by decide)⟩, by decide, by decide⟩ (kp.trans (Kp.same ((Same.new h1 _).trans ((Same.new h2 _).trans ((Same.new h3 _).trans (Same.new h4 _)))))) (st.same ((Same.new h1 _).trans ((Same.new h2 _).trans ((Same.new h3 _).trans (Same.new h4 _)))))
    · exact k _ _ _ ⟨⟨ob_same ((Same.new h3 _).trans (Same.new h4 _)) (ob_new k2), nf12, sz10 (by decide) (by decide)⟩, by decide, by decide⟩ (kp.trans (Kp.same ((Same.new h1 _).trans ((Same.new h2 _).trans ((Same.new h3 _).trans (Same.new h4 _)))))) (st.same ((Same.new h1 _).trans ((Same.new h2 _).trans ((Same.new h3 _).trans (Same.new h4 _)))))
    · exact k _ _ _ ⟨⟨ob_same (Same.new h4 _) (ob_new k3), nf1112, sz10 (by decide) (by decide)⟩, by decide, by decide⟩ (kp.trans (Kp.same ((Same.new h1 _).trans ((Same.new h2 _).trans ((Same.new h3 _).trans (Same.new h4 _)))))) (st.same ((Same.new h1 _).trans ((Same.new h2 _).trans ((Same.new h3 _).trans (Same.new h4 _)))))
  · refine ⟨s, 12, rfl, st, by omega, fun j H2 j0 j1 kp2 st2 => ?_⟩
    simp only [cx_K, decide_true, decide_false, reduceCtorEq, gTp, gCons, gNil, ca_0, ca_1, ca_2, ca_3, ca_4, ca_5, ca_6, ca_7, ca_8, ca_9, ca_10, ca_11, ca_12, ca_13, ca_14, ca_15, ca_16, ca_17, ca_18, ca_19, ca_20, ca_21, ca_22, ca_23, ca_24, ca_25, ca_26, ca_27, ca_28, ca_29, ca_30, not_true_eq_false, not_false_eq_true, Int.reduceEq, Nat.reduceEqDiff, Nat.reduceLeDiff, rGcd, V.ty.injEq, eq_self, List.not_mem_nil, beq_self_eq_true, HO.lst.injEq, HO.tup.injEq, tFor_eq, iRng1, iList, iTup, nat10, tSeq, rIxA, rSetA, rIsN, rIsT, tTp, tLs, itsO_tup, itsO_lst, tyO_tup, tyO_lst, tyO_dK, tyN_non, tyN_bl, tyN_int, tyN_str, tyN_ref, tyNs_lt, isB, upd_same, upd_upd, sizeLine_eq, List.mem_cons, String.reduceBEq, String.reduceEq, Bool.or_false, Bool.or_true, Bool.and_false, Bool.false_or, Bool.and_self, Bool.false_and, Bool.not_false, Bool.not_true, List.any_cons, List.any_nil, atI_0, setI_0, atI_1, setI_1, atI_2, setI_2, atI_3, setI_3, atI_4, setI_4, atI_5, setI_5, atI_6, setI_6, tAsg, gName, tOp, tUn, tVar, tC, tCons, L2.tNil, tRet, tIfS, tTest, tCB, tCall, rI, rI0, rU, tNext, tB, tAnd, tOr, tNot, tAndV, tOrV, tNotV, tDrop, tIf, tPar, gSub, rIxL, rIxT, rEq, rNe, rSetL, tBits,
    L2.start, List.map_cons, List.map_nil, List.cons_append, List.nil_append, List.append_nil, List.length_cons, List.length_nil, List.replicate, Nat.reduceAdd, Nat.reduceSub, Nat.zero_add, List.getElem?_cons_zero, List.getElem?_cons_succ, List.set_cons_zero, List.set_cons_succ,
    Option.some.injEq, exists_eq_left', exists_eq_left, V.int.injEq, V.bl.injEq, V.ref.injEq, V.str.injEq, List.cons.injEq, reduceCtorEq, and_true, true_and, false_and, and_false, exists_false, or_false, false_or, or_true, true_or, exists_const, CMul, CDiv, CPow, and_assoc, exists_and_left, exists_and_right, Int.reducePow, Int.reduceNeg, Int.reduceLT, Int.reduceLE, Nat.reducePow, Nat.reduceLT, Int.reduceToNat, gt_iff_lt, ge_iff_le, decide_eq_true_eq, Bool.not_eq_true', decide_eq_false_iff_not, scal, ↓reduceIte, Bool.false_eq_true]
    refine ⟨s, _, rfl, st2, by omega, fun m H3 m0 m1 kp3 st3 => ?_⟩
    simp only [cx_K, decide_true, decide_false, reduceCtorEq, gTp, gCons, gNil, ca_0, ca_1, ca_2, ca_3, ca_4, ca_5, ca_6, ca_7, ca_8, ca_9, ca_10, ca_11, ca_12, ca_13, ca_14, ca_15, ca_16, ca_17, ca_18, ca_19, ca_20, ca_21, ca_22, ca_23, ca_24, ca_25, ca_26, ca_27, ca_28, ca_29, ca_30, not_true_eq_false, not_false_eq_true, Int.reduceEq, Nat.reduceEqDiff, Nat.reduceLeDiff, rGcd, V.ty.injEq, eq_self, List.not_mem_nil, beq_self_eq_true, HO.lst.injEq, HO.tup.injEq, tFor_eq, iRng1, iList, iTup, nat10, tSeq, rIxA, rSetA, rIsN, rIsT, tTp, tLs, itsO_tup, itsO_lst, tyO_tup, tyO_lst, tyO_dK, tyN_non, tyN_bl, tyN_int, tyN_str, tyN_ref, tyNs_lt, isB, upd_same, upd_upd, sizeLine_eq, List.mem_cons, String.reduceBEq, String.reduceEq, Bool.or_false, Bool.or_true, Bool.and_false, Bool.false_or, Bool.and_self, Bool.false_and, Bool.not_false, Bool.not_true, List.any_cons, List.any_nil, atI_0, setI_0, atI_1, setI_1, atI_2, setI_2, atI_3, setI_3, atI_4, setI_4, atI_5, setI_5, atI_6, setI_6, tAsg, gName, tOp, tUn, tVar, tC, tCons, L2.tNil, tRet, tIfS, tTest, tCB, tCall, rI, rI0, rU, tNext, tB, tAnd, tOr, tNot, tAndV, tOrV, tNotV, tDrop, tIf, tPar, gSub, rIxL, rIxT, rEq, rNe, rSetL, tBits,
    L2.start, List.map_cons, List.map_nil, List.cons_append, List.nil_append, List.append_nil, List.length_cons, List.length_nil, List.replicate, Nat.reduceAdd, Nat.reduceSub, Nat.zero_add, List.getElem?_cons_zero, List.getElem?_cons_succ, List.set_cons_zero, List.set_cons_succ,
    Option.some.injEq, exists_eq_left', exists_eq_left, V.int.injEq, V.bl.injEq, V.ref.injEq, V.str.injEq, List.cons.injEq, reduceCtorEq, and_true, true_and, false_and, and_false, exists_false, or_false, false_or, or_true, true_or, exists_const, CMul, CDiv, CPow, and_assoc, exists_and_left, exists_and_right, Int.reducePow, Int.reduceNeg, Int.reduceLT, Int.reduceLE, Nat.reducePow, Nat.reduceLT, Int.reduceToNat, gt_iff_lt, ge_iff_le, decide_eq_true_eq, Bool.not_eq_true', decide_eq_false_iff_not, scal, ↓reduceIte, Bool.false_eq_true]
    refine ⟨_, _, rfl, ?_, fun q hq p H4 s4 o4 => ?_⟩
    · have e : 2 ^ 10 ≤ 2 ^ 8000 := Nat.pow_le_pow_right (by omega) (by omega)
      omega
    · have hI := hq.2 (show 1 + j ≠ 0 by omega)
      have hz := is_in hI m0 (by omega)
      exact k p q H4 ⟨⟨o4, hI.1, is_sz (by omega) hI (by omega) (by omega)⟩, hz.1, hz.2⟩ (((kp.trans kp2).trans kp3).trans (Kp.same s4)) (st3.same s4)
abbrev sDPlaceW : Stmt := topS 51
theorem scDPlaceW : FnScope ["_law_store_here", "_law_bottom"] ["_law_store_here"] (defScope sDPlaceW) := ⟨rfl, rfl, rfl, by decide +kernel, rfl, by decide +kernel, by decide +kernel⟩
theorem k_DPlaceW (T : Bt K mg) (D : Dfn K mg "_law_place_wide" sDPlaceW ["_law_store_here"]) (d__law_take : Kn P w K mg base 2 "_law_take" ["_law_store_here", "_law_many"] (spTake K)) (d__law_lowest : Kn P w K mg base 2 "_law_lowest" ["_law_top", "_law_bottom"] (spLowest K)) (d__law_place : Kn P w K mg base 3 "_law_place" ["_law_store_here"] (spDPlace K 10)) (d__law_great : Kn P w K mg base 3 "_law_great" ["_law_store_here"] (spInt K fun n => n.natAbs < 2 ^ 133)) : Kn P w K mg base 4 "_law_place_wide" ["_law_store_here"] (spDPlace K 133) := by
  refine Kn.mk' D scDPlaceW (fun vs H Q E h => ?_) (fun f cdv A outer s H vs Q E hr h => ?_)
  · obtain ⟨s, rfl, _⟩ := h
    rfl
  obtain ⟨s, rfl, hS, k⟩ := h
  refine ⟨_, (pss_cons (ps_if (pt_cmpR op_gt (pe_kn d__law_take hr (by rfl) (pa_cons (pv 0) (pa_cons pe_int pa_nil))) pe_int (nomark _)) (pss_one (ps_ret (pe_kn d__law_place hr (by rfl) (pa_cons (pv 0) pa_nil)))) pss_nil)
      (pss_cons (ps_set (i := 1) scDPlaceW.nd rfl (.inl rfl) (pe_callB (call_max2 rfl) (by rfl) T.b_max (by decide +kernel) (pa_cons pe_int (pa_cons (pe_callB call_abs (by rfl) T.b_abs (by decide +kernel) (pa_cons (pe_kn d__law_great hr (by rfl) (pa_cons (pv 0) pa_nil)) pa_nil)) pa_nil))))
      (pss_one (ps_ret (pe_kn d__law_lowest hr (by rfl) (pa_cons (pe_kn d__law_take hr (by rfl) (pa_cons (pv 0) (pa_cons (pv 1) pa_nil))) (pa_cons (pv 1) pa_nil))))))), ?_⟩
  simp only [cx_K, decide_true, decide_false, reduceCtorEq, gTp, gCons, gNil, ca_0, ca_1, ca_2, ca_3, ca_4, ca_5, ca_6, ca_7, ca_8, ca_9, ca_10, ca_11, ca_12, ca_13, ca_14, ca_15, ca_16, ca_17, ca_18, ca_19, ca_20, ca_21, ca_22, ca_23, ca_24, ca_25, ca_26, ca_27, ca_28, ca_29, ca_30, not_true_eq_false, not_false_eq_true, Int.reduceEq, Nat.reduceEqDiff, Nat.reduceLeDiff, rGcd, V.ty.injEq, eq_self, List.not_mem_nil, beq_self_eq_true, HO.lst.injEq, HO.tup.injEq, tFor_eq, iRng1, iList, iTup, nat10, tSeq, rIxA, rSetA, rIsN, rIsT, tTp, tLs, itsO_tup, itsO_lst, tyO_tup, tyO_lst, tyO_dK, tyN_non, tyN_bl, tyN_int, tyN_str, tyN_ref, tyNs_lt, isB, upd_same, upd_upd, sizeLine_eq, List.mem_cons, String.reduceBEq, String.reduceEq, Bool.or_false, Bool.or_true, Bool.and_false, Bool.false_or, Bool.and_self, Bool.false_and, Bool.not_false, Bool.not_true, List.any_cons, List.any_nil, atI_0, setI_0, atI_1, setI_1, atI_2, setI_2, atI_3, setI_3, atI_4, setI_4, atI_5, setI_5, atI_6, setI_6, tAsg, gName, tOp, tUn, tVar, tC, tCons, L2.tNil, tRet, tIfS, tTest, tCB, tCall, rI, rI0, rU, tNext, tB, tAnd, tOr, tNot, tAndV, tOrV, tNotV, tDrop, tIf, tPar, gSub, rIxL, rIxT, rEq, rNe, rSetL, tBits,
    L2.start, List.map_cons, List.map_nil, List.cons_append, List.nil_append, List.append_nil, List.length_cons, List.length_nil, List.replicate, Nat.reduceAdd, Nat.reduceSub, Nat.zero_add, List.getElem?_cons_zero, List.getElem?_cons_succ, List.set_cons_zero, List.set_cons_succ,
    Option.some.injEq, exists_eq_left', exists_eq_left, V.int.injEq, V.bl.injEq, V.ref.injEq, V.str.injEq, List.cons.injEq, reduceCtorEq, and_true, true_and, false_and, and_false, exists_false, or_false, false_or, or_true, true_or, exists_const, CMul, CDiv, CPow, and_assoc, exists_and_left, exists_and_right, Int.reducePow, Int.reduceNeg, Int.reduceLT, Int.reduceLE, Nat.reducePow, Nat.reduceLT, Int.reduceToNat, gt_iff_lt, ge_iff_le, decide_eq_true_eq, Bool.not_eq_true', decide_eq_false_iff_not, scal, ↓reduceIte, Bool.false_eq_true]
  refine ⟨s, 8, rfl, hS, by omega, fun i H1 z0 z1 kp st => ?_⟩
  simp only [cx_K, decide_true, decide_false, reduceCtorEq, gTp, gCons, gNil, ca_0, ca_1, ca_2, ca_3, ca_4, ca_5, ca_6, ca_7, ca_8, ca_9, ca_10, ca_11, ca_12, ca_13, ca_14, ca_15, ca_16, ca_17, ca_18, ca_19, ca_20, ca_21, ca_22, ca_23, ca_24, ca_25, ca_26, ca_27, ca_28, ca_29, ca_30, not_true_eq_false, not_false_eq_true, Int.reduceEq, Nat.reduceEqDiff, Nat.reduceLeDiff, rGcd, V.ty.injEq, eq_self, List.not_mem_nil, beq_self_eq_true, HO.lst.injEq, HO.tup.injEq, tFor_eq, iRng1, iList, iTup, nat10, tSeq, rIxA, rSetA, rIsN, rIsT, tTp, tLs, itsO_tup, itsO_lst, tyO_tup, tyO_lst, tyO_dK, tyN_non, tyN_bl, tyN_int, tyN_str, tyN_ref, tyNs_lt, isB, upd_same, upd_upd, sizeLine_eq, List.mem_cons, String.reduceBEq, String.reduceEq, Bool.or_false, Bool.or_true, Bool.and_false, Bool.false_or, Bool.and_self, Bool.false_and, Bool.not_false, Bool.not_true, List.any_cons, List.any_nil, atI_0, setI_0, atI_1, setI_1, atI_2, setI_2, atI_3, setI_3, atI_4, setI_4, atI_5, setI_5, atI_6, setI_6, tAsg, gName, tOp, tUn, tVar, tC, tCons, L2.tNil, tRet, tIfS, tTest, tCB, tCall, rI, rI0, rU, tNext, tB, tAnd, tOr, tNot, tAndV, tOrV, tNotV, tDrop, tIf, tPar, gSub, rIxL, rIxT, rEq, rNe, rSetL, tBits,
    L2.start, List.map_cons, List.map_nil, List.cons_append, List.nil_append, List.append_nil, List.length_cons, List.length_nil, List.replicate, Nat.reduceAdd, Nat.reduceSub, Nat.zero_add, List.getElem?_cons_zero, List.getElem?_cons_succ, List.set_cons_zero, List.set_cons_succ,
    Option.some.injEq, exists_eq_left', exists_eq_left, V.int.injEq, V.bl.injEq, V.ref.injEq, V.str.injEq, List.cons.injEq, reduceCtorEq, and_true, true_and, false_and, and_false, exists_false, or_false, false_or, or_true, true_or, exists_const, CMul, CDiv, CPow, and_assoc, exists_and_left, exists_and_right, Int.reducePow, Int.reduceNeg, Int.reduceLT, Int.reduceLE, Nat.reducePow, Nat.reduceLT, Int.reduceToNat, gt_iff_lt, ge_iff_le, decide_eq_true_eq, Bool.not_eq_true', decide_eq_false_iff_not, scal, ↓reduceIte, Bool.false_eq_true]
  have big : 2 ^ 133 ≤ 2 ^ 8000 := Nat.pow_le_pow_right (by omega) (by omega)
  refine ite2 (fun h => ?_) (fun h => ?_)
  · exact ⟨s, rfl, st, fun a q H2 hq kp2 st2 => k a q H2 (hq.mono (by omega)) (kp.trans kp2) st2⟩
  · refine ⟨s, rfl, st, fun b H3 hb kp3 st3 => ?_⟩
    simp only [abs_if, cx_K, decide_true, decide_false, reduceCtorEq, gTp, gCons, gNil, ca_0, ca_1, ca_2, ca_3, ca_4, ca_5, ca_6, ca_7, ca_8, ca_9, ca_10, ca_11, ca_12, ca_13, ca_14, ca_15, ca_16, ca_17, ca_18, ca_19, ca_20, ca_21, ca_22, ca_23, ca_24, ca_25, ca_26, ca_27, ca_28, ca_29, ca_30, not_true_eq_false, not_false_eq_true, Int.reduceEq, Nat.reduceEqDiff, Nat.reduceLeDiff, rGcd, V.ty.injEq, eq_self, List.not_mem_nil, beq_self_eq_true, HO.lst.injEq, HO.tup.injEq, tFor_eq, iRng1, iList, iTup, nat10, tSeq, rIxA, rSetA, rIsN, rIsT, tTp, tLs, itsO_tup, itsO_lst, tyO_tup, tyO_lst, tyO_dK, tyN_non, tyN_bl, tyN_int, tyN_str, tyN_ref, tyNs_lt, isB, upd_same, upd_upd, sizeLine_eq, List.mem_cons, String.reduceBEq, String.reduceEq, Bool.or_false, Bool.or_true, Bool.and_false, Bool.false_or, Bool.and_self, Bool.false_and, Bool.not_false, Bool.not_true, List.any_cons, List.any_nil, atI_0, setI_0, atI_1, setI_1, atI_2, setI_2, atI_3, setI_3, atI_4, setI_4, atI_5, setI_5, atI_6, setI_6, tAsg, gName, tOp, tUn, tVar, tC, tCons, L2.tNil, tRet, tIfS, tTest, tCB, tCall, rI, rI0, rU, tNext, tB, tAnd, tOr, tNot, tAndV, tOrV, tNotV, tDrop, tIf, tPar, gSub, rIxL, rIxT, rEq, rNe, rSetL, tBits,
    L2.start, List.map_cons, List.map_nil, List.cons_append, List.nil_append, List.append_nil, List.length_cons, List.length_nil, List.replicate, Nat.reduceAdd, Nat.reduceSub, Nat.zero_add, List.getElem?_cons_zero, List.getElem?_cons_succ, List.set_cons_zero, List.set_cons_succ,
    Option.some.injEq, exists_eq_left', exists_eq_left, V.int.injEq, V.bl.injEq, V.ref.injEq, V.str.injEq, List.cons.injEq, reduceCtorEq, and_true, true_and, false_and, and_false, exists_false, or_false, false_or, or_true, true_or, exists_const, CMul, CDiv, CPow, and_assoc, exists_and_left, exists_and_right, Int.reducePow, Int.reduceNeg, Int.reduceLT, Int.reduceLE, Nat.reducePow, Nat.reduceLT, Int.reduceToNat, gt_iff_lt, ge_iff_le, decide_eq_true_eq, Bool.not_eq_true', decide_eq_false_iff_not, scal, ↓reduceIte, Bool.false_eq_true]
    have hd : 1 ≤ (if 1 < (b.natAbs : Int) then (b.natAbs : Int) else 1) ∧ (if 1 < (b.natAbs : Int) then (b.natAbs : Int) else 1).natAbs < 2 ^ 133 := by
      have hb' : b.natAbs < 2 ^ 133 := hb
      split <;> refine ⟨by omega, by omega⟩
    generalize (if 1 < (b.natAbs : Int) then (b.natAbs : Int) else 1) = d at hd ⊢
    refine ⟨s, d, rfl, st3, by omega, fun t H2 t0 t1 kp2 st2 => ⟨_, _, rfl, by omega, fun q hq p H4 s4 o4 => ?_⟩⟩
    have hI := hq.2 (by omega)
    have hz := is_in hI t0 (by omega)
    exact k p q H4 ⟨⟨o4, hI.1, is_sz (by omega) hI (by omega) hd.2⟩, hz.1, hz.2⟩ (((kp.trans kp3).trans kp2).trans (Kp.same s4)) (st2.same s4)
def spDPos (K : PySem.W.Frag) : Sp := fun vs H Q _ => ∃ (s : Addr), vs = [.ref s] ∧ Sto K H s ∧ ∀ a q H', (Fq K H' 10 a q ∧ 0 < q.1) → Kp s H H' → Sto K H' s → Q (.ref a) H'
def spDNz (K : PySem.W.Frag) : Sp := fun vs H Q _ => ∃ (s : Addr), vs = [.ref s] ∧ Sto K H s ∧ ∀ a q H', Fq K H' 10 a q → q.1 ≠ 0 → Kp s H H' → Sto K H' s → Q (.ref a) H'
theorem is_pos {q : Qt} {t b : Int} (h : Is q t b) (h0 : 0 < t) (h1 : 0 < b) : 0 < q.1 := by
  have e := h.2
  have n := h.1.1
  refine Int.not_le.mp fun c => ?_
  have z1 : 0 < t * q.2 := Int.mul_pos h0 (by omega)
  have z2 : q.1 * b ≤ 0 := Int.mul_nonpos_of_nonpos_of_nonneg c (by omega)
  omega
def spMoment (K : PySem.W.Frag) : Sp := fun vs H Q _ => ∃ (s : Addr) (r : Int), vs = [.ref s, .int r] ∧ Sto K H s ∧ 1 ≤ r ∧ r < 2 ^ 60 ∧ ∀ a q H', Fq K H' 70 a q → Kp s H H' → Sto K H' s → Q (.ref a) H'
abbrev sDMoment : Stmt := topS 52
theorem scDMoment : FnScope ["_law_store_here", "_law_reach", "_law_spot", "_law_bottom"] ["_law_store_here", "_law_reach"] (defScope sDMoment) := ⟨rfl, rfl, rfl, by decide +kernel, rfl, by decide +kernel, by decide +kernel⟩
theorem k_DMoment (T : Bt K mg) (D : Dfn K mg "_law_moment" sDMoment ["_law_store_here", "_law_reach"]) (d__law_take : Kn P w K mg base 2 "_law_take" ["_law_store_here", "_law_many"] (spTake K)) (d__law_lowest : Kn P w K mg base 2 "_law_lowest" ["_law_top", "_law_bottom"] (spLowest K)) (d__law_whole : Kn P w K mg base 3 "_law_whole" ["_law_store_here", "_law_reach"] (spLInt K)) : Kn P w K mg base 4 "_law_moment" ["_law_store_here", "_law_reach"] (spMoment K) := by
  refine Kn.mk' D scDMoment (fun vs H Q E h => ?_) (fun f cdv A outer s H vs Q E hr h => ?_)
  · obtain ⟨s, r, rfl, _⟩ := h
    rfl
  obtain ⟨s, r, rfl, hS, hr1, hr2, k⟩ := h
  refine ⟨_, (pss_cons (ps_set (i := 2) scDMoment.nd rfl (.inl rfl) (pe_kn d__law_take hr (by rfl) (pa_cons (pv 0) (pa_cons pe_int pa_nil))))
      (pss_cons (ps_if (pt_cmpR op_lt (pv 2) pe_int (nomark _)) (pss_one (ps_ret (pe_tp (pa_cons (pe_kn d__law_whole hr (by rfl) (pa_cons (pv 0) (pa_cons (pv 1) pa_nil))) (pa_cons pe_int pa_nil))))) pss_nil)
      (pss_cons (ps_set (i := 3) scDMoment.nd rfl (.inl rfl) (pe_op op_add pe_int (pe_kn d__law_take hr (by rfl) (pa_cons (pv 0) (pa_cons pe_int pa_nil)))))
      (pss_one (ps_ret (pe_kn d__law_lowest hr (by rfl) (pa_cons (pe_op op_sub (pe_kn d__law_take hr (by rfl) (pa_cons (pv 0) (pa_cons (pe_op op_add (pe_op op_mulW (pe_op op_mul pe_int (pv 1)) (pv 3)) pe_int) pa_nil))) (pe_op op_mulW (pv 1) (pv 3))) (pa_cons (pv 3) pa_nil)))))))), ?_⟩
  simp only [cx_K, decide_true, decide_false, reduceCtorEq, gTp, gCons, gNil, ca_0, ca_1, ca_2, ca_3, ca_4, ca_5, ca_6, ca_7, ca_8, ca_9, ca_10, ca_11, ca_12, ca_13, ca_14, ca_15, ca_16, ca_17, ca_18, ca_19, ca_20, ca_21, ca_22, ca_23, ca_24, ca_25, ca_26, ca_27, ca_28, ca_29, ca_30, not_true_eq_false, not_false_eq_true, Int.reduceEq, Nat.reduceEqDiff, Nat.reduceLeDiff, rGcd, V.ty.injEq, eq_self, List.not_mem_nil, beq_self_eq_true, HO.lst.injEq, HO.tup.injEq, tFor_eq, iRng1, iList, iTup, nat10, tSeq, rIxA, rSetA, rIsN, rIsT, tTp, tLs, itsO_tup, itsO_lst, tyO_tup, tyO_lst, tyO_dK, tyN_non, tyN_bl, tyN_int, tyN_str, tyN_ref, tyNs_lt, isB, upd_same, upd_upd, sizeLine_eq, List.mem_cons, String.reduceBEq, String.reduceEq, Bool.or_false, Bool.or_true, Bool.and_false, Bool.false_or, Bool.and_self, Bool.false_and, Bool.not_false, Bool.not_true, List.any_cons, List.any_nil, atI_0, setI_0, atI_1, setI_1, atI_2, setI_2, atI_3, setI_3, atI_4, setI_4, atI_5, setI_5, atI_6, setI_6, tAsg, gName, tOp, tUn, tVar, tC, tCons, L2.tNil, tRet, tIfS, tTest, tCB, tCall, rI, rI0, rU, tNext, tB, tAnd, tOr, tNot, tAndV, tOrV, tNotV, tDrop, tIf, tPar, gSub, rIxL, rIxT, rEq, rNe, rSetL, tBits,
    L2.start, List.map_cons, List.map_nil, List.cons_append, List.nil_append, List.append_nil, List.length_cons, List.length_nil, List.replicate, Nat.reduceAdd, Nat.reduceSub, Nat.zero_add, List.getElem?_cons_zero, List.getElem?_cons_succ, List.set_cons_zero, List.set_cons_succ,
    Option.some.injEq, exists_eq_left', exists_eq_left, V.int.injEq, V.bl.injEq, V.ref.injEq, V.str.injEq, List.cons.injEq, reduceCtorEq, and_true, true_and, false_and, and_false, exists_false, or_false, false_or, or_true, true_or, exists_const, CMul, CDiv, CPow, and_assoc, exists_and_left, exists_and_right, Int.reducePow, Int.reduceNeg, Int.reduceLT, Int.reduceLE, Nat.reducePow, Nat.reduceLT, Int.reduceToNat, gt_iff_lt, ge_iff_le, decide_eq_true_eq, Bool.not_eq_true', decide_eq_false_iff_not, scal, ↓reduceIte, Bool.false_eq_true]
  refine ⟨s, 12, rfl, hS, by omega, fun i H1 z0 z1 kp st => ?_⟩
  simp only [cx_K, decide_true, decide_false, reduceCtorEq, gTp, gCons, gNil, ca_0, ca_1, ca_2, ca_3, ca_4, ca_5, ca_6, ca_7, ca_8, ca_9, ca_10, ca_11, ca_12, ca_13, ca_14, ca_15, ca_16, ca_17, ca_18, ca_19, ca_20, ca_21, ca_22, ca_23, ca_24, ca_25, ca_26, ca_27, ca_28, ca_29, ca_30, not_true_eq_false, not_false_eq_true, Int.reduceEq, Nat.reduceEqDiff, Nat.reduceLeDiff, rGcd, V.ty.injEq, eq_self, List.not_mem_nil, beq_self_eq_true, HO.lst.injEq, HO.tup.injEq, tFor_eq, iRng1, iList, iTup, nat10, tSeq, rIxA, rSetA, rIsN, rIsT, tTp, tLs, itsO_tup, itsO_lst, tyO_tup, tyO_lst, tyO_dK, tyN_non, tyN_bl, tyN_int, tyN_str, tyN_ref, tyNs_lt, isB, upd_same, upd_upd, sizeLine_eq, List.mem_cons, String.reduceBEq, String.reduceEq, Bool.or_false, Bool.or_true, Bool.and_false, Bool.false_or, Bool.and_self, Bool.false_and, Bool.not_false, Bool.not_true, List.any_cons, List.any_nil, atI_0, setI_0, atI_1, setI_1, atI_2, setI_2, atI_3, setI_3, atI_4, setI_4, atI_5, setI_5, atI_6, setI_6, tAsg, gName, tOp, tUn, tVar, tC, tCons, L2.tNil, tRet, tIfS, tTest, tCB, tCall, rI, rI0, rU, tNext, tB, tAnd, tOr, tNot, tAndV, tOrV, tNotV, tDrop, tIf, tPar, gSub, rIxL, rIxT, rEq, rNe, rSetL, tBits,
    L2.start, List.map_cons, List.map_nil, List.cons_append, List.nil_append, List.append_nil, List.length_cons, List.length_nil, List.replicate, Nat.reduceAdd, Nat.reduceSub, Nat.zero_add, List.getElem?_cons_zero, List.getElem?_cons_succ, List.set_cons_zero, List.set_cons_succ,
    Option.some.injEq, exists_eq_left', exists_eq_left, V.int.injEq, V.bl.injEq, V.ref.injEq, V.str.injEq, List.cons.injEq, reduceCtorEq, and_true, true_and, false_and, and_false, exists_false, or_false, false_or, or_true, true_or, exists_const, CMul, CDiv, CPow, and_assoc, exists_and_left, exists_and_right, Int.reducePow, Int.reduceNeg, Int.reduceLT, Int.reduceLE, Nat.reducePow, Nat.reduceLT, Int.reduceToNat, gt_iff_lt, ge_iff_le, decide_eq_true_eq, Bool.not_eq_true', decide_eq_false_iff_not, scal, ↓reduceIte, Bool.false_eq_true]
  refine ite2 (fun h => ?_) (fun h => ?_)
  · refine ⟨s, r, rfl, st, hr1, by omega, fun n H2 n0 n1 kp2 st2 => ?_⟩
    try simp only [cx_K, decide_true, decide_false, reduceCtorEq, gTp, gCons, gNil, ca_0, ca_1, ca_2, ca_3, ca_4, ca_5, ca_6, ca_7, ca_8, ca_9, ca_10, ca_11, ca_12, ca_13, ca_14, ca_15, ca_16, ca_17, ca_18, ca_19, ca_20, ca_21, ca_22, ca_23, ca_24, ca_25, ca_26, ca_27, ca_28, ca_29, ca_30, not_true_eq_false, not_false_eq_true, Int.reduceEq, Nat.reduceEqDiff, Nat.reduceLeDiff, rGcd, V.ty.injEq, eq_self, List.not_mem_nil, beq_self_eq_true, HO.lst.injEq, HO.tup.injEq, tFor_eq, iRng1, iList, iTup, nat10, tSeq, rIxA, rSetA, rIsN, rIsT, tTp, tLs, itsO_tup, itsO_lst, tyO_tup, tyO_lst, tyO_dK, tyN_non, tyN_bl, tyN_int, tyN_str, tyN_ref, tyNs_lt, isB, upd_same, upd_upd, sizeLine_eq, List.mem_cons, String.reduceBEq, String.reduceEq, Bool.or_false, Bool.or_true, Bool.and_false, Bool.false_or, Bool.and_self, Bool.false_and, Bool.not_false, Bool.not_true, List.any_cons, List.any_nil, atI_0, setI_0, atI_1, setI_1, atI_2, setI_2, atI_3, setI_3, atI_4, setI_4, atI_5, setI_5, atI_6, setI_6, tAsg, gName, tOp, tUn, tVar, tC, tCons, L2.tNil, tRet, tIfS, tTest, tCB, tCall, rI, rI0, rU, tNext, tB, tAnd, tOr, tNot, tAndV, tOrV, tNotV, tDrop, tIf, tPar, gSub, rIxL, rIxT, rEq, rNe, rSetL, tBits,
    L2.start, List.map_cons, List.map_nil, List.cons_append, List.nil_append, List.append_nil, List.length_cons, List.length_nil, List.replicate, Nat.reduceAdd, Nat.reduceSub, Nat.zero_add, List.getElem?_cons_zero, List.getElem?_cons_succ, List.set_cons_zero, List.set_cons_succ,
    Option.some.injEq, exists_eq_left', exists_eq_left, V.int.injEq, V.bl.injEq, V.ref.injEq, V.str.injEq, List.cons.injEq, reduceCtorEq, and_true, true_and, false_and, and_false, exists_false, or_false, false_or, or_true, true_or, exists_const, CMul, CDiv, CPow, and_assoc, exists_and_left, exists_and_right, Int.reducePow, Int.reduceNeg, Int.reduceLT, Int.reduceLE, Nat.reducePow, Nat.reduceLT, Int.reduceToNat, gt_iff_lt, ge_iff_le, decide_eq_true_eq, Bool.not_eq_true', decide_eq_false_iff_not, scal, ↓reduceIte, Bool.false_eq_true]
    intro p hp kn
    exact k p (n, 1) _ ⟨ob_new kn, nf_int n, sz_of (by omega) (by decide)⟩ ((kp.trans kp2).trans (Kp.same (Same.new hp _))) (st2.same (Same.new hp _))
  · refine ⟨s, 12, rfl, st, by omega, fun j H2 j0 j1 kp2 st2 => ?_⟩
    simp only [cx_K, decide_true, decide_false, reduceCtorEq, gTp, gCons, gNil, ca_0, ca_1, ca_2, ca_3, ca_4, ca_5, ca_6, ca_7, ca_8, ca_9, ca_10, ca_11, ca_12, ca_13, ca_14, ca_15, ca_16, ca_17, ca_18, ca_19, ca_20, ca_21, ca_22, ca_23, ca_24, ca_25, ca_26, ca_27, ca_28, ca_29, ca_30, not_true_eq_false, not_false_eq_true, Int.reduceEq, Nat.reduceEqDiff, Nat.reduceLeDiff, rGcd, V.ty.injEq, eq_self, List.not_mem_nil, beq_self_eq_true, HO.lst.injEq, HO.tup.injEq, tFor_eq, iRng1, iList, iTup, nat10, tSeq, rIxA, rSetA, rIsN, rIsT, tTp, tLs, itsO_tup, itsO_lst, tyO_tup, tyO_lst, tyO_dK, tyN_non, tyN_bl, tyN_int, tyN_str, tyN_ref, tyNs_lt, isB, upd_same, upd_upd, sizeLine_eq, List.mem_cons, String.reduceBEq, String.reduceEq, Bool.or_false, Bool.or_true, Bool.and_false, Bool.false_or, Bool.and_self, Bool.false_and, Bool.not_false, Bool.not_true, List.any_cons, List.any_nil, atI_0, setI_0, atI_1, setI_1, atI_2, setI_2, atI_3, setI_3, atI_4, setI_4, atI_5, setI_5, atI_6, setI_6, tAsg, gName, tOp, tUn, tVar, tC, tCons, L2.tNil, tRet, tIfS, tTest, tCB, tCall, rI, rI0, rU, tNext, tB, tAnd, tOr, tNot, tAndV, tOrV, tNotV, tDrop, tIf, tPar, gSub, rIxL, rIxT, rEq, rNe, rSetL, tBits,
    L2.start, List.map_cons, List.map_nil, List.cons_append, List.nil_append, List.append_nil, List.length_cons, List.length_nil, List.replicate, Nat.reduceAdd, Nat.reduceSub, Nat.zero_add, List.getElem?_cons_zero, List.getElem?_cons_succ, List.set_cons_zero, List.set_cons_succ,
    Option.some.injEq, exists_eq_left', exists_eq_left, V.int.injEq, V.bl.injEq, V.ref.injEq, V.str.injEq, List.cons.injEq, reduceCtorEq, and_true, true_and, false_and, and_false, exists_false, or_false, false_or, or_true, true_or, exists_const, CMul, CDiv, CPow, and_assoc, exists_and_left, exists_and_right, Int.reducePow, Int.reduceNeg, Int.reduceLT, Int.reduceLE, Nat.reducePow, Nat.reduceLT, Int.reduceToNat, gt_iff_lt, ge_iff_le, decide_eq_true_eq, Bool.not_eq_true', decide_eq_false_iff_not, scal, ↓reduceIte, Bool.false_eq_true]
    have b1 : (r * (1 + j)).natAbs < 2 ^ 66 := szMono (szMul (a := 60) (b := 4) (by omega) (by omega)) (by omega)
    have b2 : 2 * r * (1 + j) = 2 * (r * (1 + j)) := Int.mul_assoc _ _ _
    have m1 : CMulW (2 * r) (1 + j) := mulW (a := 62) (b := 4) (by omega) (by omega) (by omega)
    have m2 : CMulW r (1 + j) := mulW (a := 60) (b := 4) (by omega) (by omega) (by omega)
    have rr : 0 ≤ r * (1 + j) := Int.mul_nonneg (by omega) (by omega)
    refine ⟨m1, s, _, rfl, st2, by omega, fun m H3 m0 m1 kp3 st3 => ?_⟩
    try simp only [cx_K, decide_true, decide_false, reduceCtorEq, gTp, gCons, gNil, ca_0, ca_1, ca_2, ca_3, ca_4, ca_5, ca_6, ca_7, ca_8, ca_9, ca_10, ca_11, ca_12, ca_13, ca_14, ca_15, ca_16, ca_17, ca_18, ca_19, ca_20, ca_21, ca_22, ca_23, ca_24, ca_25, ca_26, ca_27, ca_28, ca_29, ca_30, not_true_eq_false, not_false_eq_true, Int.reduceEq, Nat.reduceEqDiff, Nat.reduceLeDiff, rGcd, V.ty.injEq, eq_self, List.not_mem_nil, beq_self_eq_true, HO.lst.injEq, HO.tup.injEq, tFor_eq, iRng1, iList, iTup, nat10, tSeq, rIxA, rSetA, rIsN, rIsT, tTp, tLs, itsO_tup, itsO_lst, tyO_tup, tyO_lst, tyO_dK, tyN_non, tyN_bl, tyN_int, tyN_str, tyN_ref, tyNs_lt, isB, upd_same, upd_upd, sizeLine_eq, List.mem_cons, String.reduceBEq, String.reduceEq, Bool.or_false, Bool.or_true, Bool.and_false, Bool.false_or, Bool.and_self, Bool.false_and, Bool.not_false, Bool.not_true, List.any_cons, List.any_nil, atI_0, setI_0, atI_1, setI_1, atI_2, setI_2, atI_3, setI_3, atI_4, setI_4, atI_5, setI_5, atI_6, setI_6, tAsg, gName, tOp, tUn, tVar, tC, tCons, L2.tNil, tRet, tIfS, tTest, tCB, tCall, rI, rI0, rU, tNext, tB, tAnd, tOr, tNot, tAndV, tOrV, tNotV, tDrop, tIf, tPar, gSub, rIxL, rIxT, rEq, rNe, rSetL, tBits,
    L2.start, List.map_cons, List.map_nil, List.cons_append, List.nil_append, List.append_nil, List.length_cons, List.length_nil, List.replicate, Nat.reduceAdd, Nat.reduceSub, Nat.zero_add, List.getElem?_cons_zero, List.getElem?_cons_succ, List.set_cons_zero, List.set_cons_succ,
    Option.some.injEq, exists_eq_left', exists_eq_left, V.int.injEq, V.bl.injEq, V.ref.injEq, V.str.injEq, List.cons.injEq, reduceCtorEq, and_true, true_and, false_and, and_false, exists_false, or_false, false_or, or_true, true_or, exists_const, CMul, CDiv, CPow, and_assoc, exists_and_left, exists_and_right, Int.reducePow, Int.reduceNeg, Int.reduceLT, Int.reduceLE, Nat.reducePow, Nat.reduceLT, Int.reduceToNat, gt_iff_lt, ge_iff_le, decide_eq_true_eq, Bool.not_eq_true', decide_eq_false_iff_not, scal, ↓reduceIte, Bool.false_eq_true]
    refine ⟨m2, _, _, rfl, ?_, fun q hq p H4 s4 o4 => ?_⟩
    · have e : 2 ^ 10 ≤ 2 ^ 8000 := Nat.pow_le_pow_right (by omega) (by omega)
      omega
    · have hI := hq.2 (show 1 + j ≠ 0 by omega)
      exact k p q H4 ⟨o4, hI.1, is_sz (by omega) hI (by omega) (by omega)⟩ (((kp.trans kp2).trans kp3).trans (Kp.same s4)) (st3.same s4)
end
end My

namespace My
open PySem PySem.Spec PyProof.Rows L2
/-! ### C.m(..), m a static method -/
/-- C.m is a staticmethod: its record at p, its def at g -/
structure SMet (K : PySem.W.Frag) (C : Addr) (mc : Value) (m : Str) (p g : Addr) : Prop where
  at_ : PySem.W.findCls K (.ref C) mc m = some (.get (.builtin "staticmethod.__get__") (.ref p) .none (.ref C))
  rc : ∃ rest, PySem.W.recIn K p "staticmethod" = some (.ref g :: rest)
  kp : PySem.W.keepIn K (.ref g) = true
def tSMeth (C : Addr) (sp : Sp) (dvs : List V) (E : XK) (ta : TE) (t : TA) : TE := fun σ H Q => ta σ H fun x H1 => x = .ref C ∧ t σ H1 fun vs H2 => sp (vs ++ dvs) H2 Q E
section
variable {X : Cx} {CX : CXT} {k : Nat} {C p g : Addr} {mc : Value} {sp : Sp} {E : XK} {o e : Expr} {es : List Expr} {m : Str} {pos apos : Pos} {ta : TE} {t : TA} {pl : Sem Bool} {fd : FuncData} {ps : List Str} {ds : List Value} {dvs : List V}
theorem getsmet_ok {pins : List (Addr × Obj)} {σ : L2.St} {H : Hp} {s : Shared} {A : Around} {E : Value → Shared → Prop} {b : Bool} {Q : Value → Shared → Prop} (I : Inv X pins σ H s) (r : ClX.CRead X.K C mc) (c : SMet X.K C mc m p g)
    (h : ∀ s', Inv X pins σ H s' → Q (.ref g) s') : wpAny (model X.prog X.w) A (getAttr (.ref C) m b) Q E s := by
  obtain ⟨rest, hp⟩ := c.rc
  refine PySem.W.cls_bind I.kIn r.rd c.at_ ?_
  exact wpAny_call (PySem.W.sm_get (s := { s with toks := s.toks + 1 }) I.kIn hp (PySem.W.handed_on rfl (h _ (I.tok _))))
theorem pe_smeth (he : PE X o ta) (r : ClX.CRead X.K C mc) (c : SMet X.K C mc m p g) (F : FnOk X.prog X.w X.K X.mg X.base CX k g fd ps sp) (hr : Room k X.A) (hb : Binds X.K fd ps ds) (hd : Vals dvs ds) (hx : Passes CX X E) (ha : PA X (e :: es) t)
    (hst : starEach (e :: es) X.env = (false, eval e X.env) :: starEach es X.env := by rfl) (hpl : (backTo pos (starEach es X.env)).any (·.1) = false := by rfl)
    (ht : eval (.Call (.Attribute o m apos) (e :: es) [] pos) X.env = (do
      let ov ← eval o X.env
      standAt apos.atName
      let (f, first) ← holding [ov] (getMethod ov m pl)
      callWith pos f first (backTo pos (starEach (e :: es) X.env)) (backToKw pos (keywordEach [] X.env))) := by rfl) :
    PE X (.Call (.Attribute o m apos) (e :: es) [] pos) (tSMeth C sp dvs E ta t) := by
  refine ⟨fun pins s σ H Q I h => ?_⟩
  refine PySem.W.methodCall_KW (pl := pl) (thn (he.run pins s σ H _ I h) fun u s1 ⟨x, H1, I1, rx, ex, q⟩ => ?_) ht
  subst ex
  obtain rfl : u = Value.ref C := rx
  refine PySem.W.method_cls I1.kIn r.ga (getsmet_ok I1 r c fun s2 I2 => ?_)
  refine PySem.W.callWith_K (h₀ := X.base) I2.ok.mod.kin c.kp (thn (ha.run pos pins s2 σ H1 _ I2 q) fun us s3 ⟨vs, H2, I3, rv, q2⟩ => ⟨I3.kIn, ?_⟩) hst hpl
  exact run_fn F hr hb hd hx I3 rv q2
end
section
variable {P : Program} {w : World} {K : PySem.W.Frag} {mg : Str → Option Value} {base : Heap}
/-! ### the == of two fractions -/
def rEqF (K : PySem.W.Frag) : R2 := fun x y H Q => ∃ (a b : Addr) (p q : Qt), x = .ref a ∧ y = .ref b ∧ ob K H a = some (.tup [.int p.1, .int p.2]) ∧ ob K H b = some (.tup [.int q.1, .int q.2]) ∧ Q (.bl (decide (p = q))) H
def rNeF (K : PySem.W.Frag) : R2 := fun x y H Q => ∃ (a b : Addr) (p q : Qt), x = .ref a ∧ y = .ref b ∧ ob K H a = some (.tup [.int p.1, .int p.2]) ∧ ob K H b = some (.tup [.int q.1, .int q.2]) ∧ Q (.bl (!decide (p = q))) H
theorem dp_fr {H : Hp} {a : Addr} {p : Qt} (h : ob K H a = some (.tup [.int p.1, .int p.2])) : Dp K H (.ref a) (.tuple [.int p.1, .int p.2]) := .tup (ob_tup h) (.cons (.int _) (.cons (.int _) .nil))
theorem eqv_fr (p q : Qt) : PyData.eqv (.tuple [.int p.1, .int p.2]) (.tuple [.int q.1, .int q.2]) = decide (p = q) := by
  show ((p.1 == q.1) && ((p.2 == q.2) && true)) = decide (p = q)
  rw [Bool.and_true]
  by_cases h : p = q
  · subst h
    simp
  · rw [decide_eq_false h]
    by_cases h1 : p.1 = q.1
    · have h2 : p.2 ≠ q.2 := fun z => h (Prod.ext h1 z)
      simp [h1, h2]
    · simp [h1]
theorem op_eqF {X : Cx} {j : Nat} (hr : Room j X.A) : OpR X (compareOp .Eq) (rEqF X.K) := fun pins s σ H x y v u Q I rx ry h => by
  obtain ⟨a, b, p, q, ex, ey, oa, ob', k⟩ := h
  subst ex ey
  refine op_eqD (by have := hr.un; omega) pins s σ H _ _ v u Q I rx ry ⟨_, _, dp_fr oa, dp_fr ob', rfl, rfl, ?_⟩
  rw [eqv_fr]
  exact k
theorem op_neF {X : Cx} {j : Nat} (hr : Room j X.A) : OpR X (compareOp .NotEq) (rNeF X.K) := fun pins s σ H x y v u Q I rx ry h => by
  obtain ⟨a, b, p, q, ex, ey, oa, ob', k⟩ := h
  subst ex ey
  refine op_neD (by have := hr.un; omega) pins s σ H _ _ v u Q I rx ry ⟨_, _, dp_fr oa, dp_fr ob', rfl, rfl, ?_⟩
  rw [eqv_fr]
  exact k
end
end My

namespace My
open PySem PySem.Spec PyProof.Rows L2
/-! ### own == of instances with a dict, any answer -/
def rOwnD (K : PySem.W.Frag) (C : Addr) (sp : Sp) (E : XK) : R2 := fun x y H Q => ∃ a dx fs b C' dy gs, x = .ref a ∧ y = .ref b ∧ H a = some (.ins C dx fs) ∧ H b = some (.ins C' dy gs) ∧ PySem.W.notFirst K C (.ref C') = true ∧ sp [x, y] H Q E
theorem op_ownD {X : Cx} {CX : CXT} {n : Nat} {C g : Addr} {fd : FuncData} {ps : List Str} {sp : Sp} {E : XK} {op : CmpOp} (hop : ∀ a b, compareOp op a b = richCompare op a b) (hs : PySem.W.findIn X.K (.ref C) (cmpInfo op).2.1 = some (some (.ref g))) (hf : PySem.W.isFn X.K (.ref g) = true) (F : FnOk X.prog X.w X.K X.mg X.base CX n g fd ps sp) (hb : Binds X.K fd ps [])
    (hr : Room n X.A) (hx : Passes CX X E) : OpR X (compareOp op) (rOwnD X.K C sp E) := by
  intro pins s σ H x y v u Q I rx ry h
  obtain ⟨a, dx, fs, b, C', dy, gs, rfl, rfl, ha, hb', hn, q⟩ := h
  cases (show v = Value.ref a from rx)
  cases (show u = Value.ref b from ry)
  obtain ⟨mA, J, _⟩ := ins_get I.hok ha
  obtain ⟨mB, J', _⟩ := ins_get I.hok hb'
  obtain ⟨od, J, _⟩ := J.look
  obtain ⟨od', J', _⟩ := J'.look
  obtain ⟨m, hF⟩ := I.fr
  rw [hop]
  refine PySem.W.cmp_K (op := op) (tb := .ref C') hr.units0 hF I.ok.mod.kin J J'.type hn hs hf ?_
  refine wpAny_mono (run_fn (us := [.ref a, .ref b]) (vs := [.ref a, .ref b]) F hr hb .nil hx I (.cons rfl (.cons rfl .nil)) q) (fun w s' z => ?_) fun _ _ x => x
  obtain ⟨z', H', I', rz, qz⟩ := z
  exact SlX.cmpback rz ⟨z', H', I', rz, qz⟩
/-! ### own + and - of two instances of one class -/
def rBinD (C : Addr) (sp : Sp) (E : XK) : R2 := fun x y H Q => ∃ a dx fs b dy gs, x = .ref a ∧ y = .ref b ∧ H a = some (.ins C dx fs) ∧ H b = some (.ins C dy gs) ∧ sp [x, y] H Q E
theorem op_binD {X : Cx} {CX : CXT} {n : Nat} {C g : Addr} {fd : FuncData} {ps : List Str} {sp : Sp} {E : XK} {op : Operator} (hc : PySem.W.selfFirst X.K C = true) (hs : PySem.W.findIn X.K (.ref C) (PySem.dunder op.info.2) = some (some (.ref g))) (hf : PySem.W.isFn X.K (.ref g) = true) (F : FnOk X.prog X.w X.K X.mg X.base CX n g fd ps sp) (hb : Binds X.K fd ps [])
    (hr : Room n X.A) (hx : Passes CX X E) : OpR X (binaryOp op) (rBinD C sp E) := by
  intro pins s σ H x y v u Q I rx ry h
  obtain ⟨a, dx, fs, b, dy, gs, rfl, rfl, ha, hb', q⟩ := h
  cases (show v = Value.ref a from rx)
  cases (show u = Value.ref b from ry)
  obtain ⟨mA, J, _⟩ := ins_get I.hok ha
  obtain ⟨mB, J', _⟩ := ins_get I.hok hb'
  obtain ⟨od, J, _⟩ := J.look
  obtain ⟨od', J', _⟩ := J'.look
  obtain ⟨m, hF⟩ := I.fr
  refine PySem.W.binop_K (op := op) hF I.ok.mod.kin J J'.type hc hs hf ?_
  refine wpAny_mono (run_fn (us := [.ref a, .ref b]) (vs := [.ref a, .ref b]) F hr hb .nil hx I (.cons rfl (.cons rfl .nil)) q) (fun w s' z => ?_) fun _ _ x => x
  obtain ⟨z', H', I', rz, qz⟩ := z
  exact SlX.cmpback rz ⟨z', H', I', rz, qz⟩
/-- own - before an instance -/
def rNegD (C : Addr) (sp : Sp) (E : XK) : V → Hp → VK → Prop := fun x H Q => ∃ a dx fs, x = .ref a ∧ H a = some (.ins C dx fs) ∧ sp [x] H Q E
theorem un_negD {X : Cx} {CX : CXT} {n : Nat} {C g : Addr} {fd : FuncData} {ps : List Str} {sp : Sp} {E : XK} (hs : PySem.W.findIn X.K (.ref C) "__neg__" = some (some (.ref g))) (hf : PySem.W.isFn X.K (.ref g) = true) (F : FnOk X.prog X.w X.K X.mg X.base CX n g fd ps sp) (hb : Binds X.K fd ps [])
    (hr : Room n X.A) (hx : Passes CX X E) : UnR X (unaryOp .USub) (rNegD C sp E) := by
  intro pins s σ H x v Q I rx h
  obtain ⟨a, dx, fs, rfl, ha, q⟩ := h
  cases (show v = Value.ref a from rx)
  obtain ⟨mA, J, _⟩ := ins_get I.hok ha
  obtain ⟨od, J, _⟩ := J.look
  obtain ⟨m, hF⟩ := I.fr
  refine PySem.W.ksp_neg hF I.ok.mod.kin J hs hf ?_
  exact run_fn (us := [.ref a]) (vs := [.ref a]) F hr hb .nil hx I (.cons rfl .nil) q
end My

namespace My
open PySem PySem.Spec PySem.Calls PySem.W PyProof.Rows
/-! ### != of instances whose class has an own == alone -/
section
variable {prog : Program} {w : World} {A : Around} {E : Value → Shared → Prop} {s : Shared} {K : Frag} {x C L f : Addr} {h₀ : Heap} {m : Str → Option Value} {ox : Obj} {od : Option Obj}
theorem ifBound_B {M : Model} {id : String} {name : Str} {args : List Value} {Q : Option Value → Shared → Prop} (X : K.In s.heap) (I : InstAt s.heap x ox C od) (hs : findIn K (.ref C) name = some (some (.builtin id))) (hbind : bindSpecial (.builtin id) (.ref x) = pure (.builtin id, [.ref x]))
    (h : wpAny M A (call (.builtin id) (.ref x :: args)) (fun v => Q (some v)) E s) : wpAny M A (callSpecialIfBound? (.ref x) name args) Q E s := by
  simp only [callSpecialIfBound?, bindSpecialIfBound?]
  refine wpAny_holding (wpAny_bind (wpAny_bind (wpAny_bind (I.type.here ((looks_findIn X hs).here ?_)))))
  simp only [hbind]
  refine wpAny_bind (wpAny_askSetting (wpAny_ite ?_))
  have fin : wpAny M A (call (.builtin id) ([.ref x] ++ args) >>= fun v => pure (some v)) Q E s := wpAny_bind (wpAny_mono h (fun v s' h' => wpAny_pure h') fun _ _ h' => h')
  split
  · exact wpAny_bind (wpAny_pure (wpAny_pure fin))
  · exact wpAny_tryCatch (wpAny_bind (wpAny_pure (wpAny_pure fin)))
theorem ne_entry {b : Value} {Q : Fin → Shared → Prop} (hu : A.units < cLine) (X : K.In s.heap) (I : InstAt s.heap x ox C od) (hs : findIn K (.ref C) "__eq__" = some (some (.ref f))) (hf : isFn K (.ref f) = true)
    (h : wpAny (model prog w) A (call (.ref f) [.ref x, b]) (fun v s' => ∃ c, v = .bool c ∧ Q (.done (.ret (.bool !c))) s') E s) : wpAny (model prog w) A (Builtin.«object.__ne__» ⟨[.ref x, b], []⟩) Q E s := by
  unfold Builtin.«object.__ne__»
  refine wpAny_bind (wpAny_of_eq (show slotArgs "__ne__" 1 ⟨[.ref x, b], []⟩ = pure (Value.ref x, [b]) from rfl) ?_)
  dsimp only
  refine wpAny_bind (wpAny_cRoomFor hu (wpAny_bind (ifBound_K X I hs hf (wpAny_mono h (fun v s' hv => ?_) fun _ _ e => e))))
  obtain ⟨c, rfl, q⟩ := hv
  dsimp only
  exact wpAny_bind (wpAny_truthy_bool (wpAny_pure q))
/-- the call of object.__ne__ -/
theorem ne_call {b : Value} {Q : Value → Shared → Prop} (hu : A.units + 1 < cLine) (X : K.In s.heap) (I : InstAt s.heap x ox C od) (hp : plainOver K C = true) (hs : findIn K (.ref C) "__eq__" = some (some (.ref f))) (hf : isFn K (.ref f) = true)
    (h : wpAny (model prog w) A.in1 (call (.ref f) [.ref x, b]) (fun v s' => ∃ c, v = .bool c ∧ Q (.bool !c) s') E s) : wpAny (model prog w) A (call (.builtin "object.__ne__") [.ref x, b]) Q E s := by
  obtain ⟨cd, hc, ho⟩ := any_some hp
  have ne : cd.mro.isEmpty = false := by cases q : cd.mro with | nil => rw [q] at ho; cases ho | cons _ _ => rfl
  have sub : Looks (model prog w) s.heap (isInstance (.ref x) (.type "object")) true := I.type.andThen (looks_mroIn X (by unfold mroIn; rw [hc, Option.bind_some, if_neg (by rw [ne]; decide), only_has ho]))
  refine wpAny_call (codeAny_call_builtin F.cmp_object.ne.plain F.cmpEntry_ne (check_slot F.cmpKind_ne F.cmpSplit_ne sub (F.cmpArgs_ne _ _) ?_))
  refine ne_entry (A := A.in1) hu X I hs hf (wpAny_mono h (fun v s' hv => ?_) fun _ _ e => e)
  obtain ⟨c, rfl, q⟩ := hv
  exact ⟨c, rfl, q⟩
theorem ne_K {tb b : Value} {Q : Value → Shared → Prop} (hu : A.units + 1 < cLine) (F₀ : Fr h₀ L s.heap m) (X₀ : K.In h₀) (I : InstAt s.heap x ox C od) (hb : Looks (model prog w) s.heap (typeOf b) tb) (hn : notFirst K C tb = true) (hp : plainOver K C = true)
    (hne : findIn K (.ref C) "__ne__" = some (some (.builtin "object.__ne__"))) (hs : findIn K (.ref C) "__eq__" = some (some (.ref f))) (hf : isFn K (.ref f) = true)
    (h : wpAny (model prog w) A.in1 (call (.ref f) [.ref x, b]) (fun v s' => ∃ c, v = .bool c ∧ Q (.bool !c) s') E s) : wpAny (model prog w) A (richCompare .NotEq (.ref x) b) Q E s := by
  have X := X₀.keeps F₀.keep
  have one : wpAny (model prog w) A (tryCompare (.ref x) (cmpInfo .NotEq).2.1 b) (fun r s' => ∃ c, r = some (.bool c) ∧ Q (.bool c) s') E s := by
    unfold tryCompare
    refine wpAny_bind (ifBound_B X I hne (F.cmp_object.ne.bind _) (ne_call hu X I hp hs hf (wpAny_mono h (fun v s' hv => ?_) fun _ _ e => e)))
    obtain ⟨c, rfl, q⟩ := hv
    exact ⟨c, rfl, wpAny_pure ⟨_, rfl, q⟩⟩
  unfold richCompare
  simp only [oneThing_ref]
  refine wpAny_holding (wpAny_bind (wpAny_cRoomFor (by omega) ?_))
  refine wpAny_bind (I.type.here (wpAny_bind (hb.here ?_)))
  split
  · rename_i q
    have e : subIn K tb (.ref C) = some false := by
      rcases Bool.or_eq_true_iff.mp hn with e | e
      · rw [beq_iff_eq.mp e] at q; simp at q
      · exact beq_iff_eq.mp e
    refine wpAny_bind ((looks_subIn X e).here ?_)
    simp only [Bool.false_eq_true, if_false]
    refine wpAny_bind (wpAny_mono one (fun r s' z => ?_) fun _ _ e => e)
    obtain ⟨v, rfl, hq⟩ := z
    exact wpAny_pure hq
  · refine wpAny_bind (wpAny_pure ?_)
    simp only [Bool.false_eq_true, if_false]
    refine wpAny_bind (wpAny_mono one (fun r s' z => ?_) fun _ _ e => e)
    obtain ⟨v, rfl, hq⟩ := z
    exact wpAny_pure hq
end
end My
namespace My
open PySem PySem.Spec PyProof.Rows L2
def rNeOwnD (K : PySem.W.Frag) (C : Addr) (sp : Sp) (E : XK) : R2 := fun x y H Q => ∃ a dx fs b C' dy gs, x = .ref a ∧ y = .ref b ∧ H a = some (.ins C dx fs) ∧ H b = some (.ins C' dy gs) ∧ PySem.W.notFirst K C (.ref C') = true ∧ sp [x, y] H (fun v H' => ∃ c, v = .bl c ∧ Q (.bl !c) H') E
theorem op_neOwnD {X : Cx} {CX : CXT} {n : Nat} {C g : Addr} {fd : FuncData} {ps : List Str} {sp : Sp} {E : XK} (hp : PySem.W.plainOver X.K C = true) (hne : PySem.W.findIn X.K (.ref C) "__ne__" = some (some (.builtin "object.__ne__"))) (hs : PySem.W.findIn X.K (.ref C) "__eq__" = some (some (.ref g))) (hf : PySem.W.isFn X.K (.ref g) = true) (F : FnOk X.prog X.w X.K X.mg X.base CX n g fd ps sp) (hb : Binds X.K fd ps [])
    (hr : Room (n + 1) X.A) (hx : Passes CX X E) : OpR X (compareOp .NotEq) (rNeOwnD X.K C sp E) := by
  intro pins s σ H x y v u Q I rx ry h
  obtain ⟨a, dx, fs, b, C', dy, gs, rfl, rfl, ha, hb', hn, q⟩ := h
  cases (show v = Value.ref a from rx)
  cases (show u = Value.ref b from ry)
  obtain ⟨mA, J, _⟩ := ins_get I.hok ha
  obtain ⟨mB, J', _⟩ := ins_get I.hok hb'
  obtain ⟨od, J, _⟩ := J.look
  obtain ⟨od', J', _⟩ := J'.look
  obtain ⟨m, hF⟩ := I.fr
  show wpAny (model X.prog X.w) X.A (richCompare .NotEq (.ref a) (.ref b)) (EP X pins σ Q) X.xe s
  refine ne_K (tb := .ref C') (by have := hr.un; omega) hF I.ok.mod.kin J J'.type hn hp hne hs hf ?_
  have hl := F.len _ _ _ _ q
  have r2 : Vals [V.ref a, V.ref b] [Value.ref a, Value.ref b] := .cons rfl (.cons rfl .nil)
  refine wpAny_call (codeAny_mono (F.run X.A.in1 X.stack s H ⟨[.ref a, .ref b], []⟩ [.ref a, .ref b] [.ref a, .ref b] _ E hr.in1 I.env0.in1 (by
    have := hb s [.ref a, .ref b] I.kIn (by simpa using hl)
    simpa using this) r2 q) fun r s' hq => ?_)
  cases r with
  | error e => exact hx pins σ H s e s' I hq
  | ok fl =>
    cases fl with
    | ret w =>
      obtain ⟨z, H', I', rz, c, ez, qz⟩ := I.after hq
      subst ez
      cases rz
      exact ⟨c, rfl, .bl !c, H', I', rfl, qz⟩
    | next => exact False.elim hq
    | brk => exact False.elim hq
    | cont => exact False.elim hq
end My

namespace My
open PySem PySem.Spec PyProof.Rows L2
section
variable {P : Program} {w : World} {K : PySem.W.Frag} {mg : Str → Option Value} {base : Heap}
/-- the two numbers that the program names -/
structure Two01 (K : PySem.W.Frag) (mg : Str → Option Value) (z o : Addr) : Prop where
  g_ZERO : mg "ZERO" = some (.ref z)
  g_ONE : mg "ONE" = some (.ref o)
  oz : ∀ H, ob K H z = some (.tup [.int 0, .int 1])
  oo : ∀ H, ob K H o = some (.tup [.int 1, .int 1])
theorem sz01 {k : Nat} (h : 1 ≤ k) : Sz k (0, 1) := Sz.mono (a := 1) ⟨by decide, by decide⟩ h
theorem sz11 {k : Nat} (h : 1 ≤ k) : Sz k (1, 1) := Sz.mono (a := 1) ⟨by decide, by decide⟩ h
/-- the period of a rate -/
def PerOk (K : PySem.W.Frag) (n : Nat) (H : Hp) (p : Qt) (v : V) : Prop := (p.1 = 0 ∧ v = .non) ∨ (p.1 ≠ 0 ∧ ∃ c, v = .ref c ∧ Fq K H n c (p.2, (p.1.natAbs : Int)))
theorem PerOk.mono {n k : Nat} {H : Hp} {p : Qt} {v : V} (h : PerOk K n H p v) (l : n ≤ k) : PerOk K k H p v := h.imp id fun ⟨a, c, e, f⟩ => ⟨a, c, e, f.mono l⟩
theorem PerOk.same {n : Nat} {H H' : Hp} {p : Qt} {v : V} (h : PerOk K n H p v) (s : Same H H') : PerOk K n H' p v := h.imp id fun ⟨a, c, e, f⟩ => ⟨a, c, e, f.same s⟩
def spPeriod (K : PySem.W.Frag) : Sp := fun vs H Q _ => ∃ (a : Addr) (p : Qt) (n : Nat), vs = [.ref a] ∧ Fq K H n a p ∧ n ≤ 2900 ∧ ∀ v H', Same H H' → PerOk K n H' p v → Q v H'
theorem quo_one {p z : Qt} (hp : Nf p) (h0 : p.1 ≠ 0) (h : quo2 (1, 1) ((p.1.natAbs : Int), p.2) z) : z = (p.2, (p.1.natAbs : Int)) := by
  have n : (p.1.natAbs : Int) ≠ 0 := by omega
  have h' : Is z (1 * p.2) (1 * (p.1.natAbs : Int)) := h
  rw [Int.one_mul, Int.one_mul] at h'
  refine is_unique n h' ⟨⟨by show 1 ≤ (p.1.natAbs : Int); omega, ?_⟩, rfl⟩
  show Nat.gcd p.2.natAbs p.1.natAbs = 1
  rw [Nat.gcd_comm]
  exact hp.2
theorem nf_zero {p : Qt} (hp : Nf p) : p = (0, 1) ↔ p.1 = 0 := by
  refine ⟨fun h => by rw [h], fun h => ?_⟩
  have g := hp.2
  rw [h] at g
  have g1 : p.2.natAbs = 1 := by simpa using g
  have p2 := hp.1
  exact Prod.ext h (by show p.2 = 1; omega)
abbrev sPeriod : Stmt := topS 29
theorem scPeriod : FnScope ["rate"] ["rate"] (defScope sPeriod) := ⟨rfl, rfl, rfl, by decide +kernel, rfl, by decide +kernel, by decide +kernel⟩
theorem k_Period {z0 o0 : Addr} (C0 : Two01 K mg z0 o0) (T : Bt K mg) (D : Dfn K mg "_period_of" sPeriod ["rate"]) (d_magnitude : Kn P w K mg base 3 "magnitude" ["value"] (spUn K fun q => ((q.1.natAbs : Int), q.2))) (d_over : Kn P w K mg base 3 "over" ["left", "right"] (spQuo K)) : Kn P w K mg base 4 "_period_of" ["rate"] (spPeriod K) := by
  refine Kn.mk' D scPeriod (fun vs H Q E h => ?_) (fun f cdv A outer s H vs Q E hr h => ?_)
  · obtain ⟨a, p, n, rfl, _⟩ := h
    rfl
  obtain ⟨a, p, n, rfl, hp, hn, k⟩ := h
  refine ⟨_, (pss_cons (ps_if (pt_cmpR (op_eqF hr) (pv 0) (pe_glob (v := .ref z0) (by rfl) C0.g_ZERO rfl) (nomark _)) (pss_one (ps_ret pe_non)) pss_nil)
      (pss_one (ps_ret (pe_kn d_over hr (by rfl) (pa_cons (pe_glob (v := .ref o0) (by rfl) C0.g_ONE rfl) (pa_cons (pe_kn d_magnitude hr (by rfl) (pa_cons (pv 0) pa_nil)) pa_nil)))))), ?_⟩
  refine ⟨_, rfl, a, z0, p, (0, 1), rfl, rfl, hp.o, C0.oz _, _, rfl, ?_⟩
  refine ite2 (fun h => ?_) (fun h => ?_)
  · exact k _ H (Same.refl _) (.inl ⟨(nf_zero hp.nf).mp (of_decide_eq_true h), rfl⟩)
  · have h0 : p.1 ≠ 0 := fun z => h (decide_eq_true ((nf_zero hp.nf).mpr z))
    refine ⟨_, rfl, a, p, rfl, hp.mono (by omega), fun b H1 s1 o1 => ?_⟩
    have hz : Sz n ((p.1.natAbs : Int), p.2) := ⟨by show ((p.1.natAbs : Int)).natAbs < 2 ^ n; rw [Int.natAbs_natCast]; exact hp.sz.1, hp.sz.2⟩
    refine ⟨o0, b, (1, 1), ((p.1.natAbs : Int), p.2), rfl, ⟨C0.oo _, nf11, sz11 (by omega)⟩, ⟨o1, nf_abs hp.nf, hz.mono (by omega)⟩, by show (p.1.natAbs : Int) ≠ 0; omega, fun z hzq c H2 s2 o2 => ?_⟩
    rw [quo_one hp.nf h0 hzq] at o2
    exact k _ H2 (s1.trans s2) (.inr ⟨h0, c, rfl, o2, ⟨by show 1 ≤ (p.1.natAbs : Int); omega, by show Nat.gcd p.2.natAbs p.1.natAbs = 1; rw [Nat.gcd_comm]; exact hp.nf.2⟩, hz.2, hz.1⟩)
end
end My

namespace My
open PySem PySem.Spec PyProof.Rows L2
section
variable {P : Program} {w : World} {K : PySem.W.Frag} {mg : Str → Option Value} {base : Heap}
/-- what the text says of the class Cycle -/
structure CyC (K : PySem.W.Frag) (mg : Str → Option Value) (C : Addr) : Prop where
  cl : Cls K C
  nR : NoAttr K C "rate"
  nS : NoAttr K C "start"
  nP : NoAttr K C "period"
  g : mg "Cycle" = some (.ref C)
def cyF (a b : Addr) (v : V) : List (Str × V) := [("rate", .ref a), ("start", .ref b), ("period", v)]
/-- a Cycle at c with the rate p and the start q -/
def CyAt (K : PySem.W.Frag) (C : Addr) (n : Nat) (H : Hp) (c : Addr) (p q : Qt) : Prop := ∃ dx a b v, H c = some (.ins C dx (cyF a b v)) ∧ Fq K H n a p ∧ Pq K H n b q ∧ PerOk K n H p v
theorem CyAt.mono {C : Addr} {n k : Nat} {H : Hp} {c : Addr} {p q : Qt} (h : CyAt K C n H c p q) (l : n ≤ k) : CyAt K C k H c p q := by
  obtain ⟨dx, a, b, v, h1, h2, h3, h4⟩ := h
  exact ⟨dx, a, b, v, h1, h2.mono l, h3.mono l, h4.mono l⟩
theorem CyAt.same {C : Addr} {n : Nat} {H H' : Hp} {c : Addr} {p q : Qt} (h : CyAt K C n H c p q) (s : Same H H') : CyAt K C n H' c p q := by
  obtain ⟨dx, a, b, v, h1, h2, h3, h4⟩ := h
  exact ⟨dx, a, b, v, s _ _ h1, h2.same s, h3.same s, h4.same s⟩
theorem PerOk.kp {n : Nat} {H H' : Hp} {p : Qt} {v : V} {s : Addr} {ys : List V} (h : PerOk K n H p v) (e : Kp s H H') (hs : H s = some (.lst ys)) : PerOk K n H' p v := h.imp id fun ⟨a, c, z, f⟩ => ⟨a, c, z, f.kp e hs⟩
theorem CyAt.kp {C : Addr} {n : Nat} {H H' : Hp} {c s : Addr} {ys : List V} {p q : Qt} (h : CyAt K C n H c p q) (e : Kp s H H') (hs : H s = some (.lst ys)) : CyAt K C n H' c p q := by
  obtain ⟨dx, a, b, v, h1, h2, h3, h4⟩ := h
  exact ⟨dx, a, b, v, e _ _ (by rintro rfl; rw [hs] at h1; cases h1) h1, h2.kp e hs, h3.kp e hs, h4.kp e hs⟩
theorem cy_rate (a b : Addr) (v : V) : (cyF a b v).lookup ("rate" : Str) = some (.ref a) := rfl
theorem cy_start (a b : Addr) (v : V) : (cyF a b v).lookup ("start" : Str) = some (.ref b) := rfl
theorem cy_period (a b : Addr) (v : V) : (cyF a b v).lookup ("period" : Str) = some v := rfl
theorem cy_put1 (x y : V) : putF "start" y [(("rate" : Str), x)] = [(("rate" : Str), x), (("start" : Str), y)] := by
  show (if ("rate" : Str) = "start" then _ else _) = _
  rw [if_neg (by decide +kernel)]
  rfl
theorem cy_put2 (x y z : V) : putF "period" z [(("rate" : Str), x), (("start" : Str), y)] = [(("rate" : Str), x), (("start" : Str), y), (("period" : Str), z)] := by
  show (if ("rate" : Str) = "period" then _ else (("rate" : Str), x) :: (if ("start" : Str) = "period" then _ else _)) = _
  rw [if_neg (by decide +kernel), if_neg (by decide +kernel)]
  rfl
def spCyInit (K : PySem.W.Frag) (C : Addr) : Sp := fun vs H Q _ => ∃ (H0 : Hp) (c dx a b : Addr) (p q : Qt) (n : Nat), vs = [.ref c, .ref a, .ref b] ∧ Same H0 H ∧ H0 c = none ∧ H c = some (.ins C dx []) ∧ Fq K H0 n a p ∧ Pq K H0 n b q ∧ n ≤ 2900 ∧ ∀ H', Same H0 H' → CyAt K C n H' c p q → Q .non H'
theorem ob_put {H : Hp} {c a C dx : Addr} {fs : List (Str × V)} {o : HO} {xs : List V} (hc : H c = some (.ins C dx fs)) (h : ob K H a = some (.tup xs)) : ob K (upd H c o) a = some (.tup xs) := by
  unfold ob at h ⊢
  split
  · rename_i z hz
    rw [hz] at h
    exact h
  · rename_i hz
    rw [hz] at h
    rw [upd_ne (by rintro rfl; rw [hc] at h; cases h)]
    exact h
theorem PerOk.put {n : Nat} {H : Hp} {c C dx : Addr} {fs : List (Str × V)} {o : HO} {p : Qt} {v : V} (hc : H c = some (.ins C dx fs)) (h : PerOk K n H p v) : PerOk K n (upd H c o) p v := h.imp id fun ⟨a, d, z, f⟩ => ⟨a, d, z, ob_put hc f.o, f.nf, f.sz⟩
theorem same_put {H0 H : Hp} {c : Addr} {o : HO} (s : Same H0 H) (n : H0 c = none) : Same H0 (upd H c o) := fun b u e => by
  rw [upd_ne (ne_of_none e n)]
  exact s b u e
theorem pl_true {H : Hp} {a : Addr} {n : Nat} {q : Qt} (h : Pq K H n a q) : plOk K H (.ref a) = true := by
  rw [plOk_fr h.f.o h.f.nf, decide_eq_true h.lo, decide_eq_true h.hi]
  rfl
abbrev sCyInit : Stmt := inClass (topS 28) 0
theorem scCyInit : FnScope ["self", "rate", "start"] ["self", "rate", "start"] (defScope sCyInit) := ⟨rfl, rfl, rfl, by decide +kernel, rfl, by decide +kernel, by decide +kernel⟩
theorem ok_CyInit {C f : Addr} {fd : FuncData} (T : Bt K mg) (Y : CyC K mg C) (d_require : Kn P w K mg base 1 "require" ["well_formed", "what"] spRequire) (d_is_fraction : Kn P w K mg base 2 "is_fraction" ["value"] (spIsFraction K)) (d_is_place : Kn P w K mg base 3 "is_place" ["value"] (spIsPlace K)) (d__period_of : Kn P w K mg base 4 "_period_of" ["rate"] (spPeriod K)) {dvs : List V} (F : FunD K "__init__" "Cycle.__init__" (defArgs sCyInit) (defBody sCyInit) (defScope sCyInit) dvs [] f fd) : FnOk P w K mg base CX0 5 f fd ["self", "rate", "start"] (spCyInit K C) := by
  refine F.ok scCyInit (fun vs H Q E h => ?_) (fun cdv A outer s H vs Q E hr h => ?_)
  · obtain ⟨H0, c, dx, a, b, p, q, n, rfl, _⟩ := h
    rfl
  obtain ⟨H0, c, dx, a, b, p, q, n, rfl, s0, c0, hc, hp, hq, hn, k⟩ := h
  refine ⟨_, (pss_cons (ps_expr (pe_kn d_require hr (by rfl) (pa_cons (pe_kn d_is_fraction hr (by rfl) (pa_cons (pv 1) pa_nil)) (pa_cons pe_str pa_nil))))
      (pss_cons (ps_expr (pe_kn d_require hr (by rfl) (pa_cons (pe_kn d_is_place hr (by rfl) (pa_cons (pv 2) pa_nil)) (pa_cons pe_str pa_nil))))
      (pss_cons (ps_fld (pv 0) (pv 1) rfl)
      (pss_cons (ps_fld (pv 0) (pv 2) rfl)
      (pss_one (ps_fld (pv 0) (pe_kn d__period_of hr (by rfl) (pa_cons (pv 1) pa_nil)) rfl)))))), ?_⟩
  have ha := hp.same s0
  have hb := hq.same s0
  refine ⟨_, rfl, _, rfl, Tyd.fr ha.o, _, by rw [frOk_fr ha.o ha.nf]; rfl, _, rfl, _, rfl, Tyd.fr hb.f.o, _, by rw [pl_true hb]; rfl, ?_⟩
  refine ⟨_, rfl, _, rfl, c, C, dx, [], rfl, hc, Y.cl, Y.nR, (by show 0 < 1000; decide), _, rfl, _, rfl, c, C, dx, _, rfl, upd_same, Y.cl, Y.nS, (by show 1 < 1000; decide), ?_⟩
  have s2 : Same H0 (upd (upd H c (.ins C dx (putF "rate" (.ref a) []))) c (.ins C dx (putF "start" (.ref b) (putF "rate" (.ref a) [])))) := same_put (same_put s0 c0) c0
  have h2 := upd_same (H := upd H c (.ins C dx (putF "rate" (.ref a) []))) (a := c) (o := .ins C dx (putF "start" (.ref b) (putF "rate" (.ref a) [])))
  generalize upd (upd H c (.ins C dx (putF "rate" (.ref a) []))) c (.ins C dx (putF "start" (.ref b) (putF "rate" (.ref a) []))) = H2 at s2 h2 ⊢
  refine ⟨_, rfl, a, p, n, rfl, hp.same s2, hn, fun v H3 s3 hv => ⟨_, rfl, c, C, dx, _, rfl, s3 _ _ h2, Y.cl, Y.nP, (by show (putF "start" (V.ref b) [(("rate" : Str), V.ref a)]).length < 1000; rw [cy_put1]; show 2 < 1000; decide), ?_⟩⟩
  have s4 := s2.trans s3
  have s5 : Same H0 (upd H3 c (.ins C dx (putF "period" v (putF "start" (.ref b) (putF "rate" (.ref a) []))))) := same_put s4 c0
  have e : putF "period" v (putF "start" (.ref b) (putF "rate" (.ref a) [])) = cyF a b v := by
    show putF "period" v (putF "start" (.ref b) [(("rate" : Str), V.ref a)]) = _
    rw [cy_put1, cy_put2]
    rfl
  rw [e] at s5 ⊢
  refine k _ s5 ⟨dx, a, b, v, upd_same, hp.same s5, hq.same s5, hv.put (s3 _ _ h2)⟩
end
end My

namespace My
open PySem PySem.Spec PyProof.Rows L2
section
variable {P : Program} {w : World} {K : PySem.W.Frag} {mg : Str → Option Value} {base : Heap}
/-- the turns of a cycle of the rate p and the start q at the moment m -/
def Tur (p q m y : Qt) : Prop := ∃ t, pro2 p m t ∧ sum2 q t y
theorem szSub' : True := trivial
theorem sum_sz {p q z : Qt} {i j k : Nat} (h : sum2 p q z) (hp : Nf p) (hq : Nf q) (sp : Sz i p) (sq : Sz j q) (l : i + j < k) : Sz k z :=
  is_sz (mul_ne hp.1 hq.1) h (szAdd (szMul sp.1 sq.2) (szMul sq.1 sp.2) (by omega) (by omega)) (szMono (szMul sp.2 sq.2) (by omega))
theorem dif_sz {p q z : Qt} {i j k : Nat} (h : dif2 p q z) (hp : Nf p) (hq : Nf q) (sp : Sz i p) (sq : Sz j q) (l : i + j < k) : Sz k z :=
  is_sz (mul_ne hp.1 hq.1) h (szSub (szMul sp.1 sq.2) (szMul sq.1 sp.2) (by omega) (by omega)) (szMono (szMul sp.2 sq.2) (by omega))
theorem pro_sz {p q z : Qt} {i j k : Nat} (h : pro2 p q z) (hp : Nf p) (hq : Nf q) (sp : Sz i p) (sq : Sz j q) (l : i + j < k) : Sz k z :=
  is_sz (mul_ne hp.1 hq.1) h (szMono (szMul sp.1 sq.1) (by omega)) (szMono (szMul sp.2 sq.2) (by omega))
theorem quo_sz {p q z : Qt} {i j k : Nat} (h : quo2 p q z) (hp : Nf p) (h0 : q.1 ≠ 0) (sp : Sz i p) (sq : Sz j q) (l : i + j < k) : Sz k z :=
  is_sz (Int.mul_ne_zero hp.ne h0) h (szMono (szMul sp.1 sq.2) (by omega)) (szMono (szMul sp.2 sq.1) (by omega))
theorem Tur.unique {p q m y z : Qt} (hp : Nf p) (hq : Nf q) (hm : Nf m) (h1 : Tur p q m y) (h2 : Tur p q m z) : y = z := by
  obtain ⟨t, a, b⟩ := h1
  obtain ⟨u, c, d⟩ := h2
  obtain rfl := is_unique (mul_ne hp.1 hm.1) a c
  exact is_unique (mul_ne hq.1 a.1.1) b d
def spTurns (K : PySem.W.Frag) (C : Addr) : Sp := fun vs H Q _ => ∃ (c a : Addr) (p q m : Qt) (n j : Nat), vs = [.ref c, .ref a] ∧ CyAt K C n H c p q ∧ Fq K H j a m ∧ n + j ≤ 2900 ∧ ∀ y, Tur p q m y → Sz (2 * n + j + 3) y → Gv K H Q y
def spPlace (K : PySem.W.Frag) (C : Addr) : Sp := fun vs H Q _ => ∃ (c a : Addr) (p q m : Qt) (n j : Nat), vs = [.ref c, .ref a] ∧ CyAt K C n H c p q ∧ Fq K H j a m ∧ n + j ≤ 2900 ∧ ∀ y, Tur p q m y → Sz (2 * n + j + 3) y → Gv K H Q (y.1 % y.2, y.2)
abbrev sCyTurns : Stmt := inClass (topS 28) 6
theorem scCyTurns : FnScope ["self", "moment"] ["self", "moment"] (defScope sCyTurns) := ⟨rfl, rfl, rfl, by decide +kernel, rfl, by decide +kernel, by decide +kernel⟩
theorem ok_CyTurns {C f : Addr} {fd : FuncData} (T : Bt K mg) (Y : CyC K mg C) (d_require : Kn P w K mg base 1 "require" ["well_formed", "what"] spRequire) (d_is_fraction : Kn P w K mg base 2 "is_fraction" ["value"] (spIsFraction K)) (d_plus : Kn P w K mg base 3 "plus" ["left", "right"] (spBin K sum2)) (d_times : Kn P w K mg base 3 "times" ["left", "right"] (spBin K pro2)) (F : Fun K "turns" "Cycle.turns" sCyTurns f fd) : FnOk P w K mg base CX0 4 f fd ["self", "moment"] (spTurns K C) := by
  refine F.ok scCyTurns (fun vs H Q E h => ?_) (fun cdv A outer s H vs Q E hr h => ?_)
  · obtain ⟨c, a, p, q, m, n, j, rfl, _⟩ := h
    rfl
  obtain ⟨c, a, p, q, m, n, j, rfl, hc, hm, hj, k⟩ := h
  refine ⟨_, (pss_cons (ps_expr (pe_kn d_require hr (by rfl) (pa_cons (pe_kn d_is_fraction hr (by rfl) (pa_cons (pv 1) pa_nil)) (pa_cons pe_str pa_nil))))
      (pss_one (ps_ret (pe_kn d_plus hr (by rfl) (pa_cons (pe_fld (pv 0) rfl) (pa_cons (pe_kn d_times hr (by rfl) (pa_cons (pe_fld (pv 0) rfl) (pa_cons (pv 1) pa_nil))) pa_nil)))))), ?_⟩
  obtain ⟨dx, ra, sb, v, hc, hp, hq, hv⟩ := hc
  refine ⟨_, rfl, _, rfl, Tyd.fr hm.o, _, by rw [frOk_fr hm.o hm.nf]; rfl, ?_⟩
  refine ⟨_, rfl, c, C, dx, _, _, rfl, hc, Y.cl, Y.nS, cy_start _ _ _, _, rfl, c, C, dx, _, _, rfl, hc, Y.cl, Y.nR, cy_rate _ _ _, _, rfl, ?_⟩
  refine ⟨ra, a, p, m, rfl, hp.mono (by omega), hm.mono (by omega), fun t ht d H1 s1 o1 => ?_⟩
  have st : Sz (n + j + 1) t := pro_sz ht hp.nf hm.nf hp.sz hm.sz (by omega)
  exact ⟨sb, d, q, t, rfl, (hq.f.same s1).mono (by omega), ⟨o1, ht.1, st.mono (by omega)⟩, fun y hy e H2 s2 o2 => k y ⟨t, ht, hy⟩ (sum_sz hy hq.f.nf ht.1 hq.f.sz (pro_sz (k := n + j + 1) ht hp.nf hm.nf hp.sz hm.sz (by omega)) (by omega)) e H2 (s1.trans s2) o2⟩
abbrev sCyPlace : Stmt := inClass (topS 28) 7
theorem scCyPlace : FnScope ["self", "moment"] ["self", "moment"] (defScope sCyPlace) := ⟨rfl, rfl, rfl, by decide +kernel, rfl, by decide +kernel, by decide +kernel⟩
theorem ok_CyPlace {C f : Addr} {fd : FuncData} (T : Bt K mg) (Y : CyC K mg C) (m_turns : C8.Met P w K mg base 4 C "turns" (spTurns K C) []) (d_require : Kn P w K mg base 1 "require" ["well_formed", "what"] spRequire) (d_is_fraction : Kn P w K mg base 2 "is_fraction" ["value"] (spIsFraction K)) (d_part_of : Kn P w K mg base 3 "part_of" ["value"] (spUn K fun q => (q.1 % q.2, q.2))) (F : Fun K "place" "Cycle.place" sCyPlace f fd) : FnOk P w K mg base CX0 5 f fd ["self", "moment"] (spPlace K C) := by
  refine F.ok scCyPlace (fun vs H Q E h => ?_) (fun cdv A outer s H vs Q E hr h => ?_)
  · obtain ⟨c, a, p, q, m, n, j, rfl, _⟩ := h
    rfl
  obtain ⟨c, a, p, q, m, n, j, rfl, hc, hm, hj, k⟩ := h
  refine ⟨_, (pss_cons (ps_expr (pe_kn d_require hr (by rfl) (pa_cons (pe_kn d_is_fraction hr (by rfl) (pa_cons (pv 1) pa_nil)) (pa_cons pe_str pa_nil))))
      (pss_one (ps_ret (pe_kn d_part_of hr (by rfl) (pa_cons (C8.pe_mt m_turns hr (by omega) (pv 0) (pa_cons (pv 1) pa_nil)) pa_nil))))), ?_⟩
  refine ⟨_, rfl, _, rfl, Tyd.fr hm.o, _, by rw [frOk_fr hm.o hm.nf]; rfl, ?_⟩
  have hc' := hc
  obtain ⟨dx, ra, sb, v, hi, hp, hq, hv⟩ := hc
  refine ⟨_, rfl, c, dx, _, rfl, hi, rfl, _, rfl, c, a, p, q, m, n, j, rfl, hc', hm, hj, fun y hy sy b H1 s1 o1 => ?_⟩
  obtain ⟨t, ht, hz⟩ := id hy
  exact ⟨b, y, rfl, ⟨o1, hz.1, sy.mono (by omega)⟩, fun e H2 s2 o2 => k y hy sy e H2 (s1.trans s2) o2⟩
theorem same_make {H : Hp} {c dx C : Addr} (h1 : H c = none) (h2 : H dx = none) : Same H (upd (upd H dx (.own c)) c (.ins C dx [])) := fun b o e => by
  rw [upd_ne (ne_of_none e h1), upd_ne (ne_of_none e h2)]
  exact e
def spWith (K : PySem.W.Frag) (C : Addr) : Sp := fun vs H Q _ => ∃ (a b : Addr) (p q : Qt), vs = [.ref a, .ref b] ∧ Fq K H 140 a p ∧ p.1 ≠ 0 ∧ Pq K H 140 b q ∧ ∀ z c H', quo2 (1, 1) p z → Same H H' → CyAt K C 300 H' c z q → Q (.ref c) H'
end
end My

namespace My
open PySem PySem.Spec PyProof.Rows L2
section
variable {P : Program} {w : World} {K : PySem.W.Frag} {mg : Str → Option Value} {base : Heap}
theorem eqv_tup {H : Hp} {a b : Addr} {xs : List V} (oa : ob K H a = some (.tup xs)) (ob' : ob K H b = some (.tup xs)) (hs : xs.all scv = true) (hl : xs.length ≤ 1000) : Eqv K H 1 (.ref a) (.ref b) := by
  refine .inr ⟨a, b, xs, xs, rfl, rfl, .inl ⟨oa, ob'⟩, rfl, hl, fun i x y hx hy => ?_⟩
  rw [hx] at hy
  cases hy
  exact ⟨rfl, List.all_eq_true.mp hs x (List.mem_of_getElem? hx)⟩
theorem eqv_two {H : Hp} {a b : Addr} {p : Qt} (oa : ob K H a = some (.tup [.int p.1, .int p.2])) (ob' : ob K H b = some (.tup [.int p.1, .int p.2])) : Eqv K H 2 (.ref a) (.ref b) := (eqv_tup (xs := [.int p.1, .int p.2]) oa ob' rfl (by show 2 ≤ 1000; decide)).up
theorem eqv_row {H : Hp} {t u a b c d : Addr} {p q : Qt} (ot : ob K H t = some (.tup [.ref a, .ref b])) (ou : ob K H u = some (.tup [.ref c, .ref d])) (oa : ob K H a = some (.tup [.int p.1, .int p.2])) (o2 : ob K H b = some (.tup [.int q.1, .int q.2]))
    (o3 : ob K H c = some (.tup [.int p.1, .int p.2])) (o4 : ob K H d = some (.tup [.int q.1, .int q.2])) : Eqv K H 2 (.ref t) (.ref u) := by
  refine .inr ⟨t, u, _, _, rfl, rfl, .inl ⟨ot, ou⟩, rfl, by show 2 ≤ 1000; decide, fun i x y hx hy => ?_⟩
  match i with
  | 0 =>
    cases hx
    cases hy
    exact eqv_tup (xs := [.int p.1, .int p.2]) oa o3 rfl (by show 2 ≤ 1000; decide)
  | 1 =>
    cases hx
    cases hy
    exact eqv_tup (xs := [.int q.1, .int q.2]) o2 o4 rfl (by show 2 ≤ 1000; decide)
  | n + 2 => cases hx
theorem itsO_of {H : Hp} {a : Addr} {xs : List V} (h : ob K H a = some (.tup xs)) : itsO (ob K H a) = some xs := by rw [h]; rfl
theorem sz2 {n : Nat} (h : n ≤ 100) : n ≤ sizeLine := by rw [sizeLine_eq]; omega
/-- either answer will do -/
def spFitsI : Sp := fun vs H Q _ => ∃ n : Int, vs = [.int n] ∧ ∀ b H', Same H H' → Q (.bl b) H'
def spFitsT (K : PySem.W.Frag) : Sp := fun vs H Q _ => ∃ (a : Addr) (x y : Int), vs = [.ref a] ∧ ob K H a = some (.tup [.int x, .int y]) ∧ ∀ b H', Same H H' → Q (.bl b) H'
def FitsI (a : Addr) (H : Hp) (_ : Nat) (σ : L2.St) (H' : Hp) : Prop := ∃ z, σ = [some (.ref a), z] ∧ Same H H'

abbrev sFits : Stmt := topS 45
theorem scFits : FnScope ["_law_thing", "_law_item"] ["_law_thing"] (defScope sFits) := ⟨rfl, rfl, rfl, by decide +kernel, rfl, by decide +kernel, by decide +kernel⟩
theorem k_Fits (T : Bt K mg) (D : Dfn K mg "_law_fits" sFits ["_law_thing"]) (d__law_fits : Kn P w K mg base 0 "_law_fits" ["_law_thing"] (fun _ _ _ _ => False)) : Kn P w K mg base 1 "_law_fits" ["_law_thing"] spFitsI := by
  refine Kn.mk' D scFits (fun vs H Q E h => ?_) (fun f cdv A outer s H vs Q E hr h => ?_)
  · obtain ⟨n, rfl, _⟩ := h
    rfl
  obtain ⟨n, rfl, k⟩ := h
  refine ⟨_, (pss_cons (ps_if (pt_val (pe_callB call_isT (by rfl) T.b_isinstance (by decide +kernel) (pa_cons (pv 0) (pa_cons (pe_tp (pa_cons (pe_bltn (v := .ty "list") (by rfl) T.b_list (by decide +kernel) rfl) (pa_cons (pe_bltn (v := .ty "tuple") (by rfl) T.b_tuple (by decide +kernel) rfl) pa_nil))) pa_nil)))) (pss_cons (ps_for PassesOwn.never rfl (pi_tup (pv 0)) (pg_name (i := 1) scFits.nd rfl (.inl rfl)) (pss_one (ps_if (pt_not (pt_val (pe_kn d__law_fits hr (by rfl) (pa_cons (pv 1) pa_nil)))) (pss_one (ps_ret pe_bl)) pss_nil)))
      (pss_one (ps_ret pe_bl))) pss_nil)
      (pss_one (ps_ret (pe_or (pe_not (pe_callB call_isN (by rfl) T.b_isinstance (by decide +kernel) (pa_cons (pv 0) (pa_cons (pe_bltn (v := .ty "int") (by rfl) T.b_int (by decide +kernel) rfl) pa_nil)))) (pe_one (pe_cmpR op_lt (pe_callB call_abs (by rfl) T.b_abs (by decide +kernel) (pa_cons (pv 0) pa_nil)) (pe_op op_pow pe_int pe_int) (nomark _))))))), ?_⟩
  simp only [cx_K, decide_true, decide_false, reduceCtorEq, gTp, gCons, gNil, ca_0, ca_1, ca_2, ca_3, ca_4, ca_5, ca_6, ca_7, ca_8, ca_9, ca_10, ca_11, ca_12, ca_13, ca_14, ca_15, ca_16, ca_17, ca_18, ca_19, ca_20, ca_21, ca_22, ca_23, ca_24, ca_25, ca_26, ca_27, ca_28, ca_29, ca_30, not_true_eq_false, not_false_eq_true, Int.reduceEq, Nat.reduceEqDiff, Nat.reduceLeDiff, rGcd, V.ty.injEq, eq_self, List.not_mem_nil, beq_self_eq_true, HO.lst.injEq, HO.tup.injEq, tFor_eq, iRng1, iList, iTup, nat10, tSeq, rIxA, rSetA, rIsN, rIsT, tTp, tLs, itsO_tup, itsO_lst, tyO_tup, tyO_lst, tyO_dK, tyN_non, tyN_bl, tyN_int, tyN_str, tyN_ref, tyNs_lt, isB, upd_same, upd_upd, sizeLine_eq, List.mem_cons, String.reduceBEq, String.reduceEq, Bool.or_false, Bool.or_true, Bool.and_false, Bool.false_or, Bool.and_self, Bool.false_and, Bool.not_false, Bool.not_true, List.any_cons, List.any_nil, atI_0, setI_0, atI_1, setI_1, atI_2, setI_2, atI_3, setI_3, atI_4, setI_4, atI_5, setI_5, atI_6, setI_6, tAsg, gName, tOp, tUn, tVar, tC, tCons, L2.tNil, tRet, tIfS, tTest, tCB, tCall, rI, rI0, rU, tNext, tB, tAnd, tOr, tNot, tAndV, tOrV, tNotV, tDrop, tIf, tPar, gSub, rIxL, rIxT, rEq, rNe, rSetL, tBits,
    L2.start, List.map_cons, List.map_nil, List.cons_append, List.nil_append, List.append_nil, List.length_cons, List.length_nil, List.replicate, Nat.reduceAdd, Nat.reduceSub, Nat.zero_add, List.getElem?_cons_zero, List.getElem?_cons_succ, List.set_cons_zero, List.set_cons_succ,
    Option.some.injEq, exists_eq_left', exists_eq_left, V.int.injEq, V.bl.injEq, V.ref.injEq, V.str.injEq, List.cons.injEq, reduceCtorEq, and_true, true_and, false_and, and_false, exists_false, or_false, false_or, or_true, true_or, exists_const, CMul, CDiv, CPow, and_assoc, exists_and_left, exists_and_right, Int.reducePow, Int.reduceNeg, Int.reduceLT, Int.reduceLE, Nat.reducePow, Nat.reduceLT, Int.reduceToNat, gt_iff_lt, ge_iff_le, decide_eq_true_eq, Bool.not_eq_true', decide_eq_false_iff_not, scal, ↓reduceIte, Bool.false_eq_true]
  intro p hp kp
  have s1 := Same.new hp (.tup [V.ty "list", V.ty "tuple"])
  generalize upd H p (.tup [V.ty "list", V.ty "tuple"]) = H1 at s1 ⊢
  exact k _ H1 s1
theorem k_Fits2 (T : Bt K mg) (D : Dfn K mg "_law_fits" sFits ["_law_thing"]) (d__law_fits : Kn P w K mg base 1 "_law_fits" ["_law_thing"] spFitsI) : Kn P w K mg base 2 "_law_fits" ["_law_thing"] (spFitsT K) := by
  refine Kn.mk' D scFits (fun vs H Q E h => ?_) (fun f cdv A outer s H vs Q E hr h => ?_)
  · obtain ⟨a, x, y, rfl, _⟩ := h
    rfl
  obtain ⟨a, x, y, rfl, oa, k⟩ := h
  refine ⟨_, (pss_cons (ps_if (pt_val (pe_callB call_isT (by rfl) T.b_isinstance (by decide +kernel) (pa_cons (pv 0) (pa_cons (pe_tp (pa_cons (pe_bltn (v := .ty "list") (by rfl) T.b_list (by decide +kernel) rfl) (pa_cons (pe_bltn (v := .ty "tuple") (by rfl) T.b_tuple (by decide +kernel) rfl) pa_nil))) pa_nil)))) (pss_cons (ps_for PassesOwn.never rfl (pi_tup (pv 0)) (pg_name (i := 1) scFits.nd rfl (.inl rfl)) (pss_one (ps_if (pt_not (pt_val (pe_kn d__law_fits hr (by rfl) (pa_cons (pv 1) pa_nil)))) (pss_one (ps_ret pe_bl)) pss_nil)))
      (pss_one (ps_ret pe_bl))) pss_nil)
      (pss_one (ps_ret (pe_or (pe_not (pe_callB call_isN (by rfl) T.b_isinstance (by decide +kernel) (pa_cons (pv 0) (pa_cons (pe_bltn (v := .ty "int") (by rfl) T.b_int (by decide +kernel) rfl) pa_nil)))) (pe_one (pe_cmpR op_lt (pe_callB call_abs (by rfl) T.b_abs (by decide +kernel) (pa_cons (pv 0) pa_nil)) (pe_op op_pow pe_int pe_int) (nomark _))))))), ?_⟩
  simp only [oa, cx_K, decide_true, decide_false, reduceCtorEq, gTp, gCons, gNil, ca_0, ca_1, ca_2, ca_3, ca_4, ca_5, ca_6, ca_7, ca_8, ca_9, ca_10, ca_11, ca_12, ca_13, ca_14, ca_15, ca_16, ca_17, ca_18, ca_19, ca_20, ca_21, ca_22, ca_23, ca_24, ca_25, ca_26, ca_27, ca_28, ca_29, ca_30, not_true_eq_false, not_false_eq_true, Int.reduceEq, Nat.reduceEqDiff, Nat.reduceLeDiff, rGcd, V.ty.injEq, eq_self, List.not_mem_nil, beq_self_eq_true, HO.lst.injEq, HO.tup.injEq, tFor_eq, iRng1, iList, iTup, nat10, tSeq, rIxA, rSetA, rIsN, rIsT, tTp, tLs, itsO_tup, itsO_lst, tyO_tup, tyO_lst, tyO_dK, tyN_non, tyN_bl, tyN_int, tyN_str, tyN_ref, tyNs_lt, isB, upd_same, upd_upd, sizeLine_eq, List.mem_cons, String.reduceBEq, String.reduceEq, Bool.or_false, Bool.or_true, Bool.and_false, Bool.false_or, Bool.and_self, Bool.false_and, Bool.not_false, Bool.not_true, List.any_cons, List.any_nil, atI_0, setI_0, atI_1, setI_1, atI_2, setI_2, atI_3, setI_3, atI_4, setI_4, atI_5, setI_5, atI_6, setI_6, tAsg, gName, tOp, tUn, tVar, tC, tCons, L2.tNil, tRet, tIfS, tTest, tCB, tCall, rI, rI0, rU, tNext, tB, tAnd, tOr, tNot, tAndV, tOrV, tNotV, tDrop, tIf, tPar, gSub, rIxL, rIxT, rEq, rNe, rSetL, tBits,
    L2.start, List.map_cons, List.map_nil, List.cons_append, List.nil_append, List.append_nil, List.length_cons, List.length_nil, List.replicate, Nat.reduceAdd, Nat.reduceSub, Nat.zero_add, List.getElem?_cons_zero, List.getElem?_cons_succ, List.set_cons_zero, List.set_cons_succ,
    Option.some.injEq, exists_eq_left', exists_eq_left, V.int.injEq, V.bl.injEq, V.ref.injEq, V.str.injEq, List.cons.injEq, reduceCtorEq, and_true, true_and, false_and, and_false, exists_false, or_false, false_or, or_true, true_or, exists_const, CMul, CDiv, CPow, and_assoc, exists_and_left, exists_and_right, Int.reducePow, Int.reduceNeg, Int.reduceLT, Int.reduceLE, Nat.reducePow, Nat.reduceLT, Int.reduceToNat, gt_iff_lt, ge_iff_le, decide_eq_true_eq, Bool.not_eq_true', decide_eq_false_iff_not, scal, ↓reduceIte, Bool.false_eq_true]
  intro p hp kp
  have s1 := Same.new hp (.tup [V.ty "list", V.ty "tuple"])
  generalize upd H p (.tup [V.ty "list", V.ty "tuple"]) = H1 at s1 ⊢
  have oa1 := ob_same s1 oa
  simp only [oa1, cx_K, decide_true, decide_false, reduceCtorEq, gTp, gCons, gNil, ca_0, ca_1, ca_2, ca_3, ca_4, ca_5, ca_6, ca_7, ca_8, ca_9, ca_10, ca_11, ca_12, ca_13, ca_14, ca_15, ca_16, ca_17, ca_18, ca_19, ca_20, ca_21, ca_22, ca_23, ca_24, ca_25, ca_26, ca_27, ca_28, ca_29, ca_30, not_true_eq_false, not_false_eq_true, Int.reduceEq, Nat.reduceEqDiff, Nat.reduceLeDiff, rGcd, V.ty.injEq, eq_self, List.not_mem_nil, beq_self_eq_true, HO.lst.injEq, HO.tup.injEq, tFor_eq, iRng1, iList, iTup, nat10, tSeq, rIxA, rSetA, rIsN, rIsT, tTp, tLs, itsO_tup, itsO_lst, tyO_tup, tyO_lst, tyO_dK, tyN_non, tyN_bl, tyN_int, tyN_str, tyN_ref, tyNs_lt, isB, upd_same, upd_upd, sizeLine_eq, List.mem_cons, String.reduceBEq, String.reduceEq, Bool.or_false, Bool.or_true, Bool.and_false, Bool.false_or, Bool.and_self, Bool.false_and, Bool.not_false, Bool.not_true, List.any_cons, List.any_nil, atI_0, setI_0, atI_1, setI_1, atI_2, setI_2, atI_3, setI_3, atI_4, setI_4, atI_5, setI_5, atI_6, setI_6, tAsg, gName, tOp, tUn, tVar, tC, tCons, L2.tNil, tRet, tIfS, tTest, tCB, tCall, rI, rI0, rU, tNext, tB, tAnd, tOr, tNot, tAndV, tOrV, tNotV, tDrop, tIf, tPar, gSub, rIxL, rIxT, rEq, rNe, rSetL, tBits,
    L2.start, List.map_cons, List.map_nil, List.cons_append, List.nil_append, List.append_nil, List.length_cons, List.length_nil, List.replicate, Nat.reduceAdd, Nat.reduceSub, Nat.zero_add, List.getElem?_cons_zero, List.getElem?_cons_succ, List.set_cons_zero, List.set_cons_succ,
    Option.some.injEq, exists_eq_left', exists_eq_left, V.int.injEq, V.bl.injEq, V.ref.injEq, V.str.injEq, List.cons.injEq, reduceCtorEq, and_true, true_and, false_and, and_false, exists_false, or_false, false_or, or_true, true_or, exists_const, CMul, CDiv, CPow, and_assoc, exists_and_left, exists_and_right, Int.reducePow, Int.reduceNeg, Int.reduceLT, Int.reduceLE, Nat.reducePow, Nat.reduceLT, Int.reduceToNat, gt_iff_lt, ge_iff_le, decide_eq_true_eq, Bool.not_eq_true', decide_eq_false_iff_not, scal, ↓reduceIte, Bool.false_eq_true]
  refine ⟨⟨_, ob_tup oa1⟩, forI_tup (xs := [.int x, .int y]) (FitsI a H) ⟨none, rfl, s1⟩ ?_ ?_ ?_⟩
  · rintro i σ H' _ ⟨z, rfl, s2⟩
    exact ob_tup (ob_same s2 oa)
  · rintro i v σ H' hi ⟨z, rfl, s2⟩
    obtain ⟨n, rfl⟩ : ∃ n : Int, v = .int n := by
      have hv := List.mem_of_getElem? hi
      simp only [List.mem_cons, List.not_mem_nil, or_false] at hv
      rcases hv with rfl | rfl <;> exact ⟨_, rfl⟩
    simp only [cx_K, decide_true, decide_false, reduceCtorEq, gTp, gCons, gNil, ca_0, ca_1, ca_2, ca_3, ca_4, ca_5, ca_6, ca_7, ca_8, ca_9, ca_10, ca_11, ca_12, ca_13, ca_14, ca_15, ca_16, ca_17, ca_18, ca_19, ca_20, ca_21, ca_22, ca_23, ca_24, ca_25, ca_26, ca_27, ca_28, ca_29, ca_30, not_true_eq_false, not_false_eq_true, Int.reduceEq, Nat.reduceEqDiff, Nat.reduceLeDiff, rGcd, V.ty.injEq, eq_self, List.not_mem_nil, beq_self_eq_true, HO.lst.injEq, HO.tup.injEq, tFor_eq, iRng1, iList, iTup, nat10, tSeq, rIxA, rSetA, rIsN, rIsT, tTp, tLs, itsO_tup, itsO_lst, tyO_tup, tyO_lst, tyO_dK, tyN_non, tyN_bl, tyN_int, tyN_str, tyN_ref, tyNs_lt, isB, upd_same, upd_upd, sizeLine_eq, List.mem_cons, String.reduceBEq, String.reduceEq, Bool.or_false, Bool.or_true, Bool.and_false, Bool.false_or, Bool.and_self, Bool.false_and, Bool.not_false, Bool.not_true, List.any_cons, List.any_nil, atI_0, setI_0, atI_1, setI_1, atI_2, setI_2, atI_3, setI_3, atI_4, setI_4, atI_5, setI_5, atI_6, setI_6, tAsg, gName, tOp, tUn, tVar, tC, tCons, L2.tNil, tRet, tIfS, tTest, tCB, tCall, rI, rI0, rU, tNext, tB, tAnd, tOr, tNot, tAndV, tOrV, tNotV, tDrop, tIf, tPar, gSub, rIxL, rIxT, rEq, rNe, rSetL, tBits,
    L2.start, List.map_cons, List.map_nil, List.cons_append, List.nil_append, List.append_nil, List.length_cons, List.length_nil, List.replicate, Nat.reduceAdd, Nat.reduceSub, Nat.zero_add, List.getElem?_cons_zero, List.getElem?_cons_succ, List.set_cons_zero, List.set_cons_succ,
    Option.some.injEq, exists_eq_left', exists_eq_left, V.int.injEq, V.bl.injEq, V.ref.injEq, V.str.injEq, List.cons.injEq, reduceCtorEq, and_true, true_and, false_and, and_false, exists_false, or_false, false_or, or_true, true_or, exists_const, CMul, CDiv, CPow, and_assoc, exists_and_left, exists_and_right, Int.reducePow, Int.reduceNeg, Int.reduceLT, Int.reduceLE, Nat.reducePow, Nat.reduceLT, Int.reduceToNat, gt_iff_lt, ge_iff_le, decide_eq_true_eq, Bool.not_eq_true', decide_eq_false_iff_not, scal, ↓reduceIte, Bool.false_eq_true]
    refine ⟨n, rfl, fun b H2 s3 => ⟨b, rfl, ?_⟩⟩
    cases b
    · rw [if_pos rfl]
      exact k false H2 (s2.trans s3)
    · rw [if_neg (by simp)]
      exact ⟨_, rfl, s2.trans s3⟩
  · rintro σ H' ⟨z, rfl, s2⟩
    simp only [cx_K, decide_true, decide_false, reduceCtorEq, gTp, gCons, gNil, ca_0, ca_1, ca_2, ca_3, ca_4, ca_5, ca_6, ca_7, ca_8, ca_9, ca_10, ca_11, ca_12, ca_13, ca_14, ca_15, ca_16, ca_17, ca_18, ca_19, ca_20, ca_21, ca_22, ca_23, ca_24, ca_25, ca_26, ca_27, ca_28, ca_29, ca_30, not_true_eq_false, not_false_eq_true, Int.reduceEq, Nat.reduceEqDiff, Nat.reduceLeDiff, rGcd, V.ty.injEq, eq_self, List.not_mem_nil, beq_self_eq_true, HO.lst.injEq, HO.tup.injEq, tFor_eq, iRng1, iList, iTup, nat10, tSeq, rIxA, rSetA, rIsN, rIsT, tTp, tLs, itsO_tup, itsO_lst, tyO_tup, tyO_lst, tyO_dK, tyN_non, tyN_bl, tyN_int, tyN_str, tyN_ref, tyNs_lt, isB, upd_same, upd_upd, sizeLine_eq, List.mem_cons, String.reduceBEq, String.reduceEq, Bool.or_false, Bool.or_true, Bool.and_false, Bool.false_or, Bool.and_self, Bool.false_and, Bool.not_false, Bool.not_true, List.any_cons, List.any_nil, atI_0, setI_0, atI_1, setI_1, atI_2, setI_2, atI_3, setI_3, atI_4, setI_4, atI_5, setI_5, atI_6, setI_6, tAsg, gName, tOp, tUn, tVar, tC, tCons, L2.tNil, tRet, tIfS, tTest, tCB, tCall, rI, rI0, rU, tNext, tB, tAnd, tOr, tNot, tAndV, tOrV, tNotV, tDrop, tIf, tPar, gSub, rIxL, rIxT, rEq, rNe, rSetL, tBits,
    L2.start, List.map_cons, List.map_nil, List.cons_append, List.nil_append, List.append_nil, List.length_cons, List.length_nil, List.replicate, Nat.reduceAdd, Nat.reduceSub, Nat.zero_add, List.getElem?_cons_zero, List.getElem?_cons_succ, List.set_cons_zero, List.set_cons_succ,
    Option.some.injEq, exists_eq_left', exists_eq_left, V.int.injEq, V.bl.injEq, V.ref.injEq, V.str.injEq, List.cons.injEq, reduceCtorEq, and_true, true_and, false_and, and_false, exists_false, or_false, false_or, or_true, true_or, exists_const, CMul, CDiv, CPow, and_assoc, exists_and_left, exists_and_right, Int.reducePow, Int.reduceNeg, Int.reduceLT, Int.reduceLE, Nat.reducePow, Nat.reduceLT, Int.reduceToNat, gt_iff_lt, ge_iff_le, decide_eq_true_eq, Bool.not_eq_true', decide_eq_false_iff_not, scal, ↓reduceIte, Bool.false_eq_true]
    exact k true H' s2
def spCycleW (K : PySem.W.Frag) : Sp := fun vs H Q _ => ∃ (s : Addr), vs = [.ref s] ∧ Sto K H s ∧ ∀ t a b p q H', ob K H' t = some (.tup [.ref a, .ref b]) → Fq K H' 133 a p → Pq K H' 133 b q → Kp s H H' → Sto K H' s → Q (.ref t) H'
abbrev sCycleW : Stmt := topS 53
theorem scCycleW : FnScope ["_law_store_here"] ["_law_store_here"] (defScope sCycleW) := ⟨rfl, rfl, rfl, by decide +kernel, rfl, by decide +kernel, by decide +kernel⟩
theorem k_CycleW (T : Bt K mg) (D : Dfn K mg "_law_cycle_wide" sCycleW ["_law_store_here"]) (d__law_frac_wide : Kn P w K mg base 4 "_law_frac_wide" ["_law_store_here"] (spDFrac K 133)) (d__law_place_wide : Kn P w K mg base 4 "_law_place_wide" ["_law_store_here"] (spDPlace K 133)) : Kn P w K mg base 5 "_law_cycle_wide" ["_law_store_here"] (spCycleW K) := by
  refine Kn.mk' D scCycleW (fun vs H Q E h => ?_) (fun f cdv A outer s H vs Q E hr h => ?_)
  · obtain ⟨s, rfl, _⟩ := h
    rfl
  obtain ⟨s, rfl, hS, k⟩ := h
  refine ⟨_, (pss_one (ps_ret (pe_tp (pa_cons (pe_kn d__law_frac_wide hr (by rfl) (pa_cons (pv 0) pa_nil)) (pa_cons (pe_kn d__law_place_wide hr (by rfl) (pa_cons (pv 0) pa_nil)) pa_nil))))), ?_⟩
  simp only [cx_K, decide_true, decide_false, reduceCtorEq, gTp, gCons, gNil, ca_0, ca_1, ca_2, ca_3, ca_4, ca_5, ca_6, ca_7, ca_8, ca_9, ca_10, ca_11, ca_12, ca_13, ca_14, ca_15, ca_16, ca_17, ca_18, ca_19, ca_20, ca_21, ca_22, ca_23, ca_24, ca_25, ca_26, ca_27, ca_28, ca_29, ca_30, not_true_eq_false, not_false_eq_true, Int.reduceEq, Nat.reduceEqDiff, Nat.reduceLeDiff, rGcd, V.ty.injEq, eq_self, List.not_mem_nil, beq_self_eq_true, HO.lst.injEq, HO.tup.injEq, tFor_eq, iRng1, iList, iTup, nat10, tSeq, rIxA, rSetA, rIsN, rIsT, tTp, tLs, itsO_tup, itsO_lst, tyO_tup, tyO_lst, tyO_dK, tyN_non, tyN_bl, tyN_int, tyN_str, tyN_ref, tyNs_lt, isB, upd_same, upd_upd, sizeLine_eq, List.mem_cons, String.reduceBEq, String.reduceEq, Bool.or_false, Bool.or_true, Bool.and_false, Bool.false_or, Bool.and_self, Bool.false_and, Bool.not_false, Bool.not_true, List.any_cons, List.any_nil, atI_0, setI_0, atI_1, setI_1, atI_2, setI_2, atI_3, setI_3, atI_4, setI_4, atI_5, setI_5, atI_6, setI_6, tAsg, gName, tOp, tUn, tVar, tC, tCons, L2.tNil, tRet, tIfS, tTest, tCB, tCall, rI, rI0, rU, tNext, tB, tAnd, tOr, tNot, tAndV, tOrV, tNotV, tDrop, tIf, tPar, gSub, rIxL, rIxT, rEq, rNe, rSetL, tBits,
    L2.start, List.map_cons, List.map_nil, List.cons_append, List.nil_append, List.append_nil, List.length_cons, List.length_nil, List.replicate, Nat.reduceAdd, Nat.reduceSub, Nat.zero_add, List.getElem?_cons_zero, List.getElem?_cons_succ, List.set_cons_zero, List.set_cons_succ,
    Option.some.injEq, exists_eq_left', exists_eq_left, V.int.injEq, V.bl.injEq, V.ref.injEq, V.str.injEq, List.cons.injEq, reduceCtorEq, and_true, true_and, false_and, and_false, exists_false, or_false, false_or, or_true, true_or, exists_const, CMul, CDiv, CPow, and_assoc, exists_and_left, exists_and_right, Int.reducePow, Int.reduceNeg, Int.reduceLT, Int.reduceLE, Nat.reducePow, Nat.reduceLT, Int.reduceToNat, gt_iff_lt, ge_iff_le, decide_eq_true_eq, Bool.not_eq_true', decide_eq_false_iff_not, scal, ↓reduceIte, Bool.false_eq_true]
  refine ⟨s, rfl, hS, fun a p H1 hp kp1 st1 => ⟨s, rfl, st1, fun b q H2 hq kp2 st2 => ?_⟩⟩
  try simp only [cx_K, decide_true, decide_false, reduceCtorEq, gTp, gCons, gNil, ca_0, ca_1, ca_2, ca_3, ca_4, ca_5, ca_6, ca_7, ca_8, ca_9, ca_10, ca_11, ca_12, ca_13, ca_14, ca_15, ca_16, ca_17, ca_18, ca_19, ca_20, ca_21, ca_22, ca_23, ca_24, ca_25, ca_26, ca_27, ca_28, ca_29, ca_30, not_true_eq_false, not_false_eq_true, Int.reduceEq, Nat.reduceEqDiff, Nat.reduceLeDiff, rGcd, V.ty.injEq, eq_self, List.not_mem_nil, beq_self_eq_true, HO.lst.injEq, HO.tup.injEq, tFor_eq, iRng1, iList, iTup, nat10, tSeq, rIxA, rSetA, rIsN, rIsT, tTp, tLs, itsO_tup, itsO_lst, tyO_tup, tyO_lst, tyO_dK, tyN_non, tyN_bl, tyN_int, tyN_str, tyN_ref, tyNs_lt, isB, upd_same, upd_upd, sizeLine_eq, List.mem_cons, String.reduceBEq, String.reduceEq, Bool.or_false, Bool.or_true, Bool.and_false, Bool.false_or, Bool.and_self, Bool.false_and, Bool.not_false, Bool.not_true, List.any_cons, List.any_nil, atI_0, setI_0, atI_1, setI_1, atI_2, setI_2, atI_3, setI_3, atI_4, setI_4, atI_5, setI_5, atI_6, setI_6, tAsg, gName, tOp, tUn, tVar, tC, tCons, L2.tNil, tRet, tIfS, tTest, tCB, tCall, rI, rI0, rU, tNext, tB, tAnd, tOr, tNot, tAndV, tOrV, tNotV, tDrop, tIf, tPar, gSub, rIxL, rIxT, rEq, rNe, rSetL, tBits,
    L2.start, List.map_cons, List.map_nil, List.cons_append, List.nil_append, List.append_nil, List.length_cons, List.length_nil, List.replicate, Nat.reduceAdd, Nat.reduceSub, Nat.zero_add, List.getElem?_cons_zero, List.getElem?_cons_succ, List.set_cons_zero, List.set_cons_succ,
    Option.some.injEq, exists_eq_left', exists_eq_left, V.int.injEq, V.bl.injEq, V.ref.injEq, V.str.injEq, List.cons.injEq, reduceCtorEq, and_true, true_and, false_and, and_false, exists_false, or_false, false_or, or_true, true_or, exists_const, CMul, CDiv, CPow, and_assoc, exists_and_left, exists_and_right, Int.reducePow, Int.reduceNeg, Int.reduceLT, Int.reduceLE, Nat.reducePow, Nat.reduceLT, Int.reduceToNat, gt_iff_lt, ge_iff_le, decide_eq_true_eq, Bool.not_eq_true', decide_eq_false_iff_not, scal, ↓reduceIte, Bool.false_eq_true]
  intro t ht kt
  obtain ⟨ys, hys⟩ := st1.at
  have sT := Same.new ht (.tup [.ref a, .ref b])
  exact k t a b p q _ (ob_new kt) ((hp.kp kp2 hys).same sT) (hq.same sT) ((kp1.trans kp2).trans (Kp.same sT)) (st2.same sT)
def spTold (K : PySem.W.Frag) (C : Addr) : Sp := fun vs H Q _ => ∃ (c : Addr) (p q : Qt) (n : Nat), vs = [.ref c] ∧ CyAt K C n H c p q ∧ n ≤ 8000 ∧ ∀ t a b H', Same H H' → ob K H' t = some (.tup [.ref a, .ref b]) → ob K H' a = some (.tup [.int p.1, .int p.2]) → ob K H' b = some (.tup [.int q.1, .int q.2]) → Q (.ref t) H'
abbrev sTold : Stmt := topS 56
theorem scTold : FnScope ["_law_cycle", "_law_due"] ["_law_cycle"] (defScope sTold) := ⟨rfl, rfl, rfl, by decide +kernel, rfl, by decide +kernel, by decide +kernel⟩
theorem k_Told {C : Addr} (Y : CyC K mg C) (IC : C8.InsC K C) (T : Bt K mg) (D : Dfn K mg "_law_cycle_told" sTold ["_law_cycle"]) (d__law_is_frac : Kn P w K mg base 2 "_law_is_frac" ["_law_told"] (spLFrac K)) (d__law_is_place : Kn P w K mg base 3 "_law_is_place" ["_law_told"] (spLPlace K)) (d__law_same : Kn P w K mg base 4 "_law_same" ["_law_told", "_law_due"] (spSame K 3)) : Kn P w K mg base 5 "_law_cycle_told" ["_law_cycle"] (spTold K C) := by
  refine Kn.mk' D scTold (fun vs H Q E h => ?_) (fun f cdv A outer s H vs Q E hr h => ?_)
  · obtain ⟨c, p, q, n, rfl, _⟩ := h
    rfl
  obtain ⟨c, p, q, n, rfl, hc, hn, k⟩ := h
  refine ⟨_, (pss_cons (ps_if (PW.pt (pw_or (pt_not (pt_val (pe_callB (C8.call_isC IC) (by rfl) T.b_isinstance (by decide +kernel) (pa_cons (pv 0) (pa_cons (pe_glob (v := .ref C) (by rfl) Y.g rfl) pa_nil))))) (pw_or (pt_not (pt_val (pe_kn d__law_is_frac hr (by rfl) (pa_cons (pe_fld (pv 0) rfl) pa_nil)))) (pw_or1 (pt_not (pt_val (pe_kn d__law_is_place hr (by rfl) (pa_cons (pe_fld (pv 0) rfl) pa_nil)))))))) (pss_one (ps_ret pe_non)) pss_nil)
      (pss_cons (ps_set (i := 1) scTold.nd rfl (.inl rfl) pe_non)
      (C8.pss_cut (ps_if (pt_cmpR op_ne (pe_ix ix_any (pe_fld (pv 0) rfl) pe_int (fun _ _ => rfl)) pe_int (nomark _)) (pss_one (ps_set (i := 1) scTold.nd rfl (.inl rfl) (pe_tp (pa_cons (pe_ix ix_any (pe_fld (pv 0) rfl) pe_int (fun _ _ => rfl)) (pa_cons (pe_callB call_abs (by rfl) T.b_abs (by decide +kernel) (pa_cons (pe_ix ix_any (pe_fld (pv 0) rfl) pe_int (fun _ _ => rfl)) pa_nil)) pa_nil))))) pss_nil)
      (pss_cons (ps_if (pt_not (pt_val (pe_kn d__law_same hr (by rfl) (pa_cons (pe_fld (pv 0) rfl) (pa_cons (pv 1) pa_nil))))) (pss_one (ps_ret pe_non)) pss_nil)
      (pss_one (ps_ret (pe_tp (pa_cons (pe_fld (pv 0) rfl) (pa_cons (pe_fld (pv 0) rfl) pa_nil))))))))), ?_⟩
  have hc' := hc
  obtain ⟨dx, ra, sb, v, hi, hp, hq, hv⟩ := hc
  refine ⟨_, rfl, c, dx, _, rfl, hi, true, rfl, iteF ?_⟩
  refine ⟨_, rfl, c, C, dx, _, _, rfl, hi, Y.cl, Y.nR, cy_rate _ _ _, ra, p, rfl, hp.mono (by omega), true, rfl, iteF ?_⟩
  refine ⟨_, rfl, c, C, dx, _, _, rfl, hi, Y.cl, Y.nS, cy_start _ _ _, sb, q, rfl, hq.f.mono (by omega), hq.lo, hq.hi, true, rfl, iteF ?_⟩
  refine ⟨fun σ' H' => ∃ due, σ' = [some (.ref c), some due] ∧ Same H H' ∧ ((p.1 = 0 ∧ due = .non) ∨ (p.1 ≠ 0 ∧ ∃ d, due = .ref d ∧ ob K H' d = some (.tup [.int p.2, .int (p.1.natAbs : Int)]))), ?_, ?_⟩
  · refine ⟨_, rfl, c, C, dx, _, _, rfl, hi, Y.cl, Y.nR, cy_rate _ _ _, ra, 0, rfl, rfl, _, itsO_of hp.o, _, atI_0 _ _, rfl, _, rfl, ite2 (fun h => ?_) (fun h => ?_)⟩
    · have h0 : p.1 ≠ 0 := by
        intro z
        rw [z] at h
        simp at h
      refine ⟨_, rfl, c, C, dx, _, _, rfl, hi, Y.cl, Y.nR, cy_rate _ _ _, ra, 1, rfl, rfl, _, itsO_of hp.o, _, atI_1 _ _ _, _, rfl, c, C, dx, _, _, rfl, hi, Y.cl, Y.nR, cy_rate _ _ _, ra, 0, rfl, rfl, _, itsO_of hp.o, _, atI_0 _ _, _, rfl, sz2 (by show 2 ≤ 100; decide), fun d hd kd => ?_⟩
      exact ⟨_, rfl, Same.new hd _, .inr ⟨h0, d, rfl, by rw [ob_new (K := K) kd, abs_if]⟩⟩
    · have h0 : p.1 = 0 := by
        by_cases z : p.1 = 0
        · exact z
        · exact absurd (by simp [z]) h
      exact ⟨_, rfl, Same.refl _, .inl ⟨h0, rfl⟩⟩
  rintro σ' H1 ⟨due, rfl, s1, hd⟩
  have hi1 := s1 _ _ hi
  have hv1 := hv.same s1
  have e : Eqv K H1 2 v due := by
    rcases hd with ⟨d0, rfl⟩ | ⟨d0, d, rfl, od⟩
    · rcases hv1 with ⟨_, rfl⟩ | ⟨v0, _⟩
      · exact .inl ⟨rfl, rfl⟩
      · exact absurd d0 v0
    · rcases hv1 with ⟨v0, _⟩ | ⟨_, z, rfl, fz⟩
      · exact absurd v0 d0
      · exact eqv_two (p := (p.2, (p.1.natAbs : Int))) fz.o od
  refine ⟨_, rfl, c, C, dx, _, _, rfl, hi1, Y.cl, Y.nP, cy_period _ _ _, _, rfl, _, _, rfl, e, fun H2 s2 => ⟨true, rfl, iteF ?_⟩⟩
  refine ⟨_, rfl, c, C, dx, _, _, rfl, s2 _ _ hi1, Y.cl, Y.nR, cy_rate _ _ _, _, rfl, c, C, dx, _, _, rfl, s2 _ _ hi1, Y.cl, Y.nS, cy_start _ _ _, sz2 (by show 2 ≤ 100; decide), fun t ht kt => ?_⟩
  have s3 := (s1.trans s2).trans (Same.new ht (.tup [.ref ra, .ref sb]))
  exact k t ra sb _ s3 (ob_new kt) (ob_same s3 hp.o) (ob_same s3 hq.f.o)
def spIsCycle (K : PySem.W.Frag) (C : Addr) : Sp := fun vs H Q _ => ∃ (c t a b : Addr) (p q : Qt) (n : Nat), vs = [.ref c, .ref t] ∧ CyAt K C n H c p q ∧ n ≤ 8000 ∧ ob K H t = some (.tup [.ref a, .ref b]) ∧ ob K H a = some (.tup [.int p.1, .int p.2]) ∧ ob K H b = some (.tup [.int q.1, .int q.2]) ∧ ∀ H', Same H H' → Q (.bl true) H'
abbrev sIsCycle : Stmt := topS 58
theorem scIsCycle : FnScope ["_law_cycle", "_law_row"] ["_law_cycle", "_law_row"] (defScope sIsCycle) := ⟨rfl, rfl, rfl, by decide +kernel, rfl, by decide +kernel, by decide +kernel⟩
theorem k_IsCycle {C : Addr} (T : Bt K mg) (D : Dfn K mg "_law_is_cycle" sIsCycle ["_law_cycle", "_law_row"]) (d__law_cycle_told : Kn P w K mg base 5 "_law_cycle_told" ["_law_cycle"] (spTold K C)) (d__law_same : Kn P w K mg base 4 "_law_same" ["_law_told", "_law_due"] (spSame K 3)) : Kn P w K mg base 6 "_law_is_cycle" ["_law_cycle", "_law_row"] (spIsCycle K C) := by
  refine Kn.mk' D scIsCycle (fun vs H Q E h => ?_) (fun f cdv A outer s H vs Q E hr h => ?_)
  · obtain ⟨c, t, a, b, p, q, n, rfl, _⟩ := h
    rfl
  obtain ⟨c, t, a, b, p, q, n, rfl, hc, hn, ot, oa, o2, k⟩ := h
  refine ⟨_, (pss_one (ps_ret (pe_kn d__law_same hr (by rfl) (pa_cons (pe_kn d__law_cycle_told hr (by rfl) (pa_cons (pv 0) pa_nil)) (pa_cons (pv 1) pa_nil))))), ?_⟩
  refine ⟨_, rfl, c, p, q, n, rfl, hc, hn, fun u d e H1 s1 ou od oe => ?_⟩
  exact ⟨_, rfl, _, _, rfl, eqv_row ou (ob_same s1 ot) od oe (ob_same s1 oa) (ob_same s1 o2), fun H2 s2 => k H2 (s1.trans s2)⟩
end
end My

namespace My
open PySem PySem.Spec PyProof.Rows L2
section
variable {P : Program} {w : World} {K : PySem.W.Frag} {mg : Str → Option Value} {base : Heap}
theorem nf_shift {t : Qt} (h : Nf t) (k : Int) : Nf (t.1 + k * t.2, t.2) := ⟨h.1, by
  show Int.gcd (t.1 + k * t.2) t.2 = 1
  rw [Int.gcd_add_mul_right_left]
  exact h.2⟩
theorem shift_mod (y : Qt) (k : Int) : (y.1 + k * y.2) % y.2 = y.1 % y.2 := Int.add_mul_emod_self_right _ _ _
/-! ### the value of a fraction -/
def val (q : Qt) : Rat := (q.1 : Rat) / (q.2 : Rat)
theorem icast0 {b : Int} (h : b ≠ 0) : (b : Rat) ≠ 0 := fun e => h (Rat.intCast_eq_zero_iff.mp e)
theorem Nf.ne' {q : Qt} (h : Nf q) : (q.2 : Rat) ≠ 0 := icast0 (by have := h.1; omega)
theorem val_is {z : Qt} {t b : Int} (hb : b ≠ 0) (h : Is z t b) : val z = (t : Rat) / (b : Rat) := by
  have e : (z.1 : Rat) * b = t * z.2 := by rw [← Rat.intCast_mul, ← Rat.intCast_mul, h.2]
  have h1 := h.1.ne'
  have h2 := icast0 hb
  unfold val
  grind
theorem val_inj {p q : Qt} (hp : Nf p) (hq : Nf q) (h : val p = val q) : p = q := by
  have h1 := hp.ne'
  have h2 := hq.ne'
  unfold val at h
  have e : (p.1 : Rat) * q.2 = q.1 * p.2 := by grind
  rw [← Rat.intCast_mul, ← Rat.intCast_mul] at e
  exact nf_unique hp hq (Rat.intCast_inj.mp e)
theorem is_of_val {z : Qt} {t b : Int} (hb : b ≠ 0) (hz : Nf z) (h : val z = (t : Rat) / (b : Rat)) : Is z t b := by
  refine ⟨hz, Rat.intCast_inj.mp ?_⟩
  have h1 := hz.ne'
  have h2 := icast0 hb
  unfold val at h
  rw [Rat.intCast_mul, Rat.intCast_mul]
  grind
theorem val_sum {p q z : Qt} (hp : Nf p) (hq : Nf q) (h : sum2 p q z) : val z = val p + val q := by
  rw [val_is (mul_ne hp.1 hq.1) h]
  have h1 := hp.ne'
  have h2 := hq.ne'
  unfold val
  simp only [Rat.intCast_mul, Rat.intCast_add]
  grind
theorem val_dif {p q z : Qt} (hp : Nf p) (hq : Nf q) (h : dif2 p q z) : val z = val p - val q := by
  rw [val_is (mul_ne hp.1 hq.1) h]
  have h1 := hp.ne'
  have h2 := hq.ne'
  unfold val
  simp only [Rat.intCast_mul, Rat.intCast_sub]
  grind
theorem val_pro {p q z : Qt} (hp : Nf p) (hq : Nf q) (h : pro2 p q z) : val z = val p * val q := by
  rw [val_is (mul_ne hp.1 hq.1) h]
  have h1 := hp.ne'
  have h2 := hq.ne'
  unfold val
  simp only [Rat.intCast_mul]
  grind
theorem val_quo {p q z : Qt} (hp : Nf p) (hq : Nf q) (h0 : q.1 ≠ 0) (h : quo2 p q z) : val z = val p / val q := by
  rw [val_is (Int.mul_ne_zero hp.ne h0) h]
  have h1 := hp.ne'
  have h2 := hq.ne'
  have h3 := icast0 h0
  unfold val
  simp only [Rat.intCast_mul]
  grind
theorem val_neg (q : Qt) : val (-q.1, q.2) = - val q := by
  show ((-q.1 : Int) : Rat) / (q.2 : Rat) = - ((q.1 : Rat) / q.2)
  rw [Rat.intCast_neg]
  grind
theorem val_int (k : Int) : val (k, 1) = (k : Rat) := by
  show (k : Rat) / ((1 : Int) : Rat) = k
  rw [Rat.intCast_one]
  grind
theorem val_part {q : Qt} (h : Nf q) : ∃ k : Int, val q = val (q.1 % q.2, q.2) + (k : Rat) := by
  refine ⟨q.1 / q.2, ?_⟩
  have h1 := h.ne'
  have e := Int.emod_add_mul_ediv q.1 q.2
  have e2 : (q.1 : Rat) = ((q.1 % q.2 : Int) : Rat) + (q.2 : Rat) * ((q.1 / q.2 : Int) : Rat) := by rw [← Rat.intCast_mul, ← Rat.intCast_add, e]
  show (q.1 : Rat) / q.2 = ((q.1 % q.2 : Int) : Rat) / q.2 + ((q.1 / q.2 : Int) : Rat)
  grind
/-- alike but for whole turns -/
def Cg (x y : Rat) : Prop := ∃ k : Int, x = y + (k : Rat)
theorem Cg.refl (x : Rat) : Cg x x := ⟨0, by rw [Rat.intCast_zero]; grind⟩
theorem Cg.symm {x y : Rat} (h : Cg x y) : Cg y x := by
  obtain ⟨k, e⟩ := h
  exact ⟨-k, by rw [Rat.intCast_neg]; grind⟩
theorem Cg.trans {x y z : Rat} (h : Cg x y) (g : Cg y z) : Cg x z := by
  obtain ⟨k, e⟩ := h
  obtain ⟨l, f⟩ := g
  exact ⟨k + l, by rw [Rat.intCast_add]; grind⟩
theorem Cg.add {x y z w : Rat} (h : Cg x y) (g : Cg z w) : Cg (x + z) (y + w) := by
  obtain ⟨k, e⟩ := h
  obtain ⟨l, f⟩ := g
  exact ⟨k + l, by rw [Rat.intCast_add]; grind⟩
theorem Cg.sub {x y z w : Rat} (h : Cg x y) (g : Cg z w) : Cg (x - z) (y - w) := by
  obtain ⟨k, e⟩ := h
  obtain ⟨l, f⟩ := g
  exact ⟨k - l, by rw [Rat.intCast_sub]; grind⟩
theorem Cg.neg {x y : Rat} (h : Cg x y) : Cg (-x) (-y) := by
  obtain ⟨k, e⟩ := h
  exact ⟨-k, by rw [Rat.intCast_neg]; grind⟩
theorem Cg.of_eq {x y : Rat} (h : x = y) : Cg x y := h ▸ Cg.refl x
theorem cg_part {q : Qt} (h : Nf q) : Cg (val (q.1 % q.2, q.2)) (val q) := Cg.symm (val_part h)
theorem part_eq {x y : Qt} (hx : Nf x) (hy : Nf y) (h : Cg (val x) (val y)) : ((x.1 % x.2, x.2) : Qt) = (y.1 % y.2, y.2) := by
  obtain ⟨k, e⟩ := h
  have h1 := hx.ne'
  have h2 := hy.ne'
  have s : Nf (y.1 + k * y.2, y.2) := nf_shift hy k
  have v : val (y.1 + k * y.2, y.2) = val y + (k : Rat) := by
    show ((y.1 + k * y.2 : Int) : Rat) / (y.2 : Rat) = (y.1 : Rat) / (y.2 : Rat) + (k : Rat)
    rw [Rat.intCast_add, Rat.intCast_mul]
    grind
  have z : x = (y.1 + k * y.2, y.2) := val_inj hx s (by rw [v, e])
  rw [z]
  exact Prod.ext (shift_mod y k) rfl
theorem part_self {q : Qt} (h0 : 0 ≤ q.1) (h1 : q.1 < q.2) : ((q.1 % q.2, q.2) : Qt) = q := Prod.ext (Int.emod_eq_of_lt h0 h1) rfl
/-! ### using a def's promise -/
theorem ap_sum {H : Hp} {Q : VK} {a b : Addr} {p q : Qt} {j k : Nat} (hp : Fq K H j a p) (hq : Fq K H k b q) (h : ∀ z c H', sum2 p q z → Same H H' → Fq K H' (j + k + 1) c z → Q (.ref c) H') (hj : j ≤ 3000 := by omega) (hk : k ≤ 3000 := by omega) (E : XK := C8.E0) : spBin K sum2 [.ref a, .ref b] H Q E :=
  ⟨a, b, p, q, rfl, hp.mono hj, hq.mono hk, fun z hz c H' s o => h z c H' hz s ⟨o, hz.1, sum_sz hz hp.nf hq.nf hp.sz hq.sz (by omega)⟩⟩
theorem ap_dif {H : Hp} {Q : VK} {a b : Addr} {p q : Qt} {j k : Nat} (hp : Fq K H j a p) (hq : Fq K H k b q) (h : ∀ z c H', dif2 p q z → Same H H' → Fq K H' (j + k + 1) c z → Q (.ref c) H') (hj : j ≤ 3000 := by omega) (hk : k ≤ 3000 := by omega) (E : XK := C8.E0) : spBin K dif2 [.ref a, .ref b] H Q E :=
  ⟨a, b, p, q, rfl, hp.mono hj, hq.mono hk, fun z hz c H' s o => h z c H' hz s ⟨o, hz.1, dif_sz hz hp.nf hq.nf hp.sz hq.sz (by omega)⟩⟩
theorem ap_pro {H : Hp} {Q : VK} {a b : Addr} {p q : Qt} {j k : Nat} (hp : Fq K H j a p) (hq : Fq K H k b q) (h : ∀ z c H', pro2 p q z → Same H H' → Fq K H' (j + k + 1) c z → Q (.ref c) H') (hj : j ≤ 3000 := by omega) (hk : k ≤ 3000 := by omega) (E : XK := C8.E0) : spBin K pro2 [.ref a, .ref b] H Q E :=
  ⟨a, b, p, q, rfl, hp.mono hj, hq.mono hk, fun z hz c H' s o => h z c H' hz s ⟨o, hz.1, pro_sz hz hp.nf hq.nf hp.sz hq.sz (by omega)⟩⟩
theorem pq_part {H : Hp} {k : Nat} {e : Addr} {z : Qt} (o : ob K H e = some (.tup [.int (z.1 % z.2), .int z.2])) (n : Nf z) (s : Sz k z) : Pq K H k e (z.1 % z.2, z.2) :=
  ⟨⟨o, nf_part n, szPart n s⟩, Int.emod_nonneg _ n.ne, Int.emod_lt_of_pos _ (by have := n.1; omega)⟩
theorem ap_part {H : Hp} {Q : VK} {a : Addr} {z : Qt} {k : Nat} (hz : Fq K H k a z) (h : ∀ e H', Same H H' → Pq K H' k e (z.1 % z.2, z.2) → Q (.ref e) H') (hk : k ≤ 8000 := by omega) (E : XK := C8.E0) : spUn K (fun q => (q.1 % q.2, q.2)) [.ref a] H Q E :=
  ⟨a, z, rfl, hz.mono hk, fun e H' s o => h e H' s (pq_part o hz.nf hz.sz)⟩
theorem ap_neg {H : Hp} {Q : VK} {a : Addr} {z : Qt} {k : Nat} (hz : Fq K H k a z) (h : ∀ e H', Same H H' → Fq K H' k e (-z.1, z.2) → Q (.ref e) H') (hk : k ≤ 8000 := by omega) (E : XK := C8.E0) : spUn K (fun q => (-q.1, q.2)) [.ref a] H Q E :=
  ⟨a, z, rfl, hz.mono hk, fun e H' s o => h e H' s ⟨o, nf_neg hz.nf, by show (-z.1).natAbs < 2 ^ k; rw [Int.natAbs_neg]; exact hz.sz.1, hz.sz.2⟩⟩
theorem val_tur {p q m y : Qt} (hp : Nf p) (hq : Nf q) (hm : Nf m) (h : Tur p q m y) : val y = val q + val p * val m := by
  obtain ⟨t, h1, h2⟩ := h
  rw [val_sum hq h1.1 h2, val_pro hp hm h1]
theorem CyAt.facts {C : Addr} {n : Nat} {H : Hp} {c : Addr} {p q : Qt} (h : CyAt K C n H c p q) : Nf p ∧ Nf q ∧ 0 ≤ q.1 ∧ q.1 < q.2 := by
  obtain ⟨dx, ra, sb, v, hi, hp, hq, hv⟩ := h
  exact ⟨hp.nf, hq.f.nf, hq.lo, hq.hi⟩
theorem Tur.nf {p q m y : Qt} (h : Tur p q m y) : Nf y := by
  obtain ⟨t, _, h2⟩ := h
  exact h2.1
end
end My

namespace My
open PySem PySem.Spec PyProof.Rows L2
section
variable {P : Program} {w : World} {K : PySem.W.Frag} {mg : Str → Option Value} {base : Heap}
def spTurned (K : PySem.W.Frag) (C : Addr) : Sp := fun vs H Q _ => ∃ (c a : Addr) (p q b : Qt) (n j : Nat), vs = [.ref c, .ref a] ∧ CyAt K C n H c p q ∧ Fq K H j a b ∧ n + j ≤ 2800 ∧ ∀ z c' H', sum2 q b z → Same H H' → CyAt K C (n + j + 1) H' c' p (z.1 % z.2, z.2) → Q (.ref c') H'
def spGeared (K : PySem.W.Frag) (C : Addr) : Sp := fun vs H Q _ => ∃ (c a : Addr) (p q b : Qt) (n j : Nat), vs = [.ref c, .ref a] ∧ CyAt K C n H c p q ∧ Fq K H j a b ∧ n + j ≤ 2800 ∧ ∀ y z c' H', pro2 p b y → pro2 q b z → Same H H' → CyAt K C (n + j + 1) H' c' y (z.1 % z.2, z.2) → Q (.ref c') H'
def spLater (K : PySem.W.Frag) (C : Addr) : Sp := fun vs H Q _ => ∃ (c a : Addr) (p q b : Qt) (n j : Nat), vs = [.ref c, .ref a] ∧ CyAt K C n H c p q ∧ Fq K H j a b ∧ 2 * n + j ≤ 2800 ∧ ∀ y c' H', Tur p q b y → Same H H' → CyAt K C (2 * n + j + 3) H' c' p (y.1 % y.2, y.2) → Q (.ref c') H'
def spCyEq (K : PySem.W.Frag) (C : Addr) : Sp := fun vs H Q _ => ∃ (c d : Addr) (p q p' q' : Qt) (n j : Nat), vs = [.ref c, .ref d] ∧ CyAt K C n H c p q ∧ CyAt K C j H d p' q' ∧ Q (.bl (decide (p = p') && decide (q = q'))) H
def spCyAdd (K : PySem.W.Frag) (C : Addr) : Sp := fun vs H Q _ => ∃ (c d : Addr) (p q p' q' : Qt) (n j : Nat), vs = [.ref c, .ref d] ∧ CyAt K C n H c p q ∧ CyAt K C j H d p' q' ∧ n + j ≤ 2800 ∧ ∀ y z c' H', sum2 p p' y → sum2 q q' z → Same H H' → CyAt K C (n + j + 1) H' c' y (z.1 % z.2, z.2) → Q (.ref c') H'
def spCySub (K : PySem.W.Frag) (C : Addr) : Sp := fun vs H Q _ => ∃ (c d : Addr) (p q p' q' : Qt) (n j : Nat), vs = [.ref c, .ref d] ∧ CyAt K C n H c p q ∧ CyAt K C j H d p' q' ∧ n + j ≤ 2800 ∧ ∀ y z c' H', dif2 p p' y → dif2 q q' z → Same H H' → CyAt K C (n + j + 1) H' c' y (z.1 % z.2, z.2) → Q (.ref c') H'
def spCyNeg (K : PySem.W.Frag) (C : Addr) : Sp := fun vs H Q _ => ∃ (c : Addr) (p q : Qt) (n : Nat), vs = [.ref c] ∧ CyAt K C n H c p q ∧ n ≤ 2800 ∧ ∀ c' H', Same H H' → CyAt K C n H' c' (-p.1, p.2) ((-q.1) % q.2, q.2) → Q (.ref c') H'
abbrev sCyEq : Stmt := inClass (topS 28) 2
theorem scCyEq : FnScope ["self", "other"] ["self", "other"] (defScope sCyEq) := ⟨rfl, rfl, rfl, by decide +kernel, rfl, by decide +kernel, by decide +kernel⟩
theorem ok_CyEq {C f : Addr} {fd : FuncData} (T : Bt K mg) (Y : CyC K mg C) (IC : C8.InsC K C) (F : Fun K "__eq__" "Cycle.__eq__" sCyEq f fd) : FnOk P w K mg base CX0 5 f fd ["self", "other"] (spCyEq K C) := by
  refine F.ok scCyEq (fun vs H Q E h => ?_) (fun cdv A outer s H vs Q E hr h => ?_)
  · obtain ⟨c, d, p, q, p1, q1, n, j, rfl, _⟩ := h
    rfl
  obtain ⟨c, d, p, q, p1, q1, n, j, rfl, hc, hd, k⟩ := h
  refine ⟨_, (pss_one (ps_ret (pe_and (pe_callB (C8.call_isC IC) (by rfl) T.b_isinstance (by decide +kernel) (pa_cons (pv 1) (pa_cons (pe_glob (v := .ref C) (by rfl) Y.g rfl) pa_nil))) (pe_and (pe_cmpR (op_eqF hr) (pe_fld (pv 0) rfl) (pe_fld (pv 1) rfl) (nomark _)) (pe_one (pe_cmpR (op_eqF hr) (pe_fld (pv 0) rfl) (pe_fld (pv 1) rfl) (nomark _))))))), ?_⟩
  obtain ⟨dx, ra, sb, v, hi, hp, hq, hv⟩ := id hc
  obtain ⟨dx', ra', sb', v', hi', hp', hq', hv'⟩ := hd
  refine ⟨_, rfl, d, dx', _, rfl, hi', true, rfl, ?_⟩
  rw [if_pos rfl]
  refine ⟨_, rfl, c, C, dx, _, _, rfl, hi, Y.cl, Y.nR, cy_rate _ _ _, _, rfl, d, C, dx', _, _, rfl, hi', Y.cl, Y.nR, cy_rate _ _ _, ra, ra', p, p1, rfl, rfl, hp.o, hp'.o, _, rfl, ?_⟩
  by_cases e : p = p1
  · rw [decide_eq_true e] at k ⊢
    rw [if_pos rfl]
    refine ⟨_, rfl, c, C, dx, _, _, rfl, hi, Y.cl, Y.nS, cy_start _ _ _, _, rfl, d, C, dx', _, _, rfl, hi', Y.cl, Y.nS, cy_start _ _ _, sb, sb', q, q1, rfl, rfl, hq.f.o, hq'.f.o, ?_⟩
    exact k
  · rw [decide_eq_false e] at k ⊢
    rw [if_neg Bool.noConfusion]
    exact k
abbrev sCyAdd : Stmt := inClass (topS 28) 3
theorem scCyAdd : FnScope ["self", "other"] ["self", "other"] (defScope sCyAdd) := ⟨rfl, rfl, rfl, by decide +kernel, rfl, by decide +kernel, by decide +kernel⟩
theorem ok_CyAdd {C f : Addr} {fd : FuncData} (T : Bt K mg) (Y : CyC K mg C) (mk : C8.Mak P w K mg base 5 "Cycle" C (spCyInit K C) []) (d_plus : Kn P w K mg base 3 "plus" ["left", "right"] (spBin K sum2)) (d_part_of : Kn P w K mg base 3 "part_of" ["value"] (spUn K fun q => (q.1 % q.2, q.2))) (F : Fun K "__add__" "Cycle.__add__" sCyAdd f fd) : FnOk P w K mg base CX0 7 f fd ["self", "other"] (spCyAdd K C) := by
  refine F.ok scCyAdd (fun vs H Q E h => ?_) (fun cdv A outer s H vs Q E hr h => ?_)
  · obtain ⟨c, d, p, q, p1, q1, n, j, rfl, _⟩ := h
    rfl
  obtain ⟨c, d, p, q, p1, q1, n, j, rfl, hc, hd, hj, k⟩ := h
  refine ⟨_, (pss_one (ps_ret (C8.pe_mk mk hr (by omega) (by rfl) (pa_cons (pe_kn d_plus hr (by rfl) (pa_cons (pe_fld (pv 0) rfl) (pa_cons (pe_fld (pv 1) rfl) pa_nil))) (pa_cons (pe_kn d_part_of hr (by rfl) (pa_cons (pe_kn d_plus hr (by rfl) (pa_cons (pe_fld (pv 0) rfl) (pa_cons (pe_fld (pv 1) rfl) pa_nil))) pa_nil)) pa_nil))))), ?_⟩
  obtain ⟨dx, ra, sb, v, hi, hp, hq, hv⟩ := id hc
  obtain ⟨dx', ra', sb', v', hi', hp', hq', hv'⟩ := hd
  refine ⟨_, rfl, c, C, dx, _, _, rfl, hi, Y.cl, Y.nR, cy_rate _ _ _, _, rfl, d, C, dx', _, _, rfl, hi', Y.cl, Y.nR, cy_rate _ _ _, ap_sum hp hp' fun y e H1 hy s1 f1 => ⟨_, rfl, c, C, dx, _, _, rfl, (s1 _ _ hi), Y.cl, Y.nS, cy_start _ _ _, _, rfl, d, C, dx', _, _, rfl, (s1 _ _ hi'), Y.cl, Y.nS, cy_start _ _ _, ap_sum (hq.f.same s1) (hq'.f.same s1) fun z g H2 hz s2 f2 => ap_part f2 fun u H3 s3 f3 => fun c' dx'' hx hdx hne => ?_⟩⟩
  have s23 := s2.trans s3
  exact ⟨H3, c', dx'', e, u, y, _, n + j + 1, rfl, same_make hx hdx, hx, upd_same, f1.same s23, f3, by omega, fun H' s' hcy => ⟨rfl, k y z c' H' hy hz (s1.trans (s23.trans s')) hcy⟩⟩
abbrev sCySub : Stmt := inClass (topS 28) 4
theorem scCySub : FnScope ["self", "other"] ["self", "other"] (defScope sCySub) := ⟨rfl, rfl, rfl, by decide +kernel, rfl, by decide +kernel, by decide +kernel⟩
theorem ok_CySub {C f : Addr} {fd : FuncData} (T : Bt K mg) (Y : CyC K mg C) (mk : C8.Mak P w K mg base 5 "Cycle" C (spCyInit K C) []) (d_minus : Kn P w K mg base 3 "minus" ["left", "right"] (spBin K dif2)) (d_part_of : Kn P w K mg base 3 "part_of" ["value"] (spUn K fun q => (q.1 % q.2, q.2))) (F : Fun K "__sub__" "Cycle.__sub__" sCySub f fd) : FnOk P w K mg base CX0 7 f fd ["self", "other"] (spCySub K C) := by
  refine F.ok scCySub (fun vs H Q E h => ?_) (fun cdv A outer s H vs Q E hr h => ?_)
  · obtain ⟨c, d, p, q, p1, q1, n, j, rfl, _⟩ := h
    rfl
  obtain ⟨c, d, p, q, p1, q1, n, j, rfl, hc, hd, hj, k⟩ := h
  refine ⟨_, (pss_one (ps_ret (C8.pe_mk mk hr (by omega) (by rfl) (pa_cons (pe_kn d_minus hr (by rfl) (pa_cons (pe_fld (pv 0) rfl) (pa_cons (pe_fld (pv 1) rfl) pa_nil))) (pa_cons (pe_kn d_part_of hr (by rfl) (pa_cons (pe_kn d_minus hr (by rfl) (pa_cons (pe_fld (pv 0) rfl) (pa_cons (pe_fld (pv 1) rfl) pa_nil))) pa_nil)) pa_nil))))), ?_⟩
  obtain ⟨dx, ra, sb, v, hi, hp, hq, hv⟩ := id hc
  obtain ⟨dx', ra', sb', v', hi', hp', hq', hv'⟩ := hd
  refine ⟨_, rfl, c, C, dx, _, _, rfl, hi, Y.cl, Y.nR, cy_rate _ _ _, _, rfl, d, C, dx', _, _, rfl, hi', Y.cl, Y.nR, cy_rate _ _ _, ap_dif hp hp' fun y e H1 hy s1 f1 => ⟨_, rfl, c, C, dx, _, _, rfl, (s1 _ _ hi), Y.cl, Y.nS, cy_start _ _ _, _, rfl, d, C, dx', _, _, rfl, (s1 _ _ hi'), Y.cl, Y.nS, cy_start _ _ _, ap_dif (hq.f.same s1) (hq'.f.same s1) fun z g H2 hz s2 f2 => ap_part f2 fun u H3 s3 f3 => fun c' dx'' hx hdx hne => ?_⟩⟩
  have s23 := s2.trans s3
  exact ⟨H3, c', dx'', e, u, y, _, n + j + 1, rfl, same_make hx hdx, hx, upd_same, f1.same s23, f3, by omega, fun H' s' hcy => ⟨rfl, k y z c' H' hy hz (s1.trans (s23.trans s')) hcy⟩⟩
abbrev sCyNeg : Stmt := inClass (topS 28) 5
theorem scCyNeg : FnScope ["self"] ["self"] (defScope sCyNeg) := ⟨rfl, rfl, rfl, by decide +kernel, rfl, by decide +kernel, by decide +kernel⟩
theorem ok_CyNeg {C f : Addr} {fd : FuncData} (T : Bt K mg) (Y : CyC K mg C) (mk : C8.Mak P w K mg base 5 "Cycle" C (spCyInit K C) []) (d_negated : Kn P w K mg base 3 "negated" ["value"] (spUn K fun q => (-q.1, q.2))) (d_part_of : Kn P w K mg base 3 "part_of" ["value"] (spUn K fun q => (q.1 % q.2, q.2))) (F : Fun K "__neg__" "Cycle.__neg__" sCyNeg f fd) : FnOk P w K mg base CX0 7 f fd ["self"] (spCyNeg K C) := by
  refine F.ok scCyNeg (fun vs H Q E h => ?_) (fun cdv A outer s H vs Q E hr h => ?_)
  · obtain ⟨c, p, q, n, rfl, _⟩ := h
    rfl
  obtain ⟨c, p, q, n, rfl, hc, hn, k⟩ := h
  refine ⟨_, (pss_one (ps_ret (C8.pe_mk mk hr (by omega) (by rfl) (pa_cons (pe_kn d_negated hr (by rfl) (pa_cons (pe_fld (pv 0) rfl) pa_nil)) (pa_cons (pe_kn d_part_of hr (by rfl) (pa_cons (pe_kn d_negated hr (by rfl) (pa_cons (pe_fld (pv 0) rfl) pa_nil)) pa_nil)) pa_nil))))), ?_⟩
  obtain ⟨dx, ra, sb, v, hi, hp, hq, hv⟩ := id hc
  refine ⟨_, rfl, c, C, dx, _, _, rfl, hi, Y.cl, Y.nR, cy_rate _ _ _, ap_neg hp fun e H1 s1 f1 => ⟨_, rfl, c, C, dx, _, _, rfl, (s1 _ _ hi), Y.cl, Y.nS, cy_start _ _ _, ap_neg (hq.f.same s1) fun g H2 s2 f2 => ap_part f2 fun u H3 s3 f3 => fun c' dx' hx hdx hne => ?_⟩⟩
  have s23 := s2.trans s3
  exact ⟨H3, c', dx', e, u, _, _, n, rfl, same_make hx hdx, hx, upd_same, f1.same s23, f3, by omega, fun H' s' hcy => ⟨rfl, k c' H' (s1.trans (s23.trans s')) hcy⟩⟩
end
/-! ### the class's operators -/
structure OpK (P : Program) (w : World) (K : PySem.W.Frag) (mg : Str → Option Value) (base : Heap) (k : Nat) (C : Addr) (x : Str) (sp : Sp) : Prop where
  ex : ∃ (g : Addr) (fd : FuncData) (ps : List Str), PySem.W.findIn K (.ref C) x = some (some (.ref g)) ∧ PySem.W.isFn K (.ref g) = true ∧ FnOk P w K mg base CX0 k g fd ps sp ∧ Binds K fd ps []
section
variable {X : Cx} {C : Addr} {sp : Sp} {j k : Nat}
theorem op_eqC (c : OpK X.prog X.w X.K X.mg X.base k C "__eq__" sp) (hr : Room j X.A) (hk : k ≤ j) : OpR X (compareOp .Eq) (rOwnD X.K C sp E0) := by
  obtain ⟨g, fd, ps, h1, h2, F, b⟩ := c.ex
  exact op_ownD (fun _ _ => rfl) h1 h2 F b (hr.mono hk) pass0
theorem op_addC (sf : PySem.W.selfFirst X.K C = true) (c : OpK X.prog X.w X.K X.mg X.base k C "__add__" sp) (hr : Room j X.A) (hk : k ≤ j) : OpR X (binaryOp .Add) (rBinD C sp E0) := by
  obtain ⟨g, fd, ps, h1, h2, F, b⟩ := c.ex
  exact op_binD sf h1 h2 F b (hr.mono hk) pass0
theorem op_subC (sf : PySem.W.selfFirst X.K C = true) (c : OpK X.prog X.w X.K X.mg X.base k C "__sub__" sp) (hr : Room j X.A) (hk : k ≤ j) : OpR X (binaryOp .Sub) (rBinD C sp E0) := by
  obtain ⟨g, fd, ps, h1, h2, F, b⟩ := c.ex
  exact op_binD sf h1 h2 F b (hr.mono hk) pass0
theorem un_negC (c : OpK X.prog X.w X.K X.mg X.base k C "__neg__" sp) (hr : Room j X.A) (hk : k ≤ j) : UnR X (unaryOp .USub) (rNegD C sp E0) := by
  obtain ⟨g, fd, ps, h1, h2, F, b⟩ := c.ex
  exact un_negD h1 h2 F b (hr.mono hk) pass0
end
section
variable {P : Program} {w : World} {K : PySem.W.Frag} {mg : Str → Option Value} {base : Heap}
theorem nf_self {C : Addr} : PySem.W.notFirst K C (.ref C) = true := by
  unfold PySem.W.notFirst
  simp
/-- == of two cycles -/
theorem ap_eqC {C : Addr} {H : Hp} {Q : VK} {c d : Addr} {p q p' q' : Qt} {n j : Nat} (hc : CyAt K C n H c p q) (hd : CyAt K C j H d p' q') (h : Q (.bl (decide (p = p') && decide (q = q'))) H) : rOwnD K C (spCyEq K C) E0 (.ref c) (.ref d) H Q := by
  obtain ⟨dx, ra, sb, v, hi, _⟩ := id hc
  obtain ⟨dx', ra', sb', v', hi', _⟩ := id hd
  exact ⟨c, dx, _, d, C, dx', _, rfl, rfl, hi, hi', nf_self, c, d, p, q, p', q', n, j, rfl, hc, hd, h⟩
end
end My

namespace My
open PySem PySem.Spec PyProof.Rows L2
section
variable {P : Program} {w : World} {K : PySem.W.Frag} {mg : Str → Option Value} {base : Heap}
theorem sum2.uni {p q z z' : Qt} (hp : Nf p) (hq : Nf q) (h : sum2 p q z) (h' : sum2 p q z') : z = z' := is_unique (mul_ne hp.1 hq.1) h h'
theorem dif2.uni {p q z z' : Qt} (hp : Nf p) (hq : Nf q) (h : dif2 p q z) (h' : dif2 p q z') : z = z' := is_unique (mul_ne hp.1 hq.1) h h'
theorem pro2.uni {p q z z' : Qt} (hp : Nf p) (hq : Nf q) (h : pro2 p q z) (h' : pro2 p q z') : z = z' := is_unique (mul_ne hp.1 hq.1) h h'
theorem ap_mt {C : Addr} {n : Nat} {H : Hp} {c : Addr} {p q : Qt} {m : Str} {R : Prop} (h : CyAt K C n H c p q) (hm : ∀ a b v, (cyF a b v).lookup m = none) (g : R) : ∃ a dx fs, V.ref c = .ref a ∧ H a = some (.ins C dx fs) ∧ fs.lookup m = none ∧ R := by
  obtain ⟨dx, a, b, v, hi, _⟩ := h
  exact ⟨c, dx, _, rfl, hi, hm a b v, g⟩
theorem ap_isCyN {C : Addr} {H : Hp} {Q : VK} {c a b : Addr} {p q p' q' : Qt} {n i j : Nat} (hc : CyAt K C n H c p q) (fa : Fq K H i a p') (fb : Fq K H j b q') (e1 : p = p') (e2 : q = q') (h : ∀ H', Same H H' → Q (.bl true) H') (hn : n ≤ 8000 := by omega) (E : XK := C8.E0) :
    ∀ t, H t = none → K.lookup t = none → spIsCycle K C [.ref c, .ref t] (upd H t (.tup [.ref a, .ref b])) Q E := by
  subst e1 e2
  intro t ht kt
  have s := Same.new ht (.tup [.ref a, .ref b])
  exact ⟨c, t, a, b, p, q, n, rfl, hc.same s, hn, ob_new kt, (fa.same s).o, (fb.same s).o, fun H' z => h H' (s.trans z)⟩
theorem ap_isCy {C : Addr} {H : Hp} {Q : VK} {c t a b : Addr} {p q p' q' : Qt} {n i j : Nat} (hc : CyAt K C n H c p q) (ot : ob K H t = some (.tup [.ref a, .ref b])) (fa : Fq K H i a p') (fb : Fq K H j b q') (e1 : p = p') (e2 : q = q') (h : ∀ H', Same H H' → Q (.bl true) H') (hn : n ≤ 8000 := by omega) (E : XK := C8.E0) : spIsCycle K C [.ref c, .ref t] H Q E := by
  subst e1 e2
  exact ⟨c, t, a, b, p, q, n, rfl, hc, hn, ot, fa.o, fb.o, h⟩
theorem eqv_f {H : Hp} {a b : Addr} {p q : Qt} (ha : ob K H a = some (frt p)) (hb : ob K H b = some (frt q)) (e : p = q) : Eqv K H 2 (.ref a) (.ref b) := by
  subst e
  exact eqv_two ha hb
theorem ap_same {H : Hp} {Q : VK} {a b : Addr} {p q : Qt} (ha : ob K H a = some (frt p)) (hb : ob K H b = some (frt q)) (e : p = q) (h : ∀ H', Same H H' → Q (.bl true) H') (E : XK := C8.E0) : spSame K 3 [.ref a, .ref b] H Q E := by
  subst e
  exact ⟨_, _, rfl, eqv_two ha hb, h⟩
def spLTurns (K : PySem.W.Frag) : Sp := fun vs H Q _ => ∃ (t mm a b : Addr) (p q m : Qt) (n j : Nat), vs = [.ref t, .ref mm] ∧ ob K H t = some (.tup [.ref a, .ref b]) ∧ Fq K H n a p ∧ Fq K H n b q ∧ Fq K H j mm m ∧ n + j ≤ 2900 ∧ ∀ y c H', Tur p q m y → Same H H' → Fq K H' (2 * n + j + 3) c y → Q (.ref c) H'
def spLPlaceAt (K : PySem.W.Frag) : Sp := fun vs H Q _ => ∃ (t mm a b : Addr) (p q m : Qt) (n j : Nat), vs = [.ref t, .ref mm] ∧ ob K H t = some (.tup [.ref a, .ref b]) ∧ Fq K H n a p ∧ Fq K H n b q ∧ Fq K H j mm m ∧ n + j ≤ 2900 ∧ ∀ y c H', Tur p q m y → Same H H' → Pq K H' (2 * n + j + 3) c (y.1 % y.2, y.2) → Q (.ref c) H'
abbrev sLTurns : Stmt := topS 54
theorem scLTurns : FnScope ["_law_row", "_law_moment_here"] ["_law_row", "_law_moment_here"] (defScope sLTurns) := ⟨rfl, rfl, rfl, by decide +kernel, rfl, by decide +kernel, by decide +kernel⟩
theorem k_LTurns (T : Bt K mg) (D : Dfn K mg "_law_turns" sLTurns ["_law_row", "_law_moment_here"]) (d__law_plus : Kn P w K mg base 3 "_law_plus" ["_law_left", "_law_right"] (spBin K sum2)) (d__law_times : Kn P w K mg base 3 "_law_times" ["_law_left", "_law_right"] (spBin K pro2)) : Kn P w K mg base 5 "_law_turns" ["_law_row", "_law_moment_here"] (spLTurns K) := by
  refine Kn.mk' D scLTurns (fun vs H Q E h => ?_) (fun f cdv A outer s H vs Q E hr h => ?_)
  · obtain ⟨t, mm, a, b, p, q, m, n, j, rfl, _⟩ := h
    rfl
  obtain ⟨t, mm, a, b, p, q, m, n, j, rfl, ot, ha, hb, hm, hj, k⟩ := h
  refine ⟨_, (pss_one (ps_ret (pe_kn d__law_plus hr (by rfl) (pa_cons (pe_ix ix_any (pv 0) pe_int (fun _ _ => rfl)) (pa_cons (pe_kn d__law_times hr (by rfl) (pa_cons (pe_ix ix_any (pv 0) pe_int (fun _ _ => rfl)) (pa_cons (pv 1) pa_nil))) pa_nil))))), ?_⟩
  simp only [ot, cx_K, decide_true, decide_false, reduceCtorEq, gTp, gCons, gNil, ca_0, ca_1, ca_2, ca_3, ca_4, ca_5, ca_6, ca_7, ca_8, ca_9, ca_10, ca_11, ca_12, ca_13, ca_14, ca_15, ca_16, ca_17, ca_18, ca_19, ca_20, ca_21, ca_22, ca_23, ca_24, ca_25, ca_26, ca_27, ca_28, ca_29, ca_30, not_true_eq_false, not_false_eq_true, Int.reduceEq, Nat.reduceEqDiff, Nat.reduceLeDiff, rGcd, V.ty.injEq, eq_self, List.not_mem_nil, beq_self_eq_true, HO.lst.injEq, HO.tup.injEq, tFor_eq, iRng1, iList, iTup, nat10, tSeq, rIxA, rSetA, rIsN, rIsT, tTp, tLs, itsO_tup, itsO_lst, tyO_tup, tyO_lst, tyO_dK, tyN_non, tyN_bl, tyN_int, tyN_str, tyN_ref, tyNs_lt, isB, upd_same, upd_upd, sizeLine_eq, List.mem_cons, String.reduceBEq, String.reduceEq, Bool.or_false, Bool.or_true, Bool.and_false, Bool.false_or, Bool.and_self, Bool.false_and, Bool.not_false, Bool.not_true, List.any_cons, List.any_nil, atI_0, setI_0, atI_1, setI_1, atI_2, setI_2, atI_3, setI_3, atI_4, setI_4, atI_5, setI_5, atI_6, setI_6, tAsg, gName, tOp, tUn, tVar, tC, tCons, L2.tNil, tRet, tIfS, tTest, tCB, tCall, rI, rI0, rU, tNext, tB, tAnd, tOr, tNot, tAndV, tOrV, tNotV, tDrop, tIf, tPar, gSub, rIxL, rIxT, rEq, rNe, rSetL, tBits,
    L2.start, List.map_cons, List.map_nil, List.cons_append, List.nil_append, List.append_nil, List.length_cons, List.length_nil, List.replicate, Nat.reduceAdd, Nat.reduceSub, Nat.zero_add, List.getElem?_cons_zero, List.getElem?_cons_succ, List.set_cons_zero, List.set_cons_succ,
    Option.some.injEq, exists_eq_left', exists_eq_left, V.int.injEq, V.bl.injEq, V.ref.injEq, V.str.injEq, List.cons.injEq, reduceCtorEq, and_true, true_and, false_and, and_false, exists_false, or_false, false_or, or_true, true_or, exists_const, CMul, CDiv, CPow, and_assoc, exists_and_left, exists_and_right, Int.reducePow, Int.reduceNeg, Int.reduceLT, Int.reduceLE, Nat.reducePow, Nat.reduceLT, Int.reduceToNat, gt_iff_lt, ge_iff_le, decide_eq_true_eq, Bool.not_eq_true', decide_eq_false_iff_not, scal, ↓reduceIte, Bool.false_eq_true]
  exact ap_pro ha hm fun z d H1 hz s1 f1 => ap_sum (hb.same s1) f1 fun y c H2 hy s2 f2 => k y c H2 ⟨z, hz, hy⟩ (s1.trans s2) (f2.mono (by omega))
abbrev sLPlaceAt : Stmt := topS 55
theorem scLPlaceAt : FnScope ["_law_row", "_law_moment_here"] ["_law_row", "_law_moment_here"] (defScope sLPlaceAt) := ⟨rfl, rfl, rfl, by decide +kernel, rfl, by decide +kernel, by decide +kernel⟩
theorem k_LPlaceAt (T : Bt K mg) (D : Dfn K mg "_law_place_at" sLPlaceAt ["_law_row", "_law_moment_here"]) (d__law_part : Kn P w K mg base 3 "_law_part" ["_law_value"] (spUn K fun q => (q.1 % q.2, q.2))) (d__law_turns : Kn P w K mg base 5 "_law_turns" ["_law_row", "_law_moment_here"] (spLTurns K)) : Kn P w K mg base 6 "_law_place_at" ["_law_row", "_law_moment_here"] (spLPlaceAt K) := by
  refine Kn.mk' D scLPlaceAt (fun vs H Q E h => ?_) (fun f cdv A outer s H vs Q E hr h => ?_)
  · obtain ⟨t, mm, a, b, p, q, m, n, j, rfl, _⟩ := h
    rfl
  obtain ⟨t, mm, a, b, p, q, m, n, j, rfl, ot, ha, hb, hm, hj, k⟩ := h
  refine ⟨_, (pss_one (ps_ret (pe_kn d__law_part hr (by rfl) (pa_cons (pe_kn d__law_turns hr (by rfl) (pa_cons (pv 0) (pa_cons (pv 1) pa_nil))) pa_nil)))), ?_⟩
  refine ⟨_, rfl, _, rfl, t, mm, a, b, p, q, m, n, j, rfl, ot, ha, hb, hm, hj, fun y c H1 hy s1 f1 => ap_part f1 fun e H2 s2 f2 => k y e H2 hy (s1.trans s2) f2⟩
/-- a row: a rate and a start -/
structure Rw (K : PySem.W.Frag) (H : Hp) (u a b : Addr) (p q : Qt) : Prop where
  ot : ob K H u = some (.tup [.ref a, .ref b])
  fa : Fq K H 133 a p
  fb : Pq K H 133 b q
theorem Rw.same {H H' : Hp} {u a b : Addr} {p q : Qt} (h : Rw K H u a b p q) (s : Same H H') : Rw K H' u a b p q := ⟨ob_same s h.ot, h.fa.same s, h.fb.same s⟩
theorem Fq.kps {H H' : Hp} {n : Nat} {a s : Addr} {q : Qt} (h : Fq K H n a q) (e : Kp s H H') (st : Sto K H s) : Fq K H' n a q := by
  obtain ⟨ys, hy⟩ := st.at
  exact h.kp e hy
theorem Pq.kps {H H' : Hp} {n : Nat} {a s : Addr} {q : Qt} (h : Pq K H n a q) (e : Kp s H H') (st : Sto K H s) : Pq K H' n a q := ⟨h.f.kps e st, h.lo, h.hi⟩
theorem ob_kps {H H' : Hp} {a s : Addr} {xs : List V} (h : ob K H a = some (.tup xs)) (e : Kp s H H') (st : Sto K H s) : ob K H' a = some (.tup xs) := by
  obtain ⟨ys, hy⟩ := st.at
  exact ob_kp e hy (fun _ z => by cases z) h
theorem Rw.kps {H H' : Hp} {s u a b : Addr} {p q : Qt} (h : Rw K H u a b p q) (e : Kp s H H') (st : Sto K H s) : Rw K H' u a b p q := ⟨ob_kps h.ot e st, h.fa.kps e st, h.fb.kps e st⟩
theorem ap_pickN {H : Hp} {Q : VK} {s : Addr} {xs : List V} (st : Sto K H s) (h0 : 0 < xs.length) (h1 : xs.length < 1000) (h : ∀ x H', x ∈ xs → Kp s H H' → Sto K H' s → Q x H') (E : XK := C8.E0) : ∀ l, H l = none → K.lookup l = none → spPick K [.ref s, .ref l] (upd H l (.lst xs)) Q E := fun l hl kl => by
  obtain ⟨ys, hys⟩ := st.at
  have sN := Same.new hl (.lst xs)
  exact ⟨s, l, xs, rfl, st.same sN, upd_same, ne_new hys hl, h0, h1, fun x H' hx kp st' => h x H' hx ((Kp.same sN).trans kp) st'⟩
theorem lw_sz {z : Qt} {t b : Int} {k : Nat} (h : Lw z t b) (h1 : 1 ≤ k) (ht : t.natAbs < 2 ^ k) (hb : b.natAbs < 2 ^ k) : Nf z ∧ Sz k z := by
  by_cases e : b = 0
  · rw [h.1 e]
    exact ⟨nf01, Nat.lt_of_lt_of_le (by decide : (0 : Int).natAbs < 2 ^ 1) (Nat.pow_le_pow_right (by omega) h1), Nat.lt_of_lt_of_le (by decide : (1 : Int).natAbs < 2 ^ 1) (Nat.pow_le_pow_right (by omega) h1)⟩
  · exact ⟨(h.2 e).1, is_sz e (h.2 e) ht hb⟩

def DrawI (K : PySem.W.Frag) (s u a b : Addr) (p q : Qt) (H : Hp) (σ : L2.St) (H' : Hp) : Prop := ∃ bm d, σ = [some (.ref s), some (.ref u), some (.ref bm), none] ∧ Rw K H' u a b p q ∧ Fq K H' 140 bm d ∧ Kp s H H' ∧ Sto K H' s
def spDrawn (K : PySem.W.Frag) : Sp := fun vs H Q _ => ∃ (s : Addr), vs = [.ref s] ∧ Sto K H s ∧ ∀ t u bm mm a b p q d m H', ob K H' t = some (.tup [.ref u, .ref bm, .ref mm]) → Rw K H' u a b p q → Fq K H' 140 bm d → Fq K H' 133 mm m → Kp s H H' → Sto K H' s → Q (.ref t) H'
end
end My

namespace My
open PySem PySem.Spec PyProof.Rows L2
/-! ### own == and != with a right side of any known kind -/
theorem looks_X {X : Cx} {pins : List (Addr × Obj)} {σ : L2.St} {H : Hp} {s : Shared} {x : V} {u t : Value} (I : Inv X pins σ H s) (rx : RelV x u) (ty : TyX X.K H x t) : PySem.W.Looks (model X.prog X.w) s.heap (typeOf u) t := by
  obtain ⟨P, Z, p, _⟩ := kit_of I rx ty
  exact Z.ty _ _ I.kIn p
def rOwnA (K : PySem.W.Frag) (C : Addr) (sp : Sp) (E : XK) : R2 := fun x y H Q => ∃ a dx fs t, x = .ref a ∧ H a = some (.ins C dx fs) ∧ TyX K H y t ∧ PySem.W.notFirst K C t = true ∧ sp [x, y] H Q E
theorem op_ownA {X : Cx} {CX : CXT} {n : Nat} {C g : Addr} {fd : FuncData} {ps : List Str} {sp : Sp} {E : XK} {op : CmpOp} (hop : ∀ a b, compareOp op a b = richCompare op a b) (hs : PySem.W.findIn X.K (.ref C) (cmpInfo op).2.1 = some (some (.ref g))) (hf : PySem.W.isFn X.K (.ref g) = true) (F : FnOk X.prog X.w X.K X.mg X.base CX n g fd ps sp) (hb : Binds X.K fd ps [])
    (hr : Room n X.A) (hx : Passes CX X E) : OpR X (compareOp op) (rOwnA X.K C sp E) := by
  intro pins s σ H x y v u Q I rx ry h
  obtain ⟨a, dx, fs, t, rfl, ha, ty, hn, q⟩ := h
  cases (show v = Value.ref a from rx)
  obtain ⟨mA, J, _⟩ := ins_get I.hok ha
  obtain ⟨od, J, _⟩ := J.look
  obtain ⟨m, hF⟩ := I.fr
  rw [hop]
  refine PySem.W.cmp_K (op := op) (tb := t) hr.units0 hF I.ok.mod.kin J (looks_X I ry ty) hn hs hf ?_
  refine wpAny_mono (run_fn (us := [.ref a, u]) (vs := [.ref a, y]) F hr hb .nil hx I (.cons rfl (.cons ry .nil)) q) (fun w s' z => ?_) fun _ _ x => x
  obtain ⟨z', H', I', rz, qz⟩ := z
  exact SlX.cmpback rz ⟨z', H', I', rz, qz⟩
def rNeOwnA (K : PySem.W.Frag) (C : Addr) (sp : Sp) (E : XK) : R2 := fun x y H Q => ∃ a dx fs t, x = .ref a ∧ H a = some (.ins C dx fs) ∧ TyX K H y t ∧ PySem.W.notFirst K C t = true ∧ sp [x, y] H (fun v H' => ∃ c, v = .bl c ∧ Q (.bl !c) H') E
theorem op_neOwnA {X : Cx} {CX : CXT} {n : Nat} {C g : Addr} {fd : FuncData} {ps : List Str} {sp : Sp} {E : XK} (hp : PySem.W.plainOver X.K C = true) (hne : PySem.W.findIn X.K (.ref C) "__ne__" = some (some (.builtin "object.__ne__"))) (hs : PySem.W.findIn X.K (.ref C) "__eq__" = some (some (.ref g))) (hf : PySem.W.isFn X.K (.ref g) = true) (F : FnOk X.prog X.w X.K X.mg X.base CX n g fd ps sp) (hb : Binds X.K fd ps [])
    (hr : Room (n + 1) X.A) (hx : Passes CX X E) : OpR X (compareOp .NotEq) (rNeOwnA X.K C sp E) := by
  intro pins s σ H x y v u Q I rx ry h
  obtain ⟨a, dx, fs, t, rfl, ha, ty, hn, q⟩ := h
  cases (show v = Value.ref a from rx)
  obtain ⟨mA, J, _⟩ := ins_get I.hok ha
  obtain ⟨od, J, _⟩ := J.look
  obtain ⟨m, hF⟩ := I.fr
  show wpAny (model X.prog X.w) X.A (richCompare .NotEq (.ref a) u) (EP X pins σ Q) X.xe s
  refine ne_K (tb := t) (by have := hr.un; omega) hF I.ok.mod.kin J (looks_X I ry ty) hn hp hne hs hf ?_
  have hl := F.len _ _ _ _ q
  have r2 : Vals [V.ref a, y] [Value.ref a, u] := .cons rfl (.cons ry .nil)
  refine wpAny_call (codeAny_mono (F.run X.A.in1 X.stack s H ⟨[.ref a, u], []⟩ [.ref a, u] [.ref a, y] _ E hr.in1 I.env0.in1 (by
    have := hb s [.ref a, u] I.kIn (by simpa using hl)
    simpa using this) r2 q) fun r s' hq => ?_)
  cases r with
  | error e => exact hx pins σ H s e s' I hq
  | ok fl =>
    cases fl with
    | ret w =>
      obtain ⟨z, H', I', rz, c, ez, qz⟩ := I.after hq
      subst ez
      cases rz
      exact ⟨c, rfl, .bl !c, H', I', rfl, qz⟩
    | next => exact False.elim hq
    | brk => exact False.elim hq
    | cont => exact False.elim hq
section
variable {P : Program} {w : World} {K : PySem.W.Frag} {mg : Str → Option Value} {base : Heap}
/-- what the class is to other kinds: T is none of its own, nor above it -/
def Oth (K : PySem.W.Frag) (C : Addr) (t : Value) : Prop := PySem.W.kitOne K t (.ref C) = some false ∧ PySem.W.notFirst K C t = true
def spCyNo (K : PySem.W.Frag) (C : Addr) : Sp := fun vs H Q _ => ∃ (c : Addr) (y : V) (p q : Qt) (n : Nat) (t : Value), vs = [.ref c, y] ∧ CyAt K C n H c p q ∧ TyX K H y t ∧ PySem.W.kitOne K t (.ref C) = some false ∧ Q (.bl false) H
def spCyU (K : PySem.W.Frag) (C : Addr) : Sp := fun vs H Q E => spCyEq K C vs H Q E ∨ spCyNo K C vs H Q E
theorem FnOk.or {k : Nat} {f : Addr} {fd : FuncData} {ps : List Str} {sp1 sp2 : Sp} {CX : CXT} (F : FnOk P w K mg base CX k f fd ps sp1) (G : FnOk P w K mg base CX k f fd ps sp2) : FnOk P w K mg base CX k f fd ps (fun vs H Q E => sp1 vs H Q E ∨ sp2 vs H Q E) :=
  ⟨fun vs H Q E h => h.elim (F.len _ _ _ _) (G.len _ _ _ _), fun A outer s H args us vs Q E a b c d h => h.elim (F.run A outer s H args us vs Q E a b c d) (G.run A outer s H args us vs Q E a b c d)⟩
theorem ok_CyEqN {C f : Addr} {fd : FuncData} (T : Bt K mg) (Y : CyC K mg C) (F : Fun K "__eq__" "Cycle.__eq__" sCyEq f fd) : FnOk P w K mg base CX0 5 f fd ["self", "other"] (spCyNo K C) := by
  refine F.ok scCyEq (fun vs H Q E h => ?_) (fun cdv A outer s H vs Q E hr h => ?_)
  · obtain ⟨c, y, p, q, n, t, rfl, _⟩ := h
    rfl
  obtain ⟨c, y, p, q, n, t, rfl, hc, ty, hk, k⟩ := h
  refine ⟨_, (pss_one (ps_ret (pe_and (pe_callB call_isi (by rfl) T.b_isinstance (by decide +kernel) (pa_cons (pv 1) (pa_cons (pe_glob (v := .ref C) (by rfl) Y.g rfl) pa_nil))) (pe_and (pe_cmpR (op_eqF hr) (pe_fld (pv 0) rfl) (pe_fld (pv 1) rfl) (nomark _)) (pe_one (pe_cmpR (op_eqF hr) (pe_fld (pv 0) rfl) (pe_fld (pv 1) rfl) (nomark _))))))), ?_⟩
  refine ⟨_, rfl, y, .ref C, t, .ref C, false, rfl, .own C, ty, hk, false, rfl, ?_⟩
  rw [if_neg Bool.noConfusion]
  exact k
/-- == and != of a cycle with anything -/
structure EqK (P : Program) (w : World) (K : PySem.W.Frag) (mg : Str → Option Value) (base : Heap) (C : Addr) : Prop where
  ex : ∃ (g : Addr) (fd : FuncData) (ps : List Str), PySem.W.findIn K (.ref C) "__eq__" = some (some (.ref g)) ∧ PySem.W.isFn K (.ref g) = true ∧ FnOk P w K mg base CX0 5 g fd ps (spCyU K C) ∧ Binds K fd ps []
  po : PySem.W.plainOver K C = true
  ne : PySem.W.findIn K (.ref C) "__ne__" = some (some (.builtin "object.__ne__"))
end
section
variable {X : Cx} {C : Addr} {j : Nat}
theorem op_eqA (c : EqK X.prog X.w X.K X.mg X.base C) (hr : Room j X.A) (hk : 5 ≤ j) : OpR X (compareOp .Eq) (rOwnA X.K C (spCyU X.K C) E0) := by
  obtain ⟨g, fd, ps, h1, h2, F, b⟩ := c.ex
  exact op_ownA (fun _ _ => rfl) h1 h2 F b (hr.mono hk) pass0
theorem op_neA (c : EqK X.prog X.w X.K X.mg X.base C) (hr : Room j X.A) (hk : 6 ≤ j) : OpR X (compareOp .NotEq) (rNeOwnA X.K C (spCyU X.K C) E0) := by
  obtain ⟨g, fd, ps, h1, h2, F, b⟩ := c.ex
  exact op_neOwnA c.po c.ne h1 h2 F b (hr.mono hk) pass0
end
section
variable {P : Program} {w : World} {K : PySem.W.Frag} {mg : Str → Option Value} {base : Heap}
theorem cy_ty {C : Addr} {n : Nat} {H : Hp} {c : Addr} {p q : Qt} (I : C8.InsC K C) (h : CyAt K C n H c p q) : TyX K H (.ref c) (.ref C) := by
  obtain ⟨dx, a, b, v, hi, _⟩ := h
  exact .base (.ins hi I.cl I.ha I.hn I.htk I.hm)
/-- a cycle on both sides -/
theorem uEq {C : Addr} {H : Hp} {c d : Addr} {p q p' q' : Qt} {n j : Nat} {Q : VK} {E : XK} (I : C8.InsC K C) (hc : CyAt K C n H c p q) (hd : CyAt K C j H d p' q') (h : Q (.bl (decide (p = p') && decide (q = q'))) H) : rOwnA K C (spCyU K C) E (.ref c) (.ref d) H Q := by
  obtain ⟨dx, ra, sb, v, hi, _⟩ := id hc
  exact ⟨c, dx, _, .ref C, rfl, hi, cy_ty I hd, nf_self, .inl ⟨c, d, p, q, p', q', n, j, rfl, hc, hd, h⟩⟩
theorem uNe {C : Addr} {H : Hp} {c d : Addr} {p q p' q' : Qt} {n j : Nat} {Q : VK} {E : XK} (I : C8.InsC K C) (hc : CyAt K C n H c p q) (hd : CyAt K C j H d p' q') (h : Q (.bl !(decide (p = p') && decide (q = q'))) H) : rNeOwnA K C (spCyU K C) E (.ref c) (.ref d) H Q := by
  obtain ⟨dx, ra, sb, v, hi, _⟩ := id hc
  exact ⟨c, dx, _, .ref C, rfl, hi, cy_ty I hd, nf_self, .inl ⟨c, d, p, q, p', q', n, j, rfl, hc, hd, _, rfl, h⟩⟩
/-- what is no cycle -/
def NoCy (K : PySem.W.Frag) (C : Addr) (H : Hp) (y : V) : Prop := ∃ t, TyX K H y t ∧ Oth K C t
theorem uEqN {C : Addr} {H : Hp} {c : Addr} {y : V} {p q : Qt} {n : Nat} {Q : VK} {E : XK} (hc : CyAt K C n H c p q) (hy : NoCy K C H y) (h : Q (.bl false) H) : rOwnA K C (spCyU K C) E (.ref c) y H Q := by
  obtain ⟨dx, ra, sb, v, hi, _⟩ := id hc
  obtain ⟨t, ty, ho⟩ := hy
  exact ⟨c, dx, _, t, rfl, hi, ty, ho.2, .inr ⟨c, y, p, q, n, t, rfl, hc, ty, ho.1, h⟩⟩
theorem uNeN {C : Addr} {H : Hp} {c : Addr} {y : V} {p q : Qt} {n : Nat} {Q : VK} {E : XK} (hc : CyAt K C n H c p q) (hy : NoCy K C H y) (h : Q (.bl true) H) : rNeOwnA K C (spCyU K C) E (.ref c) y H Q := by
  obtain ⟨dx, ra, sb, v, hi, _⟩ := id hc
  obtain ⟨t, ty, ho⟩ := hy
  exact ⟨c, dx, _, t, rfl, hi, ty, ho.2, .inr ⟨c, y, p, q, n, t, rfl, hc, ty, ho.1, _, rfl, h⟩⟩
/-- a Span -/
structure SpC (K : PySem.W.Frag) (mg : Str → Option Value) (S : Addr) : Prop where
  cl : Cls K S
  nF : NoAttr K S "first"
  nL : NoAttr K S "last"
  nN : NoAttr K S "length"
  g : mg "Span" = some (.ref S)
def spSpInit (K : PySem.W.Frag) (S : Addr) : Sp := fun vs H Q _ => ∃ (H0 : Hp) (c dx a b : Addr) (p q : Qt) (n : Nat), vs = [.ref c, .ref a, .ref b] ∧ Same H0 H ∧ H0 c = none ∧ H c = some (.ins S dx []) ∧ Fq K H0 n a p ∧ Fq K H0 n b q ∧ n ≤ 2900 ∧ p.1 * q.2 ≤ q.1 * p.2 ∧ ∀ H' fs, Same H0 H' → H' c = some (.ins S dx fs) → Q .non H'
end
end My

namespace My
open PySem PySem.Spec PyProof.Rows L2
section
variable {P : Program} {w : World} {K : PySem.W.Frag} {mg : Str → Option Value} {base : Heap}
theorem sp_put1 (x y : V) : putF "last" y [(("first" : Str), x)] = [(("first" : Str), x), (("last" : Str), y)] := by
  show (if ("first" : Str) = "last" then _ else _) = _
  rw [if_neg (by decide +kernel)]
  rfl
theorem cmp_le {p q : Qt} (h : p.1 * q.2 ≤ q.1 * p.2) : ¬ cmp2 q p < 0 := by
  unfold cmp2
  split
  · omega
  · rw [if_neg (by omega)]
    omega
theorem if_no {c : Bool} {A B : Prop} (e : c = false) (h : B) : if c = true then A else B := by
  rw [e, if_neg Bool.noConfusion]
  exact h
theorem eqt {p p' q q' : Qt} (e1 : p = p') (e2 : q = q') : (!decide ((decide (p = p') && decide (q = q')) = true)) = false := by simp [e1, e2]
theorem eqs {p p' q q' : Qt} (e1 : p = p') (e2 : q = q') : decide ((decide (p = p') && decide (q = q')) = true) = true := by simp [e1, e2]
abbrev sSpInit : Stmt := inClass (topS 26) 0
theorem scSpInit : FnScope ["self", "first", "last"] ["self", "first", "last"] (defScope sSpInit) := ⟨rfl, rfl, rfl, by decide +kernel, rfl, by decide +kernel, by decide +kernel⟩
theorem ok_SpInit {C f : Addr} {fd : FuncData} (T : Bt K mg) (Y : SpC K mg C) (d_require : Kn P w K mg base 1 "require" ["well_formed", "what"] spRequire) (d_is_fraction : Kn P w K mg base 2 "is_fraction" ["value"] (spIsFraction K)) (d_compare : Kn P w K mg base 3 "compare" ["left", "right"] (spCmp K)) (d_minus : Kn P w K mg base 3 "minus" ["left", "right"] (spBin K dif2)) (F : Fun K "__init__" "Span.__init__" sSpInit f fd) : FnOk P w K mg base CX0 5 f fd ["self", "first", "last"] (spSpInit K C) := by
  refine F.ok scSpInit (fun vs H Q E h => ?_) (fun cdv A outer s H vs Q E hr h => ?_)
  · obtain ⟨H0, c, dx, a, b, p, q, n, rfl, _⟩ := h
    rfl
  obtain ⟨H0, c, dx, a, b, p, q, n, rfl, s0, c0, hc, hp, hq, hn, hle, k⟩ := h
  refine ⟨_, (pss_cons (ps_expr (pe_kn d_require hr (by rfl) (pa_cons (pe_kn d_is_fraction hr (by rfl) (pa_cons (pv 1) pa_nil)) (pa_cons pe_str pa_nil))))
      (pss_cons (ps_expr (pe_kn d_require hr (by rfl) (pa_cons (pe_kn d_is_fraction hr (by rfl) (pa_cons (pv 2) pa_nil)) (pa_cons pe_str pa_nil))))
      (pss_cons (ps_if (pt_cmpR op_lt (pe_kn d_compare hr (by rfl) (pa_cons (pv 2) (pa_cons (pv 1) pa_nil))) pe_int (nomark _)) (pss_one ps_never) pss_nil)
      (pss_cons (ps_fld (pv 0) (pv 1) rfl)
      (pss_cons (ps_fld (pv 0) (pv 2) rfl)
      (pss_one (ps_fld (pv 0) (pe_kn d_minus hr (by rfl) (pa_cons (pv 2) (pa_cons (pv 1) pa_nil))) rfl))))))), ?_⟩
  have ha := hp.same s0
  have hb := hq.same s0
  refine ⟨_, rfl, _, rfl, Tyd.fr ha.o, _, by rw [frOk_fr ha.o ha.nf]; rfl, _, rfl, _, rfl, Tyd.fr hb.o, _, by rw [frOk_fr hb.o hb.nf]; rfl, ?_⟩
  refine ⟨_, rfl, _, rfl, b, a, q, p, rfl, hb.mono (by omega), ha.mono (by omega), _, _, rfl, rfl, _, rfl, ?_⟩
  refine if_no (decide_eq_false (cmp_le hle)) ?_
  refine ⟨_, rfl, _, rfl, c, C, dx, [], rfl, hc, Y.cl, Y.nF, (by show 0 < 1000; decide), _, rfl, _, rfl, c, C, dx, _, rfl, upd_same, Y.cl, Y.nL, (by show 1 < 1000; decide), ?_⟩
  have s2 : Same H0 (upd (upd H c (.ins C dx (putF "first" (.ref a) []))) c (.ins C dx (putF "last" (.ref b) (putF "first" (.ref a) [])))) := same_put (same_put s0 c0) c0
  have h2 := upd_same (H := upd H c (.ins C dx (putF "first" (.ref a) []))) (a := c) (o := .ins C dx (putF "last" (.ref b) (putF "first" (.ref a) [])))
  generalize upd (upd H c (.ins C dx (putF "first" (.ref a) []))) c (.ins C dx (putF "last" (.ref b) (putF "first" (.ref a) []))) = H2 at s2 h2 ⊢
  refine ⟨_, rfl, _, rfl, ap_dif (hq.same s2) (hp.same s2) fun z d H3 hz s3 f3 => ⟨_, rfl, c, C, dx, _, rfl, s3 _ _ h2, Y.cl, Y.nN, (by show (putF "last" (V.ref b) [(("first" : Str), V.ref a)]).length < 1000; rw [sp_put1]; show 2 < 1000; decide), ?_⟩⟩
  exact k _ _ (same_put (s2.trans s3) c0) upd_same
def spTwo (K : PySem.W.Frag) : Sp := fun vs H Q _ => ∃ (s : Addr), vs = [.ref s] ∧ Sto K H s ∧ ∀ t u a b v c d p q p' q' H', ob K H' t = some (.tup [.ref u, .ref v]) → Rw K H' u a b p q → Rw K H' v c d p' q' → Kp s H H' → Sto K H' s → Q (.ref t) H'
abbrev sTwo : Stmt := topS 57
theorem scTwo : FnScope ["_law_store_here", "_law_row", "_law_rate", "_law_start", "_law_turned", "_law_back", "_law_other", "_law_rows"] ["_law_store_here"] (defScope sTwo) := ⟨rfl, rfl, rfl, by decide +kernel, rfl, by decide +kernel, by decide +kernel⟩
theorem k_Two (T : Bt K mg) (D : Dfn K mg "_law_two" sTwo ["_law_store_here"]) (d__law_pick : Kn P w K mg base 3 "_law_pick" ["_law_store_here", "_law_row"] (spPick K)) (d__law_cycle_wide : Kn P w K mg base 5 "_law_cycle_wide" ["_law_store_here"] (spCycleW K)) (d__law_part : Kn P w K mg base 3 "_law_part" ["_law_value"] (spUn K fun q => (q.1 % q.2, q.2))) : Kn P w K mg base 6 "_law_two" ["_law_store_here"] (spTwo K) := by
  refine Kn.mk' D scTwo (fun vs H Q E h => ?_) (fun f cdv A outer s H vs Q E hr h => ?_)
  · obtain ⟨s, rfl, _⟩ := h
    rfl
  obtain ⟨s, rfl, hS, k⟩ := h
  refine ⟨_, (pss_cons (ps_set (i := 1) scTwo.nd rfl (.inl rfl) (pe_kn d__law_cycle_wide hr (by rfl) (pa_cons (pv 0) pa_nil)))
      (pss_cons (ps_asg (pv 1) (pg_tp 2 (by rfl) (pgs_cons (pg_name (i := 2) scTwo.nd rfl (.inl rfl)) (pgs_cons (pg_name (i := 3) scTwo.nd rfl (.inl rfl)) pgs_nil))))
      (pss_cons (ps_set (i := 4) scTwo.nd rfl (.inl rfl) (pe_tp (pa_cons (pe_un un_neg (pe_ix ix_any (pv 2) pe_int (fun _ _ => rfl))) (pa_cons (pe_ix ix_any (pv 2) pe_int (fun _ _ => rfl)) pa_nil))))
      (pss_cons (ps_set (i := 5) scTwo.nd rfl (.inl rfl) (pe_kn d__law_part hr (by rfl) (pa_cons (pe_tp (pa_cons (pe_un un_neg (pe_ix ix_any (pv 3) pe_int (fun _ _ => rfl))) (pa_cons (pe_ix ix_any (pv 3) pe_int (fun _ _ => rfl)) pa_nil))) pa_nil)))
      (pss_cons (ps_set (i := 6) scTwo.nd rfl (.inl rfl) (pe_kn d__law_cycle_wide hr (by rfl) (pa_cons (pv 0) pa_nil)))
      (pss_cons (ps_set (i := 7) scTwo.nd rfl (.inl rfl) (pe_ls (pa_cons (pv 1) (pa_cons (pe_tp (pa_cons (pv 2) (pa_cons (pe_ix ix_any (pv 6) pe_int (fun _ _ => rfl)) pa_nil))) (pa_cons (pe_tp (pa_cons (pv 4) (pa_cons (pe_ix ix_any (pv 6) pe_int (fun _ _ => rfl)) pa_nil))) (pa_cons (pe_tp (pa_cons (pv 4) (pa_cons (pv 5) pa_nil))) (pa_cons (pe_tp (pa_cons (pe_ix ix_any (pv 6) pe_int (fun _ _ => rfl)) (pa_cons (pv 3) pa_nil))) (pa_cons (pe_tp (pa_cons (pe_ix ix_any (pv 6) pe_int (fun _ _ => rfl)) (pa_cons (pv 5) pa_nil))) (pa_cons (pv 6) pa_nil)))))))))
      (pss_one (ps_ret (pe_tp (pa_cons (pv 1) (pa_cons (pe_kn d__law_pick hr (by rfl) (pa_cons (pv 0) (pa_cons (pv 7) pa_nil))) pa_nil))))))))))), ?_⟩
  refine ⟨_, rfl, s, rfl, hS, fun u a b p q H1 ou hp hq kp1 st1 => ?_⟩
  refine ⟨_, rfl, u, rfl, _, ou, rfl, _, _, rfl, _, _, rfl, rfl, ?_⟩
  refine ⟨_, rfl, a, 0, rfl, rfl, _, itsO_of hp.o, _, atI_0 _ _, _, rfl, _, rfl, a, 1, rfl, rfl, _, itsO_of hp.o, _, atI_1 _ _ _, sz2 (by show 2 ≤ 100; decide), fun ta h1 k1 => ?_⟩
  have s1 := Same.new h1 (.tup [.int (-p.1), .int p.2])
  have fta : Fq K (upd H1 ta (.tup [.int (-p.1), .int p.2])) 133 ta (-p.1, p.2) := ⟨ob_new k1, nf_neg hp.nf, by show (-p.1).natAbs < 2 ^ 133; rw [Int.natAbs_neg]; exact hp.sz.1, hp.sz.2⟩
  have hq1 := hq.same s1
  refine ⟨_, rfl, b, 0, rfl, rfl, _, itsO_of hq1.f.o, _, atI_0 _ _, _, rfl, _, rfl, b, 1, rfl, rfl, _, itsO_of hq1.f.o, _, atI_1 _ _ _, sz2 (by show 2 ≤ 100; decide), fun tb h2 k2 => ?_⟩
  have s2 := Same.new h2 (.tup [.int (-q.1), .int q.2])
  have ftb : Fq K (upd (upd H1 ta (.tup [.int (-p.1), .int p.2])) tb (.tup [.int (-q.1), .int q.2])) 133 tb (-q.1, q.2) := ⟨ob_new k2, nf_neg hq.f.nf, by show (-q.1).natAbs < 2 ^ 133; rw [Int.natAbs_neg]; exact hq.f.sz.1, hq.f.sz.2⟩
  refine ap_part ftb fun bk H2 s3 fbk => ?_
  have t3 := s1.trans (s2.trans s3)
  have R2 : Rw K H2 u a b p q := ⟨ob_same t3 ou, hp.same t3, hq.same t3⟩
  have ft2 := fta.same (s2.trans s3)
  have st2 := st1.same t3
  have kpA := kp1.trans (Kp.same t3)
  clear s1 s2 s3 t3 fta ftb hq1 ou hp hq kp1 st1 h1 k1 h2 k2
  refine ⟨_, rfl, s, rfl, st2, fun u2 c d p2 q2 H3 ou3 hp3 hq3 kp3 st3 => ?_⟩
  have R3 := R2.kps kp3 st2
  have O3 : Rw K H3 u2 c d p2 q2 := ⟨ou3, hp3, hq3⟩
  have ft3 := ft2.kps kp3 st2
  have fb3 := fbk.kps kp3 st2
  have kpB := kpA.trans kp3
  clear R2 ft2 fbk kp3 kpA ou3 hp3 hq3 st2
  refine ⟨_, rfl, ?_⟩
  refine ⟨_, rfl, _, rfl, u2, 1, rfl, rfl, _, itsO_of O3.ot, _, atI_1 _ _ _, sz2 (by show 2 ≤ 100; decide), fun t1 h1 k1 => ?_⟩
  have s1 := Same.new h1 (.tup [.ref a, .ref d])
  refine ⟨_, rfl, _, rfl, u2, 1, rfl, rfl, _, itsO_of (O3.same s1).ot, _, atI_1 _ _ _, sz2 (by show 2 ≤ 100; decide), fun t2 h2 k2 => ?_⟩
  have s2 := Same.new h2 (.tup [.ref ta, .ref d])
  refine ⟨_, rfl, _, rfl, sz2 (by show 2 ≤ 100; decide), fun t3 h3 k3 => ?_⟩
  have s3 := Same.new h3 (.tup [.ref ta, .ref bk])
  have s13 := s1.trans (s2.trans s3)
  refine ⟨_, rfl, u2, 0, rfl, rfl, _, itsO_of (O3.same s13).ot, _, atI_0 _ _, _, rfl, sz2 (by show 2 ≤ 100; decide), fun t4 h4 k4 => ?_⟩
  have s4 := Same.new h4 (.tup [.ref c, .ref b])
  refine ⟨_, rfl, u2, 0, rfl, rfl, _, itsO_of (O3.same (s13.trans s4)).ot, _, atI_0 _ _, _, rfl, sz2 (by show 2 ≤ 100; decide), fun t5 h5 k5 => ?_⟩
  have s5 := Same.new h5 (.tup [.ref c, .ref bk])
  refine ⟨_, rfl, sz2 (by show 7 ≤ 100; decide), fun l hl kl => ?_⟩
  have s6 := Same.new hl (.lst [.ref u, .ref t1, .ref t2, .ref t3, .ref t4, .ref t5, .ref u2])
  have S5 := s5.trans s6
  have S4 := s4.trans S5
  have S3 := s3.trans S4
  have S2 := s2.trans S3
  have S1 := s1.trans S2
  have o1 := ob_same S2 (ob_new (K := K) k1)
  have o2 := ob_same S3 (ob_new (K := K) k2)
  have o3 := ob_same S4 (ob_new (K := K) k3)
  have o4 := ob_same S5 (ob_new (K := K) k4)
  have o5 := ob_same s6 (ob_new (K := K) k5)
  have hl' := upd_same (H := upd (upd (upd (upd (upd H3 t1 (.tup [.ref a, .ref d])) t2 (.tup [.ref ta, .ref d])) t3 (.tup [.ref ta, .ref bk])) t4 (.tup [.ref c, .ref b])) t5 (.tup [.ref c, .ref bk])) (a := l) (o := .lst [.ref u, .ref t1, .ref t2, .ref t3, .ref t4, .ref t5, .ref u2])
  obtain ⟨ys, hys⟩ := (st3.same (s1.trans (s2.trans (s3.trans (s4.trans s5))))).at
  have nl := ne_new hys hl
  have R4 := R3.same S1
  have O4 := O3.same S1
  have ft4 := ft3.same S1
  have fb4 := fb3.same S1
  have st4 := st3.same S1
  have kpC := kpB.trans (Kp.same S1)
  generalize upd (upd (upd (upd (upd (upd H3 t1 (.tup [.ref a, .ref d])) t2 (.tup [.ref ta, .ref d])) t3 (.tup [.ref ta, .ref bk])) t4 (.tup [.ref c, .ref b])) t5 (.tup [.ref c, .ref bk])) l (.lst [.ref u, .ref t1, .ref t2, .ref t3, .ref t4, .ref t5, .ref u2]) = H4 at o1 o2 o3 o4 o5 hl' R4 O4 ft4 fb4 st4 kpC ⊢
  clear S1 S2 S3 S4 S5 s1 s2 s3 s4 s5 s6 s13 R3 O3 ft3 fb3 kpB st3 hys hl h1 h2 h3 h4 h5
  refine ⟨_, rfl, _, rfl, _, rfl, s, l, _, rfl, st4, hl', nl, by simp, by simp, fun x H5 hx kp5 st5 => ⟨sz2 (by show 2 ≤ 100; decide), fun t ht kt => ?_⟩⟩
  have sT := Same.new ht (.tup [.ref u, x])
  have R5 := (R4.kps kp5 st4).same sT
  have fin : ∀ v a' b' p' q', x = .ref v → Rw K H4 v a' b' p' q' → Q (.ref t) (upd H5 t (.tup [.ref u, x])) := fun v a' b' p' q' e Rv => by
    subst e
    exact k t u a b v a' b' p q p' q' _ (ob_new kt) R5 ((Rv.kps kp5 st4).same sT) ((kpC.trans kp5).trans (Kp.same sT)) (st5.same sT)
  simp only [List.mem_cons, List.not_mem_nil, or_false] at hx
  rcases hx with e | e | e | e | e | e | e
  · exact fin _ _ _ _ _ e R4
  · exact fin _ _ _ _ _ e ⟨o1, R4.fa, O4.fb⟩
  · exact fin _ _ _ _ _ e ⟨o2, ft4, O4.fb⟩
  · exact fin _ _ _ _ _ e ⟨o3, ft4, fb4⟩
  · exact fin _ _ _ _ _ e ⟨o4, O4.fa, R4.fb⟩
  · exact fin _ _ _ _ _ e ⟨o5, O4.fa, fb4⟩
  · exact fin _ _ _ _ _ e O4
end
end My

namespace My
open PySem PySem.Spec PyProof.Rows L2
section
variable {P : Program} {w : World} {K : PySem.W.Frag} {mg : Str → Option Value} {base : Heap}
theorem eqv_g {H : Hp} {a b : Addr} {p q : Qt} (ha : ob K H a = some (frt p)) (hb : ob K H b = some (frt q)) (e : p = q) : Eqv K H 2 (.ref a) (.ref b) := eqv_f ha hb e
theorem ap_place {C : Addr} {H : Hp} {Q : VK} {c mm : Addr} {p q m : Qt} {n j : Nat} (hc : CyAt K C n H c p q) (hm : Fq K H j mm m) (h : ∀ y e H', Tur p q m y → Same H H' → ob K H' e = some (frt (y.1 % y.2, y.2)) → Q (.ref e) H') (hj : n + j ≤ 2900 := by omega) (E : XK := C8.E0) : spPlace K C [.ref c, .ref mm] H Q E :=
  ⟨c, mm, p, q, m, n, j, rfl, hc, hm, hj, fun y hy _ e H' s o => h y e H' hy s o⟩
def Sg (w : Int) : Prop := w = 1 ∨ w = -1
theorem nf_w {w : Int} {q : Qt} (h : Sg w) (n : Nf q) : Nf (w * q.1, q.2) := by
  rcases h with rfl | rfl
  · rw [Int.one_mul]; exact n
  · rw [Int.neg_one_mul]; exact nf_neg n
theorem val_w {w : Int} (q : Qt) : val (w * q.1, q.2) = (w : Rat) * val q := by
  show ((w * q.1 : Int) : Rat) / (q.2 : Rat) = (w : Rat) * ((q.1 : Rat) / q.2)
  rw [Rat.intCast_mul]
  grind
theorem sz_w {w : Int} {q : Qt} {k : Nat} (h : Sg w) (s : Sz k q) : Sz k (w * q.1, q.2) := by
  refine ⟨?_, s.2⟩
  show (w * q.1).natAbs < 2 ^ k
  rcases h with rfl | rfl
  · rw [Int.one_mul]; exact s.1
  · rw [Int.neg_one_mul, Int.natAbs_neg]; exact s.1
theorem cg_w {w : Int} {x y : Rat} (h : Cg x y) : Cg ((w : Rat) * x) ((w : Rat) * y) := by
  obtain ⟨k, e⟩ := h
  exact ⟨w * k, by rw [Rat.intCast_mul]; grind⟩
theorem seen1 {p q p1 q1 p2 q2 m y y1 y2 z : Qt} {w : Int} (hp : Nf p) (hq : Nf q) (h1 : Nf p1) (g1 : Nf q1) (h2 : Nf p2) (g2 : Nf q2) (hm : Nf m) (hw : Sg w) (vp : val p = val p1 + (w : Rat) * val p2) (vq : Cg (val q) (val q1 + (w : Rat) * val q2))
    (hy : Tur p q m y) (hy1 : Tur p1 q1 m y1) (hy2 : Tur p2 q2 m y2) (hz : sum2 (y1.1 % y1.2, y1.2) (w * (y2.1 % y2.2), y2.2) z) : ((y.1 % y.2, y.2) : Qt) = (z.1 % z.2, z.2) := by
  refine part_eq hy.nf hz.1 ?_
  have n2 : Nf (w * (y2.1 % y2.2), y2.2) := nf_w (q := (y2.1 % y2.2, y2.2)) hw (nf_part hy2.nf)
  have v2 : val (w * (y2.1 % y2.2), y2.2) = (w : Rat) * val (y2.1 % y2.2, y2.2) := val_w (y2.1 % y2.2, y2.2)
  rw [val_tur hp hq hm hy, val_sum (nf_part hy1.nf) n2 hz, v2]
  have e1 := val_tur h1 g1 hm hy1
  have e2 := val_tur h2 g2 hm hy2
  obtain ⟨k1, d1⟩ := val_part hy1.nf
  obtain ⟨k2, d2⟩ := val_part hy2.nf
  obtain ⟨k3, d3⟩ := vq
  refine ⟨k3 + k1 + w * k2, ?_⟩
  rw [Rat.intCast_add, Rat.intCast_add, Rat.intCast_mul]
  grind
def SeenI (c pr ms : Addr) (w : Int) (H : Hp) (_ : Nat) (σ : L2.St) (H' : Hp) : Prop := ∃ x4 x5 x6, σ = [some (.ref c), some (.ref pr), some (.int w), some (.ref ms), x4, x5, x6] ∧ Same H H'
def AllM (K : PySem.W.Frag) (H : Hp) (xs : List V) : Prop := ∀ x ∈ xs, ∃ mm m, x = .ref mm ∧ Fq K H 140 mm m
theorem AllM.same {H H' : Hp} {xs : List V} (h : AllM K H xs) (s : Same H H') : AllM K H' xs := fun x hx => by
  obtain ⟨mm, m, e, f⟩ := h x hx
  exact ⟨mm, m, e, f.same s⟩
def spSeen (K : PySem.W.Frag) (C : Addr) : Sp := fun vs H Q _ => ∃ (c pr ms u v a b a' b' : Addr) (w : Int) (p q p1 q1 p2 q2 : Qt) (n : Nat) (xs : List V), vs = [.ref c, .ref pr, .int w, .ref ms] ∧ CyAt K C n H c p q ∧ n ≤ 600 ∧ ob K H pr = some (.tup [.ref u, .ref v]) ∧ Rw K H u a b p1 q1 ∧ Rw K H v a' b' p2 q2 ∧ H ms = some (.lst xs) ∧ AllM K H xs ∧ Sg w ∧ val p = val p1 + (w : Rat) * val p2 ∧ Cg (val q) (val q1 + (w : Rat) * val q2) ∧ ∀ H', Same H H' → Q (.bl true) H'
abbrev sSeen : Stmt := topS 59
theorem scSeen : FnScope ["_law_cycle", "_law_pair", "_law_way", "_law_moments", "_law_moment_here", "_law_due", "_law_far"] ["_law_cycle", "_law_pair", "_law_way", "_law_moments"] (defScope sSeen) := ⟨rfl, rfl, rfl, by decide +kernel, rfl, by decide +kernel, by decide +kernel⟩
theorem k_Seen {C : Addr} (Y : CyC K mg C) (m_place : C8.Met P w K mg base 5 C "place" (spPlace K C) []) (T : Bt K mg) (D : Dfn K mg "_law_seen" sSeen ["_law_cycle", "_law_pair", "_law_way", "_law_moments"]) (d__law_same : Kn P w K mg base 4 "_law_same" ["_law_told", "_law_due"] (spSame K 3)) (d__law_plus : Kn P w K mg base 3 "_law_plus" ["_law_left", "_law_right"] (spBin K sum2)) (d__law_part : Kn P w K mg base 3 "_law_part" ["_law_value"] (spUn K fun q => (q.1 % q.2, q.2))) (d__law_place_at : Kn P w K mg base 6 "_law_place_at" ["_law_row", "_law_moment_here"] (spLPlaceAt K)) : Kn P w K mg base 9 "_law_seen" ["_law_cycle", "_law_pair", "_law_way", "_law_moments"] (spSeen K C) := by
  refine Kn.mk' D scSeen (fun vs H Q E h => ?_) (fun f cdv A outer s H vs Q E hr h => ?_)
  · obtain ⟨c, pr, ms, u, v, a, b, a', b', w, p, q, p1, q1, p2, q2, n, xs, rfl, _⟩ := h
    rfl
  obtain ⟨c, pr, ms, u, v, a, b, a', b', w, p, q, p1, q1, p2, q2, n, xs, rfl, hc, hn, opr, R1, R2, hms, hall, hw, vp, vq, k⟩ := h
  refine ⟨_, (pss_cons (ps_for PassesOwn.never rfl (pi_list (pv 3)) (pg_name (i := 4) scSeen.nd rfl (.inl rfl)) (pss_cons (ps_set (i := 5) scSeen.nd rfl (.inl rfl) (pe_kn d__law_place_at hr (by rfl) (pa_cons (pe_ix ix_any (pv 1) pe_int (fun _ _ => rfl)) (pa_cons (pv 4) pa_nil))))
      (pss_cons (ps_set (i := 6) scSeen.nd rfl (.inl rfl) (pe_kn d__law_place_at hr (by rfl) (pa_cons (pe_ix ix_any (pv 1) pe_int (fun _ _ => rfl)) (pa_cons (pv 4) pa_nil))))
      (pss_one (ps_if (pt_not (pt_val (pe_kn d__law_same hr (by rfl) (pa_cons (C8.pe_mt m_place hr (by omega) (pv 0) (pa_cons (pv 4) pa_nil)) (pa_cons (pe_kn d__law_part hr (by rfl) (pa_cons (pe_kn d__law_plus hr (by rfl) (pa_cons (pv 5) (pa_cons (pe_tp (pa_cons (pe_op op_mulW (pv 2) (pe_ix ix_any (pv 6) pe_int (fun _ _ => rfl))) (pa_cons (pe_ix ix_any (pv 6) pe_int (fun _ _ => rfl)) pa_nil))) pa_nil))) pa_nil)) pa_nil))))) (pss_one (ps_ret pe_bl)) pss_nil)))))
      (pss_one (ps_ret pe_bl))), ?_⟩
  obtain ⟨np, nq, _, _⟩ := hc.facts
  refine ⟨_, rfl, ms, rfl, ⟨_, .of hms⟩, forI_list (xs := xs) (SeenI c pr ms w H) ⟨_, _, _, rfl, Same.refl _⟩ ?_ ?_ ?_⟩
  · rintro i σ H' _ ⟨x4, x5, x6, rfl, s⟩
    exact .of (s _ _ hms)
  · rintro i x σ H' hx ⟨x4, x5, x6, rfl, s⟩
    obtain ⟨mm, m, rfl, fm⟩ := (hall.same s) x (List.mem_of_getElem? hx)
    have opr' := ob_same s opr
    refine ⟨_, rfl, pr, 0, rfl, rfl, _, itsO_of opr', _, atI_0 _ _, _, rfl, u, mm, a, b, p1, q1, m, 133, 140, rfl, (R1.same s).ot, (R1.same s).fa, (R1.same s).fb.f, fm, by omega, fun y1 e1 H1 hy1 s1 f1 => ?_⟩
    have t1 := s.trans s1
    refine ⟨_, rfl, pr, 1, rfl, rfl, _, itsO_of (ob_same t1 opr), _, atI_1 _ _ _, _, rfl, v, mm, a', b', p2, q2, m, 133, 140, rfl, (R2.same t1).ot, (R2.same t1).fa, (R2.same t1).fb.f, fm.same s1, by omega, fun y2 e2 H2 hy2 s2 f2 => ?_⟩
    have t2 := t1.trans s2
    refine ⟨_, rfl, ap_mt (hc.same t2) (fun _ _ _ => rfl) ⟨_, rfl, ap_place (hc.same t2) (fm.same (s1.trans s2)) fun y e3 H3 hy s3 o3 => ?_⟩⟩
    have f23 := f2.f.same s3
    refine ⟨_, rfl, _, rfl, _, rfl, e2, 0, rfl, rfl, _, itsO_of f23.o, _, atI_0 _ _, _, _, rfl, rfl, mulW (a := 1) (b := 2 * 133 + 140 + 3) (by rcases hw with h | h <;> subst h <;> decide) f23.sz.1 (by omega), _, rfl, e2, 1, rfl, rfl, _, itsO_of f23.o, _, atI_1 _ _ _, sz2 (by show 2 ≤ 100; decide), fun t ht kt => ?_⟩
    have sT := Same.new ht (.tup [.int (w * (y2.1 % y2.2)), .int y2.2])
    have fT : Fq K (upd H3 t (.tup [.int (w * (y2.1 % y2.2)), .int y2.2])) (2 * 133 + 140 + 3) t (w * (y2.1 % y2.2), y2.2) := ⟨ob_new kt, nf_w (q := (y2.1 % y2.2, y2.2)) hw f2.f.nf, sz_w (q := (y2.1 % y2.2, y2.2)) hw f2.f.sz⟩
    refine ap_sum (f1.f.same (s2.trans (s3.trans sT))) fT fun z e4 H4 hz s4 f4 => ap_part f4 fun e5 H5 s5 f5 => ⟨_, _, rfl, eqv_g (ob_same (sT.trans (s4.trans s5)) o3) f5.f.o (seen1 np nq R1.fa.nf R1.fb.f.nf R2.fa.nf R2.fb.f.nf fm.nf hw vp vq hy hy1 hy2 hz), fun H6 s6 => ⟨true, rfl, iteF ?_⟩⟩
    exact ⟨_, _, _, rfl, t2.trans (s3.trans (sT.trans (s4.trans (s5.trans s6))))⟩
  · rintro σ H' ⟨x4, x5, x6, rfl, s⟩
    exact k H' s
end
end My

namespace My
open PySem PySem.Spec PyProof.Rows L2
section
variable {P : Program} {w : World} {K : PySem.W.Frag} {mg : Str → Option Value} {base : Heap}
theorem binpack {C : Addr} {H : Hp} {c d : Addr} {p q p' q' : Qt} {n j : Nat} {R : Prop} (hc : CyAt K C n H c p q) (hd : CyAt K C j H d p' q') (h : R) : ∃ a dx fs b dy gs, V.ref c = .ref a ∧ V.ref d = .ref b ∧ H a = some (.ins C dx fs) ∧ H b = some (.ins C dy gs) ∧ R := by
  obtain ⟨dx, ra, sb, v, hi, _⟩ := id hc
  obtain ⟨dx', ra', sb', v', hi', _⟩ := id hd
  exact ⟨c, dx, _, d, dx', _, rfl, rfl, hi, hi', h⟩
theorem negpack {C : Addr} {H : Hp} {c : Addr} {p q : Qt} {n : Nat} {R : Prop} (hc : CyAt K C n H c p q) (h : R) : ∃ a dx fs, V.ref c = .ref a ∧ H a = some (.ins C dx fs) ∧ R := by
  obtain ⟨dx, ra, sb, v, hi, _⟩ := id hc
  exact ⟨c, dx, _, rfl, hi, h⟩
theorem part_pl {x q : Qt} (hx : Nf x) (hq : Nf q) (h0 : 0 ≤ q.1) (h1 : q.1 < q.2) (h : Cg (val x) (val q)) : ((x.1 % x.2, x.2) : Qt) = q := (part_eq hx hq h).trans (part_self h0 h1)
theorem if_yes {c : Bool} {A B : Prop} (e : c = true) (h : A) : if c = true then A else B := by
  rw [e, if_pos rfl]
  exact h
theorem eqpackA {C : Addr} {H : Hp} {c d : Addr} {p q p' q' : Qt} {n j : Nat} {R : Prop} (I : C8.InsC K C) (hc : CyAt K C n H c p q) (hd : CyAt K C j H d p' q') (h : R) : ∃ a dx fs t, V.ref c = .ref a ∧ H a = some (.ins C dx fs) ∧ TyX K H (.ref d) t ∧ PySem.W.notFirst K C t = true ∧ R := by
  obtain ⟨dx, ra, sb, v, hi, _⟩ := id hc
  exact ⟨c, dx, _, .ref C, rfl, hi, cy_ty I hd, nf_self, h⟩
theorem dif_self {p y : Qt} (hp : Nf p) (h : dif2 p p y) : y = (0, 1) := val_inj h.1 nf01 (by rw [val_dif hp hp h, val_int, Rat.intCast_zero]; grind)
theorem hs1 {p p' y w : Qt} (hp : Nf p) (hp' : Nf p') (h : sum2 p p' y) (g : dif2 y p' w) : w = p := val_inj g.1 hp (by rw [val_dif h.1 hp' g, val_sum hp hp' h]; grind)
theorem hs2 {q q' z w : Qt} (hq : Nf q) (hq' : Nf q') (h0 : 0 ≤ q.1) (h1 : q.1 < q.2) (h : sum2 q q' z) (g : dif2 (z.1 % z.2, z.2) q' w) : ((w.1 % w.2, w.2) : Qt) = q := by
  refine part_pl g.1 hq h0 h1 ?_
  rw [val_dif (nf_part h.1) hq' g]
  obtain ⟨k1, e1⟩ := val_part h.1
  have v := val_sum hq hq' h
  exact ⟨-k1, by rw [Rat.intCast_neg]; grind⟩
theorem hs3 {p p' y w : Qt} (hp : Nf p) (hp' : Nf p') (h : dif2 p p' y) (g : sum2 y p' w) : w = p := val_inj g.1 hp (by rw [val_sum h.1 hp' g, val_dif hp hp' h]; grind)
theorem hs4 {q q' z w : Qt} (hq : Nf q) (hq' : Nf q') (h0 : 0 ≤ q.1) (h1 : q.1 < q.2) (h : dif2 q q' z) (g : sum2 (z.1 % z.2, z.2) q' w) : ((w.1 % w.2, w.2) : Qt) = q := by
  refine part_pl g.1 hq h0 h1 ?_
  rw [val_sum (nf_part h.1) hq' g]
  obtain ⟨k1, e1⟩ := val_part h.1
  have v := val_dif hq hq' h
  exact ⟨-k1, by rw [Rat.intCast_neg]; grind⟩
theorem hs5 (p : Qt) : ((- -p.1, p.2) : Qt) = p := Prod.ext (Int.neg_neg _) rfl
theorem hs6 {q : Qt} (hq : Nf q) (h0 : 0 ≤ q.1) (h1 : q.1 < q.2) : ((-((-q.1) % q.2) % q.2, q.2) : Qt) = q := by
  have n1 := nf_part (nf_neg hq)
  refine part_pl (x := (-((-q.1) % q.2), q.2)) (nf_neg n1) hq h0 h1 ?_
  have e := val_neg ((-q.1) % q.2, q.2)
  have e' : val (-((-q.1) % q.2), q.2) = - val ((-q.1) % q.2, q.2) := e
  obtain ⟨k1, e1⟩ := val_part (nf_neg hq)
  have e1' : val (-q.1, q.2) = val ((-q.1) % q.2, q.2) + (k1 : Rat) := e1
  have e2 := val_neg q
  exact ⟨k1, by rw [e']; grind⟩
theorem sum_comm' {p p' y y2 : Qt} (hp : Nf p) (hp' : Nf p') (h : sum2 p p' y) (g : sum2 p' p y2) : y = y2 := val_inj h.1 g.1 (by rw [val_sum hp hp' h, val_sum hp' hp g]; grind)
theorem dif_anti {p p' y y3 : Qt} (hp : Nf p) (hp' : Nf p') (h : dif2 p p' y) (g : dif2 p' p y3) : y = (-y3.1, y3.2) := val_inj h.1 (nf_neg g.1) (by rw [val_neg, val_dif hp hp' h, val_dif hp' hp g]; grind)
theorem hs7 {q q' z z3 : Qt} (hq : Nf q) (hq' : Nf q') (h : dif2 q q' z) (g : dif2 q' q z3) : ((z.1 % z.2, z.2) : Qt) = (-(z3.1 % z3.2) % z3.2, z3.2) := by
  have n1 := nf_part g.1
  refine part_eq (y := (-(z3.1 % z3.2), z3.2)) h.1 (nf_neg n1) ?_
  have e : val (-(z3.1 % z3.2), z3.2) = - val (z3.1 % z3.2, z3.2) := val_neg (z3.1 % z3.2, z3.2)
  obtain ⟨k1, e1⟩ := val_part g.1
  have v1 := val_dif hq hq' h
  have v2 := val_dif hq' hq g
  exact ⟨-k1, by rw [e, Rat.intCast_neg]; grind⟩
theorem vw1 {p p' y : Qt} (hp : Nf p) (hp' : Nf p') (h : sum2 p p' y) : val y = val p + ((1 : Int) : Rat) * val p' := by
  rw [val_sum hp hp' h, Rat.intCast_one]
  grind
theorem vw2 {p p' y : Qt} (hp : Nf p) (hp' : Nf p') (h : dif2 p p' y) : val y = val p + ((-1 : Int) : Rat) * val p' := by
  rw [val_dif hp hp' h, Rat.intCast_neg, Rat.intCast_one]
  grind
theorem vw3 (p : Qt) : val (-p.1, p.2) = val (0, 1) + ((-1 : Int) : Rat) * val p := by
  rw [val_neg, val_int, Rat.intCast_neg, Rat.intCast_one, Rat.intCast_zero]
  grind
def spHolds (K : PySem.W.Frag) (C : Addr) : Sp := fun vs H Q _ => ∃ (l r t u ms a b a' b' : Addr) (p q p' q' : Qt) (n j : Nat) (xs : List V), vs = [.ref l, .ref r, .ref t, .ref u, .ref ms] ∧ CyAt K C n H l p q ∧ CyAt K C j H r p' q' ∧ Rw K H t a b p q ∧ Rw K H u a' b' p' q' ∧ H ms = some (.lst xs) ∧ AllM K H xs ∧ n ≤ 140 ∧ j ≤ 140 ∧ ∀ H', Same H H' → Q (.bl true) H'
abbrev sHolds : Stmt := topS 60
theorem scHolds : FnScope ["_law_left", "_law_right", "_law_one", "_law_two_here", "_law_moments", "_law_total", "_law_apart", "_law_back", "_law_still"] ["_law_left", "_law_right", "_law_one", "_law_two_here", "_law_moments"] (defScope sHolds) := ⟨rfl, rfl, rfl, by decide +kernel, rfl, by decide +kernel, by decide +kernel⟩
theorem k_Holds {C : Addr} (Y : CyC K mg C) (IC : C8.InsC K C) (sf : PySem.W.selfFirst K C = true) (oQ : EqK P w K mg base C) (oA : OpK P w K mg base 7 C "__add__" (spCyAdd K C)) (oS : OpK P w K mg base 7 C "__sub__" (spCySub K C)) (oN : OpK P w K mg base 7 C "__neg__" (spCyNeg K C)) (T : Bt K mg) (D : Dfn K mg "_law_holds" sHolds ["_law_left", "_law_right", "_law_one", "_law_two_here", "_law_moments"]) (d__law_is_cycle : Kn P w K mg base 6 "_law_is_cycle" ["_law_cycle", "_law_row"] (spIsCycle K C)) (d__law_plus : Kn P w K mg base 3 "_law_plus" ["_law_left", "_law_right"] (spBin K sum2)) (d__law_minus : Kn P w K mg base 3 "_law_minus" ["_law_left", "_law_right"] (spBin K dif2)) (d__law_part : Kn P w K mg base 3 "_law_part" ["_law_value"] (spUn K fun q => (q.1 % q.2, q.2))) (d__law_seen : Kn P w K mg base 9 "_law_seen" ["_law_cycle", "_law_pair", "_law_way", "_law_moments"] (spSeen K C)) : Kn P w K mg base 10 "_law_holds" ["_law_left", "_law_right", "_law_one", "_law_two_here", "_law_moments"] (spHolds K C) := by
  refine Kn.mk' D scHolds (fun vs H Q E h => ?_) (fun f cdv A outer s H vs Q E hr h => ?_)
  · obtain ⟨l, r, t, u, ms, a, b, a', b', p, q, p', q', n, j, xs, rfl, _⟩ := h
    rfl
  obtain ⟨l, r, t, u, ms, a, b, a', b', p, q, p', q', n, j, xs, rfl, hl, hr', R1, R2, hms, hall, hn, hj, k⟩ := h
  refine ⟨_, (pss_cons (ps_set (i := 5) scHolds.nd rfl (.inl rfl) (pe_op (op_addC sf oA hr (by omega)) (pv 0) (pv 1)))
      (pss_cons (ps_set (i := 6) scHolds.nd rfl (.inl rfl) (pe_op (op_subC sf oS hr (by omega)) (pv 0) (pv 1)))
      (pss_cons (ps_set (i := 7) scHolds.nd rfl (.inl rfl) (pe_un (un_negC oN hr (by omega)) (pv 0)))
      (pss_cons (ps_if (pt_not (pt_val (pe_kn d__law_is_cycle hr (by rfl) (pa_cons (pv 5) (pa_cons (pe_tp (pa_cons (pe_kn d__law_plus hr (by rfl) (pa_cons (pe_ix ix_any (pv 2) pe_int (fun _ _ => rfl)) (pa_cons (pe_ix ix_any (pv 3) pe_int (fun _ _ => rfl)) pa_nil))) (pa_cons (pe_kn d__law_part hr (by rfl) (pa_cons (pe_kn d__law_plus hr (by rfl) (pa_cons (pe_ix ix_any (pv 2) pe_int (fun _ _ => rfl)) (pa_cons (pe_ix ix_any (pv 3) pe_int (fun _ _ => rfl)) pa_nil))) pa_nil)) pa_nil))) pa_nil))))) (pss_one (ps_ret pe_bl)) pss_nil)
      (pss_cons (ps_if (pt_not (pt_val (pe_kn d__law_is_cycle hr (by rfl) (pa_cons (pv 6) (pa_cons (pe_tp (pa_cons (pe_kn d__law_minus hr (by rfl) (pa_cons (pe_ix ix_any (pv 2) pe_int (fun _ _ => rfl)) (pa_cons (pe_ix ix_any (pv 3) pe_int (fun _ _ => rfl)) pa_nil))) (pa_cons (pe_kn d__law_part hr (by rfl) (pa_cons (pe_kn d__law_minus hr (by rfl) (pa_cons (pe_ix ix_any (pv 2) pe_int (fun _ _ => rfl)) (pa_cons (pe_ix ix_any (pv 3) pe_int (fun _ _ => rfl)) pa_nil))) pa_nil)) pa_nil))) pa_nil))))) (pss_one (ps_ret pe_bl)) pss_nil)
      (pss_cons (ps_if (pt_not (pt_val (pe_kn d__law_is_cycle hr (by rfl) (pa_cons (pv 7) (pa_cons (pe_tp (pa_cons (pe_tp (pa_cons (pe_un un_neg (pe_ix ix_any (pe_ix ix_any (pv 2) pe_int (fun _ _ => rfl)) pe_int (fun _ _ => rfl))) (pa_cons (pe_ix ix_any (pe_ix ix_any (pv 2) pe_int (fun _ _ => rfl)) pe_int (fun _ _ => rfl)) pa_nil))) (pa_cons (pe_kn d__law_part hr (by rfl) (pa_cons (pe_tp (pa_cons (pe_un un_neg (pe_ix ix_any (pe_ix ix_any (pv 2) pe_int (fun _ _ => rfl)) pe_int (fun _ _ => rfl))) (pa_cons (pe_ix ix_any (pe_ix ix_any (pv 2) pe_int (fun _ _ => rfl)) pe_int (fun _ _ => rfl)) pa_nil))) pa_nil)) pa_nil))) pa_nil))))) (pss_one (ps_ret pe_bl)) pss_nil)
      (pss_cons (ps_if (PW.pt (pw_or (pt_not (pt_val (pe_kn d__law_seen hr (by rfl) (pa_cons (pv 5) (pa_cons (pe_tp (pa_cons (pv 2) (pa_cons (pv 3) pa_nil))) (pa_cons pe_int (pa_cons (pv 4) pa_nil))))))) (pw_or1 (pt_not (pt_val (pe_kn d__law_seen hr (by rfl) (pa_cons (pv 6) (pa_cons (pe_tp (pa_cons (pv 2) (pa_cons (pv 3) pa_nil))) (pa_cons (pe_un un_neg pe_int) (pa_cons (pv 4) pa_nil)))))))))) (pss_one (ps_ret pe_bl)) pss_nil)
      (pss_cons (ps_set (i := 8) scHolds.nd rfl (.inl rfl) (pe_tp (pa_cons (pe_tp (pa_cons pe_int (pa_cons pe_int pa_nil))) (pa_cons (pe_tp (pa_cons pe_int (pa_cons pe_int pa_nil))) pa_nil))))
      (pss_cons (ps_if (PW.pt (pw_or (pt_not (pt_val (pe_kn d__law_seen hr (by rfl) (pa_cons (pv 7) (pa_cons (pe_tp (pa_cons (pv 8) (pa_cons (pv 2) pa_nil))) (pa_cons (pe_un un_neg pe_int) (pa_cons (pv 4) pa_nil))))))) (pw_or1 (pt_not (pt_val (pe_kn d__law_is_cycle hr (by rfl) (pa_cons (pe_op (op_subC sf oS hr (by omega)) (pv 0) (pv 0)) (pa_cons (pv 8) pa_nil)))))))) (pss_one (ps_ret pe_bl)) pss_nil)
      (pss_cons (ps_if (PW.pt (pw_or (pt_cmpR op_isnot_bl (pe_cmpR (op_eqA oQ hr (by omega)) (pe_op (op_subC sf oS hr (by omega)) (pv 5) (pv 1)) (pv 0) (nomark _)) pe_bl (nomark _)) (pw_or (pt_cmpR op_isnot_bl (pe_cmpR (op_eqA oQ hr (by omega)) (pe_op (op_addC sf oA hr (by omega)) (pv 6) (pv 1)) (pv 0) (nomark _)) pe_bl (nomark _)) (pw_or1 (pt_cmpR op_isnot_bl (pe_cmpR (op_eqA oQ hr (by omega)) (pe_un (un_negC oN hr (by omega)) (pv 7)) (pv 0) (nomark _)) pe_bl (nomark _)))))) (pss_one (ps_ret pe_bl)) pss_nil)
      (pss_one (ps_ret (pe_and (pe_cmpR op_is_bl (pe_cmpR (op_eqA oQ hr (by omega)) (pv 5) (pe_op (op_addC sf oA hr (by omega)) (pv 1) (pv 0)) (nomark _)) pe_bl (nomark _)) (pe_one (pe_cmpR op_is_bl (pe_cmpR (op_eqA oQ hr (by omega)) (pv 6) (pe_un (un_negC oN hr (by omega)) (pe_op (op_subC sf oS hr (by omega)) (pv 1) (pv 0))) (nomark _)) pe_bl (nomark _)))))))))))))))), ?_⟩
  obtain ⟨np, nq, q0, q1⟩ := hl.facts
  obtain ⟨np', nq', q0', q1'⟩ := hr'.facts
  refine ⟨_, rfl, _, rfl, binpack hl hr' ⟨l, r, p, q, p', q', n, j, rfl, hl, hr', by omega, fun y z c1 H1 hy hz s1 h1 => ?_⟩⟩
  refine ⟨_, rfl, _, rfl, binpack (hl.same s1) (hr'.same s1) ⟨l, r, p, q, p', q', n, j, rfl, hl.same s1, hr'.same s1, by omega, fun w x c2 H2 hw hx s2 h2 => ?_⟩⟩
  have t2 := s1.trans s2
  refine ⟨_, rfl, negpack (hl.same t2) ⟨l, p, q, n, rfl, hl.same t2, by omega, fun c3 H3 s3 h3 => ?_⟩⟩
  have t3 := t2.trans s3
  have h1 := h1.same (s2.trans s3)
  have h2 := h2.same s3
  have hl3 := hl.same t3
  have hr3 := hr'.same t3
  have R1 := R1.same t3
  have R2 := R2.same t3
  have hms := t3 _ _ hms
  have hall := hall.same t3
  have k3 : ∀ H', Same H3 H' → Q (.bl true) H' := fun H' s => k H' (t3.trans s)
  clear s1 s2 s3 t2 t3 hl hr' k
  refine ⟨_, rfl, _, rfl, t, 0, rfl, rfl, _, itsO_of R1.ot, _, atI_0 _ _, _, rfl, u, 0, rfl, rfl, _, itsO_of R2.ot, _, atI_0 _ _, ap_sum R1.fa R2.fa fun y' e1 H4 hy' s4 f4 => ⟨_, rfl, t, 1, rfl, rfl, _, itsO_of (R1.same s4).ot, _, atI_1 _ _ _, _, rfl, u, 1, rfl, rfl, _, itsO_of (R2.same s4).ot, _, atI_1 _ _ _, ap_sum (R1.fb.f.same s4) (R2.fb.f.same s4) fun z' e2 H5 hz' s5 f5 => ap_part f5 fun e3 H6 s6 f6 => ?_⟩⟩
  obtain rfl := sum2.uni np np' hy hy'
  obtain rfl := sum2.uni nq nq' hz hz'
  have t6 := s4.trans (s5.trans s6)
  refine ⟨sz2 (by show 2 ≤ 100; decide), fun tp htp ktp => ⟨_, tp, _, _, _, _, _, rfl, CyAt.same (h1.same t6) (Same.new htp _), by omega, ob_new ktp, (Fq.same (f4.same (s5.trans s6)) (Same.new htp _)).o, (Fq.same (f6.f) (Same.new htp _)).o, fun H7 s7' => ⟨true, rfl, iteF ?_⟩⟩⟩
  have s7 := (Same.new htp _).trans s7'
  clear s7' htp ktp
  have t7 := t6.trans s7
  clear s4 s5 s6 s7 t6 f4 f5 f6 hy' hz'
  refine ⟨_, rfl, _, rfl, t, 0, rfl, rfl, _, itsO_of (R1.same t7).ot, _, atI_0 _ _, _, rfl, u, 0, rfl, rfl, _, itsO_of (R2.same t7).ot, _, atI_0 _ _, ap_dif (R1.fa.same t7) (R2.fa.same t7) fun w' e1 H8 hw' s4 f4 => ⟨_, rfl, t, 1, rfl, rfl, _, itsO_of (R1.same (t7.trans s4)).ot, _, atI_1 _ _ _, _, rfl, u, 1, rfl, rfl, _, itsO_of (R2.same (t7.trans s4)).ot, _, atI_1 _ _ _, ap_dif (R1.fb.f.same (t7.trans s4)) (R2.fb.f.same (t7.trans s4)) fun x' e2 H9 hx' s5 f5 => ap_part f5 fun e3 Ha s6 f6 => ?_⟩⟩
  obtain rfl := dif2.uni np np' hw hw'
  obtain rfl := dif2.uni nq nq' hx hx'
  have ta := t7.trans (s4.trans (s5.trans s6))
  refine ⟨sz2 (by show 2 ≤ 100; decide), fun tp htp ktp => ⟨_, tp, _, _, _, _, _, rfl, CyAt.same (h2.same ta) (Same.new htp _), by omega, ob_new ktp, (Fq.same (f4.same (s5.trans s6)) (Same.new htp _)).o, (Fq.same (f6.f) (Same.new htp _)).o, fun Hb s7' => ⟨true, rfl, iteF ?_⟩⟩⟩
  have s7 := (Same.new htp _).trans s7'
  clear s7' htp ktp
  have tb := ta.trans s7
  clear s4 s5 s6 s7 ta t7 f4 f5 f6 hw' hx'
  refine ⟨_, rfl, _, rfl, t, 0, rfl, rfl, _, itsO_of (R1.same tb).ot, _, atI_0 _ _, a, 0, rfl, rfl, _, itsO_of (R1.same tb).fa.o, _, atI_0 _ _, _, rfl, _, rfl, t, 0, rfl, rfl, _, itsO_of (R1.same tb).ot, _, atI_0 _ _, a, 1, rfl, rfl, _, itsO_of (R1.same tb).fa.o, _, atI_1 _ _ _, sz2 (by show 2 ≤ 100; decide), fun v1 hv1 kv1 => ?_⟩
  have sv1 := Same.new hv1 (.tup [.int (-p.1), .int p.2])
  have fv1 : Fq K (upd Hb v1 (.tup [.int (-p.1), .int p.2])) 133 v1 (-p.1, p.2) := ⟨ob_new kv1, nf_neg np, by show (-p.1).natAbs < 2 ^ 133; rw [Int.natAbs_neg]; exact R1.fa.sz.1, R1.fa.sz.2⟩
  have tc := tb.trans sv1
  refine ⟨_, rfl, t, 1, rfl, rfl, _, itsO_of (R1.same tc).ot, _, atI_1 _ _ _, b, 0, rfl, rfl, _, itsO_of (R1.same tc).fb.f.o, _, atI_0 _ _, _, rfl, _, rfl, t, 1, rfl, rfl, _, itsO_of (R1.same tc).ot, _, atI_1 _ _ _, b, 1, rfl, rfl, _, itsO_of (R1.same tc).fb.f.o, _, atI_1 _ _ _, sz2 (by show 2 ≤ 100; decide), fun v2 hv2 kv2 => ?_⟩
  have sv2 := Same.new hv2 (.tup [.int (-q.1), .int q.2])
  have fv2 : Fq K (upd (upd Hb v1 (.tup [.int (-p.1), .int p.2])) v2 (.tup [.int (-q.1), .int q.2])) 133 v2 (-q.1, q.2) := ⟨ob_new kv2, nf_neg nq, by show (-q.1).natAbs < 2 ^ 133; rw [Int.natAbs_neg]; exact R1.fb.f.sz.1, R1.fb.f.sz.2⟩
  refine ap_part fv2 fun e3 Hc sc f3 => ?_
  have td := tc.trans (sv2.trans sc)
  refine ⟨sz2 (by show 2 ≤ 100; decide), fun tp htp ktp => ⟨_, tp, _, _, _, _, _, rfl, CyAt.same (h3.same td) (Same.new htp _), by omega, ob_new ktp, (Fq.same (fv1.same (sv2.trans sc)) (Same.new htp _)).o, (Fq.same (f3.f) (Same.new htp _)).o, fun Hd s7' => ⟨true, rfl, iteF ?_⟩⟩⟩
  have s7 := (Same.new htp _).trans s7'
  clear s7' htp ktp
  have te := td.trans s7
  clear sv1 sv2 fv1 fv2 tc td sc s7 f3 hv1 hv2 kv1 kv2 tb
  refine ⟨_, rfl, _, rfl, _, rfl, sz2 (by show 2 ≤ 100; decide), fun pr hpr kpr => ?_⟩
  have s4 := Same.new hpr (.tup [.ref t, .ref u])
  have tf := te.trans s4
  refine ⟨_, rfl, c1, pr, ms, t, u, a, b, a', b', 1, _, _, p, q, p', q', _, xs, rfl, h1.same tf, by omega, ob_new kpr, R1.same tf, R2.same tf, tf _ _ hms, hall.same tf, .inl rfl, vw1 np np' hy, (cg_part hz.1).trans (Cg.of_eq (vw1 nq nq' hz)), fun He s5 => ⟨true, rfl, iteF ?_⟩⟩
  have tg := tf.trans s5
  clear s4 s5 tf te hpr kpr
  refine ⟨_, rfl, _, rfl, _, rfl, sz2 (by show 2 ≤ 100; decide), fun pr hpr kpr => ?_⟩
  have s4 := Same.new hpr (.tup [.ref t, .ref u])
  have th := tg.trans s4
  refine ⟨_, rfl, _, rfl, c2, pr, ms, t, u, a, b, a', b', -1, _, _, p, q, p', q', _, xs, rfl, h2.same th, by omega, ob_new kpr, R1.same th, R2.same th, th _ _ hms, hall.same th, .inr rfl, vw2 np np' hw, (cg_part hx.1).trans (Cg.of_eq (vw2 nq nq' hx)), fun Hf s5 => ⟨true, rfl, iteF ?_⟩⟩
  have ti := th.trans s5
  clear s4 s5 th tg hpr kpr
  refine ⟨sz2 (by show 2 ≤ 100; decide), fun z1 hz1 kz1 => ⟨sz2 (by show 2 ≤ 100; decide), fun z2 hz2 kz2 => ⟨sz2 (by show 2 ≤ 100; decide), fun zs hzs kzs => ?_⟩⟩⟩
  have s1 := Same.new hz1 (.tup [.int 0, .int 1])
  have s2 := Same.new hz2 (.tup [.int 0, .int 1])
  have s3 := Same.new hzs (.tup [.ref z1, .ref z2])
  have RZ : Rw K (upd (upd (upd Hf z1 (.tup [.int 0, .int 1])) z2 (.tup [.int 0, .int 1])) zs (.tup [.ref z1, .ref z2])) zs z1 z2 (0, 1) (0, 1) := ⟨ob_new kzs, ⟨ob_same (s2.trans s3) (ob_new kz1), nf01, sz01 (by omega)⟩, ⟨⟨ob_same s3 (ob_new kz2), nf01, sz01 (by omega)⟩, by decide, by decide⟩⟩
  have tj := ti.trans (s1.trans (s2.trans s3))
  generalize upd (upd (upd Hf z1 (.tup [.int 0, .int 1])) z2 (.tup [.int 0, .int 1])) zs (.tup [.ref z1, .ref z2]) = Hg at RZ tj ⊢
  clear s1 s2 s3 hz1 hz2 hzs kz1 kz2 kzs ti
  refine ⟨_, rfl, _, rfl, _, rfl, sz2 (by show 2 ≤ 100; decide), fun pr hpr kpr => ?_⟩
  have s4 := Same.new hpr (.tup [.ref zs, .ref t])
  have tk := tj.trans s4
  refine ⟨_, rfl, _, rfl, c3, pr, ms, zs, t, z1, z2, a, b, -1, _, _, (0, 1), (0, 1), p, q, _, xs, rfl, h3.same tk, by omega, ob_new kpr, RZ.same s4, R1.same tk, tk _ _ hms, hall.same tk, .inr rfl, vw3 p, (cg_part (nf_neg nq)).trans (Cg.of_eq (vw3 q)), fun Hh s5 => ⟨true, rfl, iteF ?_⟩⟩
  have tl := tk.trans s5
  have RZ := RZ.same (s4.trans s5)
  clear s4 s5 tk tj hpr kpr
  refine ⟨_, rfl, _, rfl, binpack (hl3.same tl) (hl3.same tl) ⟨l, l, p, q, p, q, n, n, rfl, hl3.same tl, hl3.same tl, by omega, fun yz zz c4 Hi hyz hzz s4 h4 => ?_⟩⟩
  rw [dif_self np hyz, dif_self nq hzz] at h4
  refine ⟨_, rfl, c4, zs, z1, z2, (0, 1), (0, 1), _, rfl, h4, by omega, (RZ.same s4).ot, (RZ.same s4).fa.o, (RZ.same s4).fb.f.o, fun Hj s5 => ⟨true, rfl, iteF ?_⟩⟩
  have tm := tl.trans (s4.trans s5)
  clear h4 hyz hzz s4 s5 tl RZ
  refine ⟨_, rfl, _, rfl, binpack (h1.same tm) (hr3.same tm) ⟨c1, r, _, _, p', q', _, j, rfl, h1.same tm, hr3.same tm, by omega, fun y2 z2 c4 Hk hy2 hz2 s4 h4 => ⟨_, rfl, ?_⟩⟩⟩
  have tn := tm.trans s4
  refine eqpackA IC (h4) (hl3.same tn) (.inl ⟨_, _, _, _, _, _, _, _, rfl, h4, hl3.same tn, _, _, rfl, rfl, _, rfl, if_no (eqt (hs1 np np' hy hy2) (hs2 nq nq' q0 q1 hz hz2)) ?_⟩)
  clear h4 hy2 hz2 s4 tm
  refine ⟨_, rfl, _, rfl, binpack (h2.same tn) (hr3.same tn) ⟨c2, r, _, _, p', q', _, j, rfl, h2.same tn, hr3.same tn, by omega, fun y2 z2 c4 Hl hy2 hz2 s4 h4 => ⟨_, rfl, ?_⟩⟩⟩
  have to := tn.trans s4
  refine eqpackA IC (h4) (hl3.same to) (.inl ⟨_, _, _, _, _, _, _, _, rfl, h4, hl3.same to, _, _, rfl, rfl, _, rfl, if_no (eqt (hs3 np np' hw hy2) (hs4 nq nq' q0 q1 hx hz2)) ?_⟩)
  clear h4 hy2 hz2 s4 tn
  refine ⟨_, rfl, negpack (h3.same to) ⟨c3, _, _, _, rfl, h3.same to, by omega, fun c4 Hm s4 h4 => ⟨_, rfl, ?_⟩⟩⟩
  have tp := to.trans s4
  refine eqpackA IC (h4) (hl3.same tp) (.inl ⟨_, _, _, _, _, _, _, _, rfl, h4, hl3.same tp, _, _, rfl, rfl, _, rfl, if_no (eqt (hs5 p) (hs6 nq q0 q1)) ?_⟩)
  clear h4 s4 to
  refine ⟨_, rfl, _, rfl, _, rfl, binpack (hr3.same tp) (hl3.same tp) ⟨r, l, p', q', p, q, j, n, rfl, hr3.same tp, hl3.same tp, by omega, fun y2 z2 c4 Hn hy2 hz2 s4 h4 => ?_⟩⟩
  have tq := tp.trans s4
  refine eqpackA IC (h1.same tq) (h4) (.inl ⟨_, _, _, _, _, _, _, _, rfl, h1.same tq, h4, _, _, rfl, rfl, _, rfl, if_yes (eqs (sum_comm' np np' hy hy2) (by rw [sum_comm' nq nq' hz hz2])) ?_⟩)
  clear h4 hy2 hz2 s4 tp
  refine ⟨_, rfl, _, rfl, _, rfl, binpack (hr3.same tq) (hl3.same tq) ⟨r, l, p', q', p, q, j, n, rfl, hr3.same tq, hl3.same tq, by omega, fun y2 z2 c4 Ho hy2 hz2 s4 h4 => negpack h4 ⟨c4, _, _, _, rfl, h4, by omega, fun c5 Hp s5 h5 => ?_⟩⟩⟩
  have tr := tq.trans (s4.trans s5)
  refine eqpackA IC (h2.same tr) h5 (.inl ⟨_, _, _, _, _, _, _, _, rfl, h2.same tr, h5, _, _, rfl, rfl, ?_⟩)
  rw [eqs (dif_anti np np' hw hy2) (hs7 nq nq' hx hz2)]
  exact k3 _ tr
end
end My

namespace My
open PySem PySem.Spec PyProof.Rows L2
section
variable {P : Program} {w : World} {K : PySem.W.Frag} {mg : Str → Option Value} {base : Heap}
def spFitsR (K : PySem.W.Frag) : Sp := fun vs H Q _ => ∃ (t a b : Addr) (x1 y1 x2 y2 : Int), vs = [.ref t] ∧ ob K H t = some (.tup [.ref a, .ref b]) ∧ ob K H a = some (.tup [.int x1, .int y1]) ∧ ob K H b = some (.tup [.int x2, .int y2]) ∧ ∀ b H', Same H H' → Q (.bl b) H'
theorem k_Fits3 (T : Bt K mg) (D : Dfn K mg "_law_fits" sFits ["_law_thing"]) (d__law_fits : Kn P w K mg base 2 "_law_fits" ["_law_thing"] (spFitsT K)) : Kn P w K mg base 3 "_law_fits" ["_law_thing"] (spFitsR K) := by
  refine Kn.mk' D scFits (fun vs H Q E h => ?_) (fun f cdv A outer s H vs Q E hr h => ?_)
  · obtain ⟨t, a, b, x1, y1, x2, y2, rfl, _⟩ := h
    rfl
  obtain ⟨t, a, b, x1, y1, x2, y2, rfl, ot, oa, o2, k⟩ := h
  refine ⟨_, (pss_cons (ps_if (pt_val (pe_callB call_isT (by rfl) T.b_isinstance (by decide +kernel) (pa_cons (pv 0) (pa_cons (pe_tp (pa_cons (pe_bltn (v := .ty "list") (by rfl) T.b_list (by decide +kernel) rfl) (pa_cons (pe_bltn (v := .ty "tuple") (by rfl) T.b_tuple (by decide +kernel) rfl) pa_nil))) pa_nil)))) (pss_cons (ps_for PassesOwn.never rfl (pi_tup (pv 0)) (pg_name (i := 1) scFits.nd rfl (.inl rfl)) (pss_one (ps_if (pt_not (pt_val (pe_kn d__law_fits hr (by rfl) (pa_cons (pv 1) pa_nil)))) (pss_one (ps_ret pe_bl)) pss_nil)))
      (pss_one (ps_ret pe_bl))) pss_nil)
      (pss_one (ps_ret (pe_or (pe_not (pe_callB call_isN (by rfl) T.b_isinstance (by decide +kernel) (pa_cons (pv 0) (pa_cons (pe_bltn (v := .ty "int") (by rfl) T.b_int (by decide +kernel) rfl) pa_nil)))) (pe_one (pe_cmpR op_lt (pe_callB call_abs (by rfl) T.b_abs (by decide +kernel) (pa_cons (pv 0) pa_nil)) (pe_op op_pow pe_int pe_int) (nomark _))))))), ?_⟩
  simp only [ot, cx_K, decide_true, decide_false, reduceCtorEq, gTp, gCons, gNil, ca_0, ca_1, ca_2, ca_3, ca_4, ca_5, ca_6, ca_7, ca_8, ca_9, ca_10, ca_11, ca_12, ca_13, ca_14, ca_15, ca_16, ca_17, ca_18, ca_19, ca_20, ca_21, ca_22, ca_23, ca_24, ca_25, ca_26, ca_27, ca_28, ca_29, ca_30, not_true_eq_false, not_false_eq_true, Int.reduceEq, Nat.reduceEqDiff, Nat.reduceLeDiff, rGcd, V.ty.injEq, eq_self, List.not_mem_nil, beq_self_eq_true, HO.lst.injEq, HO.tup.injEq, tFor_eq, iRng1, iList, iTup, nat10, tSeq, rIxA, rSetA, rIsN, rIsT, tTp, tLs, itsO_tup, itsO_lst, tyO_tup, tyO_lst, tyO_dK, tyN_non, tyN_bl, tyN_int, tyN_str, tyN_ref, tyNs_lt, isB, upd_same, upd_upd, sizeLine_eq, List.mem_cons, String.reduceBEq, String.reduceEq, Bool.or_false, Bool.or_true, Bool.and_false, Bool.false_or, Bool.and_self, Bool.false_and, Bool.not_false, Bool.not_true, List.any_cons, List.any_nil, atI_0, setI_0, atI_1, setI_1, atI_2, setI_2, atI_3, setI_3, atI_4, setI_4, atI_5, setI_5, atI_6, setI_6, tAsg, gName, tOp, tUn, tVar, tC, tCons, L2.tNil, tRet, tIfS, tTest, tCB, tCall, rI, rI0, rU, tNext, tB, tAnd, tOr, tNot, tAndV, tOrV, tNotV, tDrop, tIf, tPar, gSub, rIxL, rIxT, rEq, rNe, rSetL, tBits,
    L2.start, List.map_cons, List.map_nil, List.cons_append, List.nil_append, List.append_nil, List.length_cons, List.length_nil, List.replicate, Nat.reduceAdd, Nat.reduceSub, Nat.zero_add, List.getElem?_cons_zero, List.getElem?_cons_succ, List.set_cons_zero, List.set_cons_succ,
    Option.some.injEq, exists_eq_left', exists_eq_left, V.int.injEq, V.bl.injEq, V.ref.injEq, V.str.injEq, List.cons.injEq, reduceCtorEq, and_true, true_and, false_and, and_false, exists_false, or_false, false_or, or_true, true_or, exists_const, CMul, CDiv, CPow, and_assoc, exists_and_left, exists_and_right, Int.reducePow, Int.reduceNeg, Int.reduceLT, Int.reduceLE, Nat.reducePow, Nat.reduceLT, Int.reduceToNat, gt_iff_lt, ge_iff_le, decide_eq_true_eq, Bool.not_eq_true', decide_eq_false_iff_not, scal, ↓reduceIte, Bool.false_eq_true]
  intro p hp kp
  have s1 := Same.new hp (.tup [V.ty "list", V.ty "tuple"])
  generalize upd H p (.tup [V.ty "list", V.ty "tuple"]) = H1 at s1 ⊢
  have ot1 := ob_same s1 ot
  simp only [ot1, cx_K, decide_true, decide_false, reduceCtorEq, gTp, gCons, gNil, ca_0, ca_1, ca_2, ca_3, ca_4, ca_5, ca_6, ca_7, ca_8, ca_9, ca_10, ca_11, ca_12, ca_13, ca_14, ca_15, ca_16, ca_17, ca_18, ca_19, ca_20, ca_21, ca_22, ca_23, ca_24, ca_25, ca_26, ca_27, ca_28, ca_29, ca_30, not_true_eq_false, not_false_eq_true, Int.reduceEq, Nat.reduceEqDiff, Nat.reduceLeDiff, rGcd, V.ty.injEq, eq_self, List.not_mem_nil, beq_self_eq_true, HO.lst.injEq, HO.tup.injEq, tFor_eq, iRng1, iList, iTup, nat10, tSeq, rIxA, rSetA, rIsN, rIsT, tTp, tLs, itsO_tup, itsO_lst, tyO_tup, tyO_lst, tyO_dK, tyN_non, tyN_bl, tyN_int, tyN_str, tyN_ref, tyNs_lt, isB, upd_same, upd_upd, sizeLine_eq, List.mem_cons, String.reduceBEq, String.reduceEq, Bool.or_false, Bool.or_true, Bool.and_false, Bool.false_or, Bool.and_self, Bool.false_and, Bool.not_false, Bool.not_true, List.any_cons, List.any_nil, atI_0, setI_0, atI_1, setI_1, atI_2, setI_2, atI_3, setI_3, atI_4, setI_4, atI_5, setI_5, atI_6, setI_6, tAsg, gName, tOp, tUn, tVar, tC, tCons, L2.tNil, tRet, tIfS, tTest, tCB, tCall, rI, rI0, rU, tNext, tB, tAnd, tOr, tNot, tAndV, tOrV, tNotV, tDrop, tIf, tPar, gSub, rIxL, rIxT, rEq, rNe, rSetL, tBits,
    L2.start, List.map_cons, List.map_nil, List.cons_append, List.nil_append, List.append_nil, List.length_cons, List.length_nil, List.replicate, Nat.reduceAdd, Nat.reduceSub, Nat.zero_add, List.getElem?_cons_zero, List.getElem?_cons_succ, List.set_cons_zero, List.set_cons_succ,
    Option.some.injEq, exists_eq_left', exists_eq_left, V.int.injEq, V.bl.injEq, V.ref.injEq, V.str.injEq, List.cons.injEq, reduceCtorEq, and_true, true_and, false_and, and_false, exists_false, or_false, false_or, or_true, true_or, exists_const, CMul, CDiv, CPow, and_assoc, exists_and_left, exists_and_right, Int.reducePow, Int.reduceNeg, Int.reduceLT, Int.reduceLE, Nat.reducePow, Nat.reduceLT, Int.reduceToNat, gt_iff_lt, ge_iff_le, decide_eq_true_eq, Bool.not_eq_true', decide_eq_false_iff_not, scal, ↓reduceIte, Bool.false_eq_true]
  refine ⟨⟨_, ob_tup ot1⟩, forI_tup (xs := [.ref a, .ref b]) (FitsI t H) ⟨none, rfl, s1⟩ ?_ ?_ ?_⟩
  · rintro i σ H' _ ⟨z, rfl, s2⟩
    exact ob_tup (ob_same s2 ot)
  · rintro i v σ H' hi ⟨z, rfl, s2⟩
    obtain ⟨n, x, y, rfl, hn⟩ : ∃ n x y, v = .ref n ∧ ob K H n = some (.tup [.int x, .int y]) := by
      have hv := List.mem_of_getElem? hi
      simp only [List.mem_cons, List.not_mem_nil, or_false] at hv
      rcases hv with rfl | rfl
      · exact ⟨_, _, _, rfl, oa⟩
      · exact ⟨_, _, _, rfl, o2⟩
    simp only [cx_K, decide_true, decide_false, reduceCtorEq, gTp, gCons, gNil, ca_0, ca_1, ca_2, ca_3, ca_4, ca_5, ca_6, ca_7, ca_8, ca_9, ca_10, ca_11, ca_12, ca_13, ca_14, ca_15, ca_16, ca_17, ca_18, ca_19, ca_20, ca_21, ca_22, ca_23, ca_24, ca_25, ca_26, ca_27, ca_28, ca_29, ca_30, not_true_eq_false, not_false_eq_true, Int.reduceEq, Nat.reduceEqDiff, Nat.reduceLeDiff, rGcd, V.ty.injEq, eq_self, List.not_mem_nil, beq_self_eq_true, HO.lst.injEq, HO.tup.injEq, tFor_eq, iRng1, iList, iTup, nat10, tSeq, rIxA, rSetA, rIsN, rIsT, tTp, tLs, itsO_tup, itsO_lst, tyO_tup, tyO_lst, tyO_dK, tyN_non, tyN_bl, tyN_int, tyN_str, tyN_ref, tyNs_lt, isB, upd_same, upd_upd, sizeLine_eq, List.mem_cons, String.reduceBEq, String.reduceEq, Bool.or_false, Bool.or_true, Bool.and_false, Bool.false_or, Bool.and_self, Bool.false_and, Bool.not_false, Bool.not_true, List.any_cons, List.any_nil, atI_0, setI_0, atI_1, setI_1, atI_2, setI_2, atI_3, setI_3, atI_4, setI_4, atI_5, setI_5, atI_6, setI_6, tAsg, gName, tOp, tUn, tVar, tC, tCons, L2.tNil, tRet, tIfS, tTest, tCB, tCall, rI, rI0, rU, tNext, tB, tAnd, tOr, tNot, tAndV, tOrV, tNotV, tDrop, tIf, tPar, gSub, rIxL, rIxT, rEq, rNe, rSetL, tBits,
    L2.start, List.map_cons, List.map_nil, List.cons_append, List.nil_append, List.append_nil, List.length_cons, List.length_nil, List.replicate, Nat.reduceAdd, Nat.reduceSub, Nat.zero_add, List.getElem?_cons_zero, List.getElem?_cons_succ, List.set_cons_zero, List.set_cons_succ,
    Option.some.injEq, exists_eq_left', exists_eq_left, V.int.injEq, V.bl.injEq, V.ref.injEq, V.str.injEq, List.cons.injEq, reduceCtorEq, and_true, true_and, false_and, and_false, exists_false, or_false, false_or, or_true, true_or, exists_const, CMul, CDiv, CPow, and_assoc, exists_and_left, exists_and_right, Int.reducePow, Int.reduceNeg, Int.reduceLT, Int.reduceLE, Nat.reducePow, Nat.reduceLT, Int.reduceToNat, gt_iff_lt, ge_iff_le, decide_eq_true_eq, Bool.not_eq_true', decide_eq_false_iff_not, scal, ↓reduceIte, Bool.false_eq_true]
    refine ⟨n, x, y, rfl, ob_same s2 hn, fun b H2 s3 => ⟨b, rfl, ?_⟩⟩
    cases b
    · rw [if_pos rfl]
      exact k false H2 (s2.trans s3)
    · rw [if_neg (by simp)]
      exact ⟨_, rfl, s2.trans s3⟩
  · rintro σ H' ⟨z, rfl, s2⟩
    simp only [cx_K, decide_true, decide_false, reduceCtorEq, gTp, gCons, gNil, ca_0, ca_1, ca_2, ca_3, ca_4, ca_5, ca_6, ca_7, ca_8, ca_9, ca_10, ca_11, ca_12, ca_13, ca_14, ca_15, ca_16, ca_17, ca_18, ca_19, ca_20, ca_21, ca_22, ca_23, ca_24, ca_25, ca_26, ca_27, ca_28, ca_29, ca_30, not_true_eq_false, not_false_eq_true, Int.reduceEq, Nat.reduceEqDiff, Nat.reduceLeDiff, rGcd, V.ty.injEq, eq_self, List.not_mem_nil, beq_self_eq_true, HO.lst.injEq, HO.tup.injEq, tFor_eq, iRng1, iList, iTup, nat10, tSeq, rIxA, rSetA, rIsN, rIsT, tTp, tLs, itsO_tup, itsO_lst, tyO_tup, tyO_lst, tyO_dK, tyN_non, tyN_bl, tyN_int, tyN_str, tyN_ref, tyNs_lt, isB, upd_same, upd_upd, sizeLine_eq, List.mem_cons, String.reduceBEq, String.reduceEq, Bool.or_false, Bool.or_true, Bool.and_false, Bool.false_or, Bool.and_self, Bool.false_and, Bool.not_false, Bool.not_true, List.any_cons, List.any_nil, atI_0, setI_0, atI_1, setI_1, atI_2, setI_2, atI_3, setI_3, atI_4, setI_4, atI_5, setI_5, atI_6, setI_6, tAsg, gName, tOp, tUn, tVar, tC, tCons, L2.tNil, tRet, tIfS, tTest, tCB, tCall, rI, rI0, rU, tNext, tB, tAnd, tOr, tNot, tAndV, tOrV, tNotV, tDrop, tIf, tPar, gSub, rIxL, rIxT, rEq, rNe, rSetL, tBits,
    L2.start, List.map_cons, List.map_nil, List.cons_append, List.nil_append, List.append_nil, List.length_cons, List.length_nil, List.replicate, Nat.reduceAdd, Nat.reduceSub, Nat.zero_add, List.getElem?_cons_zero, List.getElem?_cons_succ, List.set_cons_zero, List.set_cons_succ,
    Option.some.injEq, exists_eq_left', exists_eq_left, V.int.injEq, V.bl.injEq, V.ref.injEq, V.str.injEq, List.cons.injEq, reduceCtorEq, and_true, true_and, false_and, and_false, exists_false, or_false, false_or, or_true, true_or, exists_const, CMul, CDiv, CPow, and_assoc, exists_and_left, exists_and_right, Int.reducePow, Int.reduceNeg, Int.reduceLT, Int.reduceLE, Nat.reducePow, Nat.reduceLT, Int.reduceToNat, gt_iff_lt, ge_iff_le, decide_eq_true_eq, Bool.not_eq_true', decide_eq_false_iff_not, scal, ↓reduceIte, Bool.false_eq_true]
    exact k true H' s2
/-! ### two rows compared -/
def rEqR (K : PySem.W.Frag) : R2 := fun x y H Q => ∃ (t u a b a' b' : Addr) (p q p' q' : Qt), x = .ref t ∧ y = .ref u ∧ ob K H t = some (.tup [.ref a, .ref b]) ∧ ob K H u = some (.tup [.ref a', .ref b']) ∧ ob K H a = some (.tup [.int p.1, .int p.2]) ∧ ob K H b = some (.tup [.int q.1, .int q.2]) ∧ ob K H a' = some (.tup [.int p'.1, .int p'.2]) ∧ ob K H b' = some (.tup [.int q'.1, .int q'.2]) ∧ Q (.bl (decide (p = p') && decide (q = q'))) H
def rNeR (K : PySem.W.Frag) : R2 := fun x y H Q => ∃ (t u a b a' b' : Addr) (p q p' q' : Qt), x = .ref t ∧ y = .ref u ∧ ob K H t = some (.tup [.ref a, .ref b]) ∧ ob K H u = some (.tup [.ref a', .ref b']) ∧ ob K H a = some (.tup [.int p.1, .int p.2]) ∧ ob K H b = some (.tup [.int q.1, .int q.2]) ∧ ob K H a' = some (.tup [.int p'.1, .int p'.2]) ∧ ob K H b' = some (.tup [.int q'.1, .int q'.2]) ∧ Q (.bl !(decide (p = p') && decide (q = q'))) H
theorem eqv_rw (p q p' q' : Qt) : PyData.eqv (.tuple [.tuple [.int p.1, .int p.2], .tuple [.int q.1, .int q.2]]) (.tuple [.tuple [.int p'.1, .int p'.2], .tuple [.int q'.1, .int q'.2]]) = (decide (p = p') && decide (q = q')) := by
  show (PyData.eqv (.tuple [.int p.1, .int p.2]) (.tuple [.int p'.1, .int p'.2]) && (PyData.eqv (.tuple [.int q.1, .int q.2]) (.tuple [.int q'.1, .int q'.2]) && true)) = _
  rw [eqv_fr, eqv_fr, Bool.and_true]
theorem op_eqR {X : Cx} {j : Nat} (hr : Room j X.A) : OpR X (compareOp .Eq) (rEqR X.K) := fun pins s σ H x y v u Q I rx ry h => by
  obtain ⟨t, w, a, b, a', b', p, q, p', q', ex, ey, ot, ow, oa, o2, oa', o2', k⟩ := h
  subst ex ey
  refine op_eqD (by have := hr.un; omega) pins s σ H _ _ v u Q I rx ry ⟨_, _, .tup (ob_tup ot) (.cons (dp_fr oa) (.cons (dp_fr o2) .nil)), .tup (ob_tup ow) (.cons (dp_fr oa') (.cons (dp_fr o2') .nil)), rfl, rfl, ?_⟩
  rw [eqv_rw]
  exact k
theorem op_neR {X : Cx} {j : Nat} (hr : Room j X.A) : OpR X (compareOp .NotEq) (rNeR X.K) := fun pins s σ H x y v u Q I rx ry h => by
  obtain ⟨t, w, a, b, a', b', p, q, p', q', ex, ey, ot, ow, oa, o2, oa', o2', k⟩ := h
  subst ex ey
  refine op_neD (by have := hr.un; omega) pins s σ H _ _ v u Q I rx ry ⟨_, _, .tup (ob_tup ot) (.cons (dp_fr oa) (.cons (dp_fr o2) .nil)), .tup (ob_tup ow) (.cons (dp_fr oa') (.cons (dp_fr o2') .nil)), rfl, rfl, ?_⟩
  rw [eqv_rw]
  exact k
theorem net {p p' q q' : Qt} (e1 : p = p') (e2 : q = q') : (!decide ((!(decide (p = p') && decide (q = q'))) = false)) = false := by simp [e1, e2]
theorem neq1 {p p' q q' : Qt} (h : ¬(p = p' ∧ q = q')) : (!decide ((decide (p = p') && decide (q = q')) = false)) = false := by
  by_cases e : p = p'
  · have e2 : q ≠ q' := fun z => h ⟨e, z⟩
    simp [e2]
  · simp [e]
theorem neq2 {p p' q q' : Qt} (h : ¬(p = p' ∧ q = q')) : (!decide ((!(decide (p = p') && decide (q = q'))) = true)) = false := by
  by_cases e : p = p'
  · have e2 : q ≠ q' := fun z => h ⟨e, z⟩
    simp [e2]
  · simp [e]
theorem half_ne {q z : Qt} (hq : Nf q) (h : sum2 q (1, 2) z) : ((z.1 % z.2, z.2) : Qt) ≠ q := fun e => by
  obtain ⟨k, e1⟩ := val_part h.1
  rw [e, val_sum hq nf12 h] at e1
  have v : val (1, 2) = 1 / 2 := rfl
  rw [v] at e1
  have e2 : (1 : Rat) = 2 * (k : Rat) := by grind
  have e3 : ((1 : Int) : Rat) = ((2 * k : Int) : Rat) := by
    rw [Rat.intCast_mul, Rat.intCast_one]
    exact e2
  have := Rat.intCast_inj.mp e3
  omega
theorem one_ne {p y : Qt} (hp : Nf p) (h : sum2 p (1, 1) y) : y ≠ p := fun e => by
  have v := val_sum hp nf11 h
  rw [e, val_int, Rat.intCast_one] at v
  grind
/-- a cycle that is another one, or what is none -/
theorem tyX_same {H H' : Hp} {x : V} {t : Value} (s : Same H H') (h : TyX K H x t) : TyX K H' x t := by
  cases h with
  | base b =>
    cases b with
    | non => exact .base .non
    | bl y => exact .base (.bl y)
    | int y => exact .base (.int y)
    | str y => exact .base (.str y)
    | flt y => exact .base (.flt y)
    | lst e => exact .base (.lst (s _ _ e))
    | frz e => exact .base (.frz (s _ _ e))
    | tup e => exact .base (.tup (s _ _ e))
    | dK e => exact .base (.dK (s _ _ e))
    | dT e => exact .base (.dT (s _ _ e))
    | ins e a b c d f => exact .base (.ins (s _ _ e) a b c d f)
  | byt b => exact .byt b
  | set e => exact .set (s _ _ e)
  | kList e c => exact .kList e c
  | kTuple e c => exact .kTuple e c
  | kDict e c => exact .kDict e c
  | fTuple e => exact .fTuple (s _ _ e)
  | fDict e => exact .fDict (s _ _ e)
def Ne (K : PySem.W.Frag) (C : Addr) (H : Hp) (p q : Qt) (x : V) : Prop := (∃ c P Q n, x = .ref c ∧ CyAt K C n H c P Q ∧ ¬(p = P ∧ q = Q)) ∨ NoCy K C H x
theorem nepackA {C : Addr} {H : Hp} {c d : Addr} {p q p' q' : Qt} {n j : Nat} {R : Prop} (I : C8.InsC K C) (hc : CyAt K C n H c p q) (hd : CyAt K C j H d p' q') (h : R) : ∃ a dx fs t, V.ref c = .ref a ∧ H a = some (.ins C dx fs) ∧ TyX K H (.ref d) t ∧ PySem.W.notFirst K C t = true ∧ R := eqpackA I hc hd h
theorem nopack {C : Addr} {H : Hp} {c : Addr} {y : V} {p q : Qt} {n : Nat} {t : Value} {R : Prop} (hc : CyAt K C n H c p q) (ty : TyX K H y t) (ho : Oth K C t) (h : R) : ∃ a dx fs t, V.ref c = .ref a ∧ H a = some (.ins C dx fs) ∧ TyX K H y t ∧ PySem.W.notFirst K C t = true ∧ R := by
  obtain ⟨dx, ra, sb, v, hi, _⟩ := id hc
  exact ⟨c, dx, _, t, rfl, hi, ty, ho.2, h⟩
def spEquals (K : PySem.W.Frag) (C : Addr) : Sp := fun vs H Q _ => ∃ (l r t u a b a' b' : Addr) (p q p' q' : Qt) (n j : Nat), vs = [.ref l, .ref r, .ref t, .ref u] ∧ CyAt K C n H l p q ∧ CyAt K C j H r p' q' ∧ Rw K H t a b p q ∧ Rw K H u a' b' p' q' ∧ n ≤ 140 ∧ j ≤ 140 ∧ ∀ H', Same H H' → Q (.bl true) H'
/-- a row of any size -/
structure Rx (K : PySem.W.Frag) (H : Hp) (u a b : Addr) (p q : Qt) : Prop where
  ot : ob K H u = some (.tup [.ref a, .ref b])
  fa : Fq K H 200 a p
  fb : Pq K H 200 b q
theorem Rx.same {H H' : Hp} {u a b : Addr} {p q : Qt} (h : Rx K H u a b p q) (s : Same H H') : Rx K H' u a b p q := ⟨ob_same s h.ot, h.fa.same s, h.fb.same s⟩
def RxNe (K : PySem.W.Frag) (H : Hp) (p q : Qt) (x : V) : Prop := ∃ v a b P Q, x = .ref v ∧ Rx K H v a b P Q ∧ ¬(p = P ∧ q = Q)
theorem RxNe.same {H H' : Hp} {p q : Qt} {x : V} (h : RxNe K H p q x) (s : Same H H') : RxNe K H' p q x := by
  obtain ⟨v, a, b, P, Q, e, r, n⟩ := h
  exact ⟨v, a, b, P, Q, e, r.same s, n⟩
def CyNe (K : PySem.W.Frag) (C : Addr) (H : Hp) (p q : Qt) (x : V) : Prop := ∃ c P Q n, x = .ref c ∧ CyAt K C n H c P Q ∧ ¬(p = P ∧ q = Q)
theorem CyNe.same {C : Addr} {H H' : Hp} {p q : Qt} {x : V} (h : CyNe K C H p q x) (s : Same H H') : CyNe K C H' p q x := by
  obtain ⟨c, P, Q, n, e, r, z⟩ := h
  exact ⟨c, P, Q, n, e, r.same s, z⟩
theorem ob_putL {H : Hp} {c a : Addr} {ys : List V} {o : HO} {xs : List V} (hc : H c = some (.lst ys)) (h : ob K H a = some (.tup xs)) : ob K (upd H c o) a = some (.tup xs) := by
  unfold ob at h ⊢
  split
  · rename_i z hz
    rw [hz] at h
    exact h
  · rename_i hz
    rw [hz] at h
    rw [upd_ne (by rintro rfl; rw [hc] at h; cases h)]
    exact h
theorem Fq.putL {H : Hp} {D : Addr} {ys : List V} {o : HO} {n : Nat} {a : Addr} {q : Qt} (h : Fq K H n a q) (hD : H D = some (.lst ys)) : Fq K (upd H D o) n a q := ⟨ob_putL hD h.o, h.nf, h.sz⟩
theorem CyAt.putL {C : Addr} {n : Nat} {H : Hp} {c D : Addr} {ys : List V} {o : HO} {p q : Qt} (h : CyAt K C n H c p q) (hD : H D = some (.lst ys)) : CyAt K C n (upd H D o) c p q := by
  obtain ⟨dx, a, b, v, h1, h2, h3, h4⟩ := h
  exact ⟨dx, a, b, v, by rw [upd_ne (by rintro rfl; rw [hD] at h1; cases h1)]; exact h1, h2.putL hD, ⟨h3.f.putL hD, h3.lo, h3.hi⟩, h4.imp id fun ⟨i, d, z, f⟩ => ⟨i, d, z, f.putL hD⟩⟩
theorem CyNe.putL {C D : Addr} {H : Hp} {ys : List V} {o : HO} {p q : Qt} {x : V} (h : CyNe K C H p q x) (hD : H D = some (.lst ys)) : CyNe K C (upd H D o) p q x := by
  obtain ⟨c, P, Q, n, e, r, z⟩ := h
  exact ⟨c, P, Q, n, e, r.putL hD, z⟩
theorem yes_of {σ : L2.St} {H : Hp} {G N : Hp → Prop} (h : G H) : tYes σ H fun b H3 => if b = true then G H3 else N H3 := by
  show (if true = true then G H else N H)
  exact iteT h
theorem itsO_ofL {H : Hp} {a : Addr} {xs : List V} (h : ob K H a = some (.lst xs)) : itsO (ob K H a) = some xs := by rw [h]; rfl
def EqI (K : PySem.W.Frag) (l r t u tw ll D l2 : Addr) (H : Hp) (_ : Nat) (σ : L2.St) (H' : Hp) : Prop := ∃ x8, σ = [some (.ref l), some (.ref r), some (.ref t), some (.ref u), some (.ref tw), some (.ref ll), some (.ref D), some (.ref l2), x8, none] ∧ Same H H'
def CompE (K : PySem.W.Frag) (C D : Addr) (p q : Qt) (H0 : Hp) (i : Nat) (H' : Hp) : Prop := ∃ l : List V, H' D = some (.lst l) ∧ l.length ≤ i ∧ Same H0 H' ∧ ∀ x ∈ l, CyNe K C H' p q x
theorem nf13 : Nf (1, 3) := ⟨by decide, by decide⟩
theorem nf17 : Nf (1, 7) := ⟨by decide, by decide⟩
/-- the other kinds -/
structure Kinds (K : PySem.W.Frag) (C S : Addr) : Prop where
  bt : ∀ n ∈ ["NoneType", "bool", "int", "str", "tuple", "list", "dict"], Oth K C (.type n)
  sp : Oth K C (.ref S)
theorem nocy_n {C S : Addr} {H : Hp} {x : V} {n : String} (k : Kinds K C S) (h : tyN K H x = some n) : NoCy K C H x := ⟨_, tyN_X h, k.bt n (tyN_mem h)⟩
theorem nocy_tup {C S : Addr} {H : Hp} {a : Addr} {xs : List V} (k : Kinds K C S) (h : ob K H a = some (.tup xs)) : NoCy K C H (.ref a) := nocy_n (n := "tuple") k (by rw [tyN_ref, h]; rfl)
theorem nocy_lst {C S : Addr} {H : Hp} {a : Addr} {xs : List V} (k : Kinds K C S) (h : ob K H a = some (.lst xs)) : NoCy K C H (.ref a) := nocy_n (n := "list") k (by rw [tyN_ref, h]; rfl)
theorem nocy_dct {C S : Addr} {H : Hp} {a : Addr} {xs : List (Key × V)} (k : Kinds K C S) (h : ob K H a = some (.dK xs)) : NoCy K C H (.ref a) := nocy_n (n := "dict") k (by rw [tyN_ref, h]; rfl)
abbrev sEquals : Stmt := topS 61
theorem scEquals : FnScope ["_law_left", "_law_right", "_law_one", "_law_two_here", "_law_twin", "_law_rows", "_law_cycles", "_law_things", "_law_value", "_law_row"] ["_law_left", "_law_right", "_law_one", "_law_two_here"] (defScope sEquals) := ⟨rfl, rfl, rfl, by decide +kernel, rfl, by decide +kernel, by decide +kernel⟩
theorem blkE : BlkOk ["_law_left", "_law_right", "_law_one", "_law_two_here", "_law_twin", "_law_rows", "_law_cycles", "_law_things", "_law_value", "_law_row"] (defScope sEquals) { kind := .function, names := [(".0", .local), ("_law_row", .local), ("_law_fits", .globalImplicit), ("Cycle", .globalImplicit)], isGenerator := false, isCoroutine := false, more := [] } [("_law_row", 9)] := ⟨rfl, by decide +kernel, by decide +kernel, by decide +kernel, by decide +kernel⟩
theorem k_Equals {C S : Addr} (Y : CyC K mg C) (IC : C8.InsC K C) (IS : C8.InsC K S) (KD : Kinds K C S) (oQ : EqK P w K mg base C) (mk2 : C8.Mak P w K mg base 5 "Cycle" C (spCyInit K C) []) (mkS : C8.Mak P w K mg base 5 "Span" S (spSpInit K S) []) (T : Bt K mg) (D : Dfn K mg "_law_equals" sEquals ["_law_left", "_law_right", "_law_one", "_law_two_here"]) (d__law_plus : Kn P w K mg base 3 "_law_plus" ["_law_left", "_law_right"] (spBin K sum2)) (d__law_part : Kn P w K mg base 3 "_law_part" ["_law_value"] (spUn K fun q => (q.1 % q.2, q.2))) (d__law_same : Kn P w K mg base 4 "_law_same" ["_law_told", "_law_due"] (spSame K 3)) (d__law_fits : Kn P w K mg base 3 "_law_fits" ["_law_thing"] (spFitsR K)) : Kn P w K mg base 10 "_law_equals" ["_law_left", "_law_right", "_law_one", "_law_two_here"] (spEquals K C) := by
  refine Kn.mk' D scEquals (fun vs H Q E h => ?_) (fun f cdv A outer s H vs Q E hr h => ?_)
  · obtain ⟨l, r, t, u, a, b, a', b', p, q, p', q', n, j, rfl, _⟩ := h
    rfl
  obtain ⟨l, r, t, u, a, b, a', b', p, q, p', q', n, j, rfl, hl, hr', R1, R2, hn, hj, k⟩ := h
  refine ⟨_, (pss_cons (ps_set (i := 4) scEquals.nd rfl (.inl rfl) (C8.pe_mk mk2 hr (by omega) (by rfl) (pa_cons (pe_ix ix_any (pv 2) pe_int (fun _ _ => rfl)) (pa_cons (pe_ix ix_any (pv 2) pe_int (fun _ _ => rfl)) pa_nil))))
      (pss_cons (ps_if (PW.pt (pw_or (pt_cmpR op_isnot_bl (pe_cmpR (op_eqA oQ hr (by omega)) (pv 0) (pv 4) (nomark _)) pe_bl (nomark _)) (pw_or1 (pt_cmpR op_isnot_bl (pe_cmpR (op_neA oQ hr (by omega)) (pv 0) (pv 4) (nomark _)) pe_bl (nomark _))))) (pss_one (ps_ret pe_bl)) pss_nil)
      (pss_cons (ps_if (PW.pt (pw_or (pt_not (pt_val (pe_kn d__law_same hr (by rfl) (pa_cons (pe_cmpR (op_eqA oQ hr (by omega)) (pv 0) (pv 1) (nomark _)) (pa_cons (pe_cmpR (op_eqR hr) (pv 2) (pv 3) (nomark _)) pa_nil))))) (pw_or1 (pt_not (pt_val (pe_kn d__law_same hr (by rfl) (pa_cons (pe_cmpR (op_neA oQ hr (by omega)) (pv 0) (pv 1) (nomark _)) (pa_cons (pe_cmpR (op_neR hr) (pv 2) (pv 3) (nomark _)) pa_nil)))))))) (pss_one (ps_ret pe_bl)) pss_nil)
      (pss_cons (ps_set (i := 5) scEquals.nd rfl (.inl rfl) (pe_ls (pa_cons (pe_tp (pa_cons (pe_ix ix_any (pv 2) pe_int (fun _ _ => rfl)) (pa_cons (pe_kn d__law_part hr (by rfl) (pa_cons (pe_kn d__law_plus hr (by rfl) (pa_cons (pe_ix ix_any (pv 2) pe_int (fun _ _ => rfl)) (pa_cons (pe_tp (pa_cons pe_int (pa_cons pe_int pa_nil))) pa_nil))) pa_nil)) pa_nil))) (pa_cons (pe_tp (pa_cons (pe_kn d__law_plus hr (by rfl) (pa_cons (pe_ix ix_any (pv 2) pe_int (fun _ _ => rfl)) (pa_cons (pe_tp (pa_cons pe_int (pa_cons pe_int pa_nil))) pa_nil))) (pa_cons (pe_ix ix_any (pv 2) pe_int (fun _ _ => rfl)) pa_nil))) (pa_cons (pe_tp (pa_cons (pe_ix ix_any (pv 2) pe_int (fun _ _ => rfl)) (pa_cons (pe_ix ix_any (pe_ls (pa_cons (pe_tp (pa_cons pe_int (pa_cons pe_int pa_nil))) (pa_cons (pe_tp (pa_cons pe_int (pa_cons pe_int pa_nil))) pa_nil))) (pe_callTy call_int1 (by rfl) T.b_int (by decide +kernel) (pa_cons (pe_cmpR (op_eqF hr) (pe_ix ix_any (pv 2) pe_int (fun _ _ => rfl)) (pe_tp (pa_cons pe_int (pa_cons pe_int pa_nil))) (nomark _)) pa_nil)) (fun _ _ => rfl)) pa_nil))) (pa_cons (pe_tp (pa_cons (pe_ix ix_any (pe_ls (pa_cons (pe_tp (pa_cons pe_int (pa_cons pe_int pa_nil))) (pa_cons (pe_tp (pa_cons pe_int (pa_cons pe_int pa_nil))) pa_nil))) (pe_callTy call_int1 (by rfl) T.b_int (by decide +kernel) (pa_cons (pe_cmpR (op_eqF hr) (pe_ix ix_any (pv 2) pe_int (fun _ _ => rfl)) (pe_tp (pa_cons pe_int (pa_cons pe_int pa_nil))) (nomark _)) pa_nil)) (fun _ _ => rfl)) (pa_cons (pe_ix ix_any (pv 2) pe_int (fun _ _ => rfl)) pa_nil))) pa_nil))))))
      (pss_cons (ps_setLc (i := 6) (own := [("_law_row", 9)]) (g := gName 9) (tt := tTest (tCall (spFitsR K) [] E0 (tCons (tVar 9) L2.tNil))) (te := tMake C (spCyInit K C) [] C8.E0 (tCons (tOp (rIxA K) (tVar 9) (tC (.int 0))) (tCons (tOp (rIxA K) (tVar 9) (tC (.int 1))) L2.tNil))) rfl scEquals.nd rfl rfl (sw_true rfl rfl rfl (by rfl)) (pi_list (pv 5)) blkE (fun _ _ _ _ _ => by exact pg_name (i := 9) scEquals.nd rfl (.inl rfl)) (fun _ _ _ _ _ => by exact pts_one (pt_val (pe_kn d__law_fits hr (by rfl) (pa_cons (pv 9) pa_nil)))) (fun _ _ _ _ _ => by exact C8.pe_mk mk2 hr (by omega) (by rfl) (pa_cons (pe_ix ix_any (pv 9) pe_int (fun _ _ => rfl)) (pa_cons (pe_ix ix_any (pv 9) pe_int (fun _ _ => rfl)) pa_nil))))
      (pss_cons (ps_set (i := 7) scEquals.nd rfl (.inl rfl) (pe_ls (pa_cons pe_non (pa_cons (pv 2) (pa_cons (pe_ix ix_any (pv 2) pe_int (fun _ _ => rfl)) (pa_cons (pe_ls (pa_cons (pv 2) pa_nil)) (pa_cons (C8.pe_mk mkS hr (by omega) (by rfl) (pa_cons (pe_tp (pa_cons pe_int (pa_cons pe_int pa_nil))) (pa_cons (pe_tp (pa_cons pe_int (pa_cons pe_int pa_nil))) pa_nil))) (pa_cons pe_int (pa_cons pe_int (pa_cons pe_bl (pa_cons pe_str (pa_cons pe_str (pa_cons (pe_tp pa_nil) (pa_cons (pe_ls pa_nil) (pa_cons pe_dn (pa_cons (pe_ls (pa_cons (pv 0) pa_nil)) (pa_cons (pe_tp (pa_cons (pv 0) pa_nil)) pa_nil)))))))))))))))))
      (pss_cons (ps_for PassesOwn.never rfl (pi_list (pe_op op_cat (pv 6) (pv 7))) (pg_name (i := 8) scEquals.nd rfl (.inl rfl)) (pss_one (ps_if (PW.pt (pw_or (pt_cmpR op_isnot_bl (pe_cmpR (op_eqA oQ hr (by omega)) (pv 0) (pv 8) (nomark _)) pe_bl (nomark _)) (pw_or1 (pt_cmpR op_isnot_bl (pe_cmpR (op_neA oQ hr (by omega)) (pv 0) (pv 8) (nomark _)) pe_bl (nomark _))))) (pss_one (ps_ret pe_bl)) pss_nil)))
      (pss_one (ps_ret pe_bl))))))))), ?_⟩
  obtain ⟨np, nq, q0, q1⟩ := hl.facts
  refine ⟨_, rfl, t, 0, rfl, rfl, _, itsO_of R1.ot, _, atI_0 _ _, _, rfl, t, 1, rfl, rfl, _, itsO_of R1.ot, _, atI_1 _ _ _, fun x dx hx hdx hne => ⟨H, x, dx, a, b, p, q, 133, rfl, same_make hx hdx, hx, upd_same, R1.fa, R1.fb, by omega, fun H1 s1 hcy => ⟨rfl, ?_⟩⟩⟩
  have hl1 := hl.same s1
  refine ⟨_, rfl, _, rfl, eqpackA IC (hl1) (hcy) (.inl ⟨_, _, _, _, _, _, _, _, rfl, hl1, hcy, _, _, rfl, rfl, _, rfl, if_no (eqt (rfl) (rfl)) ?_⟩)⟩
  refine ⟨_, rfl, _, rfl, nepackA IC hl1 hcy (.inl ⟨_, _, _, _, _, _, _, _, rfl, hl1, hcy, _, rfl, _, _, rfl, rfl, _, rfl, if_no (net rfl rfl) ?_⟩)⟩
  refine ⟨_, rfl, _, rfl, eqpackA IC hl1 (hr'.same s1) (.inl ⟨_, _, _, _, _, _, _, _, rfl, hl1, hr'.same s1, _, rfl, _, rfl, t, u, a, b, a', b', p, q, p', q', rfl, rfl, (R1.same s1).ot, (R2.same s1).ot, (R1.same s1).fa.o, (R1.same s1).fb.f.o, (R2.same s1).fa.o, (R2.same s1).fb.f.o, _, _, rfl, .inl ⟨rfl, rfl⟩, fun H2 s2 => ⟨true, rfl, iteF ?_⟩⟩)⟩
  have t2 := s1.trans s2
  refine ⟨_, rfl, _, rfl, nepackA IC (hl.same t2) (hr'.same t2) (.inl ⟨_, _, _, _, _, _, _, _, rfl, hl.same t2, hr'.same t2, _, rfl, _, rfl, _, rfl, t, u, a, b, a', b', p, q, p', q', rfl, rfl, (R1.same t2).ot, (R2.same t2).ot, (R1.same t2).fa.o, (R1.same t2).fb.f.o, (R2.same t2).fa.o, (R2.same t2).fb.f.o, _, _, rfl, .inl ⟨rfl, rfl⟩, fun H3 s3 => ⟨true, rfl, iteF ?_⟩⟩)⟩
  have t3 := t2.trans s3
  clear s1 s2 t2 s3 hcy hl1
  have hl := hl.same t3
  have R1 := R1.same t3
  have k3 : ∀ H', Same H3 H' → Q (.bl true) H' := fun H' s => k H' (t3.trans s)
  clear t3 hr' R2 k
  refine ⟨_, rfl, t, 0, rfl, rfl, _, itsO_of R1.ot, _, atI_0 _ _, _, rfl, t, 1, rfl, rfl, _, itsO_of R1.ot, _, atI_1 _ _ _, sz2 (by show 2 ≤ 100; decide), fun w1 hw1 kw1 => ?_⟩
  have s1 := Same.new hw1 (.tup [.int 1, .int 2])
  have f1 : Fq K (upd H3 w1 (.tup [.int 1, .int 2])) 10 w1 (1, 2) := ⟨ob_new kw1, nf12, sz10 (by decide) (by decide)⟩
  refine ap_sum (R1.fb.f.same s1) f1 fun z1 e1 H4 hz1 s2 f2 => ap_part f2 fun e2 H5 s3 g1 => ⟨sz2 (by show 2 ≤ 100; decide), fun t1 h1 k1 => ?_⟩
  have s4 := Same.new h1 (.tup [.ref a, .ref e2])
  have t4 := s1.trans (s2.trans (s3.trans s4))
  have A1 : Rx K (upd H5 t1 (.tup [.ref a, .ref e2])) t1 a e2 p (z1.1 % z1.2, z1.2) := ⟨ob_new k1, (R1.fa.same t4).mono (by omega), (g1.same s4).mono (by omega)⟩
  generalize upd H5 t1 (.tup [.ref a, .ref e2]) = H6 at A1 t4 ⊢
  clear s1 s2 s3 s4 f1 f2 g1 hw1 kw1 h1 k1
  have R1' := R1.same t4
  refine ⟨_, rfl, t, 0, rfl, rfl, _, itsO_of R1'.ot, _, atI_0 _ _, sz2 (by show 2 ≤ 100; decide), fun w2 hw2 kw2 => ?_⟩
  have s1 := Same.new hw2 (.tup [.int 1, .int 1])
  have f1 : Fq K (upd H6 w2 (.tup [.int 1, .int 1])) 10 w2 (1, 1) := ⟨ob_new kw2, nf11, sz10 (by decide) (by decide)⟩
  refine ap_sum (R1'.fa.same s1) f1 fun y2 e3 H7 hy2 s2 f2 => ⟨_, rfl, t, 1, rfl, rfl, _, itsO_of (R1'.same (s1.trans s2)).ot, _, atI_1 _ _ _, sz2 (by show 2 ≤ 100; decide), fun t2 h2 k2 => ?_⟩
  have s3 := Same.new h2 (.tup [.ref e3, .ref b])
  have t5 := s1.trans (s2.trans s3)
  have A2 : Rx K (upd H7 t2 (.tup [.ref e3, .ref b])) t2 e3 b y2 q := ⟨ob_new k2, (f2.same s3).mono (by omega), (R1'.fb.same t5).mono (by omega)⟩
  have A1 := A1.same t5
  have t6 := t4.trans t5
  generalize upd H7 t2 (.tup [.ref e3, .ref b]) = H8 at A1 A2 t6 ⊢
  clear s1 s2 s3 f1 f2 hw2 kw2 h2 k2 t4 t5 R1'
  have R1' := R1.same t6
  refine ⟨_, rfl, t, 0, rfl, rfl, _, itsO_of R1'.ot, _, atI_0 _ _, sz2 (by show 2 ≤ 100; decide), fun za hza kza => ⟨sz2 (by show 2 ≤ 100; decide), fun zb hzb kzb => ⟨sz2 (by show 2 ≤ 100; decide), fun zl hzl kzl => ?_⟩⟩⟩
  have s1 := Same.new hza (.tup [.int 0, .int 1])
  have s2 := Same.new hzb (.tup [.int 1, .int 3])
  have s3 := Same.new hzl (.lst [.ref za, .ref zb])
  have oa := ob_same (s2.trans s3) (ob_new (K := K) kza)
  have ob_ := ob_same s3 (ob_new (K := K) kzb)
  have ol := ob_new (K := K) (H := upd (upd H8 za (.tup [.int 0, .int 1])) zb (.tup [.int 1, .int 3])) (o := .lst [.ref za, .ref zb]) kzl
  have t7 := s1.trans (s2.trans s3)
  generalize upd (upd (upd H8 za (.tup [.int 0, .int 1])) zb (.tup [.int 1, .int 3])) zl (.lst [.ref za, .ref zb]) = H9 at oa ob_ ol t7 ⊢
  clear s1 s2 s3 hza kza hzb kzb hzl kzl
  refine ⟨_, rfl, t, 1, rfl, rfl, _, itsO_of (R1'.same t7).ot, _, atI_1 _ _ _, sz2 (by show 2 ≤ 100; decide), fun zc hzc kzc => ?_⟩
  have s4 := Same.new hzc (.tup [.int 0, .int 1])
  have t8 := t7.trans s4
  refine ⟨b, zc, q, (0, 1), rfl, rfl, (R1'.same t8).fb.f.o, ob_new kzc, .inr ⟨_, rfl, ?_⟩⟩
  obtain ⟨zs, Q3, hat, fz, nz⟩ : ∃ zs Q3, atI [V.ref za, V.ref zb] (if decide (q = (0, 1)) = true then 1 else 0) = some (V.ref zs) ∧ Pq K (upd H9 zc (.tup [.int 0, .int 1])) 200 zs Q3 ∧ q ≠ Q3 := by
    by_cases e : q = (0, 1)
    · refine ⟨zb, (1, 3), by rw [if_pos (decide_eq_true e)]; rfl, ⟨⟨ob_same s4 ob_, nf13, (sz10 (by decide) (by decide)).mono (by omega)⟩, by decide, by decide⟩, ?_⟩
      rw [e]
      decide
    · exact ⟨za, (0, 1), by rw [if_neg (by simp [e])]; rfl, ⟨⟨ob_same s4 oa, nf01, sz01 (by omega)⟩, by decide, by decide⟩, e⟩
  refine ⟨zl, _, rfl, rfl, _, itsO_ofL (ob_same s4 ol), _, hat, sz2 (by show 2 ≤ 100; decide), fun t3 h3 k3' => ?_⟩
  have s5 := Same.new h3 (.tup [.ref a, .ref zs])
  have t9 := t8.trans s5
  have A3 : Rx K (upd (upd H9 zc (.tup [.int 0, .int 1])) t3 (.tup [.ref a, .ref zs])) t3 a zs p Q3 := ⟨ob_new k3', (R1'.fa.same t9).mono (by omega), fz.same s5⟩
  have A1 := A1.same t9
  have A2 := A2.same t9
  have ta := t6.trans t9
  generalize upd (upd H9 zc (.tup [.int 0, .int 1])) t3 (.tup [.ref a, .ref zs]) = Ha at A1 A2 A3 ta ⊢
  clear s4 s5 t7 t8 t9 t6 oa ob_ ol hat fz hzc kzc h3 k3' R1'
  have R1' := R1.same ta
  refine ⟨sz2 (by show 2 ≤ 100; decide), fun za hza kza => ⟨sz2 (by show 2 ≤ 100; decide), fun zb hzb kzb => ⟨sz2 (by show 2 ≤ 100; decide), fun zl hzl kzl => ?_⟩⟩⟩
  have s1 := Same.new hza (.tup [.int 1, .int 1])
  have s2 := Same.new hzb (.tup [.int 1, .int 7])
  have s3 := Same.new hzl (.lst [.ref za, .ref zb])
  have oa := ob_same (s2.trans s3) (ob_new (K := K) kza)
  have ob_ := ob_same s3 (ob_new (K := K) kzb)
  have ol := ob_new (K := K) (H := upd (upd Ha za (.tup [.int 1, .int 1])) zb (.tup [.int 1, .int 7])) (o := .lst [.ref za, .ref zb]) kzl
  have t7 := s1.trans (s2.trans s3)
  generalize upd (upd (upd Ha za (.tup [.int 1, .int 1])) zb (.tup [.int 1, .int 7])) zl (.lst [.ref za, .ref zb]) = Hb at oa ob_ ol t7 ⊢
  clear s1 s2 s3 hza kza hzb kzb hzl kzl
  refine ⟨_, rfl, t, 0, rfl, rfl, _, itsO_of (R1'.same t7).ot, _, atI_0 _ _, sz2 (by show 2 ≤ 100; decide), fun zc hzc kzc => ?_⟩
  have s4 := Same.new hzc (.tup [.int 1, .int 1])
  have t8 := t7.trans s4
  refine ⟨a, zc, p, (1, 1), rfl, rfl, (R1'.same t8).fa.o, ob_new kzc, .inr ⟨_, rfl, ?_⟩⟩
  obtain ⟨zs2, P4, hat, fz, nz4⟩ : ∃ zs P4, atI [V.ref za, V.ref zb] (if decide (p = (1, 1)) = true then 1 else 0) = some (V.ref zs) ∧ Fq K (upd Hb zc (.tup [.int 1, .int 1])) 200 zs P4 ∧ p ≠ P4 := by
    by_cases e : p = (1, 1)
    · refine ⟨zb, (1, 7), by rw [if_pos (decide_eq_true e)]; rfl, ⟨ob_same s4 ob_, nf17, (sz10 (by decide) (by decide)).mono (by omega)⟩, ?_⟩
      rw [e]
      decide
    · exact ⟨za, (1, 1), by rw [if_neg (by simp [e])]; rfl, ⟨ob_same s4 oa, nf11, sz11 (by omega)⟩, e⟩
  refine ⟨zl, _, rfl, rfl, _, itsO_ofL (ob_same s4 ol), _, hat, _, rfl, t, 1, rfl, rfl, _, itsO_of (R1'.same t8).ot, _, atI_1 _ _ _, sz2 (by show 2 ≤ 100; decide), fun t4 h4 k4' => ?_⟩
  have s5 := Same.new h4 (.tup [.ref zs2, .ref b])
  have t9 := t8.trans s5
  have A4 : Rx K (upd (upd Hb zc (.tup [.int 1, .int 1])) t4 (.tup [.ref zs2, .ref b])) t4 zs2 b P4 q := ⟨ob_new k4', fz.same s5, (R1'.fb.same t9).mono (by omega)⟩
  refine ⟨sz2 (by show 4 ≤ 100; decide), fun ll hll kll => ?_⟩
  have s6 := Same.new hll (.lst [.ref t1, .ref t2, .ref t3, .ref t4])
  have hL := upd_same (H := upd (upd Hb zc (.tup [.int 1, .int 1])) t4 (.tup [.ref zs2, .ref b])) (a := ll) (o := .lst [.ref t1, .ref t2, .ref t3, .ref t4])
  have all : ∀ x ∈ ([.ref t1, .ref t2, .ref t3, .ref t4] : List V), RxNe K (upd (upd (upd Hb zc (.tup [.int 1, .int 1])) t4 (.tup [.ref zs2, .ref b])) ll (.lst [.ref t1, .ref t2, .ref t3, .ref t4])) p q x := fun x hx => by
    simp only [List.mem_cons, List.not_mem_nil, or_false] at hx
    rcases hx with rfl | rfl | rfl | rfl
    · exact ⟨_, _, _, _, _, rfl, A1.same (t9.trans s6), fun z => half_ne nq hz1 z.2.symm⟩
    · exact ⟨_, _, _, _, _, rfl, A2.same (t9.trans s6), fun z => one_ne np hy2 z.1.symm⟩
    · exact ⟨_, _, _, _, _, rfl, A3.same (t9.trans s6), fun z => nz z.2⟩
    · exact ⟨_, _, _, _, _, rfl, A4.same s6, fun z => nz4 z.1⟩
  have tc := ta.trans (t9.trans s6)
  generalize upd (upd (upd Hb zc (.tup [.int 1, .int 1])) t4 (.tup [.ref zs2, .ref b])) ll (.lst [.ref t1, .ref t2, .ref t3, .ref t4]) = Hc at hL all tc ⊢
  clear s4 s5 s6 t7 t8 t9 ta oa ob_ ol hat fz hzc kzc h4 k4' R1' A1 A2 A3 A4 hll nz nz4 hz1 hy2
  refine ⟨_, rfl, ll, rfl, ⟨_, .of hL⟩, fun D hD => ?_⟩
  refine lc_list (xs := [.ref t1, .ref t2, .ref t3, .ref t4]) (CompE K C D p q Hc) ⟨[], upd_same, Nat.le_refl _, Same.new hD _, fun x hx => by cases hx⟩ ?_ ?_ ?_
  · rintro i H' _ ⟨l', h1, h2, h3, h4⟩
    exact .of (h3 _ _ hL)
  · rintro i x H' hi ⟨l', h1, h2, h3, h4⟩
    have hi4 : i < 4 := (List.getElem?_eq_some_iff.mp hi).1
    obtain ⟨v, va, vb, P, Qq, rfl, RR, ne⟩ := (all x (List.mem_of_getElem? hi)).same h3
    refine ⟨rfl, _, rfl, v, va, vb, _, _, _, _, rfl, RR.ot, RR.fa.o, RR.fb.f.o, fun bb Hd sd => ⟨bb, rfl, ?_⟩⟩
    refine ite2 (fun _ => ?_) (fun _ => ⟨l', sd _ _ h1, by omega, h3.trans sd, fun x hx => (h4 x hx).same sd⟩)
    have RR := RR.same sd
    refine ⟨_, rfl, v, 0, rfl, rfl, _, itsO_of RR.ot, _, atI_0 _ _, _, rfl, v, 1, rfl, rfl, _, itsO_of RR.ot, _, atI_1 _ _ _, fun c dx hx hdx hne => ⟨Hd, c, dx, va, vb, P, Qq, 200, rfl, same_make hx hdx, hx, upd_same, RR.fa, RR.fb, by omega, fun H5 s5 hcy => ⟨rfl, l', s5 _ _ (sd _ _ h1), by rw [sizeLine_eq]; omega, l' ++ [.ref c], upd_same, by rw [List.length_append]; show l'.length + 1 ≤ i + 1; omega, fun b' o e => ?_, fun y hy => ?_⟩⟩⟩
    · rw [upd_ne (ne_of_none e hD)]
      exact s5 _ _ (sd _ _ (h3 _ _ e))
    · rcases List.mem_append.mp hy with hy | hy
      · exact ((h4 y hy).same (sd.trans s5)).putL (s5 _ _ (sd _ _ h1))
      · rw [List.mem_singleton] at hy
        subst hy
        exact (show CyNe K C H5 p q (.ref c) from ⟨c, P, Qq, 200, rfl, hcy, ne⟩).putL (s5 _ _ (sd _ _ h1))
  rintro Hd ⟨cs, hcs, hclen, sd, hcall⟩
  have hclen : cs.length ≤ 4 := hclen
  have td := tc.trans sd
  clear all hL tc sd hD
  have R1' := R1.same td
  refine ⟨_, rfl, _, rfl, t, 0, rfl, rfl, _, itsO_of R1'.ot, _, atI_0 _ _, _, rfl, sz2 (by show 1 ≤ 100; decide), fun g1 hg1 kg1 => ⟨sz2 (by show 2 ≤ 100; decide), fun y1 hy1 ky1 => ⟨sz2 (by show 2 ≤ 100; decide), fun y2 hy2 ky2 => fun sx dx hx hdx hne => ?_⟩⟩⟩
  have s1 := Same.new hg1 (.lst [.ref t])
  have s2 := Same.new hy1 (.tup [.int 0, .int 1])
  have s3 := Same.new hy2 (.tup [.int 1, .int 1])
  have og := ob_same (s2.trans s3) (ob_new (K := K) (o := .lst [.ref t]) kg1)
  refine ⟨_, sx, dx, y1, y2, (0, 1), (1, 1), 10, rfl, same_make hx hdx, hx, upd_same, ⟨ob_same s3 (ob_new ky1), nf01, sz10 (by decide) (by decide)⟩, ⟨ob_new ky2, nf11, sz10 (by decide) (by decide)⟩, by omega, by decide, fun He fs se hsp => ⟨rfl, ?_⟩⟩
  have og := ob_same se og
  have te := s1.trans (s2.trans (s3.trans se))
  clear s1 s2 s3 se hg1 kg1 hy1 ky1 hy2 ky2 hx hdx hne
  refine ⟨sz2 (by show 0 ≤ 100; decide), fun e1 he1 ke1 => ⟨sz2 (by show 0 ≤ 100; decide), fun e2 he2 ke2 => fun e3 he3 ke3 => ⟨_, rfl, sz2 (by show 1 ≤ 100; decide), fun e4 he4 ke4 => ⟨_, rfl, sz2 (by show 1 ≤ 100; decide), fun e5 he5 ke5 => ⟨sz2 (by show 15 ≤ 100; decide), fun l2 hl2 kl2 => ?_⟩⟩⟩⟩⟩
  have s1 := Same.new he1 (.tup [])
  have s2 := Same.new he2 (.lst [])
  have s3 := Same.new he3 (.dK [])
  have s4 := Same.new he4 (.lst [.ref l])
  have s5 := Same.new he5 (.tup [.ref l])
  have tf := s1.trans (s2.trans (s3.trans (s4.trans s5)))
  have n1 := ob_same (s2.trans (s3.trans (s4.trans s5))) (ob_new (K := K) (o := .tup []) ke1)
  have n2 := ob_same (s3.trans (s4.trans s5)) (ob_new (K := K) (o := .lst []) ke2)
  have n3 := ob_same (s4.trans s5) (ob_new (K := K) (o := .dK []) ke3)
  have n4 := ob_same s5 (ob_new (K := K) (o := .lst [.ref l]) ke4)
  have n5 := ob_new (K := K) (H := upd (upd (upd (upd He e1 (.tup [])) e2 (.lst [])) e3 (.dK [])) e4 (.lst [.ref l])) (o := .tup [.ref l]) ke5
  generalize upd (upd (upd (upd (upd He e1 (.tup [])) e2 (.lst [])) e3 (.dK [])) e4 (.lst [.ref l])) e5 (.tup [.ref l]) = Hf at hl2 tf n1 n2 n3 n4 n5 ⊢
  clear s1 s2 s3 s4 s5 he1 he2 he3 he4 he5 ke1 ke2 ke3 ke4 ke5
  have s6 := Same.new hl2 (.lst [.non, .ref t, .ref a, .ref g1, .ref sx, .int 0, .int 1, .bl true, .str "", .str "a", .ref e1, .ref e2, .ref e3, .ref e4, .ref e5])
  have hl2' := upd_same (H := Hf) (a := l2) (o := .lst [.non, .ref t, .ref a, .ref g1, .ref sx, .int 0, .int 1, .bl true, .str "", .str "a", .ref e1, .ref e2, .ref e3, .ref e4, .ref e5])
  have tg := td.trans (te.trans (tf.trans s6))
  have th := te.trans (tf.trans s6)
  have ti := tf.trans s6
  refine ⟨_, rfl, _, rfl, D, l2, cs, [.non, .ref t, .ref a, .ref g1, .ref sx, .int 0, .int 1, .bl true, .str "", .str "a", .ref e1, .ref e2, .ref e3, .ref e4, .ref e5], rfl, rfl, th _ _ hcs, hl2', by rw [sizeLine_eq]; show cs.length + 15 ≤ _; omega, fun p3 h3 => ?_⟩
  have s7 := Same.new h3 (.lst (cs ++ [.non, .ref t, .ref a, .ref g1, .ref sx, .int 0, .int 1, .bl true, .str "", .str "a", .ref e1, .ref e2, .ref e3, .ref e4, .ref e5]))
  have all : ∀ x ∈ cs ++ ([.non, .ref t, .ref a, .ref g1, .ref sx, .int 0, .int 1, .bl true, .str "", .str "a", .ref e1, .ref e2, .ref e3, .ref e4, .ref e5] : List V), Ne K C (upd (upd Hf l2 (.lst [.non, .ref t, .ref a, .ref g1, .ref sx, .int 0, .int 1, .bl true, .str "", .str "a", .ref e1, .ref e2, .ref e3, .ref e4, .ref e5])) p3 (.lst (cs ++ [.non, .ref t, .ref a, .ref g1, .ref sx, .int 0, .int 1, .bl true, .str "", .str "a", .ref e1, .ref e2, .ref e3, .ref e4, .ref e5]))) p q x := fun x hx => by
    rcases List.mem_append.mp hx with hx | hx
    · exact .inl ((hcall x hx).same (th.trans s7))
    refine .inr ?_
    have R2' := R1.same (tg.trans s7)
    simp only [List.mem_cons, List.not_mem_nil, or_false] at hx
    rcases hx with rfl | rfl | rfl | rfl | rfl | rfl | rfl | rfl | rfl | rfl | rfl | rfl | rfl | rfl | rfl
    · exact nocy_n KD rfl
    · exact nocy_tup KD R2'.ot
    · exact nocy_tup KD R2'.fa.o
    · exact nocy_lst KD (ob_same (ti.trans s7) og)
    · exact ⟨.ref S, .base (.ins ((ti.trans s7) _ _ hsp) IS.cl IS.ha IS.hn IS.htk IS.hm), KD.sp⟩
    · exact nocy_n KD rfl
    · exact nocy_n KD rfl
    · exact nocy_n KD rfl
    · exact nocy_n KD rfl
    · exact nocy_n KD rfl
    · exact nocy_tup KD (ob_same (s6.trans s7) n1)
    · exact nocy_lst KD (ob_same (s6.trans s7) n2)
    · exact nocy_dct KD (ob_same (s6.trans s7) n3)
    · exact nocy_lst KD (ob_same (s6.trans s7) n4)
    · exact nocy_tup KD (ob_same (s6.trans s7) n5)
  have tj := tg.trans s7
  have hl' := hl.same tj
  have hp3 := upd_same (H := upd Hf l2 (.lst [.non, .ref t, .ref a, .ref g1, .ref sx, .int 0, .int 1, .bl true, .str "", .str "a", .ref e1, .ref e2, .ref e3, .ref e4, .ref e5])) (a := p3) (o := .lst (cs ++ [.non, .ref t, .ref a, .ref g1, .ref sx, .int 0, .int 1, .bl true, .str "", .str "a", .ref e1, .ref e2, .ref e3, .ref e4, .ref e5]))
  generalize upd (upd Hf l2 (.lst [.non, .ref t, .ref a, .ref g1, .ref sx, .int 0, .int 1, .bl true, .str "", .str "a", .ref e1, .ref e2, .ref e3, .ref e4, .ref e5])) p3 (.lst (cs ++ [.non, .ref t, .ref a, .ref g1, .ref sx, .int 0, .int 1, .bl true, .str "", .str "a", .ref e1, .ref e2, .ref e3, .ref e4, .ref e5])) = HB at all tj hl' hp3 ⊢
  refine ⟨p3, rfl, ⟨_, .of hp3⟩, forI_list (xs := cs ++ [.non, .ref t, .ref a, .ref g1, .ref sx, .int 0, .int 1, .bl true, .str "", .str "a", .ref e1, .ref e2, .ref e3, .ref e4, .ref e5]) (EqI K l r t u x ll D l2 HB) ⟨_, rfl, Same.refl _⟩ ?_ ?_ ?_⟩
  · rintro i σ H' _ ⟨x8, rfl, s⟩
    exact .of (s _ _ hp3)
  · rintro i y σ H' hi ⟨x8, rfl, s⟩
    have hly := hl'.same s
    rcases all y (List.mem_of_getElem? hi) with ⟨c, P, Qq, n', rfl, hcy, ne⟩ | ⟨tt, ty, oth⟩
    · have hcy := hcy.same s
      refine ⟨_, rfl, _, rfl, eqpackA IC hly hcy (.inl ⟨_, _, _, _, _, _, _, _, rfl, hly, hcy, _, _, rfl, rfl, _, rfl, if_no (neq1 ne) ?_⟩)⟩
      refine ⟨_, rfl, _, rfl, nepackA IC hly hcy (.inl ⟨_, _, _, _, _, _, _, _, rfl, hly, hcy, _, rfl, _, _, rfl, rfl, _, rfl, if_no (neq2 ne) ?_⟩)⟩
      exact ⟨_, rfl, s⟩
    · have ty := tyX_same s ty
      refine ⟨_, rfl, _, rfl, nopack hly ty oth (.inr ⟨_, _, _, _, _, _, rfl, hly, ty, oth.1, _, _, rfl, rfl, _, rfl, if_no rfl ?_⟩)⟩
      refine ⟨_, rfl, _, rfl, nopack hly ty oth (.inr ⟨_, _, _, _, _, _, rfl, hly, ty, oth.1, _, rfl, _, _, rfl, rfl, _, rfl, if_no rfl ?_⟩)⟩
      exact ⟨_, rfl, s⟩
  · rintro σ H' ⟨x8, rfl, s⟩
    exact k3 H' (tj.trans s)
end
end My

namespace My
open PySem PySem.Spec PyProof.Rows L2
section
variable {P : Program} {w : World} {K : PySem.W.Frag} {mg : Str → Option Value} {base : Heap}
abbrev sLaw : Stmt := topS 62
theorem scLaw : FnScope ["_law_script", "_law_store_here", "_law_one", "_law_two_here", "_law_moments", "_law_left", "_law_right", "_law_turn", "_law_third", "_law_mate", "_law_last"] ["_law_script"] (defScope sLaw) := ⟨rfl, rfl, rfl, by decide +kernel, rfl, by decide +kernel, by decide +kernel⟩
def spLaw (K : PySem.W.Frag) : Sp := fun vs H Q _ => ∃ (a : Addr) (ns : List Int), vs = [.ref a] ∧ SqL K H a (ns.map V.int) ∧ ∀ H', Q (.bl true) H'
/-- the moments' list is not the store's -/
theorem ne_ms {H : Hp} {s ms : Addr} {xs : List V} (st : Sto K H s) (hm : H ms = some (.lst xs)) (ha : AllM K H xs) (h2 : 2 ≤ xs.length) : ms ≠ s := by
  rintro rfl
  obtain ⟨sc, ns, i, b, c, d, e, f, hs, _⟩ := st
  rw [hs] at hm
  cases hm
  obtain ⟨mm, m, z, _⟩ := ha (.int i) (by simp)
  cases z
theorem Sto.app {H : Hp} {s ms : Addr} {xs : List V} {o : HO} (st : Sto K H s) (hm : H ms = some (.lst xs)) (ha : AllM K H xs) (h2 : 2 ≤ xs.length) : Sto K (upd H ms o) s := by
  have n1 := ne_ms st hm ha h2
  obtain ⟨sc, ns, i, b, c, d, e, f, hs, hsc, z⟩ := st
  have n2 : ms ≠ sc := by
    rintro rfl
    rw [hsc] at hm
    cases hm
    match ns, h2 with
    | n :: r, _ =>
      obtain ⟨mm, m, z, _⟩ := ha (.int n) (by simp)
      cases z
  exact ⟨sc, ns, i, b, c, d, e, f, by rw [upd_ne (Ne.symm n1)]; exact hs, by rw [upd_ne (Ne.symm n2)]; exact hsc, z⟩
theorem Rw.kp {H H' : Hp} {s u a b : Addr} {ys : List V} {p q : Qt} (h : Rw K H u a b p q) (e : Kp s H H') (hs : H s = some (.lst ys)) : Rw K H' u a b p q := ⟨ob_kp e hs (fun _ z => by cases z) h.ot, h.fa.kp e hs, h.fb.kp e hs⟩
theorem AllM.kp {H H' : Hp} {s : Addr} {ys xs : List V} (h : AllM K H xs) (e : Kp s H H') (hs : H s = some (.lst ys)) : AllM K H' xs := fun x hx => by
  obtain ⟨mm, m, z, f⟩ := h x hx
  exact ⟨mm, m, z, f.kp e hs⟩
/-- what stands while the law goes on -/
structure LF (K : PySem.W.Frag) (C : Addr) (H : Hp) (sr t u a b a' b' l r ms : Addr) (p q p' q' : Qt) : Prop where
  st : Sto K H sr
  R1 : Rw K H t a b p q
  R2 : Rw K H u a' b' p' q'
  cl : CyAt K C 133 H l p q
  cr : CyAt K C 133 H r p' q'
  hm : ∃ xs, H ms = some (.lst xs) ∧ AllM K H xs ∧ 2 ≤ xs.length ∧ xs.length ≤ 100
variable {C sr t u a b a' b' l r ms : Addr} {p q p' q' : Qt}
theorem LF.same {H H' : Hp} (h : LF K C H sr t u a b a' b' l r ms p q p' q') (s : Same H H') : LF K C H' sr t u a b a' b' l r ms p q p' q' := by
  obtain ⟨xs, h1, h2, h3⟩ := h.hm
  exact ⟨h.st.same s, h.R1.same s, h.R2.same s, h.cl.same s, h.cr.same s, xs, s _ _ h1, h2.same s, h3⟩
theorem LF.kp {H H' : Hp} (h : LF K C H sr t u a b a' b' l r ms p q p' q') (e : Kp sr H H') (st : Sto K H' sr) : LF K C H' sr t u a b a' b' l r ms p q p' q' := by
  obtain ⟨ys, hy⟩ := h.st.at
  obtain ⟨xs, h1, h2, h3⟩ := h.hm
  have n := ne_ms h.st h1 h2 h3.1
  exact ⟨st, h.R1.kp e hy, h.R2.kp e hy, h.cl.kp e hy, h.cr.kp e hy, xs, e _ _ n h1, h2.kp e hy, h3⟩
theorem LF.app {H : Hp} {mm : Addr} {m : Qt} {xs : List V} (h : LF K C H sr t u a b a' b' l r ms p q p' q') (hx : H ms = some (.lst xs)) (fm : Fq K H 140 mm m) (hlen : xs.length ≤ 90) : LF K C (upd H ms (.lst (xs ++ [.ref mm]))) sr t u a b a' b' l r ms p q p' q' := by
  obtain ⟨ys, h1, h2, h3⟩ := h.hm
  rw [hx] at h1
  cases h1
  have e : Kp ms H (upd H ms (.lst (xs ++ [.ref mm]))) := Kp.upd
  refine ⟨h.st.app hx h2 h3.1, h.R1.kp e hx, h.R2.kp e hx, h.cl.kp e hx, h.cr.kp e hx, _, upd_same, fun x hy => ?_, by rw [List.length_append]; omega, by rw [List.length_append]; show xs.length + 1 ≤ 100; omega⟩
  rcases List.mem_append.mp hy with hy | hy
  · exact (h2.kp e hx) x hy
  · rw [List.mem_singleton] at hy
    exact ⟨mm, m, hy, fm.kp e hx⟩
def LawI (K : PySem.W.Frag) (C : Addr) (v0 : Option V) (sr t u a b a' b' l r ms : Addr) (p q p' q' : Qt) (_ : Nat) (σ : L2.St) (H' : Hp) : Prop := ∃ x7, σ = [v0, some (.ref sr), some (.ref t), some (.ref u), some (.ref ms), some (.ref l), some (.ref r), x7, none, none, none] ∧ LF K C H' sr t u a b a' b' l r ms p q p' q' ∧ ∀ xs, H' ms = some (.lst xs) → xs.length ≤ 90
theorem ok_law {fa : Addr} {fd : FuncData} (F : Fun K "law" "law" sLaw fa fd) (T : Bt K mg) (mk2 : C8.Mak P w K mg base 5 "Cycle" C (spCyInit K C) []) (d__law_store : Kn P w K mg base 1 "_law_store" ["_law_script"] (spStore K)) (d__law_two : Kn P w K mg base 6 "_law_two" ["_law_store_here"] (spTwo K)) (d__law_frac_wide : Kn P w K mg base 4 "_law_frac_wide" ["_law_store_here"] (spDFrac K 133)) (d__law_moment : Kn P w K mg base 4 "_law_moment" ["_law_store_here", "_law_reach"] (spMoment K)) (d__law_holds : Kn P w K mg base 10 "_law_holds" ["_law_left", "_law_right", "_law_one", "_law_two_here", "_law_moments"] (spHolds K C)) (d__law_equals : Kn P w K mg base 10 "_law_equals" ["_law_left", "_law_right", "_law_one", "_law_two_here"] (spEquals K C)) (d__law_is_cycle : Kn P w K mg base 6 "_law_is_cycle" ["_law_cycle", "_law_row"] (spIsCycle K C)) : FnOk P w K mg base CX0 11 fa fd ["_law_script"] (spLaw K) := by
  refine F.ok scLaw (fun vs H Q E h => ?_) (fun cdv A outer s H vs Q E hr h => ?_)
  · obtain ⟨a, ns, rfl, _⟩ := h
    rfl
  obtain ⟨sa, ns, rfl, hS, k⟩ := h
  refine ⟨_, (pss_cons (ps_set (i := 1) scLaw.nd rfl (.inl rfl) (pe_kn d__law_store hr (by rfl) (pa_cons (pv 0) pa_nil)))
      (pss_cons (ps_asg (pe_kn d__law_two hr (by rfl) (pa_cons (pv 1) pa_nil)) (pg_tp 2 (by rfl) (pgs_cons (pg_name (i := 2) scLaw.nd rfl (.inl rfl)) (pgs_cons (pg_name (i := 3) scLaw.nd rfl (.inl rfl)) pgs_nil))))
      (pss_cons (ps_set (i := 4) scLaw.nd rfl (.inl rfl) (pe_ls (pa_cons (pe_kn d__law_frac_wide hr (by rfl) (pa_cons (pv 1) pa_nil)) (pa_cons (pe_kn d__law_moment hr (by rfl) (pa_cons (pv 1) (pa_cons pe_int pa_nil))) (pa_cons (pe_tp (pa_cons pe_int (pa_cons pe_int pa_nil))) pa_nil)))))
      (pss_cons (ps_set (i := 5) scLaw.nd rfl (.inl rfl) (C8.pe_mk mk2 hr (by omega) (by rfl) (pa_cons (pe_ix ix_any (pv 2) pe_int (fun _ _ => rfl)) (pa_cons (pe_ix ix_any (pv 2) pe_int (fun _ _ => rfl)) pa_nil))))
      (pss_cons (ps_set (i := 6) scLaw.nd rfl (.inl rfl) (C8.pe_mk mk2 hr (by omega) (by rfl) (pa_cons (pe_ix ix_any (pv 3) pe_int (fun _ _ => rfl)) (pa_cons (pe_ix ix_any (pv 3) pe_int (fun _ _ => rfl)) pa_nil))))
      (pss_cons (ps_for PassesOwn.never rfl (pi_range1 (by rfl) T.b_range (pa_cons pe_int pa_nil)) (pg_name (i := 7) scLaw.nd rfl (.inl rfl)) (pss_cons (ps_if (PW.pt (pw_or (pt_not (pt_val (pe_kn d__law_holds hr (by rfl) (pa_cons (pv 5) (pa_cons (pv 6) (pa_cons (pv 2) (pa_cons (pv 3) (pa_cons (pv 4) pa_nil)))))))) (pw_or1 (pt_not (pt_val (pe_kn d__law_holds hr (by rfl) (pa_cons (pv 6) (pa_cons (pv 5) (pa_cons (pv 3) (pa_cons (pv 2) (pa_cons (pv 4) pa_nil))))))))))) (pss_one (ps_ret pe_bl)) pss_nil)
      (pss_cons (ps_if (PW.pt (pw_or (pt_not (pt_val (pe_kn d__law_equals hr (by rfl) (pa_cons (pv 5) (pa_cons (pv 6) (pa_cons (pv 2) (pa_cons (pv 3) pa_nil))))))) (pw_or1 (pt_not (pt_val (pe_kn d__law_equals hr (by rfl) (pa_cons (pv 6) (pa_cons (pv 5) (pa_cons (pv 3) (pa_cons (pv 2) pa_nil)))))))))) (pss_one (ps_ret pe_bl)) pss_nil)
      (pss_one (ps_expr (pe_bm PySem.F.plainAttrs_list PySem.F.slot_list_append PySem.F.type_list_append mt_append (pv 4) (pa_cons (pe_kn d__law_moment hr (by rfl) (pa_cons (pv 1) (pa_cons pe_int pa_nil))) pa_nil)))))))
      (pss_cons (ps_asg (pe_kn d__law_two hr (by rfl) (pa_cons (pv 1) pa_nil)) (pg_tp 2 (by rfl) (pgs_cons (pg_name (i := 8) scLaw.nd rfl (.inl rfl)) (pgs_cons (pg_name (i := 9) scLaw.nd rfl (.inl rfl)) pgs_nil))))
      (pss_cons (ps_set (i := 10) scLaw.nd rfl (.inl rfl) (C8.pe_mk mk2 hr (by omega) (by rfl) (pa_cons (pe_ix ix_any (pv 8) pe_int (fun _ _ => rfl)) (pa_cons (pe_ix ix_any (pv 8) pe_int (fun _ _ => rfl)) pa_nil))))
      (pss_cons (ps_if (pt_not (pt_val (pe_kn d__law_holds hr (by rfl) (pa_cons (pv 10) (pa_cons (pv 5) (pa_cons (pv 8) (pa_cons (pv 2) (pa_cons (pv 4) pa_nil)))))))) (pss_one (ps_ret pe_bl)) pss_nil)
      (pss_one (ps_ret (pe_and (pe_kn d__law_is_cycle hr (by rfl) (pa_cons (pv 5) (pa_cons (pv 2) pa_nil))) (pe_one (pe_kn d__law_is_cycle hr (by rfl) (pa_cons (pv 6) (pa_cons (pv 3) pa_nil)))))))))))))))), ?_⟩
  simp only [cx_K]
  refine ⟨_, rfl, sa, ns, rfl, hS, fun sr H1 s1 st1 => ⟨_, rfl, sr, rfl, st1, fun tt t a b u a' b' p q p' q' H2 ott R1 R2 kp2 st2 => ⟨tt, rfl, _, ott, rfl, _, _, rfl, _, _, rfl, rfl, ?_⟩⟩⟩
  refine ⟨_, rfl, sr, rfl, st2, fun m1 w1 H3 f1 kp3 st3 => ⟨_, rfl, sr, 400, rfl, st3, by omega, by omega, fun m2 w2 H4 f2 kp4 st4 => ⟨sz2 (by show 2 ≤ 100; decide), fun m3 h3 k3 => ⟨sz2 (by show 3 ≤ 100; decide), fun ms hms kms => ?_⟩⟩⟩⟩
  have e3 := Same.new h3 (.tup [.int 0, .int 1])
  have e4 := Same.new hms (.lst [.ref m1, .ref m2, .ref m3])
  have f3 : Fq K (upd H4 m3 (.tup [.int 0, .int 1])) 140 m3 (0, 1) := ⟨ob_new k3, nf01, sz01 (by omega)⟩
  have hm := upd_same (H := upd H4 m3 (.tup [.int 0, .int 1])) (a := ms) (o := .lst [.ref m1, .ref m2, .ref m3])
  have all : AllM K (upd (upd H4 m3 (.tup [.int 0, .int 1])) ms (.lst [.ref m1, .ref m2, .ref m3])) [.ref m1, .ref m2, .ref m3] := fun x hx => by
    simp only [List.mem_cons, List.not_mem_nil, or_false] at hx
    rcases hx with rfl | rfl | rfl
    · exact ⟨m1, w1, rfl, ((f1.kps kp4 st3).same (e3.trans e4)).mono (by omega)⟩
    · exact ⟨m2, w2, rfl, (f2.same (e3.trans e4)).mono (by omega)⟩
    · exact ⟨m3, _, rfl, f3.same e4⟩
  have R1 := ((R1.kps kp3 st2).kps kp4 st3).same (e3.trans e4)
  have R2 := ((R2.kps kp3 st2).kps kp4 st3).same (e3.trans e4)
  have st := st4.same (e3.trans e4)
  generalize upd (upd H4 m3 (.tup [.int 0, .int 1])) ms (.lst [.ref m1, .ref m2, .ref m3]) = H5 at hm all R1 R2 st ⊢
  clear e3 e4 f1 f2 f3 kp2 kp3 kp4 st1 st2 st3 st4 h3 k3 hms kms ott s1 hS
  refine ⟨_, rfl, t, 0, rfl, rfl, _, itsO_of R1.ot, _, atI_0 _ _, _, rfl, t, 1, rfl, rfl, _, itsO_of R1.ot, _, atI_1 _ _ _, fun l dx hx hdx hne => ⟨H5, l, dx, a, b, p, q, 133, rfl, same_make hx hdx, hx, upd_same, R1.fa, R1.fb, by omega, fun H6 s6 hcl => ⟨rfl, ?_⟩⟩⟩
  refine ⟨_, rfl, u, 0, rfl, rfl, _, itsO_of (R2.same s6).ot, _, atI_0 _ _, _, rfl, u, 1, rfl, rfl, _, itsO_of (R2.same s6).ot, _, atI_1 _ _ _, fun r dx2 hx2 hdx2 hne2 => ⟨H6, r, dx2, a', b', p', q', 133, rfl, same_make hx2 hdx2, hx2, upd_same, (R2.same s6).fa, (R2.same s6).fb, by omega, fun H7 s7 hcr => ⟨rfl, ?_⟩⟩⟩
  have s67 := s6.trans s7
  have F7 : LF K C H7 sr t u a b a' b' l r ms p q p' q' := ⟨st.same s67, R1.same s67, R2.same s67, hcl.same s7, hcr, _, s67 _ _ hm, all.same s67, by simp, by simp⟩
  have hm7 : ∀ xs, H7 ms = some (.lst xs) → xs.length ≤ 3 := fun xs e => by
    rw [s67 _ _ hm] at e
    cases e
    simp
  clear s6 s7 s67 hcl hcr hx hdx hne hx2 hdx2 hne2 st R1 R2 hm all
  refine ⟨2, rfl, by omega, by omega, forI_range (lo := 0) (n := 2) (fun i σ H' => ∃ x7, σ = [some (.ref sa), some (.ref sr), some (.ref t), some (.ref u), some (.ref ms), some (.ref l), some (.ref r), x7, none, none, none] ∧ LF K C H' sr t u a b a' b' l r ms p q p' q' ∧ ∀ xs, H' ms = some (.lst xs) → xs.length ≤ 3 + i) ⟨_, rfl, F7, hm7⟩ ?_ ?_⟩
  · rintro i σ H' hi ⟨x7, rfl, F, hlen⟩
    obtain ⟨xs, hx1, hx2, hx3, hx4⟩ := F.hm
    refine ⟨_, rfl, _, rfl, _, rfl, _, rfl, _, rfl, l, r, t, u, ms, a, b, a', b', p, q, p', q', 133, 133, xs, rfl, F.cl, F.cr, F.R1, F.R2, hx1, hx2, by omega, by omega, fun Ha sa' => ⟨true, rfl, iteF ?_⟩⟩
    have Fa := F.same sa'
    refine ⟨_, rfl, _, rfl, _, rfl, _, rfl, _, rfl, r, l, u, t, ms, a', b', a, b, p', q', p, q, 133, 133, xs, rfl, Fa.cr, Fa.cl, Fa.R2, Fa.R1, sa' _ _ hx1, hx2.same sa', by omega, by omega, fun Hb sb => ⟨true, rfl, iteF ?_⟩⟩
    have Fb := Fa.same sb
    refine ⟨_, rfl, _, rfl, _, rfl, _, rfl, l, r, t, u, a, b, a', b', p, q, p', q', 133, 133, rfl, Fb.cl, Fb.cr, Fb.R1, Fb.R2, by omega, by omega, fun Hc sc' => ⟨true, rfl, iteF ?_⟩⟩
    have Fc := Fb.same sc'
    refine ⟨_, rfl, _, rfl, _, rfl, _, rfl, r, l, u, t, a', b', a, b, p', q', p, q, 133, 133, rfl, Fc.cr, Fc.cl, Fc.R2, Fc.R1, by omega, by omega, fun Hd sd => ⟨true, rfl, iteF ?_⟩⟩
    have Fd := Fc.same sd
    have sad := sa'.trans (sb.trans (sc'.trans sd))
    have hxd := sad _ _ hx1
    refine ⟨_, rfl, .inl ⟨rfl, xs, .of hxd⟩, _, rfl, sr, 12, rfl, Fd.st, by omega, by omega, fun mm m Hf fm kpf stf => ?_⟩
    have Ff := Fd.kp kpf stf
    have hxf := kpf _ _ (ne_ms Fd.st hxd (hx2.same sad) hx3) hxd
    have l3 := hlen xs hx1
    refine ⟨ms, xs, .ref mm, rfl, rfl, hxf, by rw [sizeLine_eq]; omega, ?_⟩
    refine ⟨_, rfl, Ff.app hxf (fm.mono (by omega)) (by omega), fun ys e => ?_⟩
    rw [upd_same] at e
    cases e
    rw [List.length_append]
    show xs.length + 1 ≤ 3 + (i + 1)
    omega
  · rintro σ H' ⟨x7, rfl, F, hlen⟩
    refine ⟨_, rfl, sr, rfl, F.st, fun tt v c d w c2 d2 p3 q3 p4 q4 Ha ott R3 R4 kpa sta => ⟨tt, rfl, _, ott, rfl, _, _, rfl, _, _, rfl, rfl, ?_⟩⟩
    have Fa := F.kp kpa sta
    refine ⟨_, rfl, v, 0, rfl, rfl, _, itsO_of R3.ot, _, atI_0 _ _, _, rfl, v, 1, rfl, rfl, _, itsO_of R3.ot, _, atI_1 _ _ _, fun z dx hx hdx hne => ⟨Ha, z, dx, c, d, p3, q3, 133, rfl, same_make hx hdx, hx, upd_same, R3.fa, R3.fb, by omega, fun Hb sb hcz => ⟨rfl, ?_⟩⟩⟩
    have Fb := Fa.same sb
    obtain ⟨xs, hx1, hx2, hx3, hx4⟩ := Fb.hm
    refine ⟨_, rfl, _, rfl, _, rfl, _, rfl, _, rfl, z, l, v, t, ms, c, d, a, b, p3, q3, p, q, 133, 133, xs, rfl, hcz, Fb.cl, R3.same sb, Fb.R1, hx1, hx2, by omega, by omega, fun Hc sc' => ⟨true, rfl, iteF ?_⟩⟩
    have Fc := Fb.same sc'
    refine ⟨_, rfl, _, rfl, l, t, a, b, p, q, 133, rfl, Fc.cl, by omega, Fc.R1.ot, Fc.R1.fa.o, Fc.R1.fb.f.o, fun Hd sd => ⟨true, rfl, ?_⟩⟩
    rw [if_pos rfl]
    have Fd := Fc.same sd
    exact ⟨_, rfl, _, rfl, r, u, a', b', p', q', 133, rfl, Fd.cr, by omega, Fd.R2.ot, Fd.R2.fa.o, Fd.R2.fb.f.o, fun He se => k He⟩
end
end My

namespace My
open PySem PySem.Spec PyProof.Rows L2
/-- the tuple of two ints that the written part holds -/
theorem ob_con {K : PySem.W.Frag} {z : Addr} {dd : Option Addr} {x y : Int} {t0 t1 : Tok} {n : Nat} {sl : Array (Option Value)} (h : K.lookup z = some ⟨.type "tuple", dd, .seq #[.int x t0, .int y t1] n, sl⟩) (H : Hp) : ob K H z = some (.tup [.int x, .int y]) := by
  unfold ob obK
  rw [h]
  show (if 2 ≤ sizeLine then _ else _) = _
  rw [if_pos (by rw [sizeLine_eq]; omega)]
  rfl
/-! ### the end: what the top has written -/
theorem dfn_mk {K : PySem.W.Frag} {h : Heap} {mg : Str → Option Value} {x : Str} {st : Stmt} {ps : List Str} {f : Addr} {oc kV doc pm cd ct : Value} {od an : Option Addr} {sl : Array (Option Value)} (X : K.In h) (G : h.Ns mainGlobals mg)
    (a : PySem.W.nsIn K mainGlobals x = some (some (.ref f))) (l : K.lookup f = some ⟨oc, od, .func (PySem.W.fnOf x x (defArgs st) (defBody st) (defScope st) .none kV doc pm an cd ct), sl⟩) (c : PySem.W.codeIn K cd x = true) (k : PySem.W.keepIn K (.ref f) = true)
    (hb : ∀ (kV doc pm : Value) (an : Option Addr) (cdv ct : Value) (us : List Value), us.length = ps.length → bindArgs (PySem.W.fnOf x x (defArgs st) (defBody st) (defScope st) .none kV doc pm an cdv ct) ⟨us, []⟩ = pure (ps.zip us)) : Dfn K mg x st ps :=
  ⟨f, _, fun_mk l c k, PySem.W.mg_of X G a, (fun_mk l c k).binds hb⟩
theorem all_mk {P : Program} {w : World} {K : PySem.W.Frag} {h : Heap} {mg : Str → Option Value} {fa : Addr} (X : K.In h) (G : h.Ns mainGlobals mg) (hfa : mg "law" = some (.ref fa)) {f0 : Addr} {oc0 kV0 dc0 pm0 cd0 ct0 : Value} {od0 an0 : Option Addr} {sl0 : Array (Option Value)} {f1 : Addr} {oc1 kV1 dc1 pm1 cd1 ct1 : Value} {od1 an1 : Option Addr} {sl1 : Array (Option Value)} {f2 : Addr} {oc2 kV2 dc2 pm2 cd2 ct2 : Value} {od2 an2 : Option Addr} {sl2 : Array (Option Value)} {f3 : Addr} {oc3 kV3 dc3 pm3 cd3 ct3 : Value} {od3 an3 : Option Addr} {sl3 : Array (Option Value)} {f4 : Addr} {oc4 kV4 dc4 pm4 cd4 ct4 : Value} {od4 an4 : Option Addr} {sl4 : Array (Option Value)} {f5 : Addr} {oc5 kV5 dc5 pm5 cd5 ct5 : Value} {od5 an5 : Option Addr} {sl5 : Array (Option Value)} {f6 : Addr} {oc6 kV6 dc6 pm6 cd6 ct6 : Value} {od6 an6 : Option Addr} {sl6 : Array (Option Value)} {f7 : Addr} {oc7 kV7 dc7 pm7 cd7 ct7 : Value} {od7 an7 : Option Addr} {sl7 : Array (Option Value)} {f8 : Addr} {oc8 kV8 dc8 pm8 cd8 ct8 : Value} {od8 an8 : Option Addr} {sl8 : Array (Option Value)} {f9 : Addr} {oc9 kV9 dc9 pm9 cd9 ct9 : Value} {od9 an9 : Option Addr} {sl9 : Array (Option Value)} {f10 : Addr} {oc10 kV10 dc10 pm10 cd10 ct10 : Value} {od10 an10 : Option Addr} {sl10 : Array (Option Value)} {f11 : Addr} {oc11 kV11 dc11 pm11 cd11 ct11 : Value} {od11 an11 : Option Addr} {sl11 : Array (Option Value)} {f12 : Addr} {oc12 kV12 dc12 pm12 cd12 ct12 : Value} {od12 an12 : Option Addr} {sl12 : Array (Option Value)} {f13 : Addr} {oc13 kV13 dc13 pm13 cd13 ct13 : Value} {od13 an13 : Option Addr} {sl13 : Array (Option Value)} {f14 : Addr} {oc14 kV14 dc14 pm14 cd14 ct14 : Value} {od14 an14 : Option Addr} {sl14 : Array (Option Value)} {f15 : Addr} {oc15 kV15 dc15 pm15 cd15 ct15 : Value} {od15 an15 : Option Addr} {sl15 : Array (Option Value)} {f16 : Addr} {oc16 kV16 dc16 pm16 cd16 ct16 : Value} {od16 an16 : Option Addr} {sl16 : Array (Option Value)} {f17 : Addr} {oc17 kV17 dc17 pm17 cd17 ct17 : Value} {od17 an17 : Option Addr} {sl17 : Array (Option Value)} {f18 : Addr} {oc18 kV18 dc18 pm18 cd18 ct18 : Value} {od18 an18 : Option Addr} {sl18 : Array (Option Value)} {f19 : Addr} {oc19 kV19 dc19 pm19 cd19 ct19 : Value} {od19 an19 : Option Addr} {sl19 : Array (Option Value)} {f20 : Addr} {oc20 kV20 dc20 pm20 cd20 ct20 : Value} {od20 an20 : Option Addr} {sl20 : Array (Option Value)} {f21 : Addr} {oc21 kV21 dc21 pm21 cd21 ct21 : Value} {od21 an21 : Option Addr} {sl21 : Array (Option Value)} {f22 : Addr} {oc22 kV22 dc22 pm22 cd22 ct22 : Value} {od22 an22 : Option Addr} {sl22 : Array (Option Value)} {f23 : Addr} {oc23 kV23 dc23 pm23 cd23 ct23 : Value} {od23 an23 : Option Addr} {sl23 : Array (Option Value)} {f24 : Addr} {oc24 kV24 dc24 pm24 cd24 ct24 : Value} {od24 an24 : Option Addr} {sl24 : Array (Option Value)} {f25 : Addr} {oc25 kV25 dc25 pm25 cd25 ct25 : Value} {od25 an25 : Option Addr} {sl25 : Array (Option Value)} {f26 : Addr} {oc26 kV26 dc26 pm26 cd26 ct26 : Value} {od26 an26 : Option Addr} {sl26 : Array (Option Value)} {f27 : Addr} {oc27 kV27 dc27 pm27 cd27 ct27 : Value} {od27 an27 : Option Addr} {sl27 : Array (Option Value)} {f28 : Addr} {oc28 kV28 dc28 pm28 cd28 ct28 : Value} {od28 an28 : Option Addr} {sl28 : Array (Option Value)} {f29 : Addr} {oc29 kV29 dc29 pm29 cd29 ct29 : Value} {od29 an29 : Option Addr} {sl29 : Array (Option Value)} {f30 : Addr} {oc30 kV30 dc30 pm30 cd30 ct30 : Value} {od30 an30 : Option Addr} {sl30 : Array (Option Value)} {f31 : Addr} {oc31 kV31 dc31 pm31 cd31 ct31 : Value} {od31 an31 : Option Addr} {sl31 : Array (Option Value)} {f32 : Addr} {oc32 kV32 dc32 pm32 cd32 ct32 : Value} {od32 an32 : Option Addr} {sl32 : Array (Option Value)} {f33 : Addr} {oc33 kV33 dc33 pm33 cd33 ct33 : Value} {od33 an33 : Option Addr} {sl33 : Array (Option Value)} {f34 : Addr} {oc34 kV34 dc34 pm34 cd34 ct34 : Value} {od34 an34 : Option Addr} {sl34 : Array (Option Value)} {f35 : Addr} {oc35 kV35 dc35 pm35 cd35 ct35 : Value} {od35 an35 : Option Addr} {sl35 : Array (Option Value)} {f36 : Addr} {oc36 kV36 dc36 pm36 cd36 ct36 : Value} {od36 an36 : Option Addr} {sl36 : Array (Option Value)} {f37 : Addr} {oc37 kV37 dc37 pm37 cd37 ct37 : Value} {od37 an37 : Option Addr} {sl37 : Array (Option Value)} {f38 : Addr} {oc38 kV38 dc38 pm38 cd38 ct38 : Value} {od38 an38 : Option Addr} {sl38 : Array (Option Value)} {f39 : Addr} {oc39 kV39 dc39 pm39 cd39 ct39 : Value} {od39 an39 : Option Addr} {sl39 : Array (Option Value)} {f40 : Addr} {oc40 kV40 dc40 pm40 cd40 ct40 : Value} {od40 an40 : Option Addr} {sl40 : Array (Option Value)} {f41 : Addr} {oc41 kV41 dc41 pm41 cd41 ct41 : Value} {od41 an41 : Option Addr} {sl41 : Array (Option Value)} {f42 : Addr} {oc42 kV42 dc42 pm42 cd42 ct42 : Value} {od42 an42 : Option Addr} {sl42 : Array (Option Value)} {f43 : Addr} {oc43 kV43 dc43 pm43 cd43 ct43 : Value} {od43 an43 : Option Addr} {sl43 : Array (Option Value)} {fF tF : Addr} {ocF kVF dcF pmF cdF ctF ocT : Value} {odF anF odT : Option Addr} {slF slT : Array (Option Value)} {tk : Tok} {nT : Nat} {CY z0 o0 : Addr} {ddZ : Option Addr} {taZ tbZ : Tok} {nnZ : Nat} {ssZ : Array (Option Value)} {ddO : Option Addr} {taO tbO : Tok} {nnO : Nat} {ssO : Array (Option Value)} {fY tY zi : Addr} {ocTY : Value} {odTY : Option Addr} {slTY : Array (Option Value)} {nTY : Nat} {ocY kVY dcY pmY cdY ctY : Value} {odY anY : Option Addr} {slY : Array (Option Value)} {ddI : Option Addr} {taI tbI : Tok} {nnI : Nat} {ssI : Array (Option Value)} {fTU : Addr} {ocTU kVTU dcTU pmTU cdTU ctTU : Value} {odTU anTU : Option Addr} {slTU : Array (Option Value)} {fPC : Addr} {ocPC kVPC dcPC pmPC cdPC ctPC : Value} {odPC anPC : Option Addr} {slPC : Array (Option Value)} {fEQ : Addr} {ocEQ kVEQ dcEQ pmEQ cdEQ ctEQ : Value} {odEQ anEQ : Option Addr} {slEQ : Array (Option Value)} {fAD : Addr} {ocAD kVAD dcAD pmAD cdAD ctAD : Value} {odAD anAD : Option Addr} {slAD : Array (Option Value)} {fSB : Addr} {ocSB kVSB dcSB pmSB cdSB ctSB : Value} {odSB anSB : Option Addr} {slSB : Array (Option Value)} {fNG : Addr} {ocNG kVNG dcNG pmNG cdNG ctNG : Value} {odNG anNG : Option Addr} {slNG : Array (Option Value)} {SP : Addr} {fSI : Addr} {ocSI kVSI dcSI pmSI cdSI ctSI : Value} {odSI anSI : Option Addr} {slSI : Array (Option Value)} {fL : Addr} {ocL kVL dcL pmL cdvL ctL : Value} {odL anL : Option Addr} {slL : Array (Option Value)}
    (a0 : PySem.W.nsIn K mainGlobals "require" = some (some (.ref f0)))
    (l0 : K.lookup f0 = some ⟨oc0, od0, .func (PySem.W.fnOf "require" "require" (defArgs sRequire) (defBody sRequire) (defScope sRequire) .none kV0 dc0 pm0 an0 cd0 ct0), sl0⟩)
    (c0 : PySem.W.codeIn K cd0 "require" = true)
    (k0 : PySem.W.keepIn K (.ref f0) = true)
    (a1 : PySem.W.nsIn K mainGlobals "is_whole" = some (some (.ref f1)))
    (l1 : K.lookup f1 = some ⟨oc1, od1, .func (PySem.W.fnOf "is_whole" "is_whole" (defArgs sWhole) (defBody sWhole) (defScope sWhole) .none kV1 dc1 pm1 an1 cd1 ct1), sl1⟩)
    (c1 : PySem.W.codeIn K cd1 "is_whole" = true)
    (k1 : PySem.W.keepIn K (.ref f1) = true)
    (a2 : PySem.W.nsIn K mainGlobals "is_fraction" = some (some (.ref f2)))
    (l2 : K.lookup f2 = some ⟨oc2, od2, .func (PySem.W.fnOf "is_fraction" "is_fraction" (defArgs sIsFraction) (defBody sIsFraction) (defScope sIsFraction) .none kV2 dc2 pm2 an2 cd2 ct2), sl2⟩)
    (c2 : PySem.W.codeIn K cd2 "is_fraction" = true)
    (k2 : PySem.W.keepIn K (.ref f2) = true)
    (a3 : PySem.W.nsIn K mainGlobals "is_place" = some (some (.ref f3)))
    (l3 : K.lookup f3 = some ⟨oc3, od3, .func (PySem.W.fnOf "is_place" "is_place" (defArgs sIsPlace) (defBody sIsPlace) (defScope sIsPlace) .none kV3 dc3 pm3 an3 cd3 ct3), sl3⟩)
    (c3 : PySem.W.codeIn K cd3 "is_place" = true)
    (k3 : PySem.W.keepIn K (.ref f3) = true)
    (a4 : PySem.W.nsIn K mainGlobals "plus" = some (some (.ref f4)))
    (l4 : K.lookup f4 = some ⟨oc4, od4, .func (PySem.W.fnOf "plus" "plus" (defArgs sPlus) (defBody sPlus) (defScope sPlus) .none kV4 dc4 pm4 an4 cd4 ct4), sl4⟩)
    (c4 : PySem.W.codeIn K cd4 "plus" = true)
    (k4 : PySem.W.keepIn K (.ref f4) = true)
    (a5 : PySem.W.nsIn K mainGlobals "minus" = some (some (.ref f5)))
    (l5 : K.lookup f5 = some ⟨oc5, od5, .func (PySem.W.fnOf "minus" "minus" (defArgs sMinus) (defBody sMinus) (defScope sMinus) .none kV5 dc5 pm5 an5 cd5 ct5), sl5⟩)
    (c5 : PySem.W.codeIn K cd5 "minus" = true)
    (k5 : PySem.W.keepIn K (.ref f5) = true)
    (a6 : PySem.W.nsIn K mainGlobals "times" = some (some (.ref f6)))
    (l6 : K.lookup f6 = some ⟨oc6, od6, .func (PySem.W.fnOf "times" "times" (defArgs sTimes) (defBody sTimes) (defScope sTimes) .none kV6 dc6 pm6 an6 cd6 ct6), sl6⟩)
    (c6 : PySem.W.codeIn K cd6 "times" = true)
    (k6 : PySem.W.keepIn K (.ref f6) = true)
    (a7 : PySem.W.nsIn K mainGlobals "over" = some (some (.ref f7)))
    (l7 : K.lookup f7 = some ⟨oc7, od7, .func (PySem.W.fnOf "over" "over" (defArgs sOver) (defBody sOver) (defScope sOver) .none kV7 dc7 pm7 an7 cd7 ct7), sl7⟩)
    (c7 : PySem.W.codeIn K cd7 "over" = true)
    (k7 : PySem.W.keepIn K (.ref f7) = true)
    (a8 : PySem.W.nsIn K mainGlobals "compare" = some (some (.ref f8)))
    (l8 : K.lookup f8 = some ⟨oc8, od8, .func (PySem.W.fnOf "compare" "compare" (defArgs sCompare) (defBody sCompare) (defScope sCompare) .none kV8 dc8 pm8 an8 cd8 ct8), sl8⟩)
    (c8 : PySem.W.codeIn K cd8 "compare" = true)
    (k8 : PySem.W.keepIn K (.ref f8) = true)
    (a9 : PySem.W.nsIn K mainGlobals "magnitude" = some (some (.ref f9)))
    (l9 : K.lookup f9 = some ⟨oc9, od9, .func (PySem.W.fnOf "magnitude" "magnitude" (defArgs sMagn) (defBody sMagn) (defScope sMagn) .none kV9 dc9 pm9 an9 cd9 ct9), sl9⟩)
    (c9 : PySem.W.codeIn K cd9 "magnitude" = true)
    (k9 : PySem.W.keepIn K (.ref f9) = true)
    (a10 : PySem.W.nsIn K mainGlobals "negated" = some (some (.ref f10)))
    (l10 : K.lookup f10 = some ⟨oc10, od10, .func (PySem.W.fnOf "negated" "negated" (defArgs sNegated) (defBody sNegated) (defScope sNegated) .none kV10 dc10 pm10 an10 cd10 ct10), sl10⟩)
    (c10 : PySem.W.codeIn K cd10 "negated" = true)
    (k10 : PySem.W.keepIn K (.ref f10) = true)
    (a11 : PySem.W.nsIn K mainGlobals "part_of" = some (some (.ref f11)))
    (l11 : K.lookup f11 = some ⟨oc11, od11, .func (PySem.W.fnOf "part_of" "part_of" (defArgs sPart) (defBody sPart) (defScope sPart) .none kV11 dc11 pm11 an11 cd11 ct11), sl11⟩)
    (c11 : PySem.W.codeIn K cd11 "part_of" = true)
    (k11 : PySem.W.keepIn K (.ref f11) = true)
    (a12 : PySem.W.nsIn K mainGlobals "_period_of" = some (some (.ref f12)))
    (l12 : K.lookup f12 = some ⟨oc12, od12, .func (PySem.W.fnOf "_period_of" "_period_of" (defArgs sPeriod) (defBody sPeriod) (defScope sPeriod) .none kV12 dc12 pm12 an12 cd12 ct12), sl12⟩)
    (c12 : PySem.W.codeIn K cd12 "_period_of" = true)
    (k12 : PySem.W.keepIn K (.ref f12) = true)
    (a13 : PySem.W.nsIn K mainGlobals "_law_mixed" = some (some (.ref f13)))
    (l13 : K.lookup f13 = some ⟨oc13, od13, .func (PySem.W.fnOf "_law_mixed" "_law_mixed" (defArgs sMixed) (defBody sMixed) (defScope sMixed) .none kV13 dc13 pm13 an13 cd13 ct13), sl13⟩)
    (c13 : PySem.W.codeIn K cd13 "_law_mixed" = true)
    (k13 : PySem.W.keepIn K (.ref f13) = true)
    (a14 : PySem.W.nsIn K mainGlobals "_law_store" = some (some (.ref f14)))
    (l14 : K.lookup f14 = some ⟨oc14, od14, .func (PySem.W.fnOf "_law_store" "_law_store" (defArgs sStore) (defBody sStore) (defScope sStore) .none kV14 dc14 pm14 an14 cd14 ct14), sl14⟩)
    (c14 : PySem.W.codeIn K cd14 "_law_store" = true)
    (k14 : PySem.W.keepIn K (.ref f14) = true)
    (a15 : PySem.W.nsIn K mainGlobals "_law_take" = some (some (.ref f15)))
    (l15 : K.lookup f15 = some ⟨oc15, od15, .func (PySem.W.fnOf "_law_take" "_law_take" (defArgs sTake) (defBody sTake) (defScope sTake) .none kV15 dc15 pm15 an15 cd15 ct15), sl15⟩)
    (c15 : PySem.W.codeIn K cd15 "_law_take" = true)
    (k15 : PySem.W.keepIn K (.ref f15) = true)
    (a16 : PySem.W.nsIn K mainGlobals "_law_pick" = some (some (.ref f16)))
    (l16 : K.lookup f16 = some ⟨oc16, od16, .func (PySem.W.fnOf "_law_pick" "_law_pick" (defArgs sPick) (defBody sPick) (defScope sPick) .none kV16 dc16 pm16 an16 cd16 ct16), sl16⟩)
    (c16 : PySem.W.codeIn K cd16 "_law_pick" = true)
    (k16 : PySem.W.keepIn K (.ref f16) = true)
    (a17 : PySem.W.nsIn K mainGlobals "_law_gcd" = some (some (.ref f17)))
    (l17 : K.lookup f17 = some ⟨oc17, od17, .func (PySem.W.fnOf "_law_gcd" "_law_gcd" (defArgs sGcd) (defBody sGcd) (defScope sGcd) .none kV17 dc17 pm17 an17 cd17 ct17), sl17⟩)
    (c17 : PySem.W.codeIn K cd17 "_law_gcd" = true)
    (k17 : PySem.W.keepIn K (.ref f17) = true)
    (a18 : PySem.W.nsIn K mainGlobals "_law_lowest" = some (some (.ref f18)))
    (l18 : K.lookup f18 = some ⟨oc18, od18, .func (PySem.W.fnOf "_law_lowest" "_law_lowest" (defArgs sLowest) (defBody sLowest) (defScope sLowest) .none kV18 dc18 pm18 an18 cd18 ct18), sl18⟩)
    (c18 : PySem.W.codeIn K cd18 "_law_lowest" = true)
    (k18 : PySem.W.keepIn K (.ref f18) = true)
    (a19 : PySem.W.nsIn K mainGlobals "_law_plus" = some (some (.ref f19)))
    (l19 : K.lookup f19 = some ⟨oc19, od19, .func (PySem.W.fnOf "_law_plus" "_law_plus" (defArgs sLPlus) (defBody sLPlus) (defScope sLPlus) .none kV19 dc19 pm19 an19 cd19 ct19), sl19⟩)
    (c19 : PySem.W.codeIn K cd19 "_law_plus" = true)
    (k19 : PySem.W.keepIn K (.ref f19) = true)
    (a20 : PySem.W.nsIn K mainGlobals "_law_minus" = some (some (.ref f20)))
    (l20 : K.lookup f20 = some ⟨oc20, od20, .func (PySem.W.fnOf "_law_minus" "_law_minus" (defArgs sLMinus) (defBody sLMinus) (defScope sLMinus) .none kV20 dc20 pm20 an20 cd20 ct20), sl20⟩)
    (c20 : PySem.W.codeIn K cd20 "_law_minus" = true)
    (k20 : PySem.W.keepIn K (.ref f20) = true)
    (a21 : PySem.W.nsIn K mainGlobals "_law_times" = some (some (.ref f21)))
    (l21 : K.lookup f21 = some ⟨oc21, od21, .func (PySem.W.fnOf "_law_times" "_law_times" (defArgs sLTimes) (defBody sLTimes) (defScope sLTimes) .none kV21 dc21 pm21 an21 cd21 ct21), sl21⟩)
    (c21 : PySem.W.codeIn K cd21 "_law_times" = true)
    (k21 : PySem.W.keepIn K (.ref f21) = true)
    (a22 : PySem.W.nsIn K mainGlobals "_law_part" = some (some (.ref f22)))
    (l22 : K.lookup f22 = some ⟨oc22, od22, .func (PySem.W.fnOf "_law_part" "_law_part" (defArgs sLPart) (defBody sLPart) (defScope sLPart) .none kV22 dc22 pm22 an22 cd22 ct22), sl22⟩)
    (c22 : PySem.W.codeIn K cd22 "_law_part" = true)
    (k22 : PySem.W.keepIn K (.ref f22) = true)
    (a23 : PySem.W.nsIn K mainGlobals "_law_is_whole" = some (some (.ref f23)))
    (l23 : K.lookup f23 = some ⟨oc23, od23, .func (PySem.W.fnOf "_law_is_whole" "_law_is_whole" (defArgs sLWhole) (defBody sLWhole) (defScope sLWhole) .none kV23 dc23 pm23 an23 cd23 ct23), sl23⟩)
    (c23 : PySem.W.codeIn K cd23 "_law_is_whole" = true)
    (k23 : PySem.W.keepIn K (.ref f23) = true)
    (a24 : PySem.W.nsIn K mainGlobals "_law_is_frac" = some (some (.ref f24)))
    (l24 : K.lookup f24 = some ⟨oc24, od24, .func (PySem.W.fnOf "_law_is_frac" "_law_is_frac" (defArgs sLFrac) (defBody sLFrac) (defScope sLFrac) .none kV24 dc24 pm24 an24 cd24 ct24), sl24⟩)
    (c24 : PySem.W.codeIn K cd24 "_law_is_frac" = true)
    (k24 : PySem.W.keepIn K (.ref f24) = true)
    (a25 : PySem.W.nsIn K mainGlobals "_law_is_place" = some (some (.ref f25)))
    (l25 : K.lookup f25 = some ⟨oc25, od25, .func (PySem.W.fnOf "_law_is_place" "_law_is_place" (defArgs sLIsPlace) (defBody sLIsPlace) (defScope sLIsPlace) .none kV25 dc25 pm25 an25 cd25 ct25), sl25⟩)
    (c25 : PySem.W.codeIn K cd25 "_law_is_place" = true)
    (k25 : PySem.W.keepIn K (.ref f25) = true)
    (a26 : PySem.W.nsIn K mainGlobals "_law_same" = some (some (.ref f26)))
    (l26 : K.lookup f26 = some ⟨oc26, od26, .func (PySem.W.fnOf "_law_same" "_law_same" (defArgs sSame) (defBody sSame) (defScope sSame) .none kV26 dc26 pm26 an26 cd26 ct26), sl26⟩)
    (c26 : PySem.W.codeIn K cd26 "_law_same" = true)
    (k26 : PySem.W.keepIn K (.ref f26) = true)
    (a27 : PySem.W.nsIn K mainGlobals "_law_fits" = some (some (.ref f27)))
    (l27 : K.lookup f27 = some ⟨oc27, od27, .func (PySem.W.fnOf "_law_fits" "_law_fits" (defArgs sFits) (defBody sFits) (defScope sFits) .none kV27 dc27 pm27 an27 cd27 ct27), sl27⟩)
    (c27 : PySem.W.codeIn K cd27 "_law_fits" = true)
    (k27 : PySem.W.keepIn K (.ref f27) = true)
    (a28 : PySem.W.nsIn K mainGlobals "_law_whole" = some (some (.ref f28)))
    (l28 : K.lookup f28 = some ⟨oc28, od28, .func (PySem.W.fnOf "_law_whole" "_law_whole" (defArgs sLInt) (defBody sLInt) (defScope sLInt) .none kV28 dc28 pm28 an28 cd28 ct28), sl28⟩)
    (c28 : PySem.W.codeIn K cd28 "_law_whole" = true)
    (k28 : PySem.W.keepIn K (.ref f28) = true)
    (a29 : PySem.W.nsIn K mainGlobals "_law_great" = some (some (.ref f29)))
    (l29 : K.lookup f29 = some ⟨oc29, od29, .func (PySem.W.fnOf "_law_great" "_law_great" (defArgs sGreat) (defBody sGreat) (defScope sGreat) .none kV29 dc29 pm29 an29 cd29 ct29), sl29⟩)
    (c29 : PySem.W.codeIn K cd29 "_law_great" = true)
    (k29 : PySem.W.keepIn K (.ref f29) = true)
    (a30 : PySem.W.nsIn K mainGlobals "_law_frac" = some (some (.ref f30)))
    (l30 : K.lookup f30 = some ⟨oc30, od30, .func (PySem.W.fnOf "_law_frac" "_law_frac" (defArgs sDFrac) (defBody sDFrac) (defScope sDFrac) .none kV30 dc30 pm30 an30 cd30 ct30), sl30⟩)
    (c30 : PySem.W.codeIn K cd30 "_law_frac" = true)
    (k30 : PySem.W.keepIn K (.ref f30) = true)
    (a31 : PySem.W.nsIn K mainGlobals "_law_frac_wide" = some (some (.ref f31)))
    (l31 : K.lookup f31 = some ⟨oc31, od31, .func (PySem.W.fnOf "_law_frac_wide" "_law_frac_wide" (defArgs sDFracW) (defBody sDFracW) (defScope sDFracW) .none kV31 dc31 pm31 an31 cd31 ct31), sl31⟩)
    (c31 : PySem.W.codeIn K cd31 "_law_frac_wide" = true)
    (k31 : PySem.W.keepIn K (.ref f31) = true)
    (a32 : PySem.W.nsIn K mainGlobals "_law_place" = some (some (.ref f32)))
    (l32 : K.lookup f32 = some ⟨oc32, od32, .func (PySem.W.fnOf "_law_place" "_law_place" (defArgs sDPlace) (defBody sDPlace) (defScope sDPlace) .none kV32 dc32 pm32 an32 cd32 ct32), sl32⟩)
    (c32 : PySem.W.codeIn K cd32 "_law_place" = true)
    (k32 : PySem.W.keepIn K (.ref f32) = true)
    (a33 : PySem.W.nsIn K mainGlobals "_law_place_wide" = some (some (.ref f33)))
    (l33 : K.lookup f33 = some ⟨oc33, od33, .func (PySem.W.fnOf "_law_place_wide" "_law_place_wide" (defArgs sDPlaceW) (defBody sDPlaceW) (defScope sDPlaceW) .none kV33 dc33 pm33 an33 cd33 ct33), sl33⟩)
    (c33 : PySem.W.codeIn K cd33 "_law_place_wide" = true)
    (k33 : PySem.W.keepIn K (.ref f33) = true)
    (a34 : PySem.W.nsIn K mainGlobals "_law_moment" = some (some (.ref f34)))
    (l34 : K.lookup f34 = some ⟨oc34, od34, .func (PySem.W.fnOf "_law_moment" "_law_moment" (defArgs sDMoment) (defBody sDMoment) (defScope sDMoment) .none kV34 dc34 pm34 an34 cd34 ct34), sl34⟩)
    (c34 : PySem.W.codeIn K cd34 "_law_moment" = true)
    (k34 : PySem.W.keepIn K (.ref f34) = true)
    (a35 : PySem.W.nsIn K mainGlobals "_law_cycle_wide" = some (some (.ref f35)))
    (l35 : K.lookup f35 = some ⟨oc35, od35, .func (PySem.W.fnOf "_law_cycle_wide" "_law_cycle_wide" (defArgs sCycleW) (defBody sCycleW) (defScope sCycleW) .none kV35 dc35 pm35 an35 cd35 ct35), sl35⟩)
    (c35 : PySem.W.codeIn K cd35 "_law_cycle_wide" = true)
    (k35 : PySem.W.keepIn K (.ref f35) = true)
    (a36 : PySem.W.nsIn K mainGlobals "_law_turns" = some (some (.ref f36)))
    (l36 : K.lookup f36 = some ⟨oc36, od36, .func (PySem.W.fnOf "_law_turns" "_law_turns" (defArgs sLTurns) (defBody sLTurns) (defScope sLTurns) .none kV36 dc36 pm36 an36 cd36 ct36), sl36⟩)
    (c36 : PySem.W.codeIn K cd36 "_law_turns" = true)
    (k36 : PySem.W.keepIn K (.ref f36) = true)
    (a37 : PySem.W.nsIn K mainGlobals "_law_place_at" = some (some (.ref f37)))
    (l37 : K.lookup f37 = some ⟨oc37, od37, .func (PySem.W.fnOf "_law_place_at" "_law_place_at" (defArgs sLPlaceAt) (defBody sLPlaceAt) (defScope sLPlaceAt) .none kV37 dc37 pm37 an37 cd37 ct37), sl37⟩)
    (c37 : PySem.W.codeIn K cd37 "_law_place_at" = true)
    (k37 : PySem.W.keepIn K (.ref f37) = true)
    (a38 : PySem.W.nsIn K mainGlobals "_law_cycle_told" = some (some (.ref f38)))
    (l38 : K.lookup f38 = some ⟨oc38, od38, .func (PySem.W.fnOf "_law_cycle_told" "_law_cycle_told" (defArgs sTold) (defBody sTold) (defScope sTold) .none kV38 dc38 pm38 an38 cd38 ct38), sl38⟩)
    (c38 : PySem.W.codeIn K cd38 "_law_cycle_told" = true)
    (k38 : PySem.W.keepIn K (.ref f38) = true)
    (a39 : PySem.W.nsIn K mainGlobals "_law_two" = some (some (.ref f39)))
    (l39 : K.lookup f39 = some ⟨oc39, od39, .func (PySem.W.fnOf "_law_two" "_law_two" (defArgs sTwo) (defBody sTwo) (defScope sTwo) .none kV39 dc39 pm39 an39 cd39 ct39), sl39⟩)
    (c39 : PySem.W.codeIn K cd39 "_law_two" = true)
    (k39 : PySem.W.keepIn K (.ref f39) = true)
    (a40 : PySem.W.nsIn K mainGlobals "_law_is_cycle" = some (some (.ref f40)))
    (l40 : K.lookup f40 = some ⟨oc40, od40, .func (PySem.W.fnOf "_law_is_cycle" "_law_is_cycle" (defArgs sIsCycle) (defBody sIsCycle) (defScope sIsCycle) .none kV40 dc40 pm40 an40 cd40 ct40), sl40⟩)
    (c40 : PySem.W.codeIn K cd40 "_law_is_cycle" = true)
    (k40 : PySem.W.keepIn K (.ref f40) = true)
    (a41 : PySem.W.nsIn K mainGlobals "_law_seen" = some (some (.ref f41)))
    (l41 : K.lookup f41 = some ⟨oc41, od41, .func (PySem.W.fnOf "_law_seen" "_law_seen" (defArgs sSeen) (defBody sSeen) (defScope sSeen) .none kV41 dc41 pm41 an41 cd41 ct41), sl41⟩)
    (c41 : PySem.W.codeIn K cd41 "_law_seen" = true)
    (k41 : PySem.W.keepIn K (.ref f41) = true)
    (a42 : PySem.W.nsIn K mainGlobals "_law_holds" = some (some (.ref f42)))
    (l42 : K.lookup f42 = some ⟨oc42, od42, .func (PySem.W.fnOf "_law_holds" "_law_holds" (defArgs sHolds) (defBody sHolds) (defScope sHolds) .none kV42 dc42 pm42 an42 cd42 ct42), sl42⟩)
    (c42 : PySem.W.codeIn K cd42 "_law_holds" = true)
    (k42 : PySem.W.keepIn K (.ref f42) = true)
    (a43 : PySem.W.nsIn K mainGlobals "_law_equals" = some (some (.ref f43)))
    (l43 : K.lookup f43 = some ⟨oc43, od43, .func (PySem.W.fnOf "_law_equals" "_law_equals" (defArgs sEquals) (defBody sEquals) (defScope sEquals) .none kV43 dc43 pm43 an43 cd43 ct43), sl43⟩)
    (c43 : PySem.W.codeIn K cd43 "_law_equals" = true)
    (k43 : PySem.W.keepIn K (.ref f43) = true)
    (aF : PySem.W.nsIn K mainGlobals "fraction" = some (some (.ref fF)))
    (lF : K.lookup fF = some ⟨ocF, odF, .func (PySem.W.fnOf "fraction" "fraction" (defArgs sFraction) (defBody sFraction) (defScope sFraction) (.ref tF) kVF dcF pmF anF cdF ctF), slF⟩)
    (cF : PySem.W.codeIn K cdF "fraction" = true)
    (kF : PySem.W.keepIn K (.ref fF) = true)
    (lT : K.lookup tF = some ⟨ocT, odT, .seq #[.int 1 tk] nT, slT⟩)
    (z_int : PySem.W.nsIn K mainGlobals "int" = some none)
    (z_len : PySem.W.nsIn K mainGlobals "len" = some none)
    (z_list : PySem.W.nsIn K mainGlobals "list" = some none)
    (z_abs : PySem.W.nsIn K mainGlobals "abs" = some none)
    (z_range : PySem.W.nsIn K mainGlobals "range" = some none)
    (z_min : PySem.W.nsIn K mainGlobals "min" = some none)
    (z_max : PySem.W.nsIn K mainGlobals "max" = some none)
    (z_isinstance : PySem.W.nsIn K mainGlobals "isinstance" = some none)
    (z_bool : PySem.W.nsIn K mainGlobals "bool" = some none)
    (z_str : PySem.W.nsIn K mainGlobals "str" = some none)
    (z_dict : PySem.W.nsIn K mainGlobals "dict" = some none)
    (z_tuple : PySem.W.nsIn K mainGlobals "tuple" = some none)
    (z_gcd : PySem.W.nsIn K mainGlobals "gcd" = some (some (.builtin "math.gcd")))
    (spc : PySem.W.specialIn K (.builtin "object.__class__") "__get__" = some (some (.builtin "getset_descriptor.__get__")))
    (tkc : PySem.W.takesIn K (.builtin "object.__class__") = some true)
    (aY : PySem.W.nsIn K mainGlobals "Cycle" = some (some (.ref CY)))
    (aZ : PySem.W.nsIn K mainGlobals "ZERO" = some (some (.ref z0)))
    (o_Z : K.lookup z0 = some ⟨.type "tuple", ddZ, .seq #[.int 0 taZ, .int 1 tbZ] nnZ, ssZ⟩)
    (aO : PySem.W.nsIn K mainGlobals "ONE" = some (some (.ref o0)))
    (o_O : K.lookup o0 = some ⟨.type "tuple", ddO, .seq #[.int 1 taO, .int 1 tbO] nnO, ssO⟩)
    (ypg : PySem.W.plainGet K CY Str.empty = true)
    (yhd : PySem.W.hasDictIn K CY = true)
    (ypo : PySem.W.plainOver K CY = true)
    (ysa : PySem.W.findIn K (.ref CY) "__setattr__" = some (some (.builtin "object.__setattr__")))
    (yn_rate : PySem.W.findIn K (.ref CY) "rate" = some none)
    (yn_start : PySem.W.findIn K (.ref CY) "start" = some none)
    (yn_period : PySem.W.findIn K (.ref CY) "period" = some none)
    (ymk : PySem.W.makesIn K CY = true)
    (ykp : PySem.W.keepIn K (.ref CY) = true)
    (yic : PySem.W.isClsIn K CY = true)
    (yca : PySem.W.findIn K (.ref CY) "__class__" = some (some (.builtin "object.__class__")))
    (yro : PySem.W.mroIn K CY (.type "object") = some true)
    (yin : PySem.W.findIn K (.ref CY) "__init__" = some (some (.ref fY)))
    (yif : PySem.W.isFn K (.ref fY) = true)
    (ysf : PySem.W.selfFirst K CY = true)
    (lY : K.lookup fY = some ⟨ocY, odY, .func (PySem.W.fnOf "__init__" "Cycle.__init__" (defArgs sCyInit) (defBody sCyInit) (defScope sCyInit) (.ref tY) kVY dcY pmY anY cdY ctY), slY⟩)
    (cY : PySem.W.codeIn K cdY "Cycle.__init__" = true)
    (kY : PySem.W.keepIn K (.ref fY) = true)
    (lTY : K.lookup tY = some ⟨ocTY, odTY, .seq #[.ref zi] nTY, slTY⟩)
    (o_I : K.lookup zi = some ⟨.type "tuple", ddI, .seq #[.int 0 taI, .int 1 tbI] nnI, ssI⟩)
    (y1TU : PySem.W.findIn K (.ref CY) "turns" = some (some (.ref fTU)))
    (y2TU : PySem.W.isFn K (.ref fTU) = true)
    (lTU : K.lookup fTU = some ⟨ocTU, odTU, .func (PySem.W.fnOf "turns" "Cycle.turns" (defArgs sCyTurns) (defBody sCyTurns) (defScope sCyTurns) .none kVTU dcTU pmTU anTU cdTU ctTU), slTU⟩)
    (cTU : PySem.W.codeIn K cdTU "Cycle.turns" = true)
    (kTU : PySem.W.keepIn K (.ref fTU) = true)
    (y1PC : PySem.W.findIn K (.ref CY) "place" = some (some (.ref fPC)))
    (y2PC : PySem.W.isFn K (.ref fPC) = true)
    (lPC : K.lookup fPC = some ⟨ocPC, odPC, .func (PySem.W.fnOf "place" "Cycle.place" (defArgs sCyPlace) (defBody sCyPlace) (defScope sCyPlace) .none kVPC dcPC pmPC anPC cdPC ctPC), slPC⟩)
    (cPC : PySem.W.codeIn K cdPC "Cycle.place" = true)
    (kPC : PySem.W.keepIn K (.ref fPC) = true)
    (y1EQ : PySem.W.findIn K (.ref CY) "__eq__" = some (some (.ref fEQ)))
    (y2EQ : PySem.W.isFn K (.ref fEQ) = true)
    (lEQ : K.lookup fEQ = some ⟨ocEQ, odEQ, .func (PySem.W.fnOf "__eq__" "Cycle.__eq__" (defArgs sCyEq) (defBody sCyEq) (defScope sCyEq) .none kVEQ dcEQ pmEQ anEQ cdEQ ctEQ), slEQ⟩)
    (cEQ : PySem.W.codeIn K cdEQ "Cycle.__eq__" = true)
    (kEQ : PySem.W.keepIn K (.ref fEQ) = true)
    (y1AD : PySem.W.findIn K (.ref CY) "__add__" = some (some (.ref fAD)))
    (y2AD : PySem.W.isFn K (.ref fAD) = true)
    (lAD : K.lookup fAD = some ⟨ocAD, odAD, .func (PySem.W.fnOf "__add__" "Cycle.__add__" (defArgs sCyAdd) (defBody sCyAdd) (defScope sCyAdd) .none kVAD dcAD pmAD anAD cdAD ctAD), slAD⟩)
    (cAD : PySem.W.codeIn K cdAD "Cycle.__add__" = true)
    (kAD : PySem.W.keepIn K (.ref fAD) = true)
    (y1SB : PySem.W.findIn K (.ref CY) "__sub__" = some (some (.ref fSB)))
    (y2SB : PySem.W.isFn K (.ref fSB) = true)
    (lSB : K.lookup fSB = some ⟨ocSB, odSB, .func (PySem.W.fnOf "__sub__" "Cycle.__sub__" (defArgs sCySub) (defBody sCySub) (defScope sCySub) .none kVSB dcSB pmSB anSB cdSB ctSB), slSB⟩)
    (cSB : PySem.W.codeIn K cdSB "Cycle.__sub__" = true)
    (kSB : PySem.W.keepIn K (.ref fSB) = true)
    (y1NG : PySem.W.findIn K (.ref CY) "__neg__" = some (some (.ref fNG)))
    (y2NG : PySem.W.isFn K (.ref fNG) = true)
    (lNG : K.lookup fNG = some ⟨ocNG, odNG, .func (PySem.W.fnOf "__neg__" "Cycle.__neg__" (defArgs sCyNeg) (defBody sCyNeg) (defScope sCyNeg) .none kVNG dcNG pmNG anNG cdNG ctNG), slNG⟩)
    (cNG : PySem.W.codeIn K cdNG "Cycle.__neg__" = true)
    (kNG : PySem.W.keepIn K (.ref fNG) = true)
    (yne : PySem.W.findIn K (.ref CY) "__ne__" = some (some (.builtin "object.__ne__")))
    (yty : PySem.W.typeIn K (.ref CY) = some (.type "type"))
    (ks_NoneType : PySem.W.subIn K (.type "NoneType") (.ref CY) = some false)
    (ks_bool : PySem.W.subIn K (.type "bool") (.ref CY) = some false)
    (ks_int : PySem.W.subIn K (.type "int") (.ref CY) = some false)
    (ks_str : PySem.W.subIn K (.type "str") (.ref CY) = some false)
    (ks_tuple : PySem.W.subIn K (.type "tuple") (.ref CY) = some false)
    (ks_list : PySem.W.subIn K (.type "list") (.ref CY) = some false)
    (ks_dict : PySem.W.subIn K (.type "dict") (.ref CY) = some false)
    (aSP : PySem.W.nsIn K mainGlobals "Span" = some (some (.ref SP)))
    (ks_sp : PySem.W.subIn K (.ref SP) (.ref CY) = some false)
    (ks_ne : (Value.ref SP == Value.ref CY) = false)
    (spg : PySem.W.plainGet K SP Str.empty = true)
    (shd : PySem.W.hasDictIn K SP = true)
    (spo : PySem.W.plainOver K SP = true)
    (ssa : PySem.W.findIn K (.ref SP) "__setattr__" = some (some (.builtin "object.__setattr__")))
    (sn_first : PySem.W.findIn K (.ref SP) "first" = some none)
    (sn_last : PySem.W.findIn K (.ref SP) "last" = some none)
    (sn_length : PySem.W.findIn K (.ref SP) "length" = some none)
    (smk : PySem.W.makesIn K SP = true)
    (skp : PySem.W.keepIn K (.ref SP) = true)
    (sca : PySem.W.findIn K (.ref SP) "__class__" = some (some (.builtin "object.__class__")))
    (sro : PySem.W.mroIn K SP (.type "object") = some true)
    (sin : PySem.W.findIn K (.ref SP) "__init__" = some (some (.ref fSI)))
    (sif : PySem.W.isFn K (.ref fSI) = true)
    (lSI : K.lookup fSI = some ⟨ocSI, odSI, .func (PySem.W.fnOf "__init__" "Span.__init__" (defArgs sSpInit) (defBody sSpInit) (defScope sSpInit) .none kVSI dcSI pmSI anSI cdSI ctSI), slSI⟩)
    (cSI : PySem.W.codeIn K cdSI "Span.__init__" = true)
    (kSI : PySem.W.keepIn K (.ref fSI) = true)
    (aL : PySem.W.nsIn K mainGlobals "law" = some (some (.ref fL)))
    (lL : K.lookup fL = some ⟨ocL, odL, .func (PySem.W.fnOf "law" "law" (defArgs sLaw) (defBody sLaw) (defScope sLaw) .none kVL dcL pmL anL cdvL ctL), slL⟩)
    (cL : PySem.W.codeIn K cdvL "law" = true)
    (kL : PySem.W.keepIn K (.ref fL) = true) :
    ∃ fd : FuncData, (∀ (s : Shared) (v : Value), BindsTo s fd ⟨[v], []⟩ [("_law_script", v)]) ∧ ∀ base : Heap, K.In base → base.Ns mainGlobals mg → FnOk P w K mg base CX0 11 fa fd ["_law_script"] (spLaw K) := by
  have DRequire : Dfn K mg "require" sRequire ["well_formed", "what"] := dfn_mk X G a0 l0 c0 k0 fun _ _ _ _ _ _ us hl => match us, hl with | [_, _], _ => rfl
  have DWhole : Dfn K mg "is_whole" sWhole ["value"] := dfn_mk X G a1 l1 c1 k1 fun _ _ _ _ _ _ us hl => match us, hl with | [_], _ => rfl
  have DIsFraction : Dfn K mg "is_fraction" sIsFraction ["value"] := dfn_mk X G a2 l2 c2 k2 fun _ _ _ _ _ _ us hl => match us, hl with | [_], _ => rfl
  have DIsPlace : Dfn K mg "is_place" sIsPlace ["value"] := dfn_mk X G a3 l3 c3 k3 fun _ _ _ _ _ _ us hl => match us, hl with | [_], _ => rfl
  have DPlus : Dfn K mg "plus" sPlus ["left", "right"] := dfn_mk X G a4 l4 c4 k4 fun _ _ _ _ _ _ us hl => match us, hl with | [_, _], _ => rfl
  have DMinus : Dfn K mg "minus" sMinus ["left", "right"] := dfn_mk X G a5 l5 c5 k5 fun _ _ _ _ _ _ us hl => match us, hl with | [_, _], _ => rfl
  have DTimes : Dfn K mg "times" sTimes ["left", "right"] := dfn_mk X G a6 l6 c6 k6 fun _ _ _ _ _ _ us hl => match us, hl with | [_, _], _ => rfl
  have DOver : Dfn K mg "over" sOver ["left", "right"] := dfn_mk X G a7 l7 c7 k7 fun _ _ _ _ _ _ us hl => match us, hl with | [_, _], _ => rfl
  have DCompare : Dfn K mg "compare" sCompare ["left", "right"] := dfn_mk X G a8 l8 c8 k8 fun _ _ _ _ _ _ us hl => match us, hl with | [_, _], _ => rfl
  have DMagn : Dfn K mg "magnitude" sMagn ["value"] := dfn_mk X G a9 l9 c9 k9 fun _ _ _ _ _ _ us hl => match us, hl with | [_], _ => rfl
  have DNegated : Dfn K mg "negated" sNegated ["value"] := dfn_mk X G a10 l10 c10 k10 fun _ _ _ _ _ _ us hl => match us, hl with | [_], _ => rfl
  have DPart : Dfn K mg "part_of" sPart ["value"] := dfn_mk X G a11 l11 c11 k11 fun _ _ _ _ _ _ us hl => match us, hl with | [_], _ => rfl
  have DPeriod : Dfn K mg "_period_of" sPeriod ["rate"] := dfn_mk X G a12 l12 c12 k12 fun _ _ _ _ _ _ us hl => match us, hl with | [_], _ => rfl
  have DMixed : Dfn K mg "_law_mixed" sMixed ["_law_number", "_law_turn"] := dfn_mk X G a13 l13 c13 k13 fun _ _ _ _ _ _ us hl => match us, hl with | [_, _], _ => rfl
  have DStore : Dfn K mg "_law_store" sStore ["_law_script"] := dfn_mk X G a14 l14 c14 k14 fun _ _ _ _ _ _ us hl => match us, hl with | [_], _ => rfl
  have DTake : Dfn K mg "_law_take" sTake ["_law_store_here", "_law_many"] := dfn_mk X G a15 l15 c15 k15 fun _ _ _ _ _ _ us hl => match us, hl with | [_, _], _ => rfl
  have DPick : Dfn K mg "_law_pick" sPick ["_law_store_here", "_law_row"] := dfn_mk X G a16 l16 c16 k16 fun _ _ _ _ _ _ us hl => match us, hl with | [_, _], _ => rfl
  have DGcd : Dfn K mg "_law_gcd" sGcd ["_law_left", "_law_right"] := dfn_mk X G a17 l17 c17 k17 fun _ _ _ _ _ _ us hl => match us, hl with | [_, _], _ => rfl
  have DLowest : Dfn K mg "_law_lowest" sLowest ["_law_top", "_law_bottom"] := dfn_mk X G a18 l18 c18 k18 fun _ _ _ _ _ _ us hl => match us, hl with | [_, _], _ => rfl
  have DLPlus : Dfn K mg "_law_plus" sLPlus ["_law_left", "_law_right"] := dfn_mk X G a19 l19 c19 k19 fun _ _ _ _ _ _ us hl => match us, hl with | [_, _], _ => rfl
  have DLMinus : Dfn K mg "_law_minus" sLMinus ["_law_left", "_law_right"] := dfn_mk X G a20 l20 c20 k20 fun _ _ _ _ _ _ us hl => match us, hl with | [_, _], _ => rfl
  have DLTimes : Dfn K mg "_law_times" sLTimes ["_law_left", "_law_right"] := dfn_mk X G a21 l21 c21 k21 fun _ _ _ _ _ _ us hl => match us, hl with | [_, _], _ => rfl
  have DLPart : Dfn K mg "_law_part" sLPart ["_law_value"] := dfn_mk X G a22 l22 c22 k22 fun _ _ _ _ _ _ us hl => match us, hl with | [_], _ => rfl
  have DLWhole : Dfn K mg "_law_is_whole" sLWhole ["_law_told"] := dfn_mk X G a23 l23 c23 k23 fun _ _ _ _ _ _ us hl => match us, hl with | [_], _ => rfl
  have DLFrac : Dfn K mg "_law_is_frac" sLFrac ["_law_told"] := dfn_mk X G a24 l24 c24 k24 fun _ _ _ _ _ _ us hl => match us, hl with | [_], _ => rfl
  have DLIsPlace : Dfn K mg "_law_is_place" sLIsPlace ["_law_told"] := dfn_mk X G a25 l25 c25 k25 fun _ _ _ _ _ _ us hl => match us, hl with | [_], _ => rfl
  have DSame : Dfn K mg "_law_same" sSame ["_law_told", "_law_due"] := dfn_mk X G a26 l26 c26 k26 fun _ _ _ _ _ _ us hl => match us, hl with | [_, _], _ => rfl
  have DFits : Dfn K mg "_law_fits" sFits ["_law_thing"] := dfn_mk X G a27 l27 c27 k27 fun _ _ _ _ _ _ us hl => match us, hl with | [_], _ => rfl
  have DLInt : Dfn K mg "_law_whole" sLInt ["_law_store_here", "_law_reach"] := dfn_mk X G a28 l28 c28 k28 fun _ _ _ _ _ _ us hl => match us, hl with | [_, _], _ => rfl
  have DGreat : Dfn K mg "_law_great" sGreat ["_law_store_here"] := dfn_mk X G a29 l29 c29 k29 fun _ _ _ _ _ _ us hl => match us, hl with | [_], _ => rfl
  have DDFrac : Dfn K mg "_law_frac" sDFrac ["_law_store_here"] := dfn_mk X G a30 l30 c30 k30 fun _ _ _ _ _ _ us hl => match us, hl with | [_], _ => rfl
  have DDFracW : Dfn K mg "_law_frac_wide" sDFracW ["_law_store_here"] := dfn_mk X G a31 l31 c31 k31 fun _ _ _ _ _ _ us hl => match us, hl with | [_], _ => rfl
  have DDPlace : Dfn K mg "_law_place" sDPlace ["_law_store_here"] := dfn_mk X G a32 l32 c32 k32 fun _ _ _ _ _ _ us hl => match us, hl with | [_], _ => rfl
  have DDPlaceW : Dfn K mg "_law_place_wide" sDPlaceW ["_law_store_here"] := dfn_mk X G a33 l33 c33 k33 fun _ _ _ _ _ _ us hl => match us, hl with | [_], _ => rfl
  have DDMoment : Dfn K mg "_law_moment" sDMoment ["_law_store_here", "_law_reach"] := dfn_mk X G a34 l34 c34 k34 fun _ _ _ _ _ _ us hl => match us, hl with | [_, _], _ => rfl
  have DCycleW : Dfn K mg "_law_cycle_wide" sCycleW ["_law_store_here"] := dfn_mk X G a35 l35 c35 k35 fun _ _ _ _ _ _ us hl => match us, hl with | [_], _ => rfl
  have DLTurns : Dfn K mg "_law_turns" sLTurns ["_law_row", "_law_moment_here"] := dfn_mk X G a36 l36 c36 k36 fun _ _ _ _ _ _ us hl => match us, hl with | [_, _], _ => rfl
  have DLPlaceAt : Dfn K mg "_law_place_at" sLPlaceAt ["_law_row", "_law_moment_here"] := dfn_mk X G a37 l37 c37 k37 fun _ _ _ _ _ _ us hl => match us, hl with | [_, _], _ => rfl
  have DTold : Dfn K mg "_law_cycle_told" sTold ["_law_cycle"] := dfn_mk X G a38 l38 c38 k38 fun _ _ _ _ _ _ us hl => match us, hl with | [_], _ => rfl
  have DTwo : Dfn K mg "_law_two" sTwo ["_law_store_here"] := dfn_mk X G a39 l39 c39 k39 fun _ _ _ _ _ _ us hl => match us, hl with | [_], _ => rfl
  have DIsCycle : Dfn K mg "_law_is_cycle" sIsCycle ["_law_cycle", "_law_row"] := dfn_mk X G a40 l40 c40 k40 fun _ _ _ _ _ _ us hl => match us, hl with | [_, _], _ => rfl
  have DSeen : Dfn K mg "_law_seen" sSeen ["_law_cycle", "_law_pair", "_law_way", "_law_moments"] := dfn_mk X G a41 l41 c41 k41 fun _ _ _ _ _ _ us hl => match us, hl with | [_, _, _, _], _ => rfl
  have DHolds : Dfn K mg "_law_holds" sHolds ["_law_left", "_law_right", "_law_one", "_law_two_here", "_law_moments"] := dfn_mk X G a42 l42 c42 k42 fun _ _ _ _ _ _ us hl => match us, hl with | [_, _, _, _, _], _ => rfl
  have DEquals : Dfn K mg "_law_equals" sEquals ["_law_left", "_law_right", "_law_one", "_law_two_here"] := dfn_mk X G a43 l43 c43 k43 fun _ _ _ _ _ _ us hl => match us, hl with | [_, _, _, _], _ => rfl
  have DFraction : DfnD K mg "fraction" sFraction ["numerator", "denominator"] := by
    have FD : FunD K "fraction" "fraction" (defArgs sFraction) (defBody sFraction) (defScope sFraction) [.int 1] [] fF _ := ⟨⟨ocF, odF, _, kVF, dcF, pmF, anF, cdF, ctF, slF, rfl, lF, cF, .inr ⟨by simp, tF, _, [.int 1 tk], nT, rfl, lT, rfl, .cons ⟨tk, rfl⟩ .nil⟩, .inl rfl⟩, kF⟩
    obtain ⟨ds, hv, hb⟩ := FD.binds1 (ps := ["numerator", "denominator"]) 2 1 (by simp) rfl fun T kV doc pm an cdv ct us its hu hi => match us, its, hu, hi with
      | [u1, u2], [i1], _, _ => ⟨_, rfl, rfl⟩
    cases hv
    exact ⟨fF, _, _, FD, PySem.W.mg_of X G aF, hb⟩
  have T : Bt K mg := ⟨PySem.W.mg_none_of X G z_int, PySem.W.mg_none_of X G z_len, PySem.W.mg_none_of X G z_list, PySem.W.mg_none_of X G z_abs, PySem.W.mg_none_of X G z_range, PySem.W.mg_none_of X G z_min, PySem.W.mg_none_of X G z_max, PySem.W.mg_none_of X G z_isinstance, PySem.W.mg_none_of X G z_bool, PySem.W.mg_none_of X G z_str, PySem.W.mg_none_of X G z_dict, PySem.W.mg_none_of X G z_tuple, PySem.W.mg_of X G z_gcd⟩
  have YC : Cls K CY := ⟨ypg, yhd, ypo, ysa⟩
  have Y : CyC K mg CY := ⟨YC, yn_rate, yn_start, yn_period, PySem.W.mg_of X G aY⟩
  have YI : C8.InsC K CY := ⟨YC, yca, spc, tkc, yro, by
    unfold PySem.W.kitOne
    rw [if_pos (by simp)]⟩
  have C0 : Two01 K mg z0 o0 := ⟨PySem.W.mg_of X G aZ, PySem.W.mg_of X G aO, ob_con o_Z, ob_con o_O⟩
  have YM : L2.Mk K CY fY := ⟨ymk, yin, yif, ykp⟩
  have FY : FunD K "__init__" "Cycle.__init__" (defArgs sCyInit) (defBody sCyInit) (defScope sCyInit) [.ref zi] [] fY _ := ⟨⟨ocY, odY, _, kVY, dcY, pmY, anY, cdY, ctY, slY, rfl, lY, cY, .inr ⟨by simp, tY, _, [.ref zi], nTY, rfl, lTY, rfl, .cons rfl .nil⟩, .inl rfl⟩, kY⟩
  obtain ⟨dsY2, vY2, bY2⟩ := FY.binds1 (ps := ["self", "rate", "start"]) 3 1 (by simp) rfl fun T kV doc pm an cdv ct us its hu hi => match us, its, hu, hi with
    | [u1, u2, u3], [i1], _, _ => ⟨_, rfl, rfl⟩
  obtain ⟨dsY1, vY1, bY1⟩ := FY.binds1 (ps := ["self", "rate", "start"]) 2 0 (by simp) rfl fun T kV doc pm an cdv ct us its hu hi => match us, its, hu, hi with
    | [u1, u2], [i1], _, _ => ⟨_, rfl, rfl⟩
  have ozi := ob_con o_I
  have FTU := fun_mk (st := sCyTurns) lTU cTU kTU
  have bTU := FTU.binds (ps := ["self", "moment"]) fun _ _ _ _ _ _ us hl => match us, hl with | [_, _], _ => rfl
  have MTU : Meth K CY "turns" fTU := ⟨y1TU, y2TU, kTU⟩
  have FPC := fun_mk (st := sCyPlace) lPC cPC kPC
  have bPC := FPC.binds (ps := ["self", "moment"]) fun _ _ _ _ _ _ us hl => match us, hl with | [_, _], _ => rfl
  have MPC : Meth K CY "place" fPC := ⟨y1PC, y2PC, kPC⟩
  have FEQ := fun_mk (st := sCyEq) lEQ cEQ kEQ
  have bEQ := FEQ.binds (ps := ["self", "other"]) fun _ _ _ _ _ _ us hl => match us, hl with | [_, _], _ => rfl
  have FAD := fun_mk (st := sCyAdd) lAD cAD kAD
  have bAD := FAD.binds (ps := ["self", "other"]) fun _ _ _ _ _ _ us hl => match us, hl with | [_, _], _ => rfl
  have FSB := fun_mk (st := sCySub) lSB cSB kSB
  have bSB := FSB.binds (ps := ["self", "other"]) fun _ _ _ _ _ _ us hl => match us, hl with | [_, _], _ => rfl
  have FNG := fun_mk (st := sCyNeg) lNG cNG kNG
  have bNG := FNG.binds (ps := ["self"]) fun _ _ _ _ _ _ us hl => match us, hl with | [_], _ => rfl
  have SC : Cls K SP := ⟨spg, shd, spo, ssa⟩
  have SY : SpC K mg SP := ⟨SC, sn_first, sn_last, sn_length, PySem.W.mg_of X G aSP⟩
  have SIC : C8.InsC K SP := ⟨SC, sca, spc, tkc, sro, by
    unfold PySem.W.kitOne
    rw [if_pos (by simp)]⟩
  have SM : L2.Mk K SP fSI := ⟨smk, sin, sif, skp⟩
  have FSI := fun_mk (st := sSpInit) lSI cSI kSI
  have bSI := FSI.binds (ps := ["self", "first", "last"]) fun _ _ _ _ _ _ us hl => match us, hl with | [_, _, _], _ => rfl
  have oth : ∀ t : Value, (t == Value.ref CY) = false → PySem.W.subIn K t (.ref CY) = some false → Oth K CY t := fun t h1 h2 => by
    obtain ⟨cd, hc, _⟩ := PySem.W.any_some yhd
    refine ⟨?_, ?_⟩
    · unfold PySem.W.kitOne PySem.W.kitCls
      rw [h1, if_neg Bool.false_ne_true]
      show (if ((PySem.W.clsIn K CY).isSome && PySem.W.typeIn K (.ref CY) == some (.type "type")) = true then PySem.W.subIn K t (.ref CY) else none) = some false
      rw [hc, yty, if_pos (by rfl)]
      exact h2
    · unfold PySem.W.notFirst
      rw [h1, h2]
      rfl
  have KD : Kinds K CY SP := ⟨fun n hn => by
    simp only [List.mem_cons, List.not_mem_nil, or_false] at hn
    rcases hn with rfl | rfl | rfl | rfl | rfl | rfl | rfl
    · exact oth _ rfl ks_NoneType
    · exact oth _ rfl ks_bool
    · exact oth _ rfl ks_int
    · exact oth _ rfl ks_str
    · exact oth _ rfl ks_tuple
    · exact oth _ rfl ks_list
    · exact oth _ rfl ks_dict, oth _ ks_ne ks_sp⟩
  have FL := fun_mk (st := sLaw) lL cL kL
  refine ⟨PySem.W.fnOf "law" "law" (defArgs sLaw) (defBody sLaw) (defScope sLaw) .none kVL dcL pmL anL cdvL ctL, fun s v => .of_eq rfl, fun base _ _ => ?_⟩
  have e := hfa.symm.trans (PySem.W.mg_of X G aL)
  cases e
  have kMixed := k_Mixed (P := P) (w := w) (base := base) T DMixed
  have kTake := k_Take T DTake kMixed
  have kPick := k_Pick T DPick kTake
  have kGcd := k_Gcd (P := P) (w := w) (base := base) T DGcd
  have kLowest := k_Lowest T DLowest kGcd
  have kRequire := k_Require (P := P) (w := w) (base := base) T DRequire
  have kWhole := k_Whole (P := P) (w := w) (base := base) T DWhole
  have kLWhole := k_LWhole (P := P) (w := w) (base := base) T DLWhole
  have kFraction := k_Fraction T DFraction kRequire kWhole
  have kIsFraction := k_IsFraction T DIsFraction kWhole
  have kIsPlace := k_IsPlace T DIsPlace kIsFraction
  have kPlus := k_Plus T DPlus kRequire kIsFraction kFraction
  have kMinus := k_Minus T DMinus kRequire kIsFraction kFraction
  have kTimes := k_Times T DTimes kRequire kIsFraction kFraction
  have kOver := k_Over T DOver kRequire kIsFraction kFraction
  have kCompare := k_Compare T DCompare kRequire kIsFraction
  have kMagn := k_Magn T DMagn kRequire kIsFraction
  have kNeg := k_Negated T DNegated kRequire kIsFraction
  have kPart := k_Part T DPart kRequire kIsFraction
  have kPeriod := k_Period C0 T DPeriod kMagn kOver
  have kLPlus := k_LPlus T DLPlus kLowest
  have kLMinus := k_LMinus T DLMinus kLowest
  have kLTimes := k_LTimes T DLTimes kLowest
  have kLPart := k_LPart T DLPart kLowest
  have kLFrac := k_LFrac T DLFrac kLWhole kGcd
  have kLIsPlace := k_LIsPlace T DLIsPlace kLFrac
  have kSame := k_same T DSame kLWhole 3
  have kFits2 := k_Fits2 T DFits (k_Fits T DFits (Kn.none (P := P) (w := w) (base := base) DFits))
  have kFits := k_Fits3 T DFits kFits2
  have kLInt := k_LInt T DLInt kTake
  have kGreat := k_Great T DGreat kTake
  have kDFrac := k_DFrac T DDFrac kTake kLowest
  have kDFracW := k_DFracW T DDFracW kTake kLowest kGreat kLInt kDFrac
  have kDPlace := k_DPlace T DDPlace kTake kLowest
  have kDPlaceW := k_DPlaceW T DDPlaceW kTake kLowest kDPlace kGreat
  have kDMoment := k_DMoment T DDMoment kTake kLowest kLInt
  have kStore := k_Store (P := P) (w := w) (base := base) T DStore
  have kCycleW := k_CycleW T DCycleW kDFracW kDPlaceW
  have GI : FnOk P w K mg base CX0 5 fY _ ["self", "rate", "start"] (spCyInit K CY) := ok_CyInit T Y kRequire kIsFraction kIsPlace kPeriod FY
  have mk2 : C8.Mak P w K mg base 5 "Cycle" CY (spCyInit K CY) [] := ⟨fY, _, _, dsY2, YM, GI, Y.g, bY2, vY2⟩
  have GS : FnOk P w K mg base CX0 5 fSI _ ["self", "first", "last"] (spSpInit K SP) := ok_SpInit T SY kRequire kIsFraction kCompare kMinus FSI
  have mkS : C8.Mak P w K mg base 5 "Span" SP (spSpInit K SP) [] := ⟨fSI, _, _, [], SM, GS, SY.g, bSI, .nil⟩
  have GTU := ok_CyTurns (P := P) (w := w) (base := base) T Y kRequire kIsFraction kPlus kTimes FTU
  have mTU : C8.Met P w K mg base 4 CY "turns" (spTurns K CY) [] := ⟨fTU, _, _, [], YC, MTU, GTU, bTU, .nil⟩
  have GPC := ok_CyPlace T Y mTU kRequire kIsFraction kPart FPC
  have mPC : C8.Met P w K mg base 5 CY "place" (spPlace K CY) [] := ⟨fPC, _, _, [], YC, MPC, GPC, bPC, .nil⟩
  have oQ : EqK P w K mg base CY := ⟨⟨fEQ, _, _, y1EQ, y2EQ, My.FnOk.or (ok_CyEq (P := P) (w := w) (base := base) T Y YI FEQ) (ok_CyEqN (P := P) (w := w) (base := base) T Y FEQ), bEQ⟩, ypo, yne⟩
  have oA : OpK P w K mg base 7 CY "__add__" (spCyAdd K CY) := ⟨fAD, _, _, y1AD, y2AD, ok_CyAdd T Y mk2 kPlus kPart FAD, bAD⟩
  have oS : OpK P w K mg base 7 CY "__sub__" (spCySub K CY) := ⟨fSB, _, _, y1SB, y2SB, ok_CySub T Y mk2 kMinus kPart FSB, bSB⟩
  have oN : OpK P w K mg base 7 CY "__neg__" (spCyNeg K CY) := ⟨fNG, _, _, y1NG, y2NG, ok_CyNeg T Y mk2 kNeg kPart FNG, bNG⟩
  have kTold := k_Told Y YI T DTold kLFrac kLIsPlace kSame
  have kIsCycle := k_IsCycle T DIsCycle kTold kSame
  have kLTurns := k_LTurns T DLTurns kLPlus kLTimes
  have kLPlaceAt := k_LPlaceAt T DLPlaceAt kLPart kLTurns
  have kTwo := k_Two T DTwo kPick kCycleW kLPart
  have kSeen := k_Seen Y mPC T DSeen kSame kLPlus kLPart kLPlaceAt
  have kHolds := k_Holds Y YI ysf oQ oA oS oN T DHolds kIsCycle kLPlus kLMinus kLPart kSeen
  have kEquals := k_Equals Y YI SIC KD oQ mk2 mkS T DEquals kLPlus kLPart kSame kFits
  exact ok_law FL T mk2 kStore kTwo kDFracW kDMoment kHolds kEquals kIsCycle
end My

namespace My
open PySem PySem.Spec PyProof.Rows L2
theorem walk_mk {l : PySem.W.OpenLaw} {q : Program} {loose : List Str} {XP : (Str → Option Value) → Heap → Prop} {YP : World → Heap → Prop} {d : DefRec} {K : Params → PySem.W.Frag} (hn : l.most = some 63) (hdf : d.params.defaults = [])
    (hY : ∀ (w : World) (h : Heap), YP w h → (K w.params).In h)
    (F : ∀ (w : World) (mg : Str → Option Value) (fa : Addr) (h : Heap), (K w.params).In h → h.Ns mainGlobals mg → mg d.name = some (.ref fa) →
      ∃ fd : FuncData, (∀ (s : Shared) (u : Value), BindsTo s fd ⟨[u], []⟩ [("_law_script", u)]) ∧ ∀ base : Heap, (K w.params).In base → base.Ns mainGlobals mg → FnOk l.prog w (K w.params) mg base CX0 11 fa fd ["_law_script"] (spLaw (K w.params))) :
    PySem.W.WalkO q loose XP YP l.row.toRowW d [] (fun f vs => PySem.call f vs) :=
  L2.walk_of (n := 63) (k := 11) (x := "_law_script") (CX := fun _ => CX0) (sp := fun w => spLaw (K w.params)) hn (by decide) hdf ⟨rfl, by decide, by decide⟩ hY F (fun _ _ a ns hl _ hS => ⟨a, ns, rfl, hS, fun _ => rfl⟩) fun _ _ _ _ _ z => z
end My
open PySem PySem.W PyProof.Rows
set_option maxRecDepth 100000 in
set_option maxHeartbeats 0 in
theorem PySem.Challenge.cw_wheelsky_k11_sums_of_cycles_holds : PySem.Challenge.rw_wheelsky_k11_sums_of_cycles.Holds := by
  w_on; o_law; k_head; (case hw => w_witness2)
  k_fill
  refine My.walk_mk (l := PySem.Challenge.rw_wheelsky_k11_sums_of_cycles) rfl rfl (fun w h Y => PySem.W.kIn_of Y) ?F
  case F =>
    intro w mg fa h KX G hmg
    refine' My.all_mk KX G hmg ?a0 ?l0 ?c0 ?k0 ?a1 ?l1 ?c1 ?k1 ?a2 ?l2 ?c2 ?k2 ?a3 ?l3 ?c3 ?k3 ?a4 ?l4 ?c4 ?k4 ?a5 ?l5 ?c5 ?k5 ?a6 ?l6 ?c6 ?k6 ?a7 ?l7 ?c7 ?k7 ?a8 ?l8 ?c8 ?k8 ?a9 ?l9 ?c9 ?k9 ?a10 ?l10 ?c10 ?k10 ?a11 ?l11 ?c11 ?k11 ?a12 ?l12 ?c12 ?k12 ?a13 ?l13 ?c13 ?k13 ?a14 ?l14 ?c14 ?k14 ?a15 ?l15 ?c15 ?k15 ?a16 ?l16 ?c16 ?k16 ?a17 ?l17 ?c17 ?k17 ?a18 ?l18 ?c18 ?k18 ?a19 ?l19 ?c19 ?k19 ?a20 ?l20 ?c20 ?k20 ?a21 ?l21 ?c21 ?k21 ?a22 ?l22 ?c22 ?k22 ?a23 ?l23 ?c23 ?k23 ?a24 ?l24 ?c24 ?k24 ?a25 ?l25 ?c25 ?k25 ?a26 ?l26 ?c26 ?k26 ?a27 ?l27 ?c27 ?k27 ?a28 ?l28 ?c28 ?k28 ?a29 ?l29 ?c29 ?k29 ?a30 ?l30 ?c30 ?k30 ?a31 ?l31 ?c31 ?k31 ?a32 ?l32 ?c32 ?k32 ?a33 ?l33 ?c33 ?k33 ?a34 ?l34 ?c34 ?k34 ?a35 ?l35 ?c35 ?k35 ?a36 ?l36 ?c36 ?k36 ?a37 ?l37 ?c37 ?k37 ?a38 ?l38 ?c38 ?k38 ?a39 ?l39 ?c39 ?k39 ?a40 ?l40 ?c40 ?k40 ?a41 ?l41 ?c41 ?k41 ?a42 ?l42 ?c42 ?k42 ?a43 ?l43 ?c43 ?k43 ?aF ?lF ?cF ?kF ?lT ?z_int ?z_len ?z_list ?z_abs ?z_range ?z_min ?z_max ?z_isinstance ?z_bool ?z_str ?z_dict ?z_tuple ?z_gcd ?spc ?tkc ?aY ?aZ ?o_Z ?aO ?o_O ?ypg ?yhd ?ypo ?ysa ?yn_rate ?yn_start ?yn_period ?ymk ?ykp ?yic ?yca ?yro ?yin ?yif ?ysf ?lY ?cY ?kY ?lTY ?o_I ?y1TU ?y2TU ?lTU ?cTU ?kTU ?y1PC ?y2PC ?lPC ?cPC ?kPC ?y1EQ ?y2EQ ?lEQ ?cEQ ?kEQ ?y1AD ?y2AD ?lAD ?cAD ?kAD ?y1SB ?y2SB ?lSB ?cSB ?kSB ?y1NG ?y2NG ?lNG ?cNG ?kNG ?yne ?yty ?ks_NoneType ?ks_bool ?ks_int ?ks_str ?ks_tuple ?ks_list ?ks_dict ?aSP ?ks_sp ?ks_ne ?spg ?shd ?spo ?ssa ?sn_first ?sn_last ?sn_length ?smk ?skp ?sca ?sro ?sin ?sif ?lSI ?cSI ?kSI ?aL ?lL ?cL ?kL
    (case a0 => k_is); (case l0 => k_is); (case c0 => k_is); (case k0 => k_is); (case a1 => k_is); (case l1 => k_is); (case c1 => k_is); (case k1 => k_is)
    (case a2 => k_is); (case l2 => k_is); (case c2 => k_is); (case k2 => k_is); (case a3 => k_is); (case l3 => k_is); (case c3 => k_is); (case k3 => k_is)
    (case a4 => k_is); (case l4 => k_is); (case c4 => k_is); (case k4 => k_is); (case a5 => k_is); (case l5 => k_is); (case c5 => k_is); (case k5 => k_is)
    (case a6 => k_is); (case l6 => k_is); (case c6 => k_is); (case k6 => k_is); (case a7 => k_is); (case l7 => k_is); (case c7 => k_is); (case k7 => k_is)
    (case a8 => k_is); (case l8 => k_is); (case c8 => k_is); (case k8 => k_is); (case a9 => k_is); (case l9 => k_is); (case c9 => k_is); (case k9 => k_is)
    (case a10 => k_is); (case l10 => k_is); (case c10 => k_is); (case k10 => k_is); (case a11 => k_is); (case l11 => k_is); (case c11 => k_is); (case k11 => k_is)
    (case a12 => k_is); (case l12 => k_is); (case c12 => k_is); (case k12 => k_is); (case a13 => k_is); (case l13 => k_is); (case c13 => k_is); (case k13 => k_is)
    (case a14 => k_is); (case l14 => k_is); (case c14 => k_is); (case k14 => k_is); (case a15 => k_is); (case l15 => k_is); (case c15 => k_is); (case k15 => k_is)
    (case a16 => k_is); (case l16 => k_is); (case c16 => k_is); (case k16 => k_is); (case a17 => k_is); (case l17 => k_is); (case c17 => k_is); (case k17 => k_is)
    (case a18 => k_is); (case l18 => k_is); (case c18 => k_is); (case k18 => k_is); (case a19 => k_is); (case l19 => k_is); (case c19 => k_is); (case k19 => k_is)
    (case a20 => k_is); (case l20 => k_is); (case c20 => k_is); (case k20 => k_is); (case a21 => k_is); (case l21 => k_is); (case c21 => k_is); (case k21 => k_is)
    (case a22 => k_is); (case l22 => k_is); (case c22 => k_is); (case k22 => k_is); (case a23 => k_is); (case l23 => k_is); (case c23 => k_is); (case k23 => k_is)
    (case a24 => k_is); (case l24 => k_is); (case c24 => k_is); (case k24 => k_is); (case a25 => k_is); (case l25 => k_is); (case c25 => k_is); (case k25 => k_is)
    (case a26 => k_is); (case l26 => k_is); (case c26 => k_is); (case k26 => k_is); (case a27 => k_is); (case l27 => k_is); (case c27 => k_is); (case k27 => k_is)
    (case a28 => k_is); (case l28 => k_is); (case c28 => k_is); (case k28 => k_is); (case a29 => k_is); (case l29 => k_is); (case c29 => k_is); (case k29 => k_is)
    (case a30 => k_is); (case l30 => k_is); (case c30 => k_is); (case k30 => k_is); (case a31 => k_is); (case l31 => k_is); (case c31 => k_is); (case k31 => k_is)
    (case a32 => k_is); (case l32 => k_is); (case c32 => k_is); (case k32 => k_is); (case a33 => k_is); (case l33 => k_is); (case c33 => k_is); (case k33 => k_is)
    (case a34 => k_is); (case l34 => k_is); (case c34 => k_is); (case k34 => k_is); (case a35 => k_is); (case l35 => k_is); (case c35 => k_is); (case k35 => k_is)
    (case a36 => k_is); (case l36 => k_is); (case c36 => k_is); (case k36 => k_is); (case a37 => k_is); (case l37 => k_is); (case c37 => k_is); (case k37 => k_is)
    (case a38 => k_is); (case l38 => k_is); (case c38 => k_is); (case k38 => k_is); (case a39 => k_is); (case l39 => k_is); (case c39 => k_is); (case k39 => k_is)
    (case a40 => k_is); (case l40 => k_is); (case c40 => k_is); (case k40 => k_is); (case a41 => k_is); (case l41 => k_is); (case c41 => k_is); (case k41 => k_is)
    (case a42 => k_is); (case l42 => k_is); (case c42 => k_is); (case k42 => k_is); (case a43 => k_is); (case l43 => k_is); (case c43 => k_is); (case k43 => k_is)
    (case aF => k_is); (case lF => k_is); (case cF => k_is); (case kF => k_is); (case lT => k_is); (case z_int => k_is); (case z_len => k_is); (case z_list => k_is)
    (case z_abs => k_is); (case z_range => k_is); (case z_min => k_is); (case z_max => k_is); (case z_isinstance => k_is); (case z_bool => k_is); (case z_str => k_is); (case z_dict => k_is)
    (case z_tuple => k_is); (case z_gcd => k_is); (case spc => k_is); (case tkc => k_is); (case aY => k_is); (case aZ => k_is); (case o_Z => k_is); (case aO => k_is)
    (case o_O => k_is); (case ypg => k_is); (case yhd => k_is); (case ypo => k_is); (case ysa => k_is); (case yn_rate => k_is); (case yn_start => k_is); (case yn_period => k_is)
    (case ymk => k_is); (case ykp => k_is); (case yic => k_is); (case yca => k_is); (case yro => k_is); (case yin => k_is); (case yif => k_is); (case ysf => k_is)
    (case lY => k_is); (case cY => k_is); (case kY => k_is); (case lTY => k_is); (case o_I => k_is); (case y1TU => k_is); (case y2TU => k_is); (case lTU => k_is)
    (case cTU => k_is); (case kTU => k_is); (case y1PC => k_is); (case y2PC => k_is); (case lPC => k_is); (case cPC => k_is); (case kPC => k_is); (case y1EQ => k_is)
    (case y2EQ => k_is); (case lEQ => k_is); (case cEQ => k_is); (case kEQ => k_is); (case y1AD => k_is); (case y2AD => k_is); (case lAD => k_is); (case cAD => k_is)
    (case kAD => k_is); (case y1SB => k_is); (case y2SB => k_is); (case lSB => k_is); (case cSB => k_is); (case kSB => k_is); (case y1NG => k_is); (case y2NG => k_is)
    (case lNG => k_is); (case cNG => k_is); (case kNG => k_is); (case yne => k_is); (case yty => k_is); (case ks_NoneType => k_is); (case ks_bool => k_is); (case ks_int => k_is)
    (case ks_str => k_is); (case ks_tuple => k_is); (case ks_list => k_is); (case ks_dict => k_is); (case aSP => k_is); (case ks_sp => k_is); (case ks_ne => decide +kernel); (case spg => k_is)
    (case shd => k_is); (case spo => k_is); (case ssa => k_is); (case sn_first => k_is); (case sn_last => k_is); (case sn_length => k_is); (case smk => k_is); (case skp => k_is)
    (case sca => k_is); (case sro => k_is); (case sin => k_is); (case sif => k_is); (case lSI => k_is); (case cSI => k_is); (case kSI => k_is); (case aL => k_is)
    (case lL => k_is); (case cL => k_is); (case kL => k_is)

import PyProof.Rows.All
import Wide.All
import OpenK.AllK
import Wide.FinOn
import HandS.ForMost
import HandS.Wide
import HandS.Codes
import HandS.SetFor
import HandS.IsInst
import KE.GoesMore
import KE.GoesEnum
import HandS.Walk
import KE.DataMinMax
import KE.GoesRev
import KE.SortData
import HandS.More
import HandS.Style
import HandS.Rev
import HandS.TupMul
import HandS.DictComp
import HandS.Sort
import HandS.Comp
import HandS.Zip
import HandS.ForExc
import HandS.ExcInit
import HandS.ExcField
import HandS.TryMany
import HandS.HeadHook1
import HandS.HeadHook2
import HandS.HeadEnd
import HandS.ExcIs
import HandS.ExcValue
import KE.KExcIs
import KE.KEqDict
import PyProof.NeKinds
import HandS.Set
import PyProof.SetKind
import HandS.SetBool
import HandS.Iter
import HandS.Property
import KE.KDictKeyed
import PyProof.EqKinds
import HandS.Defaults
import HandS.Head0
import HandS.Head1
import HandS.Head2
import KE.KDictDisplayH
import HandS.DeepEq
import HandS.Finally
import KE.KEqNest
import HandS.OwnEq
import PyProof.InstNe
import HandS.Text
import HandS.MapJoin
import PySem.Challenge.RW_hintslie_k88_bad_systems_behind_bad_text
import HandS.RaiseMore
set_option Elab.async false
set_option linter.all false
set_option maxRecDepth 100000
set_option maxHeartbeats 4000000
namespace Toy
open PySem PySem.Spec PyProof.Rows L2
section
variable {P : Program} {w : World} {K : PySem.W.Frag} {mg : Str → Option Value} {base : Heap}
structure DefAt (K : PySem.W.Frag) (mg : Str → Option Value) (x : Str) (st : Stmt) (ps : List Str) : Prop where
  h : ∃ (f : Addr) (fd : FuncData), mg x = some (.ref f) ∧ Fun K x x st f fd ∧ Binds K fd ps []
/-- what a caller has of a def -/
def Ok (P : Program) (w : World) (K : PySem.W.Frag) (mg : Str → Option Value) (base : Heap) (k : Nat) (x : Str) (ps : List Str) (sp : Sp) : Prop :=
  ∃ (f : Addr) (fd : FuncData), mg x = some (.ref f) ∧ PySem.W.keepIn K (.ref f) = true ∧ Binds K fd ps [] ∧ FnOk P w K mg base CX0 k f fd ps sp
theorem ok_of {x : Str} {st : Stmt} {N ps : List Str} {k : Nat} {sp : Sp} (D : DefAt K mg x st ps) (S : FnScope N ps (defScope st)) (len : ∀ vs H Q E, sp vs H Q E → vs.length = ps.length)
    (hbody : ∀ (f : Addr) (cdv : Value) (A : Around) (outer : List Env) (s : Shared) (H : Hp) (vs : List V) (Q : VK) (E : XK), Room k (A.deeper (envOfC x (defScope st) s.heap.objs.size f cdv)) → sp vs H Q E →
      ∃ t, PSs (cxOf CX0 P w K mg base N x (defScope st) f cdv A outer s H E).nox (defBody st) t ∧ t { nx := fun _ H' => Q .non H', rt := Q } (start N vs) H) : Ok P w K mg base (k + 1) x ps sp := by
  obtain ⟨f, fd, m, F, b⟩ := D.h
  exact ⟨f, fd, m, F.kp, b, F.ok S len fun cdv A outer s H vs Q E hr h => hbody f cdv A outer s H vs Q E hr h⟩
structure ClsInit (K : PySem.W.Frag) (C : Addr) (qual : Str) (st : Stmt) (ps : List Str) : Prop where
  h : ∃ (f : Addr) (fd : FuncData), Mk K C f ∧ Fun K "__init__" qual st f fd ∧ Binds K fd ps []
structure MethAt (K : PySem.W.Frag) (C : Addr) (m qual : Str) (st : Stmt) (ps : List Str) : Prop where
  h : ∃ (f : Addr) (fd : FuncData), Meth K C m f ∧ Fun K m qual st f fd ∧ Binds K fd ps []
def OkI (P : Program) (w : World) (K : PySem.W.Frag) (mg : Str → Option Value) (base : Heap) (CX : CXT) (k : Nat) (x : Str) (C : Addr) (ps : List Str) (sp : Sp) : Prop :=
  ∃ (f : Addr) (fd : FuncData), mg x = some (.ref C) ∧ Mk K C f ∧ Binds K fd ps [] ∧ FnOk P w K mg base CX k f fd ps sp
def OkM (P : Program) (w : World) (K : PySem.W.Frag) (mg : Str → Option Value) (base : Heap) (CX : CXT) (k : Nat) (C : Addr) (m : Str) (ps : List Str) (sp : Sp) : Prop :=
  ∃ (f : Addr) (fd : FuncData), Meth K C m f ∧ Binds K fd ps [] ∧ FnOk P w K mg base CX k f fd ps sp
theorem okI_of {x qual : Str} {C : Addr} {st : Stmt} {N ps : List Str} {k : Nat} {sp : Sp} (hm : mg x = some (.ref C)) (D : ClsInit K C qual st ps) (S : FnScope N ps (defScope st)) (len : ∀ vs H Q E, sp vs H Q E → vs.length = ps.length)
    (hbody : ∀ (f : Addr) (cdv : Value) (A : Around) (outer : List Env) (s : Shared) (H : Hp) (vs : List V) (Q : VK) (E : XK), Room k (A.deeper (envOfC qual (defScope st) s.heap.objs.size f cdv)) → sp vs H Q E →
      ∃ t, PSs (cxOf CX0 P w K mg base N qual (defScope st) f cdv A outer s H E).nox (defBody st) t ∧ t { nx := fun _ H' => Q .non H', rt := Q } (start N vs) H) : OkI P w K mg base CX0 (k + 1) x C ps sp := by
  obtain ⟨f, fd, M, F, b⟩ := D.h
  exact ⟨f, fd, hm, M, b, F.ok S len fun cdv A outer s H vs Q E hr h => hbody f cdv A outer s H vs Q E hr h⟩
theorem okM_of {m qual : Str} {C : Addr} {st : Stmt} {N ps : List Str} {k : Nat} {sp : Sp} (D : MethAt K C m qual st ps) (S : FnScope N ps (defScope st)) (len : ∀ vs H Q E, sp vs H Q E → vs.length = ps.length)
    (hbody : ∀ (f : Addr) (cdv : Value) (A : Around) (outer : List Env) (s : Shared) (H : Hp) (vs : List V) (Q : VK) (E : XK), Room k (A.deeper (envOfC qual (defScope st) s.heap.objs.size f cdv)) → sp vs H Q E →
      ∃ t, PSs (cxOf CX0 P w K mg base N qual (defScope st) f cdv A outer s H E).nox (defBody st) t ∧ t { nx := fun _ H' => Q .non H', rt := Q } (start N vs) H) : OkM P w K mg base CX0 (k + 1) C m ps sp := by
  obtain ⟨f, fd, M, F, b⟩ := D.h
  exact ⟨f, fd, M, b, F.ok S len fun cdv A outer s H vs Q E hr h => hbody f cdv A outer s H vs Q E hr h⟩
end
/-! heaps that keep all but one object -/
def Keep (d : Addr) (H H' : Hp) : Prop := ∀ b o, b ≠ d → H b = some o → H' b = some o
theorem Keep.refl (d : Addr) (H : Hp) : Keep d H H := fun _ _ _ h => h
theorem Keep.trans {d : Addr} {H H1 H2 : Hp} (a : Keep d H H1) (b : Keep d H1 H2) : Keep d H H2 := fun c o n h => b c o n (a c o n h)
theorem Keep.same {d : Addr} {H H1 H2 : Hp} (a : Keep d H H1) (b : Same H1 H2) : Keep d H H2 := fun c o n h => b c o (a c o n h)
theorem same_keep {d : Addr} {H H1 : Hp} (a : Same H H1) : Keep d H H1 := fun c o n h => a c o h
theorem Keep.free {d l : Addr} {H H' : Hp} (e : Keep d H H') (n : l ≠ d) (h : H' l = none) : H l = none := by
  cases q : H l with
  | none => rfl
  | some o => rw [e l o n q] at h; cases h
theorem same_new {H : Hp} {p : Addr} {o : HO} (h : H p = none) : Same H (upd H p o) := fun b u e => by
  rw [upd_ne (ne_of_none e h)]; exact e
theorem Keep.upd {d : Addr} {H : Hp} {o : HO} : Keep d H (upd H d o) := fun b u n e => by
  rw [upd_ne n]; exact e
theorem yesT {σ : L2.St} {H : Hp} {A B : Hp → Prop} (h : A H) : tYes σ H (fun b H3 => if b = true then A H3 else B H3) := by
  show (fun b H3 => if b = true then A H3 else B H3) true H
  exact iteT h
/-! what is drawn from: the list at d (a number, a count, whether it is a great one) -/
structure Dice (c : Addr) (H : Hp) (d : Addr) : Prop where
  ex : ∃ (n i : Int) (b : Bool) (s t : Int), H d = some (.lst [.int n, .int i, .bl b]) ∧ c = d ∧ 0 ≤ n ∧ 0 ≤ i
section
variable {H H' : Hp} {d c p : Addr} {o : HO}
theorem Dice.some (D : Dice c H d) : ∃ o, H d = some o := by
  obtain ⟨n, i, b, s, t, h, _⟩ := D.ex
  exact ⟨_, h⟩
theorem Dice.same (D : Dice c H d) (e : Same H H') : Dice c H' d := by
  obtain ⟨n, i, b, s, t, h, r⟩ := D.ex
  exact ⟨n, i, b, s, t, e _ _ h, r⟩
theorem Dice.ne (D : Dice c H d) (h : H p = none) : p ≠ d := by
  obtain ⟨o, e⟩ := D.some
  intro z; subst z; rw [e] at h; cases h
theorem Dice.nc (D : Dice c H d) (h : H p = none) : p ≠ c := by
  obtain ⟨m, i, b, s, t, e, hc, r⟩ := D.ex
  rw [hc]
  exact D.ne h
theorem Dice.upd (D : Dice c H d) (n : p ≠ d) (m : p ≠ c) : Dice c (upd H p o) d := by
  obtain ⟨x, i, b, s, t, e, r⟩ := D.ex
  exact ⟨x, i, b, s, t, (upd_ne n.symm).trans e, r⟩
theorem Dice.tup {xs : List V} (D : Dice c H d) (h : H p = .some (.tup xs)) : p ≠ d := by
  obtain ⟨cells, i, b, s, t, e, _⟩ := D.ex
  exact ne_of h e (by intro z; cases z)
theorem Dice.dK {xs : List (Key × V)} (D : Dice c H d) (h : H p = .some (.dK xs)) : p ≠ d := by
  obtain ⟨cells, i, b, s, t, e, _⟩ := D.ex
  exact ne_of h e (by intro z; cases z)
theorem Keep.tup {xs : List V} (k : Keep d H H') (D : Dice c H d) (h : H p = .some (.tup xs)) : H' p = .some (.tup xs) := k _ _ (D.tup h) h
theorem Keep.mut (k : Keep d H H') (h : H p = none) : Keep d H (L2.upd H' p o) := fun b u n e => by
  rw [upd_ne (ne_of_none e h)]; exact k b u n e
end
def spDice (K : PySem.W.Frag) : Sp := fun vs H Q _ => ∃ (a : Addr) (ns : List Int), vs = [.ref a] ∧ SqL K H a (ns.map V.int) ∧ ns.length ≤ 63 ∧
  ∀ d c H', Same H H' → H d = none → H c = none → Dice c H' d → Q (.ref d) H'
def spDraw : Sp := fun vs H Q _ => ∃ (d c : Addr) (n : Int), vs = [.ref d, .int n] ∧ Dice c H d ∧ 0 < n ∧ n.natAbs < 2 ^ 100 ∧
  ∀ v H', 0 ≤ v → v < n → Keep d H H' → Dice c H' d → Q (.int v) H'
/-! words -/
def abc : Str := "abcdefghijklmnopqrstuvwxyz"
structure Low (z : Str) : Prop where
  c : ∀ x ∈ z.cps.toList, 97 ≤ x ∧ x ≤ 122
structure Name (m : Int) (z : Str) : Prop where
  lo : 1 ≤ z.length
  hi : (z.length : Int) ≤ m
  low : Low z
theorem abc_at : ∀ i : Nat, i < 26 → ∃ c, abc.cps[i]? = some c ∧ 97 ≤ c ∧ c ≤ 122 := by
  have h : ∀ i : _root_.Fin 26, ∃ c, abc.cps[i.val]? = some c ∧ 97 ≤ c ∧ c ≤ 122 := by
    have e : abc.cps = #[97,98,99,100,101,102,103,104,105,106,107,108,109,110,111,112,113,114,115,116,117,118,119,120,121,122] := by decide +kernel
    intro i
    refine ⟨97 + i.val, ?_, by omega, by omega⟩
    rw [e]
    revert i
    decide
  exact fun i hi => h ⟨i, hi⟩
theorem abc_len : abc.length = 26 := by decide +kernel
theorem Low.app {z : Str} {c : Nat} (h : Low z) (a : 97 ≤ c) (b : c ≤ 122) : Low (z ++ ⟨#[c]⟩) := ⟨fun x hx => by
  have e : (z ++ (⟨#[c]⟩ : Str)).cps = z.cps ++ #[c] := rfl
  rw [e, Array.toList_append] at hx
  rcases List.mem_append.mp hx with q | q
  · exact h.c x q
  · rw [List.mem_singleton.mp q]; exact ⟨a, b⟩⟩
theorem len_app (z : Str) (c : Nat) : (z ++ (⟨#[c]⟩ : Str)).length = z.length + 1 := PySem.Str.length_append z ⟨#[c]⟩
def spWord : Sp := fun vs H Q _ => ∃ (d c : Addr) (n : Int), vs = [.ref d, .int n] ∧ Dice c H d ∧ 0 < n ∧ n ≤ 1000 ∧
  ∀ z H', Name n z → Keep d H H' → Dice c H' d → Q (.str z) H'
end Toy

namespace Toy
open PySem PySem.Spec PyProof.Rows L2
/-! pairs of lists -/
theorem prd_at1 {α β : Type} {F : α → β → Prop} : ∀ {xs : List α} {ys : List β} {i : Nat} {x : α}, Paired F xs ys → xs[i]? = some x → ∃ y, ys[i]? = some y ∧ F x y
  | _, _, _, _, .nil, e => by simp at e
  | _, _, 0, _, .cons r _, e => by simp at e; subst e; exact ⟨_, rfl, r⟩
  | _, _, i + 1, x, .cons _ t, e => by
    obtain ⟨y, h1, h2⟩ := prd_at1 (i := i) (x := x) t (by simpa using e)
    exact ⟨y, by simpa using h1, h2⟩
theorem prd_at2 {α β : Type} {F : α → β → Prop} : ∀ {xs : List α} {ys : List β} {i : Nat} {y : β}, Paired F xs ys → ys[i]? = some y → ∃ x, xs[i]? = some x ∧ F x y
  | _, _, _, _, .nil, e => by simp at e
  | _, _, 0, _, .cons r _, e => by simp at e; subst e; exact ⟨_, rfl, r⟩
  | _, _, i + 1, x, .cons _ t, e => by
    obtain ⟨y, h1, h2⟩ := prd_at2 (i := i) (y := x) t (by simpa using e)
    exact ⟨y, by simpa using h1, h2⟩
theorem prd_imp {α β : Type} {F G : α → β → Prop} : ∀ {xs : List α} {ys : List β}, Paired F xs ys → (∀ a b, F a b → G a b) → Paired G xs ys
  | _, _, .nil, _ => .nil
  | _, _, .cons r t, f => .cons (f _ _ r) (prd_imp t f)
theorem prd_len {α β : Type} {F : α → β → Prop} {xs : List α} {ys : List β} (h : Paired F xs ys) : xs.length = ys.length := PySem.Paired.length h
/-! what stands: tuples of ints, of ints or None, tuples of these, dicts of these -/
def vO : Option Int → V
  | some i => .int i
  | none => .non
def IntT (H : Hp) (v : V) (xs : List Int) : Prop := ∃ a, v = .ref a ∧ H a = some (.tup (xs.map V.int))
def OptT (H : Hp) (v : V) (xs : List (Option Int)) : Prop := ∃ a, v = .ref a ∧ H a = some (.tup (xs.map vO))
def TupT {α : Type} (R : Hp → V → α → Prop) (H : Hp) (v : V) (xs : List α) : Prop := ∃ a vs, v = .ref a ∧ H a = some (.tup vs) ∧ Paired (R H) vs xs
/-- what Keep and Same keep -/
def Firm {α : Type} (R : Hp → V → α → Prop) : Prop := ∀ (H H' : Hp) v x, (∀ a xs, H a = some (.tup xs) → H' a = some (.tup xs)) → R H v x → R H' v x
theorem same_tups {H H' : Hp} (k : Same H H') : ∀ a xs, H a = some (.tup xs) → H' a = some (.tup xs) := fun _ _ h => k _ _ h
theorem keep_tups {c d : Addr} {H H' : Hp} (k : Keep d H H') (D : Dice c H d) : ∀ a xs, H a = some (.tup xs) → H' a = some (.tup xs) := fun _ _ h => k.tup D h
theorem IntT.firm : Firm IntT := fun _ _ _ _ k ⟨a, e, h⟩ => ⟨a, e, k _ _ h⟩
theorem OptT.firm : Firm OptT := fun _ _ _ _ k ⟨a, e, h⟩ => ⟨a, e, k _ _ h⟩
theorem TupT.firm {α : Type} {R : Hp → V → α → Prop} (f : Firm R) : Firm (TupT R) := fun H H' _ _ k ⟨a, vs, e, h, p⟩ => ⟨a, vs, e, k _ _ h, prd_imp p fun x y r => f _ _ x y k r⟩
/-- a dict of texts to such -/
def DctOf {α : Type} (R : Hp → V → α → Prop) (H : Hp) (kvs : List (Key × V)) (rs : List (Str × α)) : Prop := Paired (fun (kv : Key × V) (p : Str × α) => kv.1 = .inr p.1 ∧ R H kv.2 p.2) kvs rs
theorem DctOf.firm {α : Type} {R : Hp → V → α → Prop} (f : Firm R) {H H' : Hp} {kvs : List (Key × V)} {rs : List (Str × α)} (k : ∀ a xs, H a = some (.tup xs) → H' a = some (.tup xs)) (h : DctOf R H kvs rs) : DctOf R H' kvs rs :=
  prd_imp h fun x y r => ⟨r.1, f H H' _ _ k r.2⟩
theorem dct_none {α : Type} {R : Hp → V → α → Prop} {H : Hp} {z : Str} : ∀ {kvs : List (Key × V)} {rs : List (Str × α)}, DctOf R H kvs rs → ¬ z ∈ rs.map (·.1) → valV kvs (.inr z : Key) = none
  | _, _, .nil, _ => rfl
  | kv :: kvs, p :: rs, .cons r t, h => by
    have e : ¬ kv.1 = (.inr z : Key) := fun q => h (by
      rw [r.1] at q; cases q
      exact List.mem_cons_self)
    rw [valV_neg e]
    exact dct_none t fun m => h (List.mem_cons_of_mem _ m)
theorem dct_some {α : Type} {R : Hp → V → α → Prop} {H : Hp} {z : Str} {x : α} : ∀ {kvs : List (Key × V)} {rs : List (Str × α)}, DctOf R H kvs rs → (rs.map (·.1)).Nodup → (z, x) ∈ rs → ∃ v, valV kvs (.inr z : Key) = some v ∧ R H v x
  | _, _, .nil, _, h => by cases h
  | kv :: kvs, p :: rs, .cons r t, nd, h => by
    rw [List.map_cons] at nd
    obtain ⟨n1, n2⟩ := List.nodup_cons.mp nd
    rcases List.mem_cons.mp h with e | h
    · subst e
      exact ⟨kv.2, valV_pos r.1, r.2⟩
    · have e : ¬ kv.1 = (.inr z : Key) := fun q => n1 (by
        rw [r.1] at q
        have q : p.1 = z := Sum.inr.inj q
        rw [q]
        exact List.mem_map.mpr ⟨(z, x), h, rfl⟩)
      rw [valV_neg e]
      exact dct_some t n2 h
theorem dct_len {α : Type} {R : Hp → V → α → Prop} {H : Hp} {kvs : List (Key × V)} {rs : List (Str × α)} (h : DctOf R H kvs rs) : kvs.length = rs.length := prd_len h
/-! in, count -/
theorem inV_str (z : Str) : ∀ zs : List Str, inV (.str z) (zs.map V.str) = decide (z ∈ zs)
  | [] => rfl
  | y :: zs => by
    have ih := inV_str z zs
    unfold inV at ih ⊢
    rw [List.map_cons, List.any_cons, ih]
    show ((y == z) || decide (z ∈ zs)) = decide (z ∈ y :: zs)
    by_cases e : y = z
    · subst e; simp
    · have e' : ¬ z = y := fun q => e q.symm
      simp [e, e']
theorem flat_str (zs : List Str) : (zs.map V.str).all flatV = true := by
  rw [List.all_eq_true]; intro x hx; obtain ⟨z, _, rfl⟩ := List.mem_map.mp hx; rfl
theorem flat_vO (zs : List (Option Int)) : (zs.map vO).all flatV = true := by
  rw [List.all_eq_true]; intro x hx; obtain ⟨z, _, rfl⟩ := List.mem_map.mp hx; cases z <;> rfl
theorem count_eqU {x : V} : ∀ {xs : List V} {us : List Value}, Vals xs us → xs.all flatV = true → us.countP (eqU x) = xs.countP fun y => eqV y x
  | _, _, .nil, _ => rfl
  | y :: xs, u :: us, .cons r t, f => by
    rw [List.all_cons, Bool.and_eq_true] at f
    rw [List.countP_cons, List.countP_cons, eqU_of r f.1, count_eqU t f.2]
section
variable {X : Cx}
def rCntV (K : PySem.W.Frag) : V → List V → Hp → VK → Prop := fun x xs H Q => ∃ (p : Addr) (ys : List V) (k : V), x = .ref p ∧ xs = [k] ∧ SqL K H p ys ∧ ys.all flatV = true ∧ flatV k = true ∧ Q (.int ((ys.countP fun y => eqV y k) : Nat)) H
theorem mt_countV : MtR X "list.count" (rCntV X.K) := by
  intro pins s σ H x xs v us Q I rx rxs h
  obtain ⟨p, ys, k, rfl, rfl, hs, fs, fk, q⟩ := h
  cases rx
  obtain ⟨u, rfl, ru⟩ := rxs.one
  obtain ⟨its, rv, ⟨⟨cls, dd, data, sl⟩, n, ho, hc, hdn, hd⟩, hlen⟩ := I.list hs
  simp only at hc hd
  subst hc hd
  refine call_meets PySem.F.slot_list_count ⟨_, ho, rfl⟩ PySem.F.entry_list_count (PySem.F.args_list_count_2 _ _)
    (SeqAt.list_countAt p its.toArray n dd sl u (eqU k)) ⟨ho, fun y hy => mem_eqAt ru fk rv fs y (by simpa using hy), ?_⟩
  have ec : its.toArray.toList.countP (eqU k) = ys.countP fun y => eqV y k := count_eqU rv fs
  refine ⟨.int ((ys.countP fun y => eqV y k) : Nat), H, I.tok _, ⟨s.toks, ?_⟩, q⟩
  rw [ec]
end
theorem cnt_non : ∀ zs : List (Option Int), ((zs.map vO).countP fun y => eqV y .non) = zs.countP fun y => y.isNone
  | [] => rfl
  | z :: zs => by
    rw [List.map_cons, List.countP_cons, List.countP_cons, cnt_non zs]
    cases z <;> rfl
/-! what the drawing defs promise -/
def spNames : Sp := fun vs H Q _ => ∃ (d c : Addr) (n m : Int), vs = [.ref d, .int n, .int m] ∧ Dice c H d ∧ 0 < n ∧ n ≤ 1000 ∧ 0 < m ∧ m ≤ 1000 ∧
  ∀ (l : Addr) (zs : List Str) (H' : Hp), H l = none → H' l = some (.lst (zs.map V.str)) → zs.Nodup → 1 ≤ zs.length → (zs.length : Int) ≤ n → (∀ z ∈ zs, Name m z) → Keep d H H' → Dice c H' d → Q (.ref l) H'
structure Square (n top : Int) (rows : List (List Int)) : Prop where
  len : (rows.length : Int) = n
  row : ∀ r ∈ rows, (r.length : Int) = n ∧ ∀ x ∈ r, 0 ≤ x ∧ x ≤ top
  diag : ∀ (i : Nat) r, rows[i]? = some r → r[i]? = some 0
def spMoves : Sp := fun vs H Q _ => ∃ (d c : Addr) (n top : Int), vs = [.ref d, .int n, .int top] ∧ Dice c H d ∧ 0 < n ∧ n ≤ 1000 ∧ 0 ≤ top ∧ top ≤ 1000 ∧
  ∀ v rows H', TupT IntT H' v rows → Square n top rows → Keep d H H' → Dice c H' d → Q v H'
structure Prices (n top : Int) (row : List (Option Int)) : Prop where
  len : (row.length : Int) = n
  rng : ∀ x, some x ∈ row → 0 ≤ x ∧ x ≤ top
  some : ∃ x, some x ∈ row
def spPrices : Sp := fun vs H Q _ => ∃ (d c : Addr) (n top : Int), vs = [.ref d, .int n, .int top] ∧ Dice c H d ∧ 0 < n ∧ n ≤ 1000 ∧ 0 ≤ top ∧ top ≤ 1000 ∧
  ∀ v row H', OptT H' v row → Prices n top row → Keep d H H' → Dice c H' d → Q v H'
def spRequests (K : PySem.W.Frag) : Sp := fun vs H Q _ => ∃ (d c l : Addr) (zs : List Str) (n top : Int), vs = [.ref d, .ref l, .int n, .int top] ∧ Dice c H d ∧ H l = some (.lst (zs.map V.str)) ∧ zs.length ≤ 1000 ∧ l ≠ d ∧ zs.Nodup ∧ 0 < n ∧ n ≤ 1000 ∧ 0 ≤ top ∧ top ≤ 1000 ∧
  ∀ p kvs rs H', H p = none → H' p = some (.dK kvs) → DctOf OptT H' kvs rs → rs.map (·.1) = zs → (∀ q ∈ rs, Prices n top q.2) → Keep d H H' → Dice c H' d → Q (.ref p) H'
end Toy

namespace Toy
open PySem PySem.Spec PyProof.Rows L2
/-! enumerate of a tuple -/
set_option maxHeartbeats 2000000 in
theorem meets_enum1 {v : Value} {o : Obj} {G : Heap → Prop} (B : Begins v o G) :
    Meets (Builtin.«enumerate.__new__» ⟨[.type "enumerate", v], []⟩) (fun _ R s => G s.heap ∧
      R (.ok (.ret (.ref (s.heap.push o).objs.size))) { s with heap := (s.heap.push o).push { cls := .type "enumerate", data := .fields #[.none, .bool false, .ref s.heap.objs.size, rawInt 0, .none, .none] } }) :=
  .of_wp fun prog w A R s h => by
    obtain ⟨hp, g, d, tk, os⟩ := s
    obtain ⟨h1, h⟩ := h
    have hsub := sub_enumerate
    have qB : ∀ {A' : Around} {E : Value → Shared → Prop} {Q : Value → Shared → Prop}, Q (.ref hp.objs.size) ⟨hp.push o, g, d, tk, os⟩ → wpAny (model prog w) A' (pyIter v) Q E ⟨hp, g, d, tk, os⟩ :=
      fun z => B.iter prog w _ _ ⟨hp, g, d, tk, os⟩ _ h1 z
    wp_walk using qB
    refine wpAny_stack_any fun st => wpAny_pure ?_
    split
    · rename_i c _ _ _ _ _
      cases (c == Value.type "enumerate")
      all_goals (wp_walk using qB; exact ⟨_, rfl, h⟩)
    · wp_walk using qB
      exact ⟨_, rfl, h⟩
section
variable {prog : Program} {w : World} {A : Around} {E : Value → Shared → Prop} {s : Shared}
theorem enum1 {v : Value} {o : Obj} {G : Heap → Prop} {Q : Value → Shared → Prop} (B : Begins v o G) (h1 : G s.heap)
    (h : ∀ h', IsEnum h' (s.heap.objs.size + 1) s.heap.objs.size 0 .none → h'.get? s.heap.objs.size = some o → (∀ b u, s.heap.get? b = some u → h'.get? b = some u) → Q (.ref (s.heap.objs.size + 1)) { s with heap := h' }) :
    wpAny (model prog w) A (call (.type "enumerate") [v]) Q E s := by
  refine callType_new F.called_enumerate (by decide) (F.typeCall_enumerate_1 _) (F.newCall_enumerate_1 _) (fun ob => F.args_object_init_2 ob _) F.entry_enumerate_new (meets_enum1 B) ⟨h1, ?_⟩
  have hz : (s.heap.push o).objs.size = s.heap.objs.size + 1 := Heap.size_push ..
  show _ ∧ _
  rw [hz]
  have he : IsEnum ((s.heap.push o).push { cls := .type "enumerate", data := .fields #[.none, .bool false, .ref s.heap.objs.size, rawInt 0, .none, .none] }) (s.heap.objs.size + 1) s.heap.objs.size 0 .none := by
    have q := Heap.get?_push_size (s.heap.push o) (o := { cls := .type "enumerate", data := .fields #[.none, .bool false, .ref s.heap.objs.size, rawInt 0, .none, .none] }) rfl
    rw [hz] at q
    exact q
  exact ⟨⟨_, he, rfl⟩, h _ he (Heap.get?_push_of_some _ (Heap.get?_push_size _ B.free)) fun b u x => Heap.get?_push_of_some _ (Heap.get?_push_of_some _ x)⟩
end
def ItEt (K : PySem.W.Frag) (a : Addr) : It :=
  ⟨fun i H => ∃ (xs : List V) (x : V), SqT K H a xs ∧ xs[i]? = some x, fun i H v H' => ∃ T x, v = .ref T ∧ H T = none ∧ H' = upd H T (.tup [.int (i : Nat), x]) ∧ ∀ xs, SqT K H a xs → xs[i]? = some x, fun i H => ∃ xs : List V, SqT K H a xs ∧ xs.length = i⟩
theorem turn_enumT {P : Program} {w : World} {K : PySem.W.Frag} {elts : List Expr} {kk : Nat} {tpos : Pos} (a e it : Addr) :
    Turn P w K (.Tuple elts kk tpos) (ItEt K a) [e, it] e (fun i h => (∃ old, IsEnum h e it ((i : Nat) : Int) old) ∧ h.IsTupleIter it a i ∧ e ≠ it ∧ a ≠ it ∧ a ≠ e) where
  mem := by simp
  obj := fun i h st b hb => by
    obtain ⟨⟨old, he⟩, ⟨o, ho, hc, hd⟩, _⟩ := st
    rcases (by simpa using hb : b = e ∨ b = it) with z | z
    · rw [z]; exact ⟨_, he, fun v q => nomatch q⟩
    · rw [z]; exact ⟨o, ho, fun v q => by rw [hd] at q; cases q⟩
  keep := fun i h h' st k => by
    obtain ⟨⟨old, he⟩, hi, hne⟩ := st
    exact ⟨⟨old, k e (by simp) _ he⟩, hi.at fun o q => k it (by simp) o q, hne⟩
  item := by
    intro X hP hw hK hc i pins s σ H E I hf st hg
    subst hP hw hK
    obtain ⟨⟨old, he⟩, hit, hne, hai, hae⟩ := st
    obtain ⟨xs, x, hq, hx⟩ := hg
    obtain ⟨its, rv, p, hz⟩ := I.tuple hq
    obtain ⟨u, hu, ru⟩ := rv.get hx
    have hel : e < s.heap.objs.size := Heap.lt_size he
    have hil : it < s.heap.objs.size := by obtain ⟨_, q, _⟩ := hit; exact Heap.lt_size q
    have hlt : i < its.toArray.size := by
      rw [List.size_toArray]; exact (List.getElem?_eq_some_iff.mp hu).1
    have hh : X.A.in1.handled = none := I.ok.hd hc
    refine wpAny_pyNext_enum_itemD (Draws.tuple (prog := X.prog) (w := X.w) hh it a hai its.toArray) he ⟨hit, p⟩ hlt hne (by simp [hne, Ne.symm hae]) fun u' h' tk hP ho hst hT hsz hk => ?_
    have eu : u' = u := by
      have hP : its.toArray[i]? = some u' := hP
      rw [List.getElem?_toArray, hu] at hP
      exact (Option.some.inj hP).symm
    subst eu
    refine ⟨_, rfl, wpAny_letOwnedTupleGo_enum (s := { s with heap := h', toks := tk + 1 }) ho fun h'' he' sb => ?_⟩
    have hT2 : h''.get? s.heap.objs.size = some { cls := .type "tuple", data := .seq #[.int i tk, u'] } := (sb.2 _ (Nat.ne_of_gt hel)).trans hT
    have new : ObjOk X.prog X.w (upd H s.heap.objs.size (.tup [.int (i : Nat), x])) h'' s.heap.objs.size (.tup [.int (i : Nat), x]) :=
      ⟨(by show 2 ≤ sizeLine; decide), [.int i tk, u'], .cons ⟨_, rfl⟩ (.cons ru .nil), ⟨_, hT2, rfl, _, rfl⟩⟩
    have I1 : Inv X pins σ (upd H s.heap.objs.size (.tup [.int (i : Nat), x])) { s with heap := h'', toks := tk + 1 } :=
      I.turnedNew (ch := [e, it]) (fun b ob hb q => (sb.2 b (fun z => hb (by simp [z]))).trans (hk b ob (fun z => hb (by simp [z])) (fun z => hb (by simp [z])) q)) hf (Nat.le_refl _) new
    refine ⟨.ref s.heap.objs.size, _, I1, rfl, ⟨_, x, rfl, I.hok.fresh (Nat.le_refl _), rfl, fun ys hy => by rw [I.tuple_inj hy hq]; exact hx⟩, ⟨⟨u', ?_⟩, hst.1.at fun o q => (sb.2 it (Ne.symm hne)).trans q, hne, hai, hae⟩, fun b hb => ?_⟩
    · rw [show ((i + 1 : Nat) : Int) = (i : Int) + 1 by omega]
      exact he'
    · have hb' : b < s.heap.objs.size := by
        rcases (by simpa using hb : b = e ∨ b = it) with z | z
        · rw [z]; exact hel
        · rw [z]; exact hil
      rw [upd_ne (Nat.ne_of_lt hb')]
      exact (hf b hb).1
  done := by
    intro X hP hw hK hc i pins s σ H E I hf st hg
    subst hP hw hK
    obtain ⟨⟨old, he⟩, hit, hne, hai, hae⟩ := st
    obtain ⟨xs, hq, hx⟩ := hg
    obtain ⟨its, rv, p, hz⟩ := I.tuple hq
    have hh : X.A.in1.handled = none := I.ok.hd hc
    obtain ⟨f0, f1, f2, f3, f4, f5⟩ := hf it (by simp)
    have hn : its.toArray.size = i := by rw [List.size_toArray, ← rv.length]; exact hx
    exact wpAny_pyNext_enum_endD (Draws.tuple (prog := X.prog) (w := X.w) hh it a hai its.toArray) he ⟨by rw [hn]; exact hit, p⟩ fun h' eb => ⟨rfl, I.turned (t' := s.toks) (fun b o hb q => eb b o hb q) f0 f1 f3 f4 f5⟩
  self := fun A i s Q E st h => by
    obtain ⟨⟨_, he⟩, _⟩ := st
    exact wpAny_pyIter_enum he h
def iEnT (K : PySem.W.Frag) (ta : TA) : TI := fun σ H R => ta σ H fun vs H1 => ∃ a xs, vs = [.ref a] ∧ SqT K H1 a xs ∧ R (ItEt K a) H1
theorem pi_enumT {X : Cx} {e : Expr} {ta : TA} {p pos tpos : Pos} {elts : List Expr} {kk : Nat} (hg : Gl X "enumerate") (hm : X.mg "enumerate" = none) (ha : PA X [e] ta) (hs : starEach [e] X.env = [(false, eval e X.env)] := by rfl) :
    PI X (.Tuple elts kk tpos) (.Call (.Name "enumerate" p) [e] [] pos) (iEnT X.K ta) := by
  refine ⟨fun pins s σ H R I h => ?_⟩
  refine Call_ (ld_blt I hg hm boot_enumerate (PyProof.Rows.callWith_type1 (thn (ha.run pos pins s σ H _ I h) fun us s1 ⟨vs, H1, I1, r1, q1⟩ => ?_) hs rfl))
  obtain ⟨a, xs, ex, hq, q⟩ := q1
  subst ex
  cases r1 with
  | cons r rr =>
    cases rr
    cases r
    obtain ⟨its, rv, p', hz⟩ := I1.tuple hq
    refine enum1 (begins_tuple a its.toArray) p' fun h' he hit hk => wpAny_pyIter_enum he ?_
    have I2 : Inv X pins σ H1 { s1 with heap := h' } := I1.kept (t' := s1.toks) hk
    have hal : a < s1.heap.objs.size := by obtain ⟨_, q, _⟩ := p'; exact Heap.lt_size q
    refine ⟨s1.heap.objs.size + 1, [s1.heap.objs.size + 1, s1.heap.objs.size], _, _, H1, rfl, I2, turn_enumT a (s1.heap.objs.size + 1) s1.heap.objs.size, ⟨⟨.none, he⟩, ⟨_, hit, rfl, rfl⟩, Nat.succ_ne_self _, Nat.ne_of_lt hal, Nat.ne_of_lt (Nat.lt_succ_of_lt hal)⟩, fun b hb => ?_, q⟩
    have hle : s1.heap.objs.size ≤ b := by
      rcases (by simpa using hb : b = s1.heap.objs.size + 1 ∨ b = s1.heap.objs.size) with z | z
      · rw [z]; exact Nat.le_add_right _ _
      · rw [z]; exact Nat.le_refl _
    exact I1.fpOk hle (I1.hok.fresh hle)
theorem walk_enumT {K : PySem.W.Frag} {a : Addr} {xs : List V} : Walk (ItEt K a) xs.length (fun H => SqT K H a xs) (YPair (fun i => some (.int (i : Nat))) (fun i => xs[i]?)) :=
  ⟨fun i _ hi q => ⟨xs, xs[i], q, by simp [hi]⟩, fun _ q => ⟨xs, q, rfl⟩, fun i H v H' _ q ⟨T, x, e1, e2, e3, e4⟩ => ⟨T, _, x, e1, e2, e3, rfl, e4 xs q⟩⟩
end Toy

namespace Toy
open PySem PySem.Spec PyProof.Rows L2
/-! isinstance, by the names of the built-in types -/
def tyN (H : Hp) : V → Option String
  | .non => some "NoneType"
  | .bl _ => some "bool"
  | .int _ => some "int"
  | .str _ => some "str"
  | .ref a => match H a with
    | some (.lst _) => some "list"
    | some (.tup _) => some "tuple"
    | some (.dK _) => some "dict"
    | some (.dT _) => some "dict"
    | _ => none
  | _ => none
theorem tyN_x {K : PySem.W.Frag} {H : Hp} {v : V} {n : String} (h : tyN H v = some n) : TyX K H v (.type n) := by
  cases v with
  | non => cases h; exact .base .non
  | bl b => cases h; exact .base (.bl b)
  | int i => cases h; exact .base (.int i)
  | str z => cases h; exact .base (.str z)
  | ref a =>
    unfold tyN at h
    cases e : H a with
    | none => simp only [e] at h; cases h
    | some o =>
      cases o with
      | lst xs => simp only [e] at h; cases h; exact .base (.lst e)
      | tup xs => simp only [e] at h; cases h; exact .base (.tup e)
      | dK kvs => simp only [e] at h; cases h; exact .base (.dK e)
      | dT kvs => simp only [e] at h; cases h; exact .base (.dT e)
      | _ => simp only [e] at h; cases h
  | _ => cases h
theorem tyN_keep {H H' : Hp} {v : V} {n : String} (k : Same H H') (h : tyN H v = some n) : tyN H' v = some n := by
  cases v with
  | ref a =>
    cases e : H a with
    | none => unfold tyN at h; simp only [e] at h; cases h
    | some o => have e' := k a o e; unfold tyN at h ⊢; simp only [e, e'] at h ⊢; exact h
  | _ => exact h
section
variable {X : Cx}
def rIsN (T : String) : List V → Hp → VK → Prop := fun xs H Q => ∃ (x : V) (n : String) (b : Bool), xs = [x, .ty T] ∧ tyN H x = some n ∧ kitB n T = some b ∧ Q (.bl b) H
theorem call_isN {T : String} : CallR X (.builtin "isinstance") (rIsN T) := by
  intro pins s σ H xs us Q I r h
  obtain ⟨x, n, b, e, h1, h2, q⟩ := h
  exact call_isi pins s σ H xs us Q I r ⟨x, .ty T, _, _, b, e, .ty T, tyN_x h1, kit_ty h2, q⟩
/-- isinstance(x, (T, U)) -/
def rIsN2 (T U : String) : List V → Hp → VK → Prop := fun xs H Q => ∃ (x : V) (tp : Addr) (n : String) (b : Bool), xs = [x, .ref tp] ∧ H tp = some (.tup [.ty T, .ty U]) ∧ tyN H x = some n ∧ (n = T → b = true) ∧ (n = U → b = true) ∧
  ((∃ b1 b2, kitB n T = some b1 ∧ kitB n U = some b2 ∧ b = (b1 || b2)) ∧ Q (.bl b) H)
theorem call_isN2 {T U : String} : CallR X (.builtin "isinstance") (rIsN2 T U) := by
  intro pins s σ H xs us Q I r h
  obtain ⟨x, tp, n, b, e, ht, h1, _, _, ⟨b1, b2, k1, k2, eb⟩, q⟩ := h
  refine call_isiT pins s σ H xs us Q I r ⟨x, tp, _, _, [.type T, .type U], b, e, ht, .cons (.ty T) (.cons (.ty U) .nil), tyN_x h1, ?_, q⟩
  refine kitAny_cons (kit_ty k1) (fun z => kitAny_cons (kit_ty k2) (fun z2 => ?_) (fun z2 => ?_)) (fun z => ?_)
  · rw [eb, z, z2]; exact kitAny_nil
  · rw [eb, z, z2]; rfl
  · rw [eb, z]; rfl
/-! in: a list, a tuple, a dict -/
def rInDct : R2 := fun x y H Q => ∃ a o, y = .ref a ∧ DGet H a x o ∧ Q (.bl o.isSome) H
theorem op_in_dct (hu : X.A.units + 1 < cLine) : OpR X (compareOp .In) rInDct := by
  intro pins s σ H x y v u Q I rx ry h
  obtain ⟨a, o, rfl, g, q⟩ := h
  obtain rfl : u = Value.ref a := ry
  exact d_in hu I g rx fun s3 I3 => ⟨.bl o.isSome, H, I3, rfl, q⟩
theorem op_or {f : Value → Value → Sem Value} {r r' : R2} (h : OpR X f r) (h' : OpR X f r') : OpR X f (fun x y H Q => r x y H Q ∨ r' x y H Q) := by
  intro pins s σ H x y v u Q I rx ry q
  rcases q with q | q
  · exact h pins s σ H x y v u Q I rx ry q
  · exact h' pins s σ H x y v u Q I rx ry q
theorem call_or {f : Value} {r r' : List V → Hp → VK → Prop} (h : CallR X f r) (h' : CallR X f r') : CallR X f (fun xs H Q => r xs H Q ∨ r' xs H Q) := by
  intro pins s σ H xs us Q I rs q
  rcases q with q | q
  · exact h pins s σ H xs us Q I rs q
  · exact h' pins s σ H xs us Q I rs q
/-! ranges as values -/
theorem cr_rng1 : CallR X (.type "range") (fun vs H Q => ∃ j, vs = [V.int j] ∧ ∀ p, H p = none → Q (.ref p) (upd H p (.rng 0 j))) := by
  intro pins s σ H vs us Q I r h
  obtain ⟨j, rfl, q⟩ := h
  obtain ⟨u1, rfl, rj⟩ := vals1 r
  obtain ⟨t, rfl⟩ := rj
  refine call_range_1 ⟨.ref s.heap.objs.size, upd H s.heap.objs.size (.rng 0 j), I.laid (t' := s.toks + 1 + 1) (fun b o e => Heap.get?_push_of_some _ e) (Nat.le_refl _) ?_, rfl, q _ (I.hok.fresh (Nat.le_refl _))⟩
  exact ⟨_, _, _, Heap.get?_push_size _ rfl⟩
def iRngV (te : TE) : TI := fun σ H R => te σ H fun x H1 => ∃ (a : Addr) (lo hi : Int), x = .ref a ∧ H1 a = some (.rng lo hi) ∧ -(2 ^ 62) ≤ lo ∧ lo < 2 ^ 62 ∧ -(2 ^ 62) ≤ hi ∧ hi < 2 ^ 62 ∧ R (Itr lo (hi - lo).toNat) H1
theorem pi_rngV {tg e : Expr} {te : TE} (he : PE X e te) : PI X tg e (iRngV te) := by
  refine ⟨fun pins s σ H R I h => ?_⟩
  refine thn (he.run pins s σ H _ I h) fun v s1 ⟨x, H1, I1, rx, a, lo, hi, ex, ha, h1, h2, h3, h4, q⟩ => ?_
  subst ex
  obtain rfl : v = Value.ref a := rx
  obtain ⟨t, u, w', ho⟩ := I1.hok a _ ha
  have hn : Builtin.Range.rangeSize lo hi 1 = (((hi - lo).toNat : Nat) : Int) := by
    unfold Builtin.Range.rangeSize
    split <;> split <;> omega
  refine range_begins (n := (hi - lo).toNat) ho (small_one h1 h2 h3 h4) hn fun h' hit hsz hk => ?_
  have I2 : Inv X pins σ H1 { s1 with heap := h' } := I1.kept (t' := s1.toks) hk
  refine ⟨s1.heap.objs.size, [s1.heap.objs.size], _, _, H1, rfl, I2, turn_range _ lo (hi - lo).toNat, range_st hit, fun b hb => ?_, q⟩
  obtain rfl : b = s1.heap.objs.size := by simpa using hb
  exact I1.fpOk (Nat.le_refl _) (I1.hok.fresh (Nat.le_refl _))
/-! min of a list of data -/
def rMinD (K : PySem.W.Frag) : List V → Hp → VK → Prop := fun vs H Q => ∃ (a : Addr) (xs : List V) (d : PyData) (ds : List PyData), vs = [.ref a] ∧ SqL K H a xs ∧ DpAll K H xs (d :: ds) ∧ PySem.W.AlikeAll (d :: ds) ∧ PyData.depthAll (d :: ds) ≤ 60 ∧
  ∀ (i : Nat) v, xs[i]? = some v → (d :: ds)[i]? = some (PySem.W.minD d ds) → Q v H
theorem dp_at {K : PySem.W.Frag} {H : Hp} : ∀ {xs : List V} {ds : List PyData} {i : Nat} {v : V}, DpAll K H xs ds → xs[i]? = some v → ∃ d, ds[i]? = some d ∧ Dp K H v d
  | _, _, _, _, .nil, e => by simp at e
  | _, _, 0, _, .cons r _, e => by simp at e; subst e; exact ⟨_, rfl, r⟩
  | _, _, i + 1, x, .cons _ t, e => by
    obtain ⟨y, h1, h2⟩ := dp_at (i := i) (v := x) t (by simpa using e)
    exact ⟨y, by simpa using h1, h2⟩
theorem cr_minD (hc : X.calm = true) (hu : X.A.units + 64 < cLine) : CallR X (.builtin "min") (rMinD X.K) := by
  intro pins s σ H vs us Q I r h
  obtain ⟨a, xs, d, ds, rfl, hs, hd, al, hz, q⟩ := h
  obtain ⟨u, rfl, ru⟩ := vals1 r
  obtain rfl : u = Value.ref a := ru
  obtain ⟨its, rv, p, _⟩ := I.list hs
  obtain ⟨as, hr⟩ := Dp.readsAll I (d :: ds) xs its hd rv
  refine PySem.W.min_list_data (I.ok.hd hc) p.isList (by simpa using hr) al (by omega) fun i v h' tk bs hv hrd hk => ?_
  rw [List.getElem?_toArray] at hv
  obtain ⟨x, hx, rx⟩ := prd_at2 rv hv
  obtain ⟨e, he, de⟩ := dp_at hd hx
  obtain ⟨cs, hre⟩ := Dp.reads I e x v de rx
  have hre' : Reads h' v e cs := PySem.W.reads_keeps hk hre
  have eq1 := hrd.unique e cs hre'
  refine ⟨x, H, I.kept (t' := tk) hk, rx, q i x hx ?_⟩
  rw [he, eq1.1]
end
end Toy

namespace Toy
open PySem PySem.Spec PyProof.Rows L2
theorem tyN_mem {H : Hp} {v : V} {n : String} (h : tyN H v = some n) : n ∈ ["NoneType", "bool", "int", "str", "list", "tuple", "dict"] := by
  cases v with
  | ref a =>
    unfold tyN at h
    cases e : H a with
    | none => simp only [e] at h; cases h
    | some o => cases o <;> simp only [e] at h <;> cases h <;> simp
  | _ => cases h <;> simp
theorem kit7_all : ∀ n ∈ ["NoneType", "bool", "int", "str", "list", "tuple", "dict"], ∀ T ∈ ["bool", "int", "str", "list", "tuple", "dict"], kitB n T = some (n == T || (n == "bool" && T == "int")) := by
  decide +kernel
theorem kit7 {H : Hp} {v : V} {n T : String} (h : tyN H v = some n) (hT : T ∈ ["bool", "int", "str", "list", "tuple", "dict"]) : kitB n T = some (n == T || (n == "bool" && T == "int")) := kit7_all n (tyN_mem h) T hT
theorem tyN_int {H : Hp} {v : V} (h : tyN H v = some "int") : ∃ i, v = .int i := by
  cases v with
  | int i => exact ⟨i, rfl⟩
  | ref a =>
    unfold tyN at h
    cases e : H a with
    | none => simp only [e] at h; cases h
    | some o => cases o <;> simp only [e] at h <;> simp at h
  | _ => simp [tyN] at h
theorem tyN_str {H : Hp} {v : V} (h : tyN H v = some "str") : ∃ i, v = .str i := by
  cases v with
  | str i => exact ⟨i, rfl⟩
  | ref a =>
    unfold tyN at h
    cases e : H a with
    | none => simp only [e] at h; cases h
    | some o => cases o <;> simp only [e] at h <;> simp at h
  | _ => simp [tyN] at h
theorem tyN_tup {H : Hp} {v : V} (h : tyN H v = some "tuple") : ∃ a xs, v = .ref a ∧ H a = some (.tup xs) := by
  cases v with
  | ref a =>
    unfold tyN at h
    cases e : H a with
    | none => simp only [e] at h; cases h
    | some o =>
      cases o with
      | tup xs => exact ⟨a, xs, rfl, e⟩
      | _ => simp only [e] at h <;> simp at h
  | _ => simp [tyN] at h
def spIsInt : Sp := fun vs H Q _ => ∃ (v : V) (n : String), vs = [v] ∧ tyN H v = some n ∧ Q (.bl (n == "int")) H
theorem tyN_bl {H : Hp} {v : V} (h : tyN H v = some "bool") : ∃ i, v = .bl i := by
  cases v with
  | bl i => exact ⟨i, rfl⟩
  | ref a =>
    unfold tyN at h
    cases e : H a with
    | none => simp only [e] at h; cases h
    | some o => cases o <;> simp only [e] at h <;> simp at h
  | _ => simp [tyN] at h
def isI : V → Bool
  | .int _ => true
  | _ => false
def isNat : V → Bool
  | .int i => decide (0 ≤ i)
  | _ => false
def isBelow (m : Int) : V → Bool
  | .int i => decide (0 ≤ i ∧ i < m)
  | _ => false
theorem isI_n {H : Hp} {v : V} {n : String} (h : tyN H v = some n) : (n == "int") = isI v := by
  cases v with
  | ref a =>
    unfold tyN at h
    cases e : H a with
    | none => simp only [e] at h; cases h
    | some o => cases o <;> simp only [e] at h <;> cases h <;> rfl
  | _ => cases h <;> rfl
theorem isNat_no {v : V} (h : isI v = false) : isNat v = false := by cases v <;> first | rfl | cases h
theorem isBelow_no {m : Int} {v : V} (h : isNat v = false) : isBelow m v = false := by
  cases v with
  | int i =>
    have h : decide (0 ≤ i) = false := h
    have h := of_decide_eq_false h
    exact decide_eq_false fun z => h z.1
  | _ => rfl
/-- texts: 1 to 8 letters -/
def isNm : V → Bool
  | .str z => decide (1 ≤ z.length ∧ z.length ≤ 8 ∧ ∀ c ∈ z.cps.toList, 97 ≤ c ∧ c ≤ 122)
  | _ => false
theorem dec_int (a b : Int) : decide (V.int a = V.int b) = decide (a = b) := by
  by_cases e : a = b
  · subst e; simp
  · have h : ¬ V.int a = V.int b := fun q => e (by injection q)
    rw [decide_eq_false h, decide_eq_false e]
def spIsInteger : Sp := fun vs H Q _ => ∃ (v : V) (n : String), vs = [v] ∧ tyN H v = some n ∧ Q (.bl (isI v)) H
def spIsNatural : Sp := fun vs H Q _ => ∃ (v : V) (n : String), vs = [v] ∧ tyN H v = some n ∧ Q (.bl (isNat v)) H
def spIsBelow : Sp := fun vs H Q _ => ∃ (v : V) (n : String) (m : Int), vs = [v, .int m] ∧ tyN H v = some n ∧ Q (.bl (isBelow m v)) H
def spIsRow : Sp := fun vs H Q _ => ∃ (v : V) (n : String), vs = [v] ∧ tyN H v = some n ∧ ∀ H', Same H H' → Q (.bl (n == "list" || n == "tuple")) H'
def spIsPrice : Sp := fun vs H Q _ => ∃ (v : V) (n : String), vs = [v] ∧ tyN H v = some n ∧ Q (.bl (isBelow 10 v)) H
/-- a tuple of so many -/
def isTup (H : Hp) (m : Int) : V → Bool
  | .ref a => match H a with
    | some (.tup xs) => decide ((xs.length : Int) = m)
    | _ => false
  | _ => false
theorem isTup_no {H : Hp} {m : Int} {v : V} {n : String} (h : tyN H v = some n) (hn : (n == "tuple") = false) : isTup H m v = false := by
  cases v with
  | ref a =>
    unfold tyN at h; unfold isTup
    cases e : H a with
    | none => simp only [e]
    | some o => cases o <;> simp only [e] at h ⊢ <;> cases h <;> simp at hn
  | _ => rfl
def spIsTupleOf : Sp := fun vs H Q _ => ∃ (v : V) (n : String) (m : Int), vs = [v, .int m] ∧ tyN H v = some n ∧ Q (.bl (isTup H m v)) H
theorem abc_mem (c : Nat) : decide (c ∈ (Str.ofString "abcdefghijklmnopqrstuvwxyz").cps.toList) = decide (97 ≤ c ∧ c ≤ 122) := by
  have e : (Str.ofString "abcdefghijklmnopqrstuvwxyz").cps.toList = [97,98,99,100,101,102,103,104,105,106,107,108,109,110,111,112,113,114,115,116,117,118,119,120,121,122] := by decide +kernel
  rw [e]
  have h : (c ∈ [97,98,99,100,101,102,103,104,105,106,107,108,109,110,111,112,113,114,115,116,117,118,119,120,121,122]) ↔ (97 ≤ c ∧ c ≤ 122) := by
    simp only [List.mem_cons, List.not_mem_nil, or_false]
    omega
  exact decide_eq_decide.mpr h
/-- name in names: a tuple or list of texts, or a dict of texts -/
def spIsKnown : Sp := fun vs H Q _ => ∃ (z : Str) (v : V), vs = [.str z, v] ∧
  ((∃ (a : Addr) (zs : List Str), v = .ref a ∧ (H a = some (.tup (zs.map V.str)) ∨ H a = some (.lst (zs.map V.str))) ∧ Q (.bl (decide (z ∈ zs))) H) ∨ ∃ (a : Addr) (kvs : List (Key × V)), v = .ref a ∧ H a = some (.dK kvs) ∧ Q (.bl (valV kvs (.inr z : Key)).isSome) H)
def spIsName : Sp := fun vs H Q _ => ∃ (v : V) (n : String), vs = [v] ∧ tyN H v = some n ∧ (∀ z, v = .str z → z.length ≤ sizeLine) ∧ ∀ H', Same H H' → Q (.bl (isNm v)) H'
end Toy

namespace Toy
open PySem PySem.Spec PyProof.Rows L2
theorem nd_t {p : Prop} [Decidable p] (h : (!decide p) = true) : ¬ p := by simpa using h
theorem nd_f {p : Prop} [Decidable p] (h : ¬ (!decide p) = true) : p := by simpa using h
def rTupOf (K : PySem.W.Frag) : List V → Hp → VK → Prop := fun xs H Q => ∃ p ys, xs = [.ref p] ∧ ((SqL K H p ys ∧ ∀ l, H l = none → Q (.ref l) (upd H l (.tup ys))) ∨ (SqT K H p ys ∧ Q (.ref p) H))
def rListOf (K : PySem.W.Frag) : List V → Hp → VK → Prop := fun xs H Q => ∃ p ys, xs = [.ref p] ∧ (SqL K H p ys ∨ SqT K H p ys) ∧ ∀ l, H l = none → Q (.ref l) (upd H l (.lst ys))
def rLenSeq (K : PySem.W.Frag) : List V → Hp → VK → Prop := fun xs H Q => ∃ p ys, xs = [.ref p] ∧ (SqL K H p ys ∨ SqT K H p ys) ∧ Q (.int ys.length) H
def spIsMoves : Sp := fun vs H Q _ => ∃ (v : V) (rows : List (List Int)) (n top : Int), vs = [v] ∧ TupT IntT H v rows ∧ Square n top rows ∧ 1 ≤ n ∧ n ≤ 6 ∧ top ≤ 9 ∧ ∀ H', Same H H' → Q (.bl true) H'
def spIsPrices : Sp := fun vs H Q _ => ∃ (v : V) (row : List (Option Int)) (n top : Int), vs = [v, .int n] ∧ OptT H v row ∧ Prices n top row ∧ n ≤ 6 ∧ top ≤ 9 ∧ ∀ H', Same H H' → Q (.bl true) H'
def spIsRequests : Sp := fun vs H Q _ => ∃ (d : Addr) (kvs : List (Key × V)) (rs : List (Str × List (Option Int))) (n top : Int), vs = [.ref d, .int n] ∧ H d = some (.dK kvs) ∧ DctOf OptT H kvs rs ∧ (rs.map (·.1)).Nodup ∧ 1 ≤ rs.length ∧ rs.length ≤ 5 ∧ (∀ q ∈ rs, Prices n top q.2 ∧ Name 8 q.1) ∧ n ≤ 6 ∧ top ≤ 9 ∧ ∀ H', Same H H' → Q (.bl true) H'
theorem ty_tup {H : Hp} {a : Addr} {xs : List V} (h : H a = some (.tup xs)) : tyN H (.ref a) = some "tuple" := by unfold tyN; simp only [h]
theorem ty_dK {H : Hp} {a : Addr} {xs : List (Key × V)} (h : H a = some (.dK xs)) : tyN H (.ref a) = some "dict" := by unfold tyN; simp only [h]
theorem rep_snoc (n : Nat) : (List.replicate n true).map V.bl ++ [V.bl true] = (List.replicate (n + 1) true).map V.bl := by
  rw [List.replicate_succ', List.map_append]; rfl
theorem rep_all (n : Nat) : (List.replicate n true).all id = true := by
  rw [List.all_eq_true]; intro x hx; rw [List.eq_of_mem_replicate hx]; rfl
theorem map_at {α : Type} {f : α → V} {xs : List α} {i : Nat} {x : V} (h : (xs.map f)[i]? = some x) : ∃ y, xs[i]? = some y ∧ x = f y := by
  rw [List.getElem?_map] at h
  cases e : xs[i]? with
  | none => rw [e] at h; cases h
  | some y => rw [e] at h; exact ⟨y, rfl, (Option.some.inj h).symm⟩
theorem same_upd {H H' : Hp} {D : Addr} {o : HO} (k : Same H H') (n : H D = none) : Same H (upd H' D o) := fun b u e => by
  rw [upd_ne (ne_of_none e n)]; exact k b u e
theorem tup_isTup {H : Hp} {a : Addr} {xs : List V} {m : Int} (h : H a = some (.tup xs)) (e : (xs.length : Int) = m) : isTup H m (.ref a) = true := by
  unfold isTup; simp only [h]; exact decide_eq_true e
theorem below_int {i m : Int} (h : 0 ≤ i) (h2 : i < m) : isBelow m (.int i) = true := decide_eq_true ⟨h, h2⟩
theorem nm_of {z : Str} (h : Name 8 z) : isNm (.str z) = true := decide_eq_true ⟨h.lo, by have := h.hi; omega, h.low.c⟩
theorem small_pt {α : Type} {xs : List α} {n : Int} (h : (xs.length : Int) = n) (h2 : n ≤ 100) : xs.length < sizeLine := small1000 (by omega)
end Toy

/-! least ways in a matrix of prices: plain mathematics -/
namespace Toy
/-- ways are told backwards: the head is the end, the last one the start -/
def rc (R : Nat → Nat → Int) : List Nat → Int
  | [] => 0
  | [_] => 0
  | j :: p :: t => R p j + rc R (p :: t)
structure Way (n i j : Nat) (l : List Nat) : Prop where
  hd : l.head? = some j
  la : l.getLast? = some i
  lt : ∀ x ∈ l, x < n
structure Least (n : Nat) (R M : Nat → Nat → Int) : Prop where
  has : ∀ i j, i < n → j < n → ∃ l, Way n i j l ∧ rc R l = M i j
  le : ∀ i j l, i < n → j < n → Way n i j l → M i j ≤ rc R l
theorem Least.uniq {n : Nat} {R M M' : Nat → Nat → Int} (a : Least n R M) (b : Least n R M') {i j : Nat} (hi : i < n) (hj : j < n) : M i j = M' i j := by
  obtain ⟨l, w, e⟩ := a.has i j hi hj
  obtain ⟨l', w', e'⟩ := b.has i j hi hj
  have h1 := a.le i j l' hi hj w'
  have h2 := b.le i j l hi hj w
  omega
theorem rc_app (R : Nat → Nat → Int) (x : Nat) (c : List Nat) : ∀ a : List Nat, rc R (a ++ x :: c) = rc R (a ++ [x]) + rc R (x :: c)
  | [] => by simp [rc]
  | [y] => by simp [rc]
  | y :: z :: a => by
    have ih := rc_app R x c (z :: a)
    simp only [List.cons_append, rc] at ih ⊢
    omega
theorem rc_nn {R : Nat → Nat → Int} {n : Nat} (h : ∀ i j, i < n → j < n → 0 ≤ R i j) : ∀ l : List Nat, (∀ x ∈ l, x < n) → 0 ≤ rc R l
  | [], _ => Int.le_refl _
  | [_], _ => Int.le_refl _
  | j :: p :: t, hl => by
    have h1 := rc_nn h (p :: t) (fun x hx => hl x (List.mem_cons_of_mem _ hx))
    have h2 := h p j (hl p (by simp)) (hl j (by simp))
    simp only [rc]
    omega
/-! the triangle -/
structure Tri (n : Nat) (M : Nat → Nat → Int) (m : Nat) : Prop where
  z : ∀ i, i < n → M i i = 0
  nn : ∀ i j, i < n → j < n → 0 ≤ M i j
  tri : ∀ i j k, i < n → j < n → k < m → M i j ≤ M i k + M k j
def ph (M : Nat → Nat → Int) (m : Nat) : Nat → Nat → Int := fun i j => if M i m + M m j < M i j then M i m + M m j else M i j
theorem ph_le {M : Nat → Nat → Int} {m i j : Nat} : ph M m i j ≤ M i j ∧ ph M m i j ≤ M i m + M m j ∧ (ph M m i j = M i j ∨ ph M m i j = M i m + M m j) := by
  unfold ph; split <;> omega
theorem Tri.ph {n m : Nat} {M : Nat → Nat → Int} (t : Tri n M m) (hm : m < n) : Tri n (ph M m) (m + 1) := by
  refine ⟨fun i hi => ?_, fun i j hi hj => ?_, fun i j k hi hj hk => ?_⟩
  · have h := @ph_le M m i i
    have h0 := t.z i hi
    have h1 := t.nn i m hi hm
    have h2 := t.nn m i hm hi
    omega
  · have h := @ph_le M m i j
    have h0 := t.nn i j hi hj
    have h1 := t.nn i m hi hm
    have h2 := t.nn m j hm hj
    omega
  · have hij := @ph_le M m i j
    have hik := @ph_le M m i k
    have hkj := @ph_le M m k j
    have hz := t.z m hm
    have n1 := t.nn i m hi hm
    have n2 := t.nn m j hm hj
    by_cases e : k = m
    · subst e
      omega
    · have hk' : k < m := by omega
      have t1 := t.tri i j k hi hj hk'
      have t2 := t.tri m j k hm hj hk'
      have t3 := t.tri i m k hi hm hk'
      have t4 := t.tri m m k hm hm hk'
      omega
structure Snd (n : Nat) (R M : Nat → Nat → Int) : Prop where
  has : ∀ i j, i < n → j < n → ∃ l, Way n i j l ∧ rc R l = M i j
theorem way_cat {n i m j : Nat} {a b : List Nat} {R : Nat → Nat → Int} (w : Way n i m a) (u : Way n m j b) : ∃ l, Way n i j l ∧ rc R l = rc R a + rc R b := by
  obtain ⟨a', rfl⟩ : ∃ a', a = m :: a' := by
    cases a with
    | nil => cases w.hd
    | cons x t => have := w.hd; simp at this; subst this; exact ⟨t, rfl⟩
  obtain ⟨b', rfl⟩ : ∃ b', b = b' ++ [m] := by
    have hb := u.la
    exact ⟨b.dropLast, by
      have hne : b ≠ [] := by rintro rfl; cases hb
      have := List.dropLast_concat_getLast hne
      rw [List.getLast?_eq_some_getLast hne] at hb
      rw [← Option.some.inj hb]
      exact this.symm⟩
  refine ⟨b' ++ m :: a', ⟨?_, ?_, ?_⟩, ?_⟩
  · have := u.hd
    cases b' with
    | nil => simpa using this
    | cons x t => simpa using this
  · rw [List.getLast?_append]
    have := w.la
    rw [this]; rfl
  · intro x hx
    rcases List.mem_append.mp hx with q | q
    · exact u.lt x (List.mem_append.mpr (.inl q))
    · exact w.lt x q
  · rw [rc_app]; omega
theorem Snd.ph {n m : Nat} {R M : Nat → Nat → Int} (s : Snd n R M) (hm : m < n) : Snd n R (ph M m) := by
  refine ⟨fun i j hi hj => ?_⟩
  rcases (@ph_le M m i j).2.2 with e | e
  · rw [e]; exact s.has i j hi hj
  · rw [e]
    obtain ⟨a, w, ea⟩ := s.has i m hi hm
    obtain ⟨b, u, eb⟩ := s.has m j hm hj
    obtain ⟨l, wl, el⟩ := way_cat (R := R) w u
    exact ⟨l, wl, by omega⟩
theorem Least.of {n : Nat} {R M : Nat → Nat → Int} (t : Tri n M n) (s : Snd n R M) (h : ∀ i j, i < n → j < n → M i j ≤ R i j) : Least n R M := by
  refine ⟨s.has, ?_⟩
  intro i j l hi hj w
  have key : ∀ l : List Nat, ∀ j, Way n i j l → M i j ≤ rc R l := by
    intro l
    induction l with
    | nil => intro j w; cases w.hd
    | cons x t' ih =>
      intro j w
      have hx : x = j := by have := w.hd; simpa using this
      subst hx
      cases t' with
      | nil =>
        have : x = i := by have := w.la; simpa using this
        subst this
        rw [t.z x hi]
        exact Int.le_refl _
      | cons p t'' =>
        have hp := w.lt p (by simp)
        have hx := w.lt x (by simp)
        have w2 : Way n i p (p :: t'') := ⟨rfl, by have := w.la; rw [List.getLast?_cons_cons] at this; exact this, fun y hy => w.lt y (List.mem_cons_of_mem _ hy)⟩
        have h1 := ih p w2
        have h2 := t.tri i x p hi hx hp
        have h3 := h p x hp hx
        simp only [rc]
        omega
  exact key l j w
/-! short ways do -/
theorem pigeon : ∀ (n : Nat) (l : List Nat), (∀ x ∈ l, x < n) → l.Nodup → l.length ≤ n
  | 0, l, h, _ => by
    cases l with
    | nil => exact Nat.le_refl _
    | cons x t => exact absurd (h x (by simp)) (by omega)
  | n + 1, l, h, nd => by
    have h1 : (l.erase n).length ≤ n := pigeon n (l.erase n) (fun x hx => by
      have hx' := (List.Nodup.mem_erase_iff nd).mp hx
      have := h x hx'.2
      have := hx'.1
      omega) (nd.erase n)
    by_cases e : n ∈ l
    · have := List.length_erase_of_mem e
      have := List.length_pos_of_mem e
      omega
    · rw [List.erase_of_not_mem e] at h1
      omega
theorem dup : ∀ l : List Nat, ¬ l.Nodup → ∃ a x b c, l = a ++ x :: (b ++ x :: c)
  | [], h => absurd List.nodup_nil h
  | x :: t, h => by
    by_cases e : x ∈ t
    · obtain ⟨b, c, rfl⟩ := List.append_of_mem e
      exact ⟨[], x, b, c, rfl⟩
    · have : ¬ t.Nodup := fun q => h (List.nodup_cons.mpr ⟨e, q⟩)
      obtain ⟨a, y, b, c, rfl⟩ := dup t this
      exact ⟨x :: a, y, b, c, rfl⟩
theorem short {n : Nat} {R : Nat → Nat → Int} (h : ∀ i j, i < n → j < n → 0 ≤ R i j) {i j : Nat} : ∀ (k : Nat) (l : List Nat), l.length ≤ k → Way n i j l → ∃ l', Way n i j l' ∧ l'.length ≤ n ∧ rc R l' ≤ rc R l
  | 0, l, hk, w => by
    cases l with
    | nil => cases w.hd
    | cons x t => simp at hk
  | k + 1, l, hk, w => by
    by_cases hn : l.length ≤ n
    · exact ⟨l, w, hn, Int.le_refl _⟩
    · have hd : ¬ l.Nodup := fun q => hn (pigeon n l w.lt q)
      obtain ⟨a, x, b, c, rfl⟩ := dup l hd
      have w' : Way n i j (a ++ x :: c) := by
        refine ⟨?_, ?_, ?_⟩
        · have := w.hd
          cases a <;> simpa using this
        · have hl := w.la
          rw [List.getLast?_append] at hl ⊢
          have e : (x :: (b ++ x :: c)).getLast? = (x :: c).getLast? := by
            rw [show x :: (b ++ x :: c) = (x :: b) ++ x :: c from rfl, List.getLast?_append]
            cases hq : (x :: c).getLast? with
            | none => simp at hq
            | some y => rfl
          rw [e] at hl; exact hl
        · intro y hy
          refine w.lt y ?_
          simp only [List.mem_append, List.mem_cons] at hy ⊢
          rcases hy with q | q | q
          · exact .inl q
          · exact .inr (.inl q)
          · exact .inr (.inr (.inr (.inr q)))
      have hlen : (a ++ x :: c).length ≤ k := by
        simp only [List.length_append, List.length_cons] at hk ⊢
        omega
      obtain ⟨l', wl, el, rl⟩ := short h k _ hlen w'
      refine ⟨l', wl, el, Int.le_trans rl ?_⟩
      have e1 := rc_app R x c a
      have e2 := rc_app R x (b ++ x :: c) a
      have e3 := rc_app R x c (x :: b)
      rw [show (x :: b) ++ x :: c = x :: (b ++ x :: c) from rfl] at e3
      have e4 : 0 ≤ rc R ((x :: b) ++ [x]) := rc_nn h _ fun y hy => w.lt y (by
        simp only [List.mem_append, List.mem_cons, List.not_mem_nil, or_false] at hy ⊢
        rcases hy with (q | q) | q
        · exact .inr (.inl q)
        · exact .inr (.inr (.inl q))
        · exact .inr (.inl q))
      omega
/-- products with R, again and again -/
structure Bound (n k : Nat) (R L : Nat → Nat → Int) : Prop where
  b : ∀ i j l, i < n → j < n → Way n i j l → l.length ≤ k → L i j ≤ rc R l
theorem Least.prod {n k : Nat} {R L : Nat → Nat → Int} (h : ∀ i j, i < n → j < n → 0 ≤ R i j) (s : Snd n R L) (b : Bound n k R L) (hk : n ≤ k) : Least n R L := by
  refine ⟨s.has, fun i j l hi hj w => ?_⟩
  obtain ⟨l', w', e, r⟩ := short h l.length l (Nat.le_refl _) w
  exact Int.le_trans (b.b i j l' hi hj w' (by omega)) r
theorem Bound.step {n k : Nat} {R L L' : Nat → Nat → Int} (b : Bound n k R L) (z : ∀ i, i < n → R i i = 0) (hk : 1 ≤ k) (h : ∀ i j c, i < n → j < n → c < n → L' i j ≤ L i c + R c j) : Bound n (k + 1) R L' := by
  refine ⟨fun i j l hi hj w hl => ?_⟩
  cases l with
  | nil => cases w.hd
  | cons x t =>
    have hx : x = j := by have := w.hd; simpa using this
    subst hx
    cases t with
    | nil =>
      have h1 := h i x x hi hj hj
      have h2 := b.b i x [x] hi hj w (by simpa using hk)
      rw [z x hj] at h1
      simp only [rc] at h2 ⊢
      omega
    | cons p t =>
      have hp := w.lt p (by simp)
      have w2 : Way n i p (p :: t) := ⟨rfl, by have := w.la; rw [List.getLast?_cons_cons] at this; exact this, fun y hy => w.lt y (List.mem_cons_of_mem _ hy)⟩
      have h1 := h i x p hi hj hp
      have h2 := b.b i p (p :: t) hi hp w2 (by simp only [List.length_cons] at hl ⊢; omega)
      simp only [rc]
      omega
theorem Bound.two {n : Nat} {R : Nat → Nat → Int} (z : ∀ i, i < n → R i i = 0) : Bound n 2 R R := by
  refine ⟨fun i j l hi hj w hl => ?_⟩
  match l, w, hl with
  | [], w, _ => cases w.hd
  | [x], w, _ =>
    have h1 : x = j := by have := w.hd; simpa using this
    have h2 : x = i := by have := w.la; simpa using this
    subst h1; subst h2
    rw [z x hi]; exact Int.le_refl _
  | [x, y], w, _ =>
    have h1 : x = j := by have := w.hd; simpa using this
    have h2 : y = i := by have := w.la; simpa using this
    subst h1; subst h2
    simp only [rc]; exact Int.le_of_eq (by omega)
  | _ :: _ :: _ :: _, _, hl => simp at hl
theorem Snd.self {n : Nat} {R : Nat → Nat → Int} : Snd n R R :=
  ⟨fun i j hi hj => ⟨[j, i], ⟨rfl, rfl, by intro x hx; simp at hx; rcases hx with rfl | rfl <;> assumption⟩, by simp [rc]⟩⟩
theorem Snd.step {n : Nat} {R L L' : Nat → Nat → Int} (s : Snd n R L) (h : ∀ i j, i < n → j < n → ∃ c, c < n ∧ L' i j = L i c + R c j) : Snd n R L' := by
  refine ⟨fun i j hi hj => ?_⟩
  obtain ⟨c, hc, e⟩ := h i j hi hj
  obtain ⟨a, w, ea⟩ := s.has i c hi hc
  obtain ⟨b, u, eb⟩ := (Snd.self (R := R)).has c j hc hj
  obtain ⟨l, wl, el⟩ := way_cat (R := R) w u
  exact ⟨l, wl, by omega⟩
end Toy

namespace Toy
open PySem PySem.Spec PyProof.Rows L2
def mat (rows : List (List Int)) (i j : Nat) : Int := (rows.getD i []).getD j 0
def rowV (n : Nat) (f : Nat → Int) : List V := (List.range n).map fun j => V.int (f j)
theorem rowV_len (n : Nat) (f : Nat → Int) : (rowV n f).length = n := by unfold rowV; rw [List.length_map, List.length_range]
theorem rowV_at {n : Nat} {f : Nat → Int} {j : Nat} (h : j < n) : (rowV n f)[j]? = some (.int (f j)) := by
  unfold rowV; rw [List.getElem?_map, List.getElem?_range h]; rfl
theorem rowV_set {n : Nat} {f : Nat → Int} {e : Nat} {v : Int} : (rowV n f).set e (.int v) = rowV n fun j => if j = e then v else f j := by
  apply List.ext_getElem?
  intro j
  rw [List.getElem?_set]
  by_cases hj : j < n
  · rw [rowV_at hj, rowV_at hj, rowV_len]
    by_cases he : e = j
    · subst he; simp [hj]
    · have he' : ¬ j = e := fun q => he q.symm
      simp [he, he']
  · have h1 : (rowV n f)[j]? = none := List.getElem?_eq_none (by rw [rowV_len]; omega)
    have h2 : (rowV n fun j => if j = e then v else f j)[j]? = none := List.getElem?_eq_none (by rw [rowV_len]; omega)
    rw [h1, h2, rowV_len]
    by_cases he : e = j
    · subst he; simp [hj]
    · simp [he]
theorem rowV_of {n : Nat} {r : List Int} (h : r.length = n) : r.map V.int = rowV n fun j => r.getD j 0 := by
  apply List.ext_getElem?
  intro j
  by_cases hj : j < n
  · rw [rowV_at hj, List.getElem?_map, List.getElem?_eq_getElem (by omega)]
    rw [List.getD_eq_getElem?_getD, List.getElem?_eq_getElem (by omega)]
    rfl
  · rw [List.getElem?_eq_none (l := r.map V.int) (by rw [List.length_map]; omega), List.getElem?_eq_none (l := rowV n _) (by rw [rowV_len]; omega)]
theorem rowV_ints (n : Nat) (f : Nat → Int) : rowV n f = ((List.range n).map f).map V.int := by
  unfold rowV; rw [List.map_map]; rfl
/-- a matrix that is written: a list of lists -/
structure MatAt (H : Hp) (w : Addr) (as : List Addr) (n : Nat) (M : Nat → Nat → Int) : Prop where
  ws : H w = some (.lst (as.map V.ref))
  len : as.length = n
  nd : as.Nodup
  nw : w ∉ as
  row : ∀ (i : Nat) a, as[i]? = some a → H a = some (.lst (rowV n (M i)))
theorem MatAt.ext {H : Hp} {w : Addr} {as : List Addr} {n : Nat} {M M' : Nat → Nat → Int} (m : MatAt H w as n M) (h : ∀ i j, i < n → j < n → M i j = M' i j) : MatAt H w as n M' :=
  ⟨m.ws, m.len, m.nd, m.nw, fun i a e => by
    have hi : i < n := by rw [← m.len]; exact (List.getElem?_eq_some_iff.mp e).1
    rw [m.row i a e]
    congr 2
    unfold rowV
    apply List.map_congr_left
    intro j hj
    rw [h i j hi (List.mem_range.mp hj)]⟩
theorem MatAt.set {H : Hp} {w : Addr} {as : List Addr} {n : Nat} {M : Nat → Nat → Int} (m : MatAt H w as n M) {s e : Nat} {a : Addr} {v : Int} (hs : as[s]? = some a) :
    MatAt (upd H a (.lst (rowV n fun j => if j = e then v else M s j))) w as n (fun i j => if i = s ∧ j = e then v else M i j) := by
  have haw : w ≠ a := fun q => m.nw (by rw [q]; exact List.mem_of_getElem? hs)
  refine ⟨(upd_ne haw).trans m.ws, m.len, m.nd, m.nw, fun i b hb => ?_⟩
  by_cases hi : i = s
  · subst hi
    rw [hs] at hb
    obtain rfl := Option.some.inj hb
    rw [upd_same]
    simp
  · have hab : b ≠ a := by
      intro q
      subst q
      exact hi (nd_ix m.nd hb hs)
    rw [upd_ne hab, m.row i b hb]
    simp [hi]
structure Ways (n : Int) (rows ws : List (List Int)) : Prop where
  len : (ws.length : Int) = n
  row : ∀ r ∈ ws, (r.length : Int) = n
  least : Least n.toNat (mat rows) (mat ws)
def spLeastWays : Sp := fun vs H Q _ => ∃ (v : V) (rows : List (List Int)) (n top : Int), vs = [v] ∧ TupT IntT H v rows ∧ Square n top rows ∧ 1 ≤ n ∧ n ≤ 100 ∧
  ∀ v' ws H', Same H H' → TupT IntT H' v' ws → Ways n rows ws → Q v' H'
theorem mat_at {rows : List (List Int)} {i : Nat} {r : List Int} (h : rows[i]? = some r) (j : Nat) : mat rows i j = r.getD j 0 := by
  unfold mat
  have e : rows.getD i [] = r := by rw [List.getD_eq_getElem?_getD, h]; rfl
  rw [e]
theorem Square.nn {n top : Int} {rows : List (List Int)} (S : Square n top rows) : ∀ i j, i < n.toNat → j < n.toNat → 0 ≤ mat rows i j := by
  intro i j hi hj
  have hl := S.len
  have hr : rows[i]? = some rows[i] := List.getElem?_eq_getElem (by omega)
  rw [mat_at hr]
  have hm := S.row rows[i] (List.mem_of_getElem? hr)
  rw [List.getD_eq_getElem?_getD, List.getElem?_eq_getElem (by omega)]
  exact (hm.2 _ (List.getElem_mem _)).1
theorem Square.z {n top : Int} {rows : List (List Int)} (S : Square n top rows) : ∀ i, i < n.toNat → mat rows i i = 0 := by
  intro i hi
  have hl := S.len
  have hr : rows[i]? = some rows[i] := List.getElem?_eq_getElem (by omega)
  rw [mat_at hr, List.getD_eq_getElem?_getD, S.diag i _ hr]
  rfl
end Toy

namespace Toy
open PySem PySem.Spec PyProof.Rows L2
/-- a System's attributes -/
def sfs (mv : V) (n : Int) (nv wv : V) (q : Addr) : List (Str × V) := putF "_requests" (.ref q) (putF "ways" wv (putF "names" nv (putF "posts" (.int n) (putF "moves" mv []))))
section
variable {mv nv wv : V} {n : Int} {q : Addr}
theorem sfs_requests : (sfs mv n nv wv q).lookup ("_requests" : Str) = some (.ref q) := by unfold sfs; rw [lookup_putF, if_pos rfl]
theorem sfs_ways : (sfs mv n nv wv q).lookup ("ways" : Str) = some wv := by unfold sfs; rw [lookup_putF, if_neg (by decide +kernel), lookup_putF, if_pos rfl]
theorem sfs_names : (sfs mv n nv wv q).lookup ("names" : Str) = some nv := by unfold sfs; rw [lookup_putF, if_neg (by decide +kernel), lookup_putF, if_neg (by decide +kernel), lookup_putF, if_pos rfl]
theorem sfs_posts : (sfs mv n nv wv q).lookup ("posts" : Str) = some (.int n) := by unfold sfs; rw [lookup_putF, if_neg (by decide +kernel), lookup_putF, if_neg (by decide +kernel), lookup_putF, if_neg (by decide +kernel), lookup_putF, if_pos rfl]
theorem sfs_moves : (sfs mv n nv wv q).lookup ("moves" : Str) = some mv := by unfold sfs; rw [lookup_putF, if_neg (by decide +kernel), lookup_putF, if_neg (by decide +kernel), lookup_putF, if_neg (by decide +kernel), lookup_putF, if_neg (by decide +kernel), lookup_putF, if_pos rfl]
theorem sfs_no {m : Str} (h1 : ¬ m = "_requests") (h2 : ¬ m = "ways") (h3 : ¬ m = "names") (h4 : ¬ m = "posts") (h5 : ¬ m = "moves") : (sfs mv n nv wv q).lookup m = none := by
  unfold sfs; rw [lookup_putF, if_neg h1, lookup_putF, if_neg h2, lookup_putF, if_neg h3, lookup_putF, if_neg h4, lookup_putF, if_neg h5]; rfl
end
theorem putF_len (f : Str) (v : V) : ∀ fs : List (Str × V), (putF f v fs).length ≤ fs.length + 1
  | [] => Nat.le_refl _
  | (g, u) :: r => by
    have ih := putF_len f v r
    unfold putF
    split
    · simp
    · simp only [List.length_cons]; omega
theorem dct_keys {α : Type} {R : Hp → V → α → Prop} {H : Hp} : ∀ {kvs : List (Key × V)} {rs : List (Str × α)}, DctOf R H kvs rs → kvs.map (·.1) = (rs.map (·.1)).map Sum.inr
  | _, _, .nil => rfl
  | kv :: kvs, p :: rs, .cons r t => by
    have ih := dct_keys t
    simp only [List.map_cons] at ih ⊢
    rw [ih, r.1]
def pick {α : Type} (rs : List (Str × α)) (z : Str) (x : α) : Prop := (z, x) ∈ rs
/-- the pairs in another order of their keys -/
theorem reorder {α : Type} [Inhabited α] : ∀ {rs : List (Str × α)} {ys : List Str}, (rs.map (·.1)).Nodup → ys.Perm (rs.map (·.1)) → ∃ rs' : List (Str × α), rs'.map (·.1) = ys ∧ rs'.Perm rs := by
  intro rs ys nd hp
  let f : Str → Str × α := fun z => (z, ((rs.find? fun p => decide (p.1 = z)).map (·.2)).getD default)
  have hf : ∀ (l : List (Str × α)), (∀ p ∈ l, p ∈ rs) → (l.map (·.1)).map f = l := by
    intro l hl
    rw [List.map_map]
    conv => rhs; rw [← List.map_id l]
    apply List.map_congr_left
    intro p hpm
    have hpr := hl p hpm
    show f p.1 = p
    have key : ∀ (l : List (Str × α)), (l.map (·.1)).Nodup → p ∈ l → (l.find? fun q => decide (q.1 = p.1)) = some p := by
      intro l
      induction l with
      | nil => intro _ h; cases h
      | cons q t ih =>
        intro nd hm
        rw [List.map_cons] at nd
        obtain ⟨n1, n2⟩ := List.nodup_cons.mp nd
        rcases List.mem_cons.mp hm with e | hm
        · subst e; rw [List.find?_cons, decide_eq_true rfl]
        · have : ¬ q.1 = p.1 := fun e => n1 (by rw [e]; exact List.mem_map.mpr ⟨p, hm, rfl⟩)
          rw [List.find?_cons, decide_eq_false this]
          exact ih n2 hm
    show (p.1, ((rs.find? fun q => decide (q.1 = p.1)).map (·.2)).getD default) = p
    rw [key rs nd hpr]
    rfl
  refine ⟨ys.map f, ?_, ?_⟩
  · rw [List.map_map]
    conv => rhs; rw [← List.map_id ys]
    apply List.map_congr_left
    intro z _
    rfl
  · have h1 := hp.map f
    rw [hf rs fun p h => h] at h1
    exact h1
theorem keep4 {H : Hp} {p l t : Addr} {a b c d : HO} (nl : H l = none) (nt : H t = none) : Keep p H (upd (upd (upd (upd H p a) l b) t c) p d) := fun x o n e => by
  rw [upd_ne n, upd_ne (ne_of_none e nt), upd_ne (ne_of_none e nl), upd_ne n]; exact e
theorem take_nmem {α : Type} {xs : List α} (nd : xs.Nodup) {i : Nat} {x : α} (h : xs[i]? = some x) : ¬ x ∈ xs.take i := by
  intro m
  obtain ⟨j, hj, ej⟩ := List.getElem_of_mem m
  rw [List.getElem_take] at ej
  rw [List.length_take] at hj
  have h2 := (List.getElem?_eq_some_iff.mp h).2
  have := (List.getElem_inj nd).mp (ej.trans h2.symm)
  omega
theorem sortedS_perm_nd {ys zs : List Str} (h : ys.Perm zs) (nd : zs.Nodup) : ys.Nodup := h.nodup_iff.mpr nd
/-- what a System is made of -/
structure Sys where
  n : Int
  rows : List (List Int)
  ws : List (List Int)
  rs : List (Str × List (Option Int))
structure SysOk (S : Sys) : Prop where
  n1 : 1 ≤ S.n
  n6 : S.n ≤ 6
  sq : Square S.n 9 S.rows
  wy : Ways S.n S.rows S.ws
  nd : (S.rs.map (·.1)).Nodup
  srt : sortedS (S.rs.map (·.1)) = true
  r1 : 1 ≤ S.rs.length
  r5 : S.rs.length ≤ 5
  pr : ∀ q ∈ S.rs, Prices S.n 9 q.2 ∧ Name 8 q.1
structure SysAt (C : Addr) (H : Hp) (p : Addr) (S : Sys) : Prop where
  ex : ∃ (dx : Addr) (mv : V) (na : Addr) (wv : V) (q : Addr) (kvs : List (Key × V)), H p = some (.ins C dx (sfs mv S.n (.ref na) wv q)) ∧ TupT IntT H mv S.rows ∧ H na = some (.tup ((S.rs.map (·.1)).map V.str)) ∧ TupT IntT H wv S.ws ∧ H q = some (.dK kvs) ∧ DctOf OptT H kvs S.rs
theorem SysAt.same {C : Addr} {H H' : Hp} {p : Addr} {S : Sys} (A : SysAt C H p S) (k : Same H H') : SysAt C H' p S := by
  obtain ⟨dx, mv, na, wv, q, kvs, h1, h2, h3, h4, h5, h6⟩ := A.ex
  exact ⟨dx, mv, na, wv, q, kvs, k _ _ h1, TupT.firm IntT.firm H H' _ _ (same_tups k) h2, k _ _ h3, TupT.firm IntT.firm H H' _ _ (same_tups k) h4, k _ _ h5, h6.firm OptT.firm (same_tups k)⟩
def spSystem (C : Addr) : Sp := fun vs H Q _ => ∃ (p dx : Addr) (mv : V) (d : Addr) (rows : List (List Int)) (kvs : List (Key × V)) (rs : List (Str × List (Option Int))) (n : Int), vs = [.ref p, mv, .ref d] ∧ H p = some (.ins C dx []) ∧
  TupT IntT H mv rows ∧ Square n 9 rows ∧ 1 ≤ n ∧ n ≤ 6 ∧ H d = some (.dK kvs) ∧ DctOf OptT H kvs rs ∧ (rs.map (·.1)).Nodup ∧ 1 ≤ rs.length ∧ rs.length ≤ 5 ∧ (∀ q ∈ rs, Prices n 9 q.2 ∧ Name 8 q.1) ∧
  ∀ (S : Sys) (H' : Hp), SysOk S → S.n = n → S.rows = rows → S.rs.Perm rs → SysAt C H' p S → (∀ b o, b ≠ p → H b = some o → H' b = some o) → Q .non H'
end Toy

namespace Toy
open PySem PySem.Spec PyProof.Rows L2
/-! a comprehension within another one -/
def fake (fr : List Str) : Scope := { kind := .function, names := fr.map fun x => (x, NameKind.free), isGenerator := false, isCoroutine := false }
def AllF (sc : Scope) : List Str → Prop
  | [] => True
  | x :: t => (sc.names.lookup x = some .cell ∨ sc.names.lookup x = some .free) ∧ AllF sc t
theorem allF_mem {sc : Scope} {x : Str} : ∀ {fr : List Str}, AllF sc fr → x ∈ fr → sc.names.lookup x = some .cell ∨ sc.names.lookup x = some .free
  | y :: t, h, m => by
    rcases List.mem_cons.mp m with e | m
    · rw [e]; exact h.1
    · exact allF_mem h.2 m
theorem blkOk_fr {N : List Str} {sc scope : Scope} {own : List (Str × Nat)} (fr : List Str) (h : blkC N (fake fr) scope own = true) (hf : AllF sc fr) : BlkOk N sc scope own := by
  have b := blkOk_by h
  refine ⟨b.kind, b.uniq, b.ix, fun y hy e => ?_, b.own⟩
  refine allF_mem hf ?_
  have q : ∀ k, (fake fr).names.lookup y.1 = some k → y.1 ∈ fr := fun k q => by
    have m := PySem.mem_of_lookup q
    obtain ⟨x, hx, e⟩ := List.mem_map.mp m
    cases e
    exact hx
  rcases b.free y hy e with z | z
  · exact q _ z
  · exact q _ z
theorem tup_mul1 (l : Addr) (items : Array Value) (n : Nat) (dd : Option Addr) (sl : Array (Option Value)) (u : Tok) :
    Meets (Builtin.«tuple.__mul__» ⟨[.ref l, .int 1 u], []⟩) (fun _ R s => s.heap.get? l = some { cls := .type "tuple", dict := dd, data := .seq items n, slots := sl } ∧ R (.ok (.ret (Value.ref l))) s) :=
  .of_wp fun prog w A R s h => by
    obtain ⟨hp, g, d, tk, os⟩ := s
    obtain ⟨hl, h⟩ := h
    have f1 := AutoSeq1.idx_int
    have c0 : (decide ((1 : Int) < -(2 ^ 63)) || decide ((1 : Int) ≥ 2 ^ 63)) = false := by decide
    have c1 : (items.isEmpty || (1 : Int) == 1) = true := by simp
    wp_walk using AutoSeq1.wpAny_loadPart' hl
    exact ⟨_, rfl, h⟩
section
variable {X : Cx}
def rRep1 (K : PySem.W.Frag) : R2 := fun x y H Q => ∃ l xs, x = .ref l ∧ y = .int 1 ∧ SqT K H l xs ∧ Q (.ref l) H
theorem op_rep1 : OpR X (binaryOp .Mult) (rRep1 X.K) := by
  intro pins s σ H x y v u Q I rx ry h
  obtain ⟨l, xs, rfl, rfl, hT, q⟩ := h
  cases rx
  obtain ⟨t, rfl⟩ := ry
  obtain ⟨its, r, ⟨⟨cls, dd, data, sl⟩, ho, hc, n, hd⟩, hs⟩ := I.tuple hT
  simp only at hc hd
  subst hc hd
  exact wpAny_binaryOp_repeat_ref (T := "tuple") (U := "int") (by decide) ⟨_, ho, rfl⟩ (fun s' => typeIs_int s' 1 t) noFill_tuple_mul F.fills_int_mul F.slot_int_rmul repeat_tuple F.slot_int_index.lookup
    (call_meets F.slot_int_rmul (typeIs_int s 1 t) F.entry_int_rmul (F.args_int_rmul_2 _ _) (int_rmul_tuple 1 t l its.toArray n dd sl)
      ⟨ho, rfl, ⟨_, ho, rfl⟩, call_meets F.slot_tuple_mul ⟨_, ho, rfl⟩ F.entry_tuple_mul (F.args_tuple_mul_2 _ _) (tup_mul1 l its.toArray n dd sl t) ⟨ho, .ref l, H, I, rfl, q⟩⟩)
theorem pi_or {tg iter : Expr} {w1 w2 : TI} (h1 : PI X tg iter w1) (h2 : PI X tg iter w2) : PI X tg iter (fun σ H R => w1 σ H R ∨ w2 σ H R) := by
  refine ⟨fun pins s σ H R I q => ?_⟩
  rcases q with q | q
  · exact h1.run pins s σ H R I q
  · exact h2.run pins s σ H R I q
end
end Toy

namespace Toy
open PySem PySem.Spec PyProof.Rows L2
/-! least of a list -/
def minL : List Int → Int
  | [] => 0
  | x :: xs => xs.foldl (fun a y => if y < a then y else a) x
theorem fold_le (xs : List Int) : ∀ x : Int, xs.foldl (fun a y => if y < a then y else a) x ≤ x ∧ (∀ y ∈ xs, xs.foldl (fun a y => if y < a then y else a) x ≤ y) ∧ (xs.foldl (fun a y => if y < a then y else a) x = x ∨ xs.foldl (fun a y => if y < a then y else a) x ∈ xs) := by
  induction xs with
  | nil => intro x; exact ⟨Int.le_refl _, by simp, .inl rfl⟩
  | cons z t ih =>
    intro x
    rw [List.foldl_cons]
    obtain ⟨h1, h2, h3⟩ := ih (if z < x then z else x)
    have hz : (if z < x then z else x) ≤ z ∧ (if z < x then z else x) ≤ x := by split <;> omega
    refine ⟨by omega, fun y hy => ?_, ?_⟩
    · rcases List.mem_cons.mp hy with e | hy
      · subst e; omega
      · exact h2 y hy
    · rcases h3 with e | e
      · rw [e]
        split
        · exact .inr List.mem_cons_self
        · exact .inl rfl
      · exact .inr (List.mem_cons_of_mem _ e)
theorem minL_le {l : List Int} {y : Int} (h : y ∈ l) : minL l ≤ y := by
  cases l with
  | nil => cases h
  | cons x xs =>
    obtain ⟨h1, h2, h3⟩ := fold_le xs x
    rcases List.mem_cons.mp h with e | h
    · subst e; exact h1
    · exact h2 y h
theorem minL_mem {l : List Int} (h : l ≠ []) : minL l ∈ l := by
  cases l with
  | nil => exact absurd rfl h
  | cons x xs =>
    obtain ⟨h1, h2, h3⟩ := fold_le xs x
    rcases h3 with e | e
    · show xs.foldl _ x ∈ x :: xs
      rw [e]; exact List.mem_cons_self
    · exact List.mem_cons_of_mem _ e
theorem minL_eq {l : List Int} {m : Int} (h : m ∈ l) (h2 : ∀ y ∈ l, m ≤ y) : minL l = m := by
  have a := minL_le h
  have b := h2 _ (minL_mem (fun e => by rw [e] at h; cases h))
  omega
def chF (ws : List (List Int)) (row : List (Option Int)) (ah : List Int) (s p : Nat) : Option (Int × Int) := match row.getD p none with
  | some c => some (mat ws s p + c + ah.getD p 0, (p : Int))
  | none => none
theorem chF_none {ws : List (List Int)} {row : List (Option Int)} {ah : List Int} {s p : Nat} (h : row.getD p none = none) : chF ws row ah s p = none := by unfold chF; rw [h]
theorem chF_some {ws : List (List Int)} {row : List (Option Int)} {ah : List Int} {s p : Nat} {c : Int} (h : row.getD p none = some c) : chF ws row ah s p = some (mat ws s p + c + ah.getD p 0, (p : Int)) := by unfold chF; rw [h]
/-- where one can go, and what it costs with what is ahead -/
def chs (n : Nat) (ws : List (List Int)) (row : List (Option Int)) (ah : List Int) (s : Nat) : List (Int × Int) :=
  (List.range n).filterMap (chF ws row ah s)
def ceil (n : Nat) (ws : List (List Int)) (row : List (Option Int)) (ah : List Int) : List Int := (List.range n).map fun s => minL ((chs n ws row ah s).map (·.1))
def val (n : Nat) (ws : List (List Int)) : List (List (Option Int)) → List Int
  | [] => List.replicate n 0
  | r :: t => ceil n ws r (val n ws t)
theorem ceil_len {n : Nat} {ws : List (List Int)} {row : List (Option Int)} {ah : List Int} : (ceil n ws row ah).length = n := by unfold ceil; rw [List.length_map, List.length_range]
theorem val_len {n : Nat} {ws : List (List Int)} : ∀ t, (val n ws t).length = n
  | [] => List.length_replicate
  | _ :: _ => ceil_len
theorem chs_mem {n : Nat} {ws : List (List Int)} {row : List (Option Int)} {ah : List Int} {s : Nat} {q : Int × Int} : q ∈ chs n ws row ah s ↔ ∃ p c, p < n ∧ row.getD p none = some c ∧ q = (mat ws s p + c + ah.getD p 0, (p : Int)) := by
  unfold chs
  rw [List.mem_filterMap]
  constructor
  · rintro ⟨p, hp, e⟩
    cases hc : row.getD p none with
    | none => rw [chF_none hc] at e; cases e
    | some c => rw [chF_some hc] at e; exact ⟨p, c, List.mem_range.mp hp, hc, (Option.some.inj e).symm⟩
  · rintro ⟨p, c, hp, hc, e⟩
    exact ⟨p, List.mem_range.mpr hp, by rw [chF_some hc, e]⟩
theorem chs_ne {n : Int} {top : Int} {ws : List (List Int)} {row : List (Option Int)} {ah : List Int} {s : Nat} (h : Prices n top row) : chs n.toNat ws row ah s ≠ [] := by
  obtain ⟨x, hx⟩ := h.some
  obtain ⟨p, hp⟩ := List.mem_iff_getElem?.mp hx
  have hl := (List.getElem?_eq_some_iff.mp hp).1
  have := h.len
  refine List.ne_nil_of_mem (chs_mem.mpr ⟨p, x, by omega, ?_, rfl⟩)
  rw [List.getD_eq_getElem?_getD, hp]; rfl
theorem chs_none {n : Nat} {ws : List (List Int)} {row : List (Option Int)} {ah : List Int} {s : Nat} (h : row.getD n none = none) : chs (n + 1) ws row ah s = chs n ws row ah s := by
  unfold chs
  rw [List.range_succ, List.filterMap_append, List.filterMap_cons, chF_none h, List.filterMap_nil, List.append_nil]
theorem chs_some {n : Nat} {ws : List (List Int)} {row : List (Option Int)} {ah : List Int} {s : Nat} {c : Int} (h : row.getD n none = some c) : chs (n + 1) ws row ah s = chs n ws row ah s ++ [(mat ws s n + c + ah.getD n 0, (n : Int))] := by
  unfold chs
  rw [List.range_succ, List.filterMap_append, List.filterMap_cons, chF_some h, List.filterMap_nil]
theorem chs_len (n : Nat) (ws : List (List Int)) (row : List (Option Int)) (ah : List Int) (s : Nat) : (chs n ws row ah s).length ≤ n := by
  unfold chs
  exact Nat.le_trans (List.length_filterMap_le _ _) (Nat.le_of_eq List.length_range)
theorem getDat {α : Type} {xs : List α} {i : Nat} (d : α) (h : i < xs.length) : xs[i]? = some (xs.getD i d) := by
  rw [List.getD_eq_getElem?_getD, List.getElem?_eq_getElem h]; rfl
/-- a pair of two ints -/
def PrT (H : Hp) (v : V) (p : Int × Int) : Prop := IntT H v [p.1, p.2]
theorem PrT.firm : Firm PrT := fun H H' v p k h => IntT.firm H H' v _ k h
def pd (p : Int × Int) : PyData := .tuple [.int p.1, .int p.2]
theorem dp_pairs {K : PySem.W.Frag} {H : Hp} : ∀ {vs : List V} {ps : List (Int × Int)}, Paired (PrT H) vs ps → DpAll K H vs (ps.map pd)
  | _, _, .nil => .nil
  | _, _, .cons r t => by
    obtain ⟨a, rfl, ha⟩ := r
    exact .cons (.tup (SqT.of ha) (.cons (.int _) (.cons (.int _) .nil))) (dp_pairs t)
theorem alike_pairs (ps : List (Int × Int)) : PySem.W.AlikeAll (ps.map pd) := by
  refine ⟨fun x hx y hy => ?_, fun x hx => ?_⟩
  · obtain ⟨p, _, rfl⟩ := List.mem_map.mp hx
    obtain ⟨q, _, rfl⟩ := List.mem_map.mp hy
    simp [pd, PySem.W.alike, PySem.W.alikeAll]
  · obtain ⟨p, _, rfl⟩ := List.mem_map.mp hx
    intro h; cases h
theorem depth_pairs : ∀ ps : List (Int × Int), PyData.depthAll (ps.map pd) ≤ 60
  | [] => by simp [PyData.depthAll]
  | p :: ps => by
    have := depth_pairs ps
    simp only [List.map_cons, PyData.depthAll, pd, PyData.depth]
    omega
/-- less, for pairs -/
def ltP (p q : Int × Int) : Prop := p.1 < q.1 ∨ (p.1 = q.1 ∧ p.2 < q.2)
theorem minD_pairs (ps : List (Int × Int)) : ∀ p, ∃ q, PySem.W.minD (pd p) (ps.map pd) = pd q ∧ q ∈ p :: ps ∧ ∀ r ∈ p :: ps, q.1 ≤ r.1 := by
  induction ps with
  | nil => intro p; exact ⟨p, rfl, List.mem_cons_self, fun r hr => by rw [List.mem_singleton.mp hr]; exact Int.le_refl _⟩
  | cons z t ih =>
    intro p
    have e : PySem.W.minD (pd p) ((z :: t).map pd) = PySem.W.minD (if PySem.W.dataLt (pd z) (pd p) then pd z else pd p) (t.map pd) := rfl
    have el : PySem.W.dataLt (pd z) (pd p) = decide (z.1 < p.1 ∨ (z.1 = p.1 ∧ z.2 < p.2)) := PySem.W.dataLt_ii _ _ _ _
    rw [e, el]
    by_cases h : z.1 < p.1 ∨ (z.1 = p.1 ∧ z.2 < p.2)
    · rw [decide_eq_true h, if_pos rfl]
      obtain ⟨q, h1, h2, h3⟩ := ih z
      refine ⟨q, h1, List.mem_cons_of_mem _ h2, fun r hr => ?_⟩
      rcases List.mem_cons.mp hr with e | hr
      · subst e
        have := h3 z List.mem_cons_self
        omega
      · exact h3 r hr
    · rw [decide_eq_false h, if_neg (by simp)]
      obtain ⟨q, h1, h2, h3⟩ := ih p
      refine ⟨q, h1, ?_, fun r hr => ?_⟩
      · rcases List.mem_cons.mp h2 with e | h2
        · rw [e]; exact List.mem_cons_self
        · exact List.mem_cons_of_mem _ (List.mem_cons_of_mem _ h2)
      · rcases List.mem_cons.mp hr with e | hr
        · subst e; exact h3 _ List.mem_cons_self
        · rcases List.mem_cons.mp hr with e | hr
          · subst e
            have := h3 p List.mem_cons_self
            omega
          · exact h3 r (List.mem_cons_of_mem _ hr)
/-- the reading of min of such a list -/
theorem min_pairs {K : PySem.W.Frag} {H : Hp} {l : Addr} {us : List V} {ps : List (Int × Int)} {Q : VK} (hl : H l = some (.lst us)) (hp : Paired (PrT H) us ps) (hne : ps ≠ [])
    (h : ∀ v q, PrT H v q → q ∈ ps → q.1 = minL (ps.map (·.1)) → Q v H) : rMinD K [.ref l] H Q := by
  cases ps with
  | nil => exact absurd rfl hne
  | cons p ps =>
    refine ⟨l, us, pd p, ps.map pd, rfl, SqL.of hl, dp_pairs hp, alike_pairs (p :: ps), depth_pairs (p :: ps), fun i v hv hd => ?_⟩
    obtain ⟨q, e, hq, hmin⟩ := minD_pairs ps p
    rw [e] at hd
    obtain ⟨q', hq', hv'⟩ := prd_at1 hp hv
    have : ((p :: ps).map pd)[i]? = some (pd q) := hd
    rw [List.getElem?_map, hq'] at this
    have eq1 : pd q' = pd q := Option.some.inj this
    have eq2 : q' = q := by
      unfold pd at eq1
      injection eq1 with a
      injection a with b c
      injection b with b
      injection c with c _
      injection c with c
      exact Prod.ext b c
    subst eq2
    refine h v q' hv' hq (minL_eq (List.mem_map.mpr ⟨q', hq, rfl⟩) ?_).symm
    intro y hy
    obtain ⟨r, hr, rfl⟩ := List.mem_map.mp hy
    exact hmin r hr
/-! promises -/
def spPricesM (C : Addr) : Sp := fun vs H Q _ => ∃ (p : Addr) (S : Sys) (z : Str) (row : List (Option Int)), vs = [.ref p, .str z] ∧ SysOk S ∧ SysAt C H p S ∧ (z, row) ∈ S.rs ∧ ∀ v, OptT H v row → Q v H
def RowAt (H : Hp) (v : V) (zs : List Str) : Prop := ∃ a, v = .ref a ∧ (H a = some (.tup (zs.map V.str)) ∨ H a = some (.lst (zs.map V.str)))
def spCheckRow (C : Addr) : Sp := fun vs H Q _ => ∃ (p : Addr) (S : Sys) (v : V) (zs : List Str), vs = [.ref p, v] ∧ SysOk S ∧ SysAt C H p S ∧ RowAt H v zs ∧ (∀ z ∈ zs, z ∈ S.rs.map (·.1)) ∧ ∀ H', Same H H' → Q .non H'
def spChoices (C : Addr) : Sp := fun vs H Q _ => ∃ (p : Addr) (S : Sys) (z : Str) (row : List (Option Int)) (s : Nat) (v : V) (ah : List Int), vs = [.ref p, .int s, .str z, v] ∧ SysOk S ∧ SysAt C H p S ∧ (z, row) ∈ S.rs ∧ (s : Int) < S.n ∧ IntT H v ah ∧ (ah.length : Int) = S.n ∧
  ∀ l us H', Same H H' → H' l = some (.lst us) → Paired (PrT H') us (chs S.n.toNat S.ws row ah s) → Q (.ref l) H'
def spCeilings (C : Addr) : Sp := fun vs H Q _ => ∃ (p : Addr) (S : Sys) (z : Str) (row : List (Option Int)) (v : V) (ah : List Int), vs = [.ref p, .str z, v] ∧ SysOk S ∧ SysAt C H p S ∧ (z, row) ∈ S.rs ∧ IntT H v ah ∧ (ah.length : Int) = S.n ∧
  ∀ v' H', Same H H' → IntT H' v' (ceil S.n.toNat S.ws row ah) → Q v' H'
end Toy

namespace Toy
open PySem PySem.Spec PyProof.Rows L2
/-- a service of some rows: where one went, what it cost, where one stands -/
inductive Run (n : Nat) (ws : List (List Int)) : List (List (Option Int)) → List Nat → Int → Nat → Prop
  | nil : Run n ws [] [] 0 0
  | snoc {rs : List (List (Option Int))} {ps : List Nat} {c : Int} {a : Nat} {r : List (Option Int)} {p : Nat} {k : Int} : Run n ws rs ps c a → p < n → r.getD p none = some k → Run n ws (rs ++ [r]) (ps ++ [p]) (c + mat ws a p + k) p
theorem Run.lt {n : Nat} (hn : 0 < n) {ws : List (List Int)} {rs : List (List (Option Int))} {ps : List Nat} {c : Int} {a : Nat} (h : Run n ws rs ps c a) : a < n := by
  cases h with
  | nil => exact hn
  | snoc _ hp _ => exact hp
theorem Run.len {n : Nat} {ws : List (List Int)} {rs : List (List (Option Int))} {ps : List Nat} {c : Int} {a : Nat} (h : Run n ws rs ps c a) : ps.length = rs.length := by
  induction h with
  | nil => rfl
  | snoc _ _ _ ih => simp [ih]
theorem Run.fn {n : Nat} {ws : List (List Int)} {rs : List (List (Option Int))} {ps : List Nat} {c : Int} {a : Nat} (h : Run n ws rs ps c a) : ∀ {c' : Int} {a' : Nat}, Run n ws rs ps c' a' → c = c' ∧ a = a' := by
  induction h with
  | nil =>
    intro c' a' h'
    generalize e1 : ([] : List (List (Option Int))) = rs at h'
    generalize e2 : ([] : List Nat) = ps at h'
    cases h' with
    | nil => exact ⟨rfl, rfl⟩
    | snoc _ _ _ => simp at e1
  | @snoc rs ps c a r p k _ hp hk ih =>
    intro c' a' h'
    generalize e1 : rs ++ [r] = rs' at h'
    generalize e2 : ps ++ [p] = ps' at h'
    cases h' with
    | nil => simp at e1
    | @snoc rs₂ ps₂ c₂ a₂ r₂ p₂ k₂ h2 hp2 hk2 =>
      obtain ⟨q1, q2⟩ := List.append_inj' e1 rfl
      obtain ⟨q3, q4⟩ := List.append_inj' e2 rfl
      subst q1; subst q3
      obtain rfl : r = r₂ := by simpa using q2
      obtain rfl : p = a' := by simpa using q4
      obtain ⟨rfl, rfl⟩ := ih h2
      rw [hk] at hk2
      obtain rfl := Option.some.inj hk2
      exact ⟨rfl, rfl⟩
theorem Run.congr {n : Nat} (hn : 0 < n) {ws ws' : List (List Int)} (e : ∀ i j, i < n → j < n → mat ws i j = mat ws' i j) {rs : List (List (Option Int))} {ps : List Nat} {c : Int} {a : Nat} (h : Run n ws rs ps c a) : Run n ws' rs ps c a := by
  induction h with
  | nil => exact .nil
  | snoc h0 hp hk ih =>
    rw [e _ _ (h0.lt hn) hp]
    exact .snoc ih hp hk
/-- the last step -/
theorem Run.inv {n : Nat} {ws : List (List Int)} {rs : List (List (Option Int))} {r : List (Option Int)} {ps' : List Nat} {c : Int} {a : Nat} (h : Run n ws (rs ++ [r]) ps' c a) : ∃ ps c0 a0 k, ps' = ps ++ [a] ∧ Run n ws rs ps c0 a0 ∧ a < n ∧ r.getD a none = some k ∧ c = c0 + mat ws a0 a + k := by
  generalize e1 : rs ++ [r] = rs' at h
  cases h with
  | nil => simp at e1
  | @snoc rs₂ ps₂ c₂ a₂ r₂ p₂ k₂ h2 hp2 hk2 =>
    obtain ⟨q1, q2⟩ := List.append_inj' e1 rfl
    subst q1
    obtain rfl : r = r₂ := by simpa using q2
    exact ⟨ps₂, c₂, a₂, k₂, rfl, h2, hp2, hk2, rfl⟩
theorem Run.take {n : Nat} {ws : List (List Int)} {rs : List (List (Option Int))} {ps : List Nat} {c : Int} {a : Nat} (h : Run n ws rs ps c a) : ∀ k, ∃ c' a', Run n ws (rs.take k) (ps.take k) c' a' := by
  induction h with
  | nil => intro k; exact ⟨0, 0, by simpa using Run.nil⟩
  | @snoc rs ps c a r p k' h0 hp hk ih =>
    intro k
    have hl := h0.len
    by_cases hk2 : k ≤ rs.length
    · rw [List.take_append_of_le_length hk2, List.take_append_of_le_length (by omega)]
      exact ih k
    · rw [List.take_of_length_le (by simp; omega), List.take_of_length_le (by simp; omega)]
      exact ⟨_, _, .snoc h0 hp hk⟩
theorem ceil_at {n : Nat} {ws : List (List Int)} {row : List (Option Int)} {ah : List Int} {s : Nat} (h : s < n) : (ceil n ws row ah).getD s 0 = minL ((chs n ws row ah s).map (·.1)) := by
  unfold ceil
  rw [List.getD_eq_getElem?_getD, List.getElem?_map, List.getElem?_range h]
  rfl
theorem ceil_le {n : Nat} {ws : List (List Int)} {row : List (Option Int)} {ah : List Int} {s p : Nat} {k : Int} (h : s < n) (hp : p < n) (hk : row.getD p none = some k) : (ceil n ws row ah).getD s 0 ≤ mat ws s p + k + ah.getD p 0 := by
  rw [ceil_at h]
  exact minL_le (List.mem_map.mpr ⟨_, chs_mem.mpr ⟨p, k, hp, hk, rfl⟩, rfl⟩)
/-- no service is cheaper -/
theorem Run.low {n : Nat} (hn : 0 < n) {ws : List (List Int)} {rs : List (List (Option Int))} {ps : List Nat} {c : Int} {a : Nat} (h : Run n ws rs ps c a) : ∀ rest, (val n ws (rs ++ rest)).getD 0 0 ≤ c + (val n ws rest).getD a 0 := by
  induction h with
  | nil => intro rest; simp
  | @snoc rs ps c a r p k h0 hp hk ih =>
    intro rest
    have h1 := ih (r :: rest)
    rw [List.append_assoc]
    have h2 := ceil_le (ws := ws) (ah := val n ws rest) (h0.lt hn) hp hk
    have h3 : (val n ws (r :: rest)).getD a 0 = (ceil n ws r (val n ws rest)).getD a 0 := rfl
    rw [h3] at h1
    have h4 : rs ++ r :: rest = rs ++ ([r] ++ rest) := rfl
    rw [h4] at h1
    omega
theorem val_nil {n : Nat} {ws : List (List Int)} {a : Nat} : (val n ws []).getD a 0 = 0 := by
  unfold val
  rw [List.getD_eq_getElem?_getD, List.getElem?_replicate]
  split <;> rfl
theorem Run.ge {n : Nat} (hn : 0 < n) {ws : List (List Int)} {rs : List (List (Option Int))} {ps : List Nat} {c : Int} {a : Nat} (h : Run n ws rs ps c a) : (val n ws rs).getD 0 0 ≤ c := by
  have := h.low hn []
  rw [List.append_nil, val_nil] at this
  omega
def vals (n : Nat) (ws : List (List Int)) : List (List (Option Int)) → List (List Int)
  | [] => [val n ws []]
  | r :: t => val n ws (r :: t) :: vals n ws t
theorem vals_len {n : Nat} {ws : List (List Int)} : ∀ rs, (vals n ws rs).length = rs.length + 1
  | [] => rfl
  | _ :: t => by simp [vals, vals_len t]
theorem vals_at {n : Nat} {ws : List (List Int)} : ∀ (rs : List (List (Option Int))) (i : Nat), i ≤ rs.length → (vals n ws rs)[i]? = some (val n ws (rs.drop i))
  | [], 0, _ => rfl
  | r :: t, 0, _ => rfl
  | r :: t, i + 1, h => by
    have := vals_at (n := n) (ws := ws) t i (by simpa using h)
    simpa [vals] using this
  | [], i + 1, h => by simp at h
/-- the rows of the names -/
def RowsOf (S : Sys) (zs : List Str) (rs : List (List (Option Int))) : Prop := Paired (fun z r => (z, r) ∈ S.rs) zs rs
theorem prd_rev {α β : Type} {F : α → β → Prop} {xs : List α} {ys : List β} (h : Paired F xs ys) : Paired F xs.reverse ys.reverse := by
  induction h with
  | nil => exact .nil
  | cons r _ ih =>
    rw [List.reverse_cons, List.reverse_cons]
    exact Paired.snoc ih r
def spFloor (C : Addr) : Sp := fun vs H Q _ => ∃ (p : Addr) (S : Sys) (v : V) (zs : List Str) (rs : List (List (Option Int))), vs = [.ref p, v] ∧ SysOk S ∧ SysAt C H p S ∧ RowAt H v zs ∧ RowsOf S zs rs ∧ zs.length ≤ 900 ∧
  ∀ l ts H', Same H H' → H l = none → H' l = some (.lst ts) → Paired (IntT H') ts (vals S.n.toNat S.ws rs) → Q (.ref l) H'
def spWisest (C : Addr) : Sp := fun vs H Q _ => ∃ (p : Addr) (S : Sys) (v : V) (zs : List Str) (rs : List (List (Option Int))), vs = [.ref p, v] ∧ SysOk S ∧ SysAt C H p S ∧ RowAt H v zs ∧ RowsOf S zs rs ∧ zs.length ≤ 900 ∧
  ∀ (t t2 : Addr) (ps : List Nat) (c : Int) (a : Nat) (H' : Hp), Same H H' → H' t = some (.tup [.int c, .ref t2]) → H' t2 = some (.tup ((ps.map fun x => ((x : Nat) : Int)).map V.int)) → Run S.n.toNat S.ws rs ps c a → c = (val S.n.toNat S.ws rs).getD 0 0 → Q (.ref t) H'
theorem walk_revT {K : PySem.W.Frag} {a : Addr} {xs : List V} : Walk (RT.ItvT K a xs.length) xs.length (fun H => SqT K H a xs) (fun i H x H' => H' = H ∧ xs[xs.length - 1 - i]? = some x) :=
  ⟨fun i _ hi q => ⟨hi, xs, xs[xs.length - 1 - i]'(by omega), q, by simp [show xs.length - 1 - i < xs.length by omega]⟩, fun _ _ => Nat.le_refl _, fun _ _ _ _ _ q y => ⟨y.1, y.2 xs q⟩⟩
/-- a list of lists of ints that is read -/
structure LM (H : Hp) (L : Addr) (n : Nat) (M : Nat → Nat → Int) : Prop where
  ex : ∃ as : List Addr, H L = some (.lst (as.map V.ref)) ∧ as.length = n ∧ ∀ (i : Nat) a, as[i]? = some a → H a = some (.lst (rowV n (M i)))
theorem LM.same {H H' : Hp} {L : Addr} {n : Nat} {M : Nat → Nat → Int} (m : LM H L n M) (k : Same H H') : LM H' L n M := by
  obtain ⟨as, h1, h2, h3⟩ := m.ex
  exact ⟨as, k _ _ h1, h2, fun i a e => k _ _ (h3 i a e)⟩
def spLawWays : Sp := fun vs H Q _ => ∃ (v : V) (rows : List (List Int)) (n top : Int), vs = [v] ∧ TupT IntT H v rows ∧ Square n top rows ∧ 1 ≤ n ∧ n ≤ 100 ∧
  ∀ L M H', Same H H' → LM H' L n.toNat M → Least n.toNat (mat rows) M → Q (.ref L) H'
def prodM (n : Nat) (M R : Nat → Nat → Int) : Nat → Nat → Int := fun i j => minL ((List.range n).map fun c => M i c + R c j)
theorem prodM_le {n : Nat} {M R : Nat → Nat → Int} {i j c : Nat} (h : c < n) : prodM n M R i j ≤ M i c + R c j := minL_le (List.mem_map.mpr ⟨c, List.mem_range.mpr h, rfl⟩)
theorem prodM_has {n : Nat} {M R : Nat → Nat → Int} {i j : Nat} (h : 0 < n) : ∃ c, c < n ∧ prodM n M R i j = M i c + R c j := by
  have hne : (List.range n).map (fun c => M i c + R c j) ≠ [] := by
    intro e
    have := congrArg List.length e
    rw [List.length_map, List.length_range] at this
    simp at this
    omega
  obtain ⟨c, hc, e⟩ := List.mem_map.mp (minL_mem hne)
  exact ⟨c, List.mem_range.mp hc, e.symm⟩
/-- the requests of a dict, in rows -/
structure ReqAt (H : Hp) (d : Addr) (n : Int) (rs0 : List (Str × List (Option Int))) : Prop where
  ex : ∃ kvs, H d = some (.dK kvs) ∧ DctOf OptT H kvs rs0
  nd : (rs0.map (·.1)).Nodup
  pr : ∀ q ∈ rs0, Prices n 9 q.2
theorem ReqAt.same {H H' : Hp} {d : Addr} {n : Int} {rs0 : List (Str × List (Option Int))} (r : ReqAt H d n rs0) (k : Same H H') : ReqAt H' d n rs0 := by
  obtain ⟨kvs, h1, h2⟩ := r.ex
  exact ⟨⟨kvs, k _ _ h1, h2.firm OptT.firm (same_tups k)⟩, r.nd, r.pr⟩
theorem ReqAt.get {H : Hp} {d : Addr} {n : Int} {rs0 : List (Str × List (Option Int))} (r : ReqAt H d n rs0) {z : Str} {row : List (Option Int)} (h : (z, row) ∈ rs0) : ∃ a, DGet H d (.str z) (some (.ref a)) ∧ H a = some (.tup (row.map vO)) := by
  obtain ⟨kvs, h1, h2⟩ := r.ex
  obtain ⟨v, hv, a, rfl, ha⟩ := dct_some h2 r.nd h
  exact ⟨a, by rw [← hv]; exact DGet.k (k := Sum.inr z) h1, ha⟩
/-- all services one request longer -/
def extF (M : Nat → Nat → Int) (r : List (Option Int)) (q : Int × Int) (p : Nat) : Option (Int × Int) := match r.getD p none with
  | some k => some (q.1 + M q.2.toNat p + k, (p : Int))
  | none => none
theorem extF_none {M : Nat → Nat → Int} {r : List (Option Int)} {q : Int × Int} {p : Nat} (h : r.getD p none = none) : extF M r q p = none := by unfold extF; rw [h]
theorem extF_some {M : Nat → Nat → Int} {r : List (Option Int)} {q : Int × Int} {p : Nat} {k : Int} (h : r.getD p none = some k) : extF M r q p = some (q.1 + M q.2.toNat p + k, (p : Int)) := by unfold extF; rw [h]
def ext1 (n : Nat) (M : Nat → Nat → Int) (r : List (Option Int)) (q : Int × Int) : List (Int × Int) := (List.range n).filterMap (extF M r q)
def extA (n : Nat) (M : Nat → Nat → Int) (r : List (Option Int)) (fs : List (Int × Int)) : List (Int × Int) := fs.flatMap (ext1 n M r)
theorem ext1_len (n : Nat) (M : Nat → Nat → Int) (r : List (Option Int)) (q : Int × Int) : (ext1 n M r q).length ≤ n := by
  unfold ext1
  exact Nat.le_trans (List.length_filterMap_le _ _) (Nat.le_of_eq List.length_range)
theorem extA_len (n : Nat) (M : Nat → Nat → Int) (r : List (Option Int)) : ∀ fs : List (Int × Int), (extA n M r fs).length ≤ fs.length * n
  | [] => by simp [extA]
  | q :: fs => by
    have h1 := extA_len n M r fs
    have h2 := ext1_len n M r q
    unfold extA at h1 ⊢
    rw [List.flatMap_cons, List.length_append, List.length_cons, Nat.add_mul, Nat.one_mul]
    omega
theorem extA_app (n : Nat) (M : Nat → Nat → Int) (r : List (Option Int)) (fs : List (Int × Int)) (q : Int × Int) : extA n M r (fs ++ [q]) = extA n M r fs ++ ext1 n M r q := by
  unfold extA
  rw [List.flatMap_append, List.flatMap_cons, List.flatMap_nil, List.append_nil]
theorem extA_mem {n : Nat} {M : Nat → Nat → Int} {r : List (Option Int)} {fs : List (Int × Int)} {y : Int × Int} : y ∈ extA n M r fs ↔ ∃ q ∈ fs, ∃ p k, p < n ∧ r.getD p none = some k ∧ y = (q.1 + M q.2.toNat p + k, (p : Int)) := by
  unfold extA
  rw [List.mem_flatMap]
  constructor
  · rintro ⟨q, hq, hy⟩
    unfold ext1 at hy
    obtain ⟨p, hp, e⟩ := List.mem_filterMap.mp hy
    cases hc : r.getD p none with
    | none => rw [extF_none hc] at e; cases e
    | some k => rw [extF_some hc] at e; exact ⟨q, hq, p, k, List.mem_range.mp hp, hc, (Option.some.inj e).symm⟩
  · rintro ⟨q, hq, p, k, hp, hc, e⟩
    exact ⟨q, hq, List.mem_filterMap.mpr ⟨p, List.mem_range.mpr hp, by rw [extF_some hc, e]⟩⟩
/-- found: all services so far -/
structure Found (n : Nat) (ws : List (List Int)) (rs : List (List (Option Int))) (fs : List (Int × Int)) : Prop where
  snd : ∀ q ∈ fs, ∃ ps a, q.2 = ((a : Nat) : Int) ∧ Run n ws rs ps q.1 a
  cpl : ∀ ps c a, Run n ws rs ps c a → (c, ((a : Nat) : Int)) ∈ fs
theorem Found.step {n : Nat} (hn : 0 < n) {ws : List (List Int)} {M : Nat → Nat → Int} (e : ∀ i j, i < n → j < n → M i j = mat ws i j) {rs : List (List (Option Int))} {fs : List (Int × Int)} (f : Found n ws rs fs) (r : List (Option Int)) : Found n ws (rs ++ [r]) (extA n M r fs) := by
  refine ⟨fun y hy => ?_, fun ps c a h => ?_⟩
  · obtain ⟨q, hq, p, k, hp, hk, rfl⟩ := extA_mem.mp hy
    obtain ⟨ps, a, ea, hr⟩ := f.snd q hq
    refine ⟨ps ++ [p], p, rfl, ?_⟩
    rw [ea, Int.toNat_natCast, e _ _ (hr.lt hn) hp]
    exact .snoc hr hp hk
  · obtain ⟨ps0, c0, a0, k, rfl, hr, ha, hk, rfl⟩ := h.inv
    refine extA_mem.mpr ⟨(c0, (a0 : Int)), f.cpl _ _ _ hr, a, k, ha, hk, ?_⟩
    rw [Int.toNat_natCast, e _ _ (hr.lt hn) ha]
theorem extA_ne {n : Int} {M : Nat → Nat → Int} {r : List (Option Int)} {fs : List (Int × Int)} (h : Prices n 9 r) (hf : fs ≠ []) : extA n.toNat M r fs ≠ [] := by
  obtain ⟨x, hx⟩ := h.some
  obtain ⟨p, hp⟩ := List.mem_iff_getElem?.mp hx
  have hl := (List.getElem?_eq_some_iff.mp hp).1
  have hn := h.len
  cases fs with
  | nil => exact absurd rfl hf
  | cons q t =>
    exact List.ne_nil_of_mem (extA_mem.mpr ⟨q, List.mem_cons_self, p, x, by omega, by rw [List.getD_eq_getElem?_getD, hp]; rfl, rfl⟩)
def spLawServices : Sp := fun vs H Q _ => ∃ (L d l : Addr) (M : Nat → Nat → Int) (n : Int) (rs0 : List (Str × List (Option Int))) (zs : List Str) (rs : List (List (Option Int))) (ws : List (List Int)), vs = [.ref L, .ref d, .ref l] ∧ LM H L n.toNat M ∧ 1 ≤ n ∧ n ≤ 6 ∧
  (∀ i j, i < n.toNat → j < n.toNat → M i j = mat ws i j) ∧ ReqAt H d n rs0 ∧ H l = some (.lst (zs.map V.str)) ∧ Paired (fun z r => (z, r) ∈ rs0) zs rs ∧ zs.length ≤ 6 ∧
  ∀ (m : Int) (H' : Hp), Same H H' → (∃ ps a, Run n.toNat ws rs ps m a) → (∀ ps c a, Run n.toNat ws rs ps c a → m ≤ c) → Q (.int m) H'
def spLawPrice : Sp := fun vs H Q _ => ∃ (L d l t : Addr) (M : Nat → Nat → Int) (n : Int) (rs0 : List (Str × List (Option Int))) (zs : List Str) (rs : List (List (Option Int))) (ws : List (List Int)) (ps : List Nat) (c : Int) (a : Nat), vs = [.ref L, .ref d, .ref l, .ref t] ∧ LM H L n.toNat M ∧ 1 ≤ n ∧ n ≤ 6 ∧
  (∀ i j, i < n.toNat → j < n.toNat → M i j = mat ws i j) ∧ ReqAt H d n rs0 ∧ H l = some (.lst (zs.map V.str)) ∧ Paired (fun z r => (z, r) ∈ rs0) zs rs ∧ zs.length ≤ 900 ∧ H t = some (.tup ((ps.map fun x => ((x : Nat) : Int)).map V.int)) ∧ Run n.toNat ws rs ps c a ∧
  ∀ H', Same H H' → Q (.int c) H'
def spLawRow : Sp := fun vs H Q _ => ∃ (d c l : Addr) (zs : List Str) (m : Int), vs = [.ref d, .ref l, .int m] ∧ Dice c H d ∧ H l = some (.lst (zs.map V.str)) ∧ l ≠ d ∧ 1 ≤ zs.length ∧ zs.length ≤ 1000 ∧ 0 ≤ m ∧ m ≤ 900 ∧
  ∀ (R : Addr) (ys : List Str) (H' : Hp), H R = none → H' R = some (.lst (ys.map V.str)) → (ys.length : Int) ≤ m → (∀ y ∈ ys, y ∈ zs) → Keep d H H' → Dice c H' d → Q (.ref R) H'
end Toy

namespace Toy
open PySem PySem.Spec PyProof.Rows L2
section
variable {X : Cx}
/-! flags by their identity -/
def rIsB : R2 := fun x y H Q => ∃ b c, x = .bl b ∧ y = .bl c ∧ Q (.bl (b == c)) H
def rNotB : R2 := fun x y H Q => ∃ b c, x = .bl b ∧ y = .bl c ∧ Q (.bl (b != c)) H
theorem op_isB : OpR X (compareOp .Is) rIsB := by
  intro pins s σ H x y v u Q I rx ry h
  obtain ⟨b, c, rfl, rfl, q⟩ := h
  cases rx
  cases ry
  exact is_bool (fin_bl I q rfl)
theorem op_notB : OpR X (compareOp .IsNot) rNotB := by
  intro pins s σ H x y v u Q I rx ry h
  obtain ⟨b, c, rfl, rfl, q⟩ := h
  cases rx
  cases ry
  exact isnot_bool (fin_bl I q rfl)
/-! the greatest of a tuple of ints -/
theorem dp_ints {K : PySem.W.Frag} {H : Hp} : ∀ ns : List Int, DpAll K H (ns.map V.int) (ns.map PyData.int)
  | [] => .nil
  | n :: r => .cons (.int n) (dp_ints r)
theorem alike_ints (ns : List Int) : PySem.W.AlikeAll (ns.map PyData.int) := by
  constructor
  · intro x hx y hy
    obtain ⟨i, _, rfl⟩ := List.mem_map.mp hx
    obtain ⟨j, _, rfl⟩ := List.mem_map.mp hy
    simp [PySem.W.alike]
  · intro x hx
    obtain ⟨i, _, rfl⟩ := List.mem_map.mp hx
    intro z; cases z
theorem depth_ints : ∀ ns : List Int, PyData.depthAll (ns.map PyData.int) ≤ 1
  | [] => by simp [PyData.depthAll]
  | n :: r => by
    have := depth_ints r
    simp only [List.map_cons, PyData.depthAll, PyData.depth]
    omega
def rMaxT (K : PySem.W.Frag) : List V → Hp → VK → Prop := fun vs H Q => ∃ (a : Addr) (k : Int) (ks : List Int), vs = [V.ref a] ∧ SqT K H a ((k :: ks).map V.int) ∧ Q (.int (ks.foldl max k)) H
theorem cr_maxT (hc : X.calm = true) (hu : X.A.units + 64 < cLine) : CallR X (.builtin "max") (rMaxT X.K) := by
  intro pins s σ H vs us Q I r h
  obtain ⟨a, k, ks, rfl, hs, q⟩ := h
  obtain ⟨u, rfl, ru⟩ := vals1 r
  obtain rfl : u = Value.ref a := ru
  obtain ⟨its, rv, p, _⟩ := I.tuple hs
  obtain ⟨as, hr⟩ := Dp.readsAll I ((k :: ks).map PyData.int) ((k :: ks).map V.int) its (dp_ints _) rv
  have hd := depth_ints (k :: ks)
  refine PySem.W.max_tuple_data (x := PyData.int k) (xs := ks.map PyData.int) (I.ok.hd hc) p (by simpa using hr) (alike_ints (k :: ks)) (by
    have : PyData.depthAll (PyData.int k :: ks.map PyData.int) ≤ 1 := hd
    omega) fun i v h' tk bs hv hrd hk => ?_
  rw [PySem.W.maxD_ints] at hrd
  rw [List.getElem?_toArray] at hv
  obtain ⟨x, hx, rx⟩ := prd_at2 rv hv
  obtain ⟨j, _, rfl⟩ := map_at hx
  obtain ⟨t, rfl⟩ := rx
  have e := (hrd.unique _ _ (Reads.int j t)).1
  cases e
  exact ⟨.int _, H, I.kept (t' := tk) hk, ⟨t, rfl⟩, q⟩
end
theorem walk_zipT {K : PySem.W.Frag} {a b : Addr} {xs ys : List V} {n : Nat} (hn : n = min xs.length ys.length) : Walk (RZ.ItzT K a b) n (fun H => SqT K H a xs ∧ SqT K H b ys) (YPair (fun i => xs[i]?) (fun i => ys[i]?)) := by
  subst hn
  refine ⟨fun i _ hi q => ?_, fun _ q => ⟨xs, ys, q.1, q.2, by omega⟩, fun i H v H' _ q y => ?_⟩
  · have h1 : i < xs.length := by omega
    have h2 : i < ys.length := by omega
    exact ⟨xs, ys, xs[i], ys[i], q.1, q.2, by simp [h1], by simp [h2]⟩
  · obtain ⟨T, x, z, h1, h2, h3, h4, h5⟩ := y
    exact ⟨T, x, z, h1, h2, h3, h4 xs q.1, h5 ys q.2⟩
theorem max_zeros : ∀ n : Nat, (List.replicate n (0 : Int)).foldl max 0 = 0
  | 0 => rfl
  | n + 1 => by rw [List.replicate_succ, List.foldl_cons]; exact max_zeros n
end Toy

namespace Toy
open PySem PySem.Spec PyProof.Rows L2
/-! zip of three tuples -/
def Itz3 (K : PySem.W.Frag) (a b e : Addr) : It :=
  ⟨fun i H => ∃ (xs ys zs : List V) (x y u : V), SqT K H a xs ∧ SqT K H b ys ∧ SqT K H e zs ∧ xs[i]? = some x ∧ ys[i]? = some y ∧ zs[i]? = some u,
    fun i H v H' => ∃ T x y u, v = .ref T ∧ H T = none ∧ H' = upd H T (.tup [x, y, u]) ∧ (∀ xs, SqT K H a xs → xs[i]? = some x) ∧ (∀ ys, SqT K H b ys → ys[i]? = some y) ∧ ∀ zs, SqT K H e zs → zs[i]? = some u,
    fun i H => ∃ xs ys zs : List V, SqT K H a xs ∧ SqT K H b ys ∧ SqT K H e zs ∧ xs.length = i ∧ ys.length = i ∧ zs.length = i⟩
theorem turn_zip3 {P : Program} {w : World} {K : PySem.W.Frag} {elts : List Expr} {kk : Nat} {tpos : Pos} {a b e z TI TO i1 i2 i3 : Addr} (D : ZipSep3 z TI TO i1 i2 i3 [i1, a] [i2, b] [i3, e]) (na : a ≠ i1) (nb : b ≠ i2) (ne : e ≠ i3) :
    Turn P w K (.Tuple elts kk tpos) (Itz3 K a b e) [z, TI, TO, i1, i2, i3] z (fun i h => IsZip h z TI TO .none ∧ IsTupOf3 h TI (.ref i1) (.ref i2) (.ref i3) ∧ (∃ x y u, IsTupOf3 h TO x y u) ∧ h.IsTupleIter i1 a i ∧ h.IsTupleIter i2 b i ∧ h.IsTupleIter i3 e i) where
  mem := by simp
  obj := fun i h st c hc => by
    obtain ⟨hz, hTI, ⟨x, y, u, hTO⟩, ⟨o1, e1, _, d1⟩, ⟨o2, e2, _, d2⟩, ⟨o3, e3, _, d3⟩⟩ := st
    have e' : c = z ∨ c = TI ∨ c = TO ∨ c = i1 ∨ c = i2 ∨ c = i3 := by simpa using hc
    rcases e' with q | q | q | q | q | q
    · rw [q]; exact ⟨_, hz, fun v q => nomatch q⟩
    · rw [q]; exact ⟨_, hTI, fun v q => nomatch q⟩
    · rw [q]; exact ⟨_, hTO, fun v q => nomatch q⟩
    · rw [q]; exact ⟨o1, e1, fun v q => by rw [d1] at q; cases q⟩
    · rw [q]; exact ⟨o2, e2, fun v q => by rw [d2] at q; cases q⟩
    · rw [q]; exact ⟨o3, e3, fun v q => by rw [d3] at q; cases q⟩
  keep := fun i h h' st k => by
    obtain ⟨hz, hTI, ⟨x, y, u, hTO⟩, h1, h2, h3⟩ := st
    exact ⟨k z (by simp) _ hz, k TI (by simp) _ hTI, ⟨x, y, u, k TO (by simp) _ hTO⟩, h1.at fun o q => k i1 (by simp) o q, h2.at fun o q => k i2 (by simp) o q, h3.at fun o q => k i3 (by simp) o q⟩
  item := by
    intro X hP hw hK hc i pins s σ H E I hf st hg
    subst hP hw hK
    obtain ⟨hz, hTI, ⟨x0, y0, u0, hTO⟩, h1, h2, h3⟩ := st
    obtain ⟨xs, ys, zs, x, y, u, hqx, hqy, hqz, hx, hy, hu⟩ := hg
    obtain ⟨its, rv, p, _⟩ := I.tuple hqx
    obtain ⟨its2, rv2, p2, _⟩ := I.tuple hqy
    obtain ⟨its3, rv3, p3, _⟩ := I.tuple hqz
    obtain ⟨v1, hv1, r1⟩ := rv.get hx
    obtain ⟨v2, hv2, r2⟩ := rv2.get hy
    obtain ⟨v3, hv3, r3⟩ := rv3.get hu
    have hh : X.A.in1.handled = none := I.ok.hd hc
    have hzl : z < s.heap.objs.size := Heap.lt_size hz
    refine wpAny_pyNext_zipD3_item D (Draws.tuple (prog := X.prog) (w := X.w) hh i1 a na its.toArray) (Draws.tuple (prog := X.prog) (w := X.w) hh i2 b nb its2.toArray) (Draws.tuple (prog := X.prog) (w := X.w) hh i3 e ne its3.toArray) hz hTI hTO ⟨h1, p⟩ ⟨h2, p2⟩ ⟨h3, p3⟩
      (by rw [List.size_toArray]; exact (List.getElem?_eq_some_iff.mp hv1).1) (by rw [List.size_toArray]; exact (List.getElem?_eq_some_iff.mp hv2).1) (by rw [List.size_toArray]; exact (List.getElem?_eq_some_iff.mp hv3).1) fun w1 w2 w3 h' tk g1 g2 g3 z' TO' s1' s2' s3' hT hsz hk => ?_
    have q1 : w1 = v1 := by
      have g : its.toArray[i]? = some w1 := g1
      rw [List.getElem?_toArray, hv1] at g
      exact (Option.some.inj g).symm
    have q2 : w2 = v2 := by
      have g : its2.toArray[i]? = some w2 := g2
      rw [List.getElem?_toArray, hv2] at g
      exact (Option.some.inj g).symm
    have q3 : w3 = v3 := by
      have g : its3.toArray[i]? = some w3 := g3
      rw [List.getElem?_toArray, hv3] at g
      exact (Option.some.inj g).symm
    subst q1; subst q2; subst q3
    refine ⟨_, rfl, wpAny_letOwnedTupleGo_zip (s := { s with heap := h', toks := tk }) z' fun h'' z'' sb => ?_⟩
    have hT2 : h''.get? s.heap.objs.size = some { cls := .type "tuple", data := .seq #[w1, w2, w3] } := (sb.2 _ (Nat.ne_of_gt hzl)).trans hT
    have new : ObjOk X.prog X.w (upd H s.heap.objs.size (.tup [x, y, u])) h'' s.heap.objs.size (.tup [x, y, u]) :=
      ⟨(by show 3 ≤ sizeLine; decide), [w1, w2, w3], .cons r1 (.cons r2 (.cons r3 .nil)), ⟨_, hT2, rfl, _, rfl⟩⟩
    have I1 : Inv X pins σ (upd H s.heap.objs.size (.tup [x, y, u])) { s with heap := h'', toks := tk } :=
      I.turnedNew (ch := [z, TI, TO, i1, i2, i3]) (fun c o hb q => (sb.2 c (fun q' => hb (by simp [q']))).trans (hk c o (fun q' => hb (by simp [q'])) (fun q' => hb (by simp [q'])) (fun q' => hb (by simp [q'])) (fun q' => hb (by simp [q'])) (fun q' => hb (by simp [q'])) q)) hf (Nat.le_refl _) new
    refine ⟨.ref s.heap.objs.size, _, I1, rfl, ⟨_, x, y, u, rfl, I.hok.fresh (Nat.le_refl _), rfl, fun l hl => by rw [I.tuple_inj hl hqx]; exact hx, fun l hl => by rw [I.tuple_inj hl hqy]; exact hy, fun l hl => by rw [I.tuple_inj hl hqz]; exact hu⟩, ⟨z'', ?_, ⟨w1, w2, w3, ?_⟩, ?_, ?_, ?_⟩, fun c hcm => ?_⟩
    · exact (sb.2 _ D.TIz).trans (hk _ _ D.TIz D.TITO D.TIi1 D.TIi2 D.TIi3 hTI)
    · exact (sb.2 _ D.TOz).trans TO'
    · exact s1'.1.at fun o q => (sb.2 _ (Ne.symm D.zi1)).trans q
    · exact s2'.1.at fun o q => (sb.2 _ (Ne.symm D.zi2)).trans q
    · exact s3'.1.at fun o q => (sb.2 _ (Ne.symm D.zi3)).trans q
    · have hlt : c < s.heap.objs.size := by
        have e' : c = z ∨ c = TI ∨ c = TO ∨ c = i1 ∨ c = i2 ∨ c = i3 := by simpa using hcm
        rcases e' with q | q | q | q | q | q
        · rw [q]; exact hzl
        · rw [q]; exact Heap.lt_size hTI
        · rw [q]; exact Heap.lt_size hTO
        · rw [q]; obtain ⟨_, e1, _⟩ := h1; exact Heap.lt_size e1
        · rw [q]; obtain ⟨_, e2, _⟩ := h2; exact Heap.lt_size e2
        · rw [q]; obtain ⟨_, e2, _⟩ := h3; exact Heap.lt_size e2
      rw [upd_ne (Nat.ne_of_lt hlt)]
      exact (hf c hcm).1
  done := by
    intro X hP hw hK hc i pins s σ H E I hf st hg
    subst hP hw hK
    obtain ⟨hz, hTI, ⟨x0, y0, u0, hTO⟩, h1, h2, h3⟩ := st
    obtain ⟨xs, ys, zs, hqx, hqy, hqz, l1, l2, l3⟩ := hg
    obtain ⟨its, rv, p, _⟩ := I.tuple hqx
    obtain ⟨its2, rv2, p2, _⟩ := I.tuple hqy
    obtain ⟨its3, rv3, p3, _⟩ := I.tuple hqz
    have hh : X.A.in1.handled = none := I.ok.hd hc
    have m1 : its.toArray.size = i := by rw [List.size_toArray, ← rv.length]; exact l1
    have m2 : its2.toArray.size = i := by rw [List.size_toArray, ← rv2.length]; exact l2
    have m3 : its3.toArray.size = i := by rw [List.size_toArray, ← rv3.length]; exact l3
    refine wpAny_pyNext_zipD3_end D (Draws.tuple (prog := X.prog) (w := X.w) hh i1 a na its.toArray) (Draws.tuple (prog := X.prog) (w := X.w) hh i2 b nb its2.toArray) (Draws.tuple (prog := X.prog) (w := X.w) hh i3 e ne its3.toArray) hz hTI hTO ⟨h1, p⟩ ⟨h2, p2⟩ ⟨h3, p3⟩ (by omega) (by omega) (by omega) (.inl m1.symm) fun h' tk hk => ⟨rfl, ?_⟩
    exact I.turnedL (t' := tk) (ch := [z, TI, TO, i1, i2, i3]) (fun c o hb q =>
      hk c o (fun q' => hb (by simp [q'])) (fun q' => hb (by simp [q'])) (fun q' => hb (by simp [q'])) (fun q' => hb (by simp [q'])) (fun q' => hb (by simp [q'])) q) hf
  self := fun A i s Q E st h => wpAny_pyIter_zip st.1 h
def iZip3 (K : PySem.W.Frag) (ta : TA) : TI := fun σ H R => ta σ H fun vs H1 => ∃ a b e xs ys zs, vs = [.ref a, .ref b, .ref e] ∧ SqT K H1 a xs ∧ SqT K H1 b ys ∧ SqT K H1 e zs ∧ R (Itz3 K a b e) H1
theorem pi_zip3 {X : Cx} {e1 e2 e3 : Expr} {ta : TA} {p pos tpos : Pos} {elts : List Expr} {kk : Nat} (hg : Gl X "zip") (hm : X.mg "zip" = none) (ha : PA X [e1, e2, e3] ta)
    (hs : starEach [e1, e2, e3] X.env = (false, eval e1 X.env) :: starEach [e2, e3] X.env := by rfl) (hpl : (backTo pos (starEach [e2, e3] X.env)).any (·.1) = false := by rfl) :
    PI X (.Tuple elts kk tpos) (.Call (.Name "zip" p) [e1, e2, e3] [] pos) (iZip3 X.K ta) := by
  refine ⟨fun pins s σ H R I h => ?_⟩
  refine Call_ (ld_blt I hg hm PyProof.Rows.boot_zip (PyProof.Rows.callWith_type1 (thn (ha.run pos pins s σ H _ I h) fun us s1 ⟨vs, H1, I1, r1, q1⟩ => ?_) hs hpl))
  obtain ⟨a, b, e, xs, ys, zs, ex, hqx, hqy, hqz, q⟩ := q1
  subst ex
  cases r1 with
  | cons r rr =>
    cases rr with
    | cons r' rr =>
      cases rr with
      | cons r'' rr =>
        cases rr
        cases r
        cases r'
        cases r''
        obtain ⟨its, rv, p1, _⟩ := I1.tuple hqx
        obtain ⟨its2, rv2, p2, _⟩ := I1.tuple hqy
        obtain ⟨its3, rv3, p3, _⟩ := I1.tuple hqz
        have la : a < s1.heap.objs.size := by obtain ⟨_, q, _⟩ := p1; exact Heap.lt_size q
        have lb : b < s1.heap.objs.size := by obtain ⟨_, q, _⟩ := p2; exact Heap.lt_size q
        have le : e < s1.heap.objs.size := by obtain ⟨_, q, _⟩ := p3; exact Heap.lt_size q
        refine zip_begins3 (begins_tuple a its.toArray) (begins_tuple b its2.toArray) (begins_tuple e its3.toArray) p1 p2 p3 fun h' hz hTI hTO h1 h2 h3 hsz hk => wpAny_pyIter_zip hz ?_
        have I2 : Inv X pins σ H1 { s1 with heap := h' } := I1.kept (t' := s1.toks) hk
        refine ⟨s1.heap.objs.size + 5, [s1.heap.objs.size + 5, s1.heap.objs.size + 3, s1.heap.objs.size + 4, s1.heap.objs.size, s1.heap.objs.size + 1, s1.heap.objs.size + 2], _, _, H1, rfl, I2,
          turn_zip3 (zip_sep3 (N := s1.heap.objs.size) (by simpa using la) (by simpa using lb) (by simpa using le)) (Nat.ne_of_lt la) (Nat.ne_of_lt (Nat.lt_succ_of_lt lb)) (Nat.ne_of_lt (Nat.lt_succ_of_lt (Nat.lt_succ_of_lt le))), ⟨hz, hTI, ⟨_, _, _, hTO⟩, ⟨_, h1, rfl, rfl⟩, ⟨_, h2, rfl, rfl⟩, ⟨_, h3, rfl, rfl⟩⟩, fun c hcm => ?_, q⟩
        have e' : c = s1.heap.objs.size + 5 ∨ c = s1.heap.objs.size + 3 ∨ c = s1.heap.objs.size + 4 ∨ c = s1.heap.objs.size ∨ c = s1.heap.objs.size + 1 ∨ c = s1.heap.objs.size + 2 := by simpa using hcm
        have hle : s1.heap.objs.size ≤ c := by
          rcases e' with z | z | z | z | z | z
          · rw [z]; exact Nat.le_add_right _ _
          · rw [z]; exact Nat.le_add_right _ _
          · rw [z]; exact Nat.le_add_right _ _
          · rw [z]; exact Nat.le_refl _
          · rw [z]; exact Nat.le_add_right _ _
          · rw [z]; exact Nat.le_add_right _ _
        exact I1.fpOk hle (I1.hok.fresh hle)
/-- what a turn of three brings -/
theorem walk_zip3 {K : PySem.W.Frag} {a b e : Addr} {xs ys zs : List V} (l2 : ys.length = xs.length) (l3 : zs.length = xs.length) : Walk (Itz3 K a b e) xs.length (fun H => SqT K H a xs ∧ SqT K H b ys ∧ SqT K H e zs)
    (fun i H v H' => ∃ T x y u, v = .ref T ∧ H T = none ∧ H' = upd H T (.tup [x, y, u]) ∧ xs[i]? = some x ∧ ys[i]? = some y ∧ zs[i]? = some u) := by
  refine ⟨fun i _ hi q => ?_, fun _ q => ⟨xs, ys, zs, q.1, q.2.1, q.2.2, rfl, l2, l3⟩, fun i H v H' _ q y => ?_⟩
  · exact ⟨xs, ys, zs, xs[i], ys[i], zs[i], q.1, q.2.1, q.2.2, by simp [hi], by simp [l2, hi], by simp [l3, hi]⟩
  · obtain ⟨T, x, y, u, h1, h2, h3, h4, h5, h6⟩ := y
    exact ⟨T, x, y, u, h1, h2, h3, h4 xs q.1, h5 ys q.2.1, h6 zs q.2.2⟩
/-! the least of a tuple of ints -/
def rMinT (K : PySem.W.Frag) : List V → Hp → VK → Prop := fun vs H Q => ∃ (a : Addr) (k : Int) (ks : List Int), vs = [V.ref a] ∧ SqT K H a ((k :: ks).map V.int) ∧ Q (.int (ks.foldl min k)) H
theorem cr_minT {X : Cx} (hc : X.calm = true) (hu : X.A.units + 64 < cLine) : CallR X (.builtin "min") (rMinT X.K) := by
  intro pins s σ H vs us Q I r h
  obtain ⟨a, k, ks, rfl, hs, q⟩ := h
  obtain ⟨u, rfl, ru⟩ := vals1 r
  obtain rfl : u = Value.ref a := ru
  obtain ⟨its, rv, p, _⟩ := I.tuple hs
  obtain ⟨as, hr⟩ := Dp.readsAll I ((k :: ks).map PyData.int) ((k :: ks).map V.int) its (dp_ints _) rv
  have hd := depth_ints (k :: ks)
  refine PySem.W.min_tuple_data (x := PyData.int k) (xs := ks.map PyData.int) (I.ok.hd hc) p (by simpa using hr) (alike_ints (k :: ks)) (by
    have : PyData.depthAll (PyData.int k :: ks.map PyData.int) ≤ 1 := hd
    omega) fun i v h' tk bs hv hrd hk => ?_
  rw [PySem.W.minD_ints] at hrd
  rw [List.getElem?_toArray] at hv
  obtain ⟨x, hx, rx⟩ := prd_at2 rv hv
  obtain ⟨j, _, rfl⟩ := map_at hx
  obtain ⟨t, rfl⟩ := rx
  have e := (hrd.unique _ _ (Reads.int j t)).1
  cases e
  exact ⟨.int _, H, I.kept (t' := tk) hk, ⟨t, rfl⟩, q⟩
theorem foldl_min_le : ∀ (ks : List Int) (k : Int), ks.foldl min k ≤ k ∧ ∀ x ∈ ks, ks.foldl min k ≤ x
  | [], k => ⟨Int.le_refl _, by simp⟩
  | y :: r, k => by
    obtain ⟨h1, h2⟩ := foldl_min_le r (min k y)
    rw [List.foldl_cons]
    refine ⟨by omega, fun x hx => ?_⟩
    rcases List.mem_cons.mp hx with e | e
    · subst e; omega
    · exact h2 x e
end Toy

namespace Toy
open PySem PySem.Spec PyProof.Rows L2
/-! offsets: plain mathematics -/
structure Met (n : Nat) (ws : List (List Int)) : Prop where
  nn : ∀ i j, i < n → j < n → 0 ≤ mat ws i j
  z : ∀ i, i < n → mat ws i i = 0
  tri : ∀ i j k, i < n → j < n → k < n → mat ws i k ≤ mat ws i j + mat ws j k
theorem Least.met {n : Nat} {R : Nat → Nat → Int} {ws : List (List Int)} (L : Least n R (mat ws)) (h : ∀ i j, i < n → j < n → 0 ≤ R i j) : Met n ws := by
  refine ⟨fun i j hi hj => ?_, fun i hi => ?_, fun i j k hi hj hk => ?_⟩
  · obtain ⟨l, w, e⟩ := L.has i j hi hj
    rw [← e]; exact rc_nn h l w.lt
  · have h1 := L.le i i [i] hi hi ⟨rfl, rfl, by simpa using hi⟩
    obtain ⟨l, w, e⟩ := L.has i i hi hi
    have h2 := rc_nn h l w.lt
    have h3 : rc R [i] = 0 := rfl
    omega
  · obtain ⟨l, w, e⟩ := L.has i j hi hj
    obtain ⟨l', w', e'⟩ := L.has j k hj hk
    obtain ⟨m, wm, em⟩ := way_cat (R := R) w w'
    have := L.le i k m hi hk wm
    omega
theorem SysOk.met {S : Sys} (ok : SysOk S) : Met S.n.toNat S.ws := ok.wy.least.met ok.sq.nn
/-- what is served, with the prices so far -/
def svF (off : List Int) (row : List (Option Int)) (a : Nat) : Option (Int × Nat) := match row.getD a none with
  | some k => some (off.getD a 0 + k, a)
  | none => none
def srv (n : Nat) (off : List Int) (row : List (Option Int)) : List (Int × Nat) := (List.range n).filterMap (svF off row)
theorem svF_some {off : List Int} {row : List (Option Int)} {a : Nat} {k : Int} (h : row.getD a none = some k) : svF off row a = some (off.getD a 0 + k, a) := by unfold svF; rw [h]
theorem svF_none {off : List Int} {row : List (Option Int)} {a : Nat} (h : row.getD a none = none) : svF off row a = none := by unfold svF; rw [h]
theorem srv_mem {n : Nat} {off : List Int} {row : List (Option Int)} {q : Int × Nat} : q ∈ srv n off row ↔ ∃ a k, a < n ∧ row.getD a none = some k ∧ q = (off.getD a 0 + k, a) := by
  unfold srv
  rw [List.mem_filterMap]
  constructor
  · rintro ⟨a, ha, e⟩
    cases hc : row.getD a none with
    | none => rw [svF_none hc] at e; cases e
    | some k => rw [svF_some hc] at e; exact ⟨a, k, List.mem_range.mp ha, hc, (Option.some.inj e).symm⟩
  · rintro ⟨a, k, ha, hk, rfl⟩
    exact ⟨a, List.mem_range.mpr ha, svF_some hk⟩
def rawAt (ws : List (List Int)) (sv : List (Int × Nat)) (b : Nat) : Int := minL (sv.map fun q => q.1 + mat ws q.2 b)
def rawL (n : Nat) (ws : List (List Int)) (sv : List (Int × Nat)) : List Int := (List.range n).map (rawAt ws sv)
theorem rawL_len {n : Nat} {ws : List (List Int)} {sv : List (Int × Nat)} : (rawL n ws sv).length = n := by unfold rawL; rw [List.length_map, List.length_range]
theorem rawL_at {n : Nat} {ws : List (List Int)} {sv : List (Int × Nat)} {b : Nat} (h : b < n) : (rawL n ws sv).getD b 0 = rawAt ws sv b := by
  unfold rawL
  rw [List.getD_eq_getElem?_getD, List.getElem?_map, List.getElem?_range h]
  rfl
theorem raw_le {ws : List (List Int)} {sv : List (Int × Nat)} {b : Nat} {q : Int × Nat} (h : q ∈ sv) : rawAt ws sv b ≤ q.1 + mat ws q.2 b := minL_le (List.mem_map.mpr ⟨q, h, rfl⟩)
theorem raw_has {ws : List (List Int)} {sv : List (Int × Nat)} {b : Nat} (h : sv ≠ []) : ∃ q ∈ sv, rawAt ws sv b = q.1 + mat ws q.2 b := by
  have hne : sv.map (fun q => q.1 + mat ws q.2 b) ≠ [] := by
    intro e
    exact h (List.map_eq_nil_iff.mp e)
  obtain ⟨q, hq, e⟩ := List.mem_map.mp (minL_mem hne)
  exact ⟨q, hq, e.symm⟩
def newOff (r : List Int) : List Int := r.map fun c => c - minL r
/-- right offsets -/
structure OffOk (n : Nat) (ws : List (List Int)) (off : List Int) : Prop where
  len : off.length = n
  nn : ∀ b, b < n → 0 ≤ off.getD b 0
  zero : ∃ b, b < n ∧ off.getD b 0 = 0
  tri : ∀ a b, a < n → b < n → off.getD b 0 ≤ off.getD a 0 + mat ws a b
/-- offsets of a row, and the sum of its rises -/
structure Offs (n : Nat) (ws : List (List Int)) (rs : List (List (Option Int))) (off : List Int) (tot : Int) : Prop where
  lo : ∀ ps c a b, Run n ws rs ps c a → b < n → off.getD b 0 + tot ≤ c + mat ws a b
  at_ : ∀ b, b < n → ∃ ps c a, Run n ws rs ps c a ∧ off.getD b 0 + tot = c + mat ws a b
theorem Offs.first {n : Nat} {ws : List (List Int)} {off : List Int} (e : ∀ b, b < n → off.getD b 0 = mat ws 0 b) : Offs n ws [] off 0 := by
  refine ⟨fun ps c a b h hb => ?_, fun b hb => ⟨[], 0, 0, .nil, by rw [e b hb]; omega⟩⟩
  have hl : ps = [] := List.eq_nil_of_length_eq_zero (by have := h.len; simpa using this)
  subst hl
  obtain ⟨e1, e2⟩ := (Run.nil (n := n) (ws := ws)).fn h
  subst e1; subst e2
  rw [e b hb]; omega
theorem OffOk.first {n : Nat} {ws : List (List Int)} {off : List Int} (M : Met n ws) (hn : 0 < n) (hl : off.length = n) (e : ∀ b, b < n → off.getD b 0 = mat ws 0 b) : OffOk n ws off := by
  refine ⟨hl, fun b hb => by rw [e b hb]; exact M.nn _ _ hn hb, ⟨0, hn, by rw [e 0 hn]; exact M.z 0 hn⟩, fun a b ha hb => ?_⟩
  rw [e a ha, e b hb]
  exact M.tri _ _ _ hn ha hb
section
variable {n : Nat} {ws : List (List Int)} {off : List Int} {row : List (Option Int)}
theorem srv_ne (hlen : row.length = n) (hs : ∃ x : Int, some x ∈ row) : srv n off row ≠ [] := by
  obtain ⟨x, hx⟩ := hs
  obtain ⟨p, hp⟩ := List.mem_iff_getElem?.mp hx
  have hl := (List.getElem?_eq_some_iff.mp hp).1
  exact List.ne_nil_of_mem (srv_mem.mpr ⟨p, x, by omega, by rw [List.getD_eq_getElem?_getD, hp]; rfl, rfl⟩)
theorem newOff_at {r : List Int} {b : Nat} (h : b < r.length) : (newOff r).getD b 0 = r.getD b 0 - minL r := by
  unfold newOff
  rw [List.getD_eq_getElem?_getD, List.getElem?_map, List.getD_eq_getElem?_getD, List.getElem?_eq_getElem h]
  rfl
theorem min_at {r : List Int} (h : 0 < r.length) : (∃ b, b < r.length ∧ r.getD b 0 = minL r) ∧ ∀ b, b < r.length → minL r ≤ r.getD b 0 := by
  have hne : r ≠ [] := by intro e; subst e; simp at h
  constructor
  · obtain ⟨b, hb, e⟩ := List.getElem_of_mem (minL_mem hne)
    exact ⟨b, hb, by rw [List.getD_eq_getElem?_getD, List.getElem?_eq_getElem hb]; exact e⟩
  · intro b hb
    rw [List.getD_eq_getElem?_getD, List.getElem?_eq_getElem hb]
    exact minL_le (List.getElem_mem hb)
theorem OffOk.step (M : Met n ws) (hn : 0 < n) (hlen : row.length = n) (hs : ∃ x : Int, some x ∈ row) : OffOk n ws (newOff (rawL n ws (srv n off row))) := by
  have hr : (rawL n ws (srv n off row)).length = n := rawL_len
  obtain ⟨⟨b0, hb0, e0⟩, hmin⟩ := min_at (r := rawL n ws (srv n off row)) (by omega)
  have hne := srv_ne (off := off) hlen hs
  refine ⟨by unfold newOff; rw [List.length_map]; exact hr, fun b hb => ?_, ⟨b0, by omega, ?_⟩, fun a b ha hb => ?_⟩
  · rw [newOff_at (by omega)]
    have := hmin b (by omega)
    omega
  · rw [newOff_at hb0]; omega
  · rw [newOff_at (by omega), newOff_at (by omega), rawL_at ha, rawL_at hb]
    obtain ⟨q, hq, e⟩ := raw_has (ws := ws) (b := a) hne
    obtain ⟨p, k, hp, _, rfl⟩ := srv_mem.mp hq
    have h1 := raw_le (ws := ws) (b := b) hq
    have h2 := M.tri p a b hp ha hb
    simp only at e h1
    omega
theorem rise_ge (O : OffOk n ws off) (M : Met n ws) (hn : 0 < n) (hlen : row.length = n) (hs : ∃ x : Int, some x ∈ row) : ∃ x : Int, some x ∈ row ∧ x ≤ minL (rawL n ws (srv n off row)) := by
  have hr : (rawL n ws (srv n off row)).length = n := rawL_len
  obtain ⟨⟨b, hb, e⟩, _⟩ := min_at (r := rawL n ws (srv n off row)) (by omega)
  rw [rawL_at (by omega)] at e
  obtain ⟨q, hq, e2⟩ := raw_has (ws := ws) (b := b) (srv_ne (off := off) hlen hs)
  obtain ⟨p, k, hp, hk, rfl⟩ := srv_mem.mp hq
  have h1 := O.nn p hp
  have h2 := M.nn p b hp (by omega)
  refine ⟨k, ?_, by simp only at e2; omega⟩
  rw [List.getD_eq_getElem?_getD] at hk
  cases hc : row[p]? with
  | none => rw [hc] at hk; cases hk
  | some o =>
    rw [hc] at hk
    have hk2 : o = some k := hk
    subst hk2
    exact List.mem_of_getElem? hc
theorem Offs.step (hn : 0 < n) (hlen : row.length = n) (hs : ∃ x : Int, some x ∈ row) {rs : List (List (Option Int))} {tot : Int} (O : Offs n ws rs off tot) :
    Offs n ws (rs ++ [row]) (newOff (rawL n ws (srv n off row))) (tot + minL (rawL n ws (srv n off row))) := by
  have hr : (rawL n ws (srv n off row)).length = n := rawL_len
  refine ⟨fun ps c a b h hb => ?_, fun b hb => ?_⟩
  · rw [newOff_at (by omega), rawL_at hb]
    obtain ⟨ps0, c0, a0, k, rfl, h0, ha, hk, rfl⟩ := h.inv
    have h1 := raw_le (ws := ws) (b := b) (srv_mem.mpr ⟨a, k, ha, hk, rfl⟩ : (off.getD a 0 + k, a) ∈ srv n off row)
    have h2 := O.lo _ _ _ a h0 ha
    simp only at h1
    omega
  · rw [newOff_at (by omega), rawL_at hb]
    obtain ⟨q, hq, e⟩ := raw_has (ws := ws) (b := b) (srv_ne (off := off) hlen hs)
    obtain ⟨p, k, hp, hk, rfl⟩ := srv_mem.mp hq
    obtain ⟨ps, c, a, h0, e0⟩ := O.at_ p hp
    refine ⟨ps ++ [p], c + mat ws a p + k, p, .snoc h0 hp hk, ?_⟩
    simp only at e
    omega
/-- the sum of the rises is the wisest price -/
theorem Offs.wise (M : Met n ws) (hn : 0 < n) {rs : List (List (Option Int))} {tot : Int} (O : Offs n ws rs off tot) (K : OffOk n ws off) {ps : List Nat} {c : Int} {a : Nat} (h : Run n ws rs ps c a) (e : c = (val n ws rs).getD 0 0) : c = tot := by
  have ha := h.lt hn
  have h1 := O.lo _ _ _ a h ha
  have h2 := K.nn a ha
  rw [M.z a ha] at h1
  obtain ⟨b, hb, eb⟩ := K.zero
  obtain ⟨ps', c', a', h', e'⟩ := O.at_ b hb
  have h3 := M.nn a' b (h'.lt hn) hb
  have h4 := h'.ge hn
  omega
end
end Toy

namespace Toy
open PySem PySem.Spec PyProof.Rows L2
/-! things of the built-in kinds, whatever they are; all that belongs to them stands at addresses of A -/
inductive Dat (A : Addr → Prop) (H : Hp) : V → Prop
  | non : Dat A H .non
  | bl (b : Bool) : Dat A H (.bl b)
  | int (i : Int) : Dat A H (.int i)
  | str (z : Str) : Dat A H (.str z)
  | lst (a : Addr) (xs : List V) : A a → H a = some (.lst xs) → (∀ x ∈ xs, Dat A H x) → Dat A H (.ref a)
  | tup (a : Addr) (xs : List V) : A a → H a = some (.tup xs) → (∀ x ∈ xs, Dat A H x) → Dat A H (.ref a)
  | dK (a : Addr) (kvs : List (Key × V)) : A a → H a = some (.dK kvs) → (∀ q ∈ kvs, Dat A H q.2) → Dat A H (.ref a)
theorem Dat.mono {A B : Addr → Prop} {H H' : Hp} {v : V} (D : Dat A H v) (hk : ∀ a o, A a → H a = some o → H' a = some o) (hA : ∀ a, A a → (∃ o, H a = some o) → B a) : Dat B H' v := by
  induction D with
  | non => exact .non
  | bl b => exact .bl b
  | int i => exact .int i
  | str z => exact .str z
  | lst a xs h1 h2 _ ih => exact .lst a xs (hA a h1 ⟨_, h2⟩) (hk _ _ h1 h2) ih
  | tup a xs h1 h2 _ ih => exact .tup a xs (hA a h1 ⟨_, h2⟩) (hk _ _ h1 h2) ih
  | dK a kvs h1 h2 _ ih => exact .dK a kvs (hA a h1 ⟨_, h2⟩) (hk _ _ h1 h2) ih
theorem Dat.same {A : Addr → Prop} {H H' : Hp} {v : V} (D : Dat A H v) (k : Same H H') : Dat A H' v := D.mono (fun a o _ h => k a o h) fun _ h _ => h
theorem Dat.keep {d : Addr} {H H' : Hp} {v : V} (D : Dat (fun a => a ≠ d) H v) (k : Keep d H H') : Dat (fun a => a ≠ d) H' v := D.mono (fun a o n h => k a o n h) fun _ h _ => h
theorem Dat.ty {A : Addr → Prop} {H : Hp} {v : V} (D : Dat A H v) : ∃ n, tyN H v = some n := by
  cases D with
  | non => exact ⟨_, rfl⟩
  | bl b => exact ⟨_, rfl⟩
  | int i => exact ⟨_, rfl⟩
  | str z => exact ⟨_, rfl⟩
  | lst a xs h1 h2 _ => exact ⟨"list", by unfold tyN; simp only [h2]⟩
  | tup a xs h1 h2 _ => exact ⟨"tuple", ty_tup h2⟩
  | dK a kvs h1 h2 _ => exact ⟨"dict", ty_dK h2⟩
theorem Dat.item {A : Addr → Prop} {H : Hp} {a : Addr} {xs : List V} {x : V} (D : Dat A H (.ref a)) (h : H a = some (.tup xs) ∨ H a = some (.lst xs)) (m : x ∈ xs) : Dat A H x := by
  cases D with
  | lst a' ys h1 h2 h3 =>
    rcases h with h | h
    · rw [h2] at h; cases h
    · rw [h2] at h; cases h; exact h3 _ m
  | tup a' ys h1 h2 h3 =>
    rcases h with h | h
    · rw [h2] at h; cases h; exact h3 _ m
    · rw [h2] at h; cases h
  | dK a' ys h1 h2 h3 =>
    rcases h with h | h <;> (rw [h2] at h; cases h)
/-- a list or a tuple -/
def SeqAt' (H : Hp) (a : Addr) (ts : List V) : Prop := H a = some (.tup ts) ∨ H a = some (.lst ts)
theorem SeqAt'.same {H H' : Hp} {a : Addr} {ts : List V} (h : SeqAt' H a ts) (k : Same H H') : SeqAt' H' a ts := h.elim (fun q => .inl (k _ _ q)) fun q => .inr (k _ _ q)
theorem SeqAt'.fn {H : Hp} {a : Addr} {ts us : List V} (h : SeqAt' H a ts) (g : SeqAt' H a us) : ts = us := by
  rcases h with h | h <;> rcases g with g | g <;> (rw [h] at g; cases g) <;> rfl
theorem SeqAt'.ix {K : PySem.W.Frag} {H : Hp} {a : Addr} {ts : List V} {i : Int} {x : V} {Q : VK} (h : SeqAt' H a ts) (hx : atI ts i = some x) (q : Q x H) : rIxL K (.ref a) (.int i) H Q ∨ rIxT K (.ref a) (.int i) H Q :=
  h.elim (fun e => .inr ⟨a, ts, i, x, rfl, rfl, SqT.of e, hx, q⟩) fun e => .inl ⟨a, ts, i, x, rfl, rfl, SqL.of e, hx, q⟩
theorem SeqAt'.len {K : PySem.W.Frag} {H : Hp} {a : Addr} {ts : List V} (h : SeqAt' H a ts) : SqL K H a ts ∨ SqT K H a ts := h.elim (fun e => .inr (SqT.of e)) fun e => .inl (SqL.of e)
theorem SeqAt'.ty {H : Hp} {a : Addr} {ts : List V} (h : SeqAt' H a ts) : ∃ n, tyN H (.ref a) = some n ∧ (n == "list" || n == "tuple") = true := by
  rcases h with q | q
  · exact ⟨"tuple", ty_tup q, rfl⟩
  · exact ⟨"list", by unfold tyN; simp only [q], rfl⟩
theorem tyN_seq {H : Hp} {v : V} {n : String} (h : tyN H v = some n) (hn : (n == "list" || n == "tuple") = true) : ∃ a ts, v = .ref a ∧ SeqAt' H a ts := by
  cases v with
  | ref a =>
    unfold tyN at h
    cases e : H a with
    | none => simp only [e] at h; cases h
    | some o =>
      cases o with
      | tup xs => exact ⟨a, xs, rfl, .inl e⟩
      | lst xs => exact ⟨a, xs, rfl, .inr e⟩
      | _ => simp only [e] at h <;> cases h <;> simp at hn
  | _ => cases h <;> simp at hn
/-- lists of flags that tell of the items ahead -/
structure Told (p : Nat → Prop) (j : Nat) (bs : List Bool) : Prop where
  len : bs.length = j
  iff : ∀ i b, bs[i]? = some b → (b = true ↔ p i)
theorem Told.nil {p : Nat → Prop} : Told p 0 [] := ⟨rfl, fun i b h => by simp at h⟩
theorem Told.snoc {p : Nat → Prop} {j : Nat} {bs : List Bool} {b : Bool} (t : Told p j bs) (h : b = true ↔ p j) : Told p (j + 1) (bs ++ [b]) := by
  refine ⟨by rw [List.length_append, t.len]; rfl, fun i c hc => ?_⟩
  by_cases hi : i < bs.length
  · rw [List.getElem?_append_left hi] at hc; exact t.iff i c hc
  · rw [List.getElem?_append_right (by omega)] at hc
    have hz : i - bs.length = 0 := by
      have := (List.getElem?_eq_some_iff.mp hc).1
      simp at this; omega
    rw [hz] at hc
    have : c = b := by simpa using hc.symm
    subst this
    rw [show i = j by have := t.len; omega]; exact h
theorem Told.all {p : Nat → Prop} {j : Nat} {bs : List Bool} (t : Told p j bs) : bs.all id = true ↔ ∀ i, i < j → p i := by
  rw [List.all_eq_true]
  constructor
  · intro h i hi
    have hb : bs[i]? = some (bs[i]'(by rw [t.len]; exact hi)) := List.getElem?_eq_getElem _
    exact (t.iff i _ hb).mp (h _ (List.mem_of_getElem? hb))
  · intro h b hb
    obtain ⟨i, hi⟩ := List.getElem?_of_mem hb
    exact (t.iff i b hi).mpr (h i (by have := (List.getElem?_eq_some_iff.mp hi).1; have := t.len; omega))
theorem Told.any {p : Nat → Prop} {j : Nat} {bs : List Bool} (t : Told p j bs) : bs.any id = true ↔ ∃ i, i < j ∧ p i := by
  rw [List.any_eq_true]
  constructor
  · rintro ⟨b, hb, e⟩
    obtain ⟨i, hi⟩ := List.getElem?_of_mem hb
    exact ⟨i, by have := (List.getElem?_eq_some_iff.mp hi).1; have := t.len; omega, (t.iff i b hi).mp e⟩
  · rintro ⟨i, hi, h⟩
    have hb : bs[i]? = some (bs[i]'(by rw [t.len]; exact hi)) := List.getElem?_eq_getElem _
    exact ⟨_, List.mem_of_getElem? hb, (t.iff i _ hb).mpr h⟩
theorem bl_snoc (bs : List Bool) (b : Bool) : bs.map V.bl ++ [V.bl b] = (bs ++ [b]).map V.bl := by rw [List.map_append]; rfl
/-! a tuple of so many ints -/
def IsInts (H : Hp) (v : V) (m : Int) : Prop := ∃ ks, IntT H v ks ∧ (ks.length : Int) = m
theorem IsInts.same {H H' : Hp} {v : V} {m : Int} (h : IsInts H v m) (k : Same H H') : IsInts H' v m := by
  obtain ⟨ks, h1, h2⟩ := h
  exact ⟨ks, IntT.firm _ _ _ _ (same_tups k) h1, h2⟩
theorem isInts_of {H : Hp} {v : V} {m : Int} {xs : List V} {a : Addr} (e : v = .ref a) (h : H a = some (.tup xs)) : IsInts H v m ↔ ((xs.length : Int) = m ∧ ∀ i, i < xs.length → isI (xs.getD i .non) = true) := by
  subst e
  constructor
  · rintro ⟨ks, ⟨a', e, h'⟩, hl⟩
    cases e
    rw [h] at h'
    cases h'
    refine ⟨by rw [List.length_map]; exact hl, fun i hi => ?_⟩
    rw [List.length_map] at hi
    rw [List.getD_eq_getElem?_getD, List.getElem?_map, List.getElem?_eq_getElem hi]
    rfl
  · rintro ⟨h1, h2⟩
    have : ∀ xs : List V, (∀ i, i < xs.length → isI (xs.getD i .non) = true) → ∃ ks : List Int, xs = ks.map V.int := by
      intro xs
      induction xs with
      | nil => exact fun _ => ⟨[], rfl⟩
      | cons x t ih =>
        intro hx
        obtain ⟨ks, rfl⟩ := ih fun i hi => by
          have := hx (i + 1) (by rw [List.length_cons]; omega)
          simpa using this
        have h0 := hx 0 (by simp)
        cases x with
        | int i => exact ⟨i :: ks, rfl⟩
        | _ => simp [isI] at h0
    obtain ⟨ks, rfl⟩ := this xs h2
    exact ⟨ks, ⟨a, rfl, h⟩, by rw [← h1, List.length_map]⟩
theorem isInts_no {H : Hp} {v : V} {m : Int} (h : isTup H m v = false) : ¬ IsInts H v m := by
  rintro ⟨ks, ⟨a, rfl, h'⟩, hl⟩
  rw [tup_isTup h' (by rw [List.length_map]; exact hl)] at h
  cases h
theorem isTup_yes {H : Hp} {v : V} {m : Int} (h : isTup H m v = true) : ∃ a xs, v = .ref a ∧ H a = some (.tup xs) ∧ (xs.length : Int) = m := by
  cases v with
  | ref a =>
    unfold isTup at h
    cases e : H a with
    | none => simp only [e] at h; cases h
    | some o =>
      cases o with
      | tup xs => simp only [e] at h; exact ⟨a, xs, rfl, e, of_decide_eq_true h⟩
      | _ => simp only [e] at h; cases h
  | _ => cases h
theorem foldl_max_le : ∀ (ks : List Int) (k m : Int), ks.foldl max k ≤ m ↔ k ≤ m ∧ ∀ x ∈ ks, x ≤ m
  | [], k, m => by simp
  | x :: t, k, m => by
    rw [List.foldl_cons, foldl_max_le t (max k x) m]
    simp only [List.mem_cons, forall_eq_or_imp, Int.max_le]
    exact ⟨fun ⟨⟨a, b⟩, c⟩ => ⟨a, b, c⟩, fun ⟨a, b, c⟩ => ⟨⟨a, b⟩, c⟩⟩
theorem getD_at {α : Type} {xs : List α} {i : Nat} {x d : α} (h : xs[i]? = some x) : xs.getD i d = x := by rw [List.getD_eq_getElem?_getD, h]; rfl
theorem le_not {a b : Int} (h : ¬ a < b) : b ≤ a := by omega
/-! floors of rows -/
structure FlOk (n : Nat) (ws : List (List Int)) (rs : List (List (Option Int))) (hs : List (List Int)) : Prop where
  last : ∀ a, a < n → (hs.getD rs.length []).getD a 0 ≤ 0
  step : ∀ k row, rs[k]? = some row → ∀ a b p, a < n → b < n → row.getD b none = some p → (hs.getD k []).getD a 0 ≤ mat ws a b + p + (hs.getD (k + 1) []).getD b 0
def FloorIs (n : Int) (ws : List (List Int)) (rs : List (List (Option Int))) (H : Hp) (v : V) : Prop :=
  ∃ a ts hs, v = .ref a ∧ SeqAt' H a ts ∧ ts.length = rs.length + 1 ∧ Paired (fun z ks => IntT H z ks ∧ (ks.length : Int) = n) ts hs ∧ FlOk n.toNat ws rs hs
def headOf (H : Hp) (v : V) (x : Int) : Prop := ∃ (a : Addr) (ts : List V) (b : Addr) (ks : List Int), v = .ref a ∧ SeqAt' H a ts ∧ ts[0]? = some (.ref b) ∧ H b = some (.tup (ks.map V.int)) ∧ ks.getD 0 0 = x
theorem headOf.fn {H : Hp} {v : V} {x y : Int} (h : headOf H v x) (g : headOf H v y) : x = y := by
  obtain ⟨a, ts, b, ks, rfl, h2, h3, h4, rfl⟩ := h
  obtain ⟨a', ts', b', ks', e, g2, g3, g4, rfl⟩ := g
  cases e
  obtain rfl := h2.fn g2
  rw [h3] at g3; cases g3
  rw [h4] at g4
  have : ks.map V.int = ks'.map V.int := by injection g4 with g4; injection g4
  have : ks = ks' := by
    have inj : ∀ xs ys : List Int, xs.map V.int = ys.map V.int → xs = ys := by
      intro xs
      induction xs with
      | nil => intro ys h; cases ys with | nil => rfl | cons y t => cases h
      | cons x t ih =>
        intro ys h
        cases ys with
        | nil => cases h
        | cons y u =>
          rw [List.map_cons, List.map_cons] at h
          injection h with h1 h2
          injection h1 with h1
          rw [h1, ih u h2]
    exact inj _ _ this
  rw [this]
theorem paired_ints {H : Hp} {n : Int} : ∀ {ts : List V}, (∀ i, i < ts.length → IsInts H (ts.getD i .non) n) → ∃ hs, Paired (fun z ks => IntT H z ks ∧ (ks.length : Int) = n) ts hs
  | [], _ => ⟨[], .nil⟩
  | z :: t, h => by
    obtain ⟨hs, hp⟩ := paired_ints (H := H) (n := n) (ts := t) fun i hi => by
      have := h (i + 1) (by rw [List.length_cons]; omega)
      simpa using this
    obtain ⟨ks, h1, h2⟩ := h 0 (by simp)
    exact ⟨ks :: hs, .cons ⟨by simpa using h1, h2⟩ hp⟩
theorem ceil_iff {n : Nat} {ws : List (List Int)} {row : List (Option Int)} {ah ks : List Int} (hne : ∀ a, chs n ws row ah a ≠ []) : (∀ a, a < n → ks.getD a 0 ≤ (ceil n ws row ah).getD a 0) ↔ ∀ a b p, a < n → b < n → row.getD b none = some p → ks.getD a 0 ≤ mat ws a b + p + ah.getD b 0 := by
  constructor
  · intro h a b p ha hb hp
    exact Int.le_trans (h a ha) (ceil_le ha hb hp)
  · intro h a ha
    rw [ceil_at ha]
    have hm := minL_mem (l := (chs n ws row ah a).map (·.1)) (by intro e; exact hne a (List.map_eq_nil_iff.mp e))
    obtain ⟨⟨x, y⟩, hq, hx⟩ := List.mem_map.mp hm
    obtain ⟨pp, k, hpp, hk, e⟩ := chs_mem.mp hq
    cases e
    have hx : mat ws a pp + k + ah.getD pp 0 = _ := hx
    rw [← hx]
    exact h a pp k ha hpp hk
/-! things as data -/
inductive DatP (A : Addr → Prop) (H : Hp) : V → PyData → Prop
  | non : DatP A H .non .none
  | bl (b : Bool) : DatP A H (.bl b) (.bool b)
  | int (i : Int) : DatP A H (.int i) (.int i)
  | str (z : Str) : DatP A H (.str z) (.str z)
  | lst (a : Addr) (xs : List V) (ds : List PyData) : A a → H a = some (.lst xs) → xs.length = ds.length → (∀ (i : Nat) x d, xs[i]? = some x → ds[i]? = some d → DatP A H x d) → DatP A H (.ref a) (.list ds)
  | tup (a : Addr) (xs : List V) (ds : List PyData) : A a → H a = some (.tup xs) → xs.length = ds.length → (∀ (i : Nat) x d, xs[i]? = some x → ds[i]? = some d → DatP A H x d) → DatP A H (.ref a) (.tuple ds)
theorem DatP.mono {A B : Addr → Prop} {H H' : Hp} {v : V} {d : PyData} (D : DatP A H v d) (hk : ∀ a o, A a → H a = some o → H' a = some o) (hA : ∀ a, A a → (∃ o, H a = some o) → B a) : DatP B H' v d := by
  induction D with
  | non => exact .non
  | bl b => exact .bl b
  | int i => exact .int i
  | str z => exact .str z
  | lst a xs ds h1 h2 h3 _ ih => exact .lst a xs ds (hA a h1 ⟨_, h2⟩) (hk _ _ h1 h2) h3 ih
  | tup a xs ds h1 h2 h3 _ ih => exact .tup a xs ds (hA a h1 ⟨_, h2⟩) (hk _ _ h1 h2) h3 ih
theorem DatP.same {A : Addr → Prop} {H H' : Hp} {v : V} {d : PyData} (D : DatP A H v d) (k : Same H H') : DatP A H' v d := D.mono (fun a o _ h => k a o h) fun _ h _ => h
theorem dpAll_of {K : PySem.W.Frag} {H : Hp} : ∀ {xs : List V} {ds : List PyData}, xs.length = ds.length → (∀ (i : Nat) x d, xs[i]? = some x → ds[i]? = some d → Dp K H x d) → DpAll K H xs ds
  | [], [], _, _ => .nil
  | [], _ :: _, h, _ => by simp at h
  | _ :: _, [], h, _ => by simp at h
  | x :: xs, d :: ds, h, f => .cons (f 0 x d rfl rfl) (dpAll_of (by simpa using h) fun i y e h1 h2 => f (i + 1) y e (by simpa using h1) (by simpa using h2))
theorem DatP.dp {K : PySem.W.Frag} {A : Addr → Prop} {H : Hp} {v : V} {d : PyData} (D : DatP A H v d) : Dp K H v d := by
  induction D with
  | non => exact .non
  | bl b => exact .bl b
  | int i => exact .int i
  | str z => exact .str z
  | lst a xs ds h1 h2 h3 _ ih => exact .lst (SqL.of h2) (dpAll_of h3 ih)
  | tup a xs ds h1 h2 h3 _ ih => exact .tup (SqT.of h2) (dpAll_of h3 ih)
theorem DatP.dat {A : Addr → Prop} {H : Hp} {v : V} {d : PyData} (D : DatP A H v d) : Dat A H v := by
  induction D with
  | non => exact .non
  | bl b => exact .bl b
  | int i => exact .int i
  | str z => exact .str z
  | lst a xs ds h1 h2 h3 _ ih =>
    refine .lst a xs h1 h2 fun x hx => ?_
    obtain ⟨i, hi⟩ := List.getElem?_of_mem hx
    have hl := (List.getElem?_eq_some_iff.mp hi).1
    exact ih i x _ hi (List.getElem?_eq_getElem (by omega))
  | tup a xs ds h1 h2 h3 _ ih =>
    refine .tup a xs h1 h2 fun x hx => ?_
    obtain ⟨i, hi⟩ := List.getElem?_of_mem hx
    have hl := (List.getElem?_eq_some_iff.mp hi).1
    exact ih i x _ hi (List.getElem?_eq_getElem (by omega))
theorem datP_one {A : Addr → Prop} {H : Hp} {a : Addr} {x : V} {d : PyData} (hA : A a) (h : H a = some (.lst [x])) (hx : DatP A H x d) : DatP A H (.ref a) (.list [d]) :=
  .lst a _ _ hA h rfl fun i y e h1 h2 => by
    match i with
    | 0 => cases h1; cases h2; exact hx
    | i + 1 => simp at h1
theorem datP_oneT {A : Addr → Prop} {H : Hp} {a : Addr} {x : V} {d : PyData} (hA : A a) (h : H a = some (.tup [x])) (hx : DatP A H x d) : DatP A H (.ref a) (.tuple [d]) :=
  .tup a _ _ hA h rfl fun i y e h1 h2 => by
    match i with
    | 0 => cases h1; cases h2; exact hx
    | i + 1 => simp at h1
/-- a thing that can be compared with itself: data without dicts, or a flat dict -/
def OddV (A : Addr → Prop) (H : Hp) (v : V) : Prop := (∃ d, DatP A H v d ∧ SeqAt.shaped d = true) ∨ ∃ (a : Addr) (kvs : List (Key × V)), v = .ref a ∧ A a ∧ H a = some (.dK kvs) ∧ (kvs.map (·.1)).Nodup ∧ ∀ p ∈ kvs, flatB p.2 = true ∧ Dat A H p.2
theorem OddV.mono {A B : Addr → Prop} {H H' : Hp} {v : V} (D : OddV A H v) (hk : ∀ a o, A a → H a = some o → H' a = some o) (hA : ∀ a, A a → (∃ o, H a = some o) → B a) : OddV B H' v := by
  rcases D with ⟨d, h1, h2⟩ | ⟨a, kvs, h1, h2, h3, h4, h5⟩
  · exact .inl ⟨d, h1.mono hk hA, h2⟩
  · exact .inr ⟨a, kvs, h1, hA a h2 ⟨_, h3⟩, hk _ _ h2 h3, h4, fun p hp => ⟨(h5 p hp).1, (h5 p hp).2.mono hk hA⟩⟩
theorem OddV.same {A : Addr → Prop} {H H' : Hp} {v : V} (D : OddV A H v) (k : Same H H') : OddV A H' v := D.mono (fun a o _ h => k a o h) fun _ h _ => h
theorem OddV.keep {d : Addr} {H H' : Hp} {v : V} (D : OddV (fun a => a ≠ d) H v) (k : Keep d H H') : OddV (fun a => a ≠ d) H' v := D.mono (fun a o n h => k a o n h) fun _ h _ => h
theorem OddV.dat {A : Addr → Prop} {H : Hp} {v : V} (D : OddV A H v) : Dat A H v := by
  rcases D with ⟨d, h1, h2⟩ | ⟨a, kvs, rfl, h2, h3, h4, h5⟩
  · exact h1.dat
  · exact .dK a kvs h2 h3 fun q hq => (h5 q hq).2
theorem shaped_int (i : Int) : SeqAt.shaped (.int i) = true := rfl
theorem shaped_bool (i : Bool) : SeqAt.shaped (.bool i) = true := rfl
theorem OddV.int {A : Addr → Prop} {H : Hp} (i : Int) : OddV A H (.int i) := .inl ⟨_, .int i, rfl⟩
theorem OddV.bl {A : Addr → Prop} {H : Hp} (i : Bool) : OddV A H (.bl i) := .inl ⟨_, .bl i, rfl⟩
theorem OddV.non {A : Addr → Prop} {H : Hp} : OddV A H .non := .inl ⟨_, .non, rfl⟩
theorem OddV.str {A : Addr → Prop} {H : Hp} {z : Str} (h : PyData.strOk z = true) : OddV A H (.str z) := .inl ⟨_, .str z, by
  show (PyData.canLay0 (.str z) && decide (PyData.depth (.str z) ≤ 64)) = true
  simp [PyData.canLay0, PyData.depth, h]⟩
end Toy

namespace Toy
/-! least ways by ways that come to no post twice: plain mathematics (ways are told backwards: the head is the end) -/
/-- a way that begins with l (told backwards) and goes on by posts not met yet -/
inductive Ext (n : Nat) : List Nat → List Nat → Prop
  | self (l : List Nat) : Ext n l l
  | step {l m : List Nat} {p : Nat} : p < n → ¬ p ∈ l → Ext n (p :: l) m → Ext n l m
theorem Ext.nodup {n : Nat} {l m : List Nat} (e : Ext n l m) (h : l.Nodup) : m.Nodup := by
  induction e with
  | self l => exact h
  | step hp hn _ ih => exact ih (List.nodup_cons.mpr ⟨hn, h⟩)
theorem Ext.lt {n : Nat} {l m : List Nat} (e : Ext n l m) (h : ∀ x ∈ l, x < n) : ∀ x ∈ m, x < n := by
  induction e with
  | self l => exact h
  | step hp hn _ ih => exact ih fun x hx => (List.mem_cons.mp hx).elim (fun q => by rw [q]; exact hp) (h x)
theorem Ext.last {n : Nat} {l m : List Nat} {i : Nat} (e : Ext n l m) (h : l.getLast? = some i) : m.getLast? = some i := by
  induction e with
  | self l => exact h
  | @step l m p hp hn _ ih =>
    refine ih ?_
    cases l with
    | nil => cases h
    | cons a t => rw [List.getLast?_cons_cons]; exact h
theorem Ext.ne {n : Nat} {l m : List Nat} (e : Ext n l m) (h : l ≠ []) : m ≠ [] := by
  induction e with
  | self l => exact h
  | step hp hn _ ih => exact ih (by simp)
/-- each simple way is met from its first post on -/
theorem ext_suffix {n : Nat} : ∀ (k l : List Nat), (k ++ l).Nodup → (∀ x ∈ k ++ l, x < n) → Ext n l (k ++ l)
  | [], l, _, _ => .self l
  | k :: ks, l, h, hlt => by
    -- the post that comes next is the last one of k :: ks
    have : ∀ (ks l : List Nat), (ks ++ l).Nodup → (∀ x ∈ ks ++ l, x < n) → Ext n l (ks ++ l) := by
      intro ks
      induction hL : ks.length generalizing ks with
      | zero =>
        intro l _ _
        have : ks = [] := List.length_eq_zero_iff.mp hL
        subst this
        exact .self l
      | succ m ih =>
        intro l h hlt
        have hne : ks ≠ [] := by intro e; subst e; cases hL
        have e : ks = ks.dropLast ++ [ks.getLast hne] := (List.dropLast_concat_getLast hne).symm
        have e2 : ks ++ l = ks.dropLast ++ (ks.getLast hne :: l) := by
          conv => lhs; rw [e]
          rw [List.append_assoc]; rfl
        rw [e2] at h hlt ⊢
        have hn : ¬ ks.getLast hne ∈ l := by
          have := (List.nodup_append.mp h).2.1
          exact (List.nodup_cons.mp this).1
        exact .step (hlt _ (by simp)) hn (ih ks.dropLast (by rw [List.length_dropLast]; omega) _ h hlt)
    exact this (k :: ks) l h hlt
theorem simple {n : Nat} {R : Nat → Nat → Int} (h : ∀ i j, i < n → j < n → 0 ≤ R i j) {i j : Nat} : ∀ (k : Nat) (l : List Nat), l.length ≤ k → Way n i j l → ∃ l', Way n i j l' ∧ l'.Nodup ∧ rc R l' ≤ rc R l
  | 0, l, hk, w => by
    cases l with
    | nil => cases w.hd
    | cons a t => simp at hk
  | k + 1, l, hk, w => by
    by_cases nd : l.Nodup
    · exact ⟨l, w, nd, Int.le_refl _⟩
    · obtain ⟨a, x, b, c, rfl⟩ := dup l nd
      have w' : Way n i j (a ++ x :: c) := by
        refine ⟨?_, ?_, fun y hy => w.lt y ?_⟩
        · have := w.hd
          cases a with
          | nil => exact this
          | cons a0 at' => exact this
        · have hl := w.la
          rw [List.getLast?_append] at hl ⊢
          have e : (x :: (b ++ x :: c)).getLast? = (x :: c).getLast? := by
            rw [show x :: (b ++ x :: c) = (x :: b) ++ x :: c from rfl, List.getLast?_append]
            cases hq : (x :: c).getLast? with
            | none => simp at hq
            | some y => rfl
          rw [e] at hl; exact hl
        · rcases List.mem_append.mp hy with q | q
          · exact List.mem_append_left _ q
          · refine List.mem_append_right _ ?_
            rcases List.mem_cons.mp q with q | q
            · rw [q]; exact List.mem_cons_self
            · exact List.mem_cons_of_mem _ (List.mem_append_right _ (List.mem_cons_of_mem _ q))
      have hr : rc R (a ++ x :: c) ≤ rc R (a ++ x :: (b ++ x :: c)) := by
        rw [rc_app R x c a, rc_app R x (b ++ x :: c) a]
        have e : rc R (x :: (b ++ x :: c)) = rc R ((x :: b) ++ x :: c) := rfl
        rw [e, rc_app R x c (x :: b)]
        have := rc_nn h ((x :: b) ++ [x]) (fun y hy => w.lt y (by
          refine List.mem_append_right _ ?_
          rcases List.mem_append.mp hy with q | q
          · rcases List.mem_cons.mp q with q | q
            · rw [q]; exact List.mem_cons_self
            · exact List.mem_cons_of_mem _ (List.mem_append_left _ q)
          · rw [List.mem_singleton.mp q]; exact List.mem_cons_self))
        omega
      obtain ⟨l', w1, nd1, r1⟩ := simple h k (a ++ x :: c) (by simp at hk ⊢; omega) w'
      exact ⟨l', w1, nd1, Int.le_trans r1 hr⟩
/-- what the search from l on makes of the least numbers L: L' -/
structure Went (n : Nat) (R : Nat → Nat → Int) (l : List Nat) (L L' : Nat → Int) : Prop where
  le : ∀ b, L' b ≤ L b
  all : ∀ m b, Ext n l m → m.head? = some b → L' b ≤ rc R m
  has : ∀ b, L' b = L b ∨ ∃ m, Ext n l m ∧ m.head? = some b ∧ L' b = rc R m
/-- .. with only the first q posts tried as the next one -/
structure WentTo (n q : Nat) (R : Nat → Nat → Int) (l : List Nat) (L L' : Nat → Int) : Prop where
  le : ∀ b, L' b ≤ L b
  self : ∀ b, l.head? = some b → L' b ≤ rc R l
  all : ∀ p m b, p < q → ¬ p ∈ l → Ext n (p :: l) m → m.head? = some b → L' b ≤ rc R m
  has : ∀ b, L' b = L b ∨ ∃ m, Ext n l m ∧ m.head? = some b ∧ L' b = rc R m
theorem WentTo.start {n : Nat} {R : Nat → Nat → Int} {a : Nat} {t : List Nat} {L : Nat → Int} : WentTo n 0 R (a :: t) L (fun b => if b = a then min (L a) (rc R (a :: t)) else L b) := by
  refine ⟨fun b => ?_, fun b hb => ?_, fun p m b hp => absurd hp (Nat.not_lt_zero _), fun b => ?_⟩
  · split
    · subst_vars; omega
    · omega
  · have : a = b := by simpa using hb
    subst this
    rw [if_pos rfl]; omega
  · split
    · rename_i e
      subst e
      by_cases h : L b ≤ rc R (b :: t)
      · exact .inl (by omega)
      · exact .inr ⟨_, .self _, rfl, by omega⟩
    · exact .inl rfl
theorem WentTo.skip {n q : Nat} {R : Nat → Nat → Int} {l : List Nat} {L L' : Nat → Int} (w : WentTo n q R l L L') (h : q ∈ l) : WentTo n (q + 1) R l L L' :=
  ⟨w.le, w.self, fun p m b hp hn => by
    by_cases e : p = q
    · subst e; exact absurd h hn
    · exact w.all p m b (by omega) hn, w.has⟩
theorem WentTo.step {n q : Nat} {R : Nat → Nat → Int} {l : List Nat} {L L' L2 : Nat → Int} (w : WentTo n q R l L L') (hq : q < n) (hn : ¬ q ∈ l) (g : Went n R (q :: l) L' L2) : WentTo n (q + 1) R l L L2 := by
  refine ⟨fun b => Int.le_trans (g.le b) (w.le b), fun b hb => Int.le_trans (g.le b) (w.self b hb), fun p m b hp hnp e hb => ?_, fun b => ?_⟩
  · by_cases h : p = q
    · subst h; exact g.all m b e hb
    · exact Int.le_trans (g.le b) (w.all p m b (by omega) hnp e hb)
  · rcases g.has b with h | ⟨m, e, hb, h⟩
    · rw [h]; exact w.has b
    · exact .inr ⟨m, .step hq hn e, hb, h⟩
theorem WentTo.done {n : Nat} {R : Nat → Nat → Int} {l : List Nat} {L L' : Nat → Int} (w : WentTo n n R l L L') : Went n R l L L' := by
  refine ⟨w.le, fun m b e hb => ?_, w.has⟩
  cases e with
  | self => exact w.self b hb
  | step hp hn e' => exact w.all _ m b hp hn e' hb
/-- the search from one post on finds the least ways -/
theorem Went.least {n : Nat} {R M : Nat → Nat → Int} {a : Nat} {L L' : Nat → Int} (w : Went n R [a] L L') (hR : ∀ i j, i < n → j < n → 0 ≤ R i j) (l : Least n R M) (ha : a < n) {b : Nat} (hb : b < n) (hL : R a b < L b) (h0 : 0 < L b) : L' b = M a b := by
  have up : L' b ≤ M a b := by
    obtain ⟨v, hv, e⟩ := l.has a b ha hb
    obtain ⟨v', hv', nd, r⟩ := simple hR v.length v (Nat.le_refl _) hv
    have hla := hv'.la
    have hne : v' ≠ [] := by intro z; subst z; cases hla
    have e2 : v' = v'.dropLast ++ [a] := by
      have := (List.dropLast_concat_getLast hne).symm
      have hg : v'.getLast? = some (v'.getLast hne) := List.getLast?_eq_some_getLast hne
      rw [hg] at hla
      rw [Option.some.inj hla] at this
      exact this
    have hx : Ext n [a] v' := by
      rw [e2] at nd ⊢
      exact ext_suffix _ _ nd (by rw [← e2]; exact hv'.lt)
    have := w.all v' b hx hv'.hd
    omega
  rcases w.has b with h | ⟨m, e, hm, h⟩
  · have : L' b ≤ rc R [b, a] ∨ b = a := by
      by_cases hab : b = a
      · exact .inr hab
      · exact .inl (w.all [b, a] b (.step hb (by simpa using hab) (.self _)) rfl)
    rcases this with q | q
    · have e2 : rc R [b, a] = R a b := by simp [rc]
      omega
    · subst q
      have := w.all [b] b (.self _) rfl
      have e2 : rc R [b] = 0 := rfl
      omega
  · have := l.le a b m ha hb ⟨hm, e.last rfl, e.lt (by intro x hx; rw [List.mem_singleton.mp hx]; exact ha)⟩
    omega
end Toy

namespace Toy
/-! least sums by loosening, in place: plain mathematics -/
def setL (L : Nat → Option Int) (b : Nat) (v : Int) : Nat → Option Int := fun c => if c = b then some v else L c
def Rl (n : Nat) (L0 L : Nat → Option Int) : Prop := ∀ b x, b < n → L0 b = some x → ∃ y, L b = some y ∧ y ≤ x
def Dn (n : Nat) (R : Nat → Nat → Int) (L0 L : Nat → Option Int) (a b : Nat) : Prop := ∀ x, L0 a = some x → ∃ y, L b = some y ∧ y ≤ x + R a b
/-- no number is less than lw says -/
def Snb (n : Nat) (lw : Nat → Int) (L : Nat → Option Int) : Prop := ∀ b x, b < n → L b = some x → lw b ≤ x
def Up (n : Nat) (R : Nat → Nat → Int) (cost : Nat → Option Int) (k : Nat) (L : Nat → Option Int) : Prop := ∀ i j l c, l.length ≤ k + 1 → Way n i j l → cost i = some c → ∃ y, L j = some y ∧ y ≤ c + rc R l
section
variable {n : Nat} {R : Nat → Nat → Int} {L0 L L' : Nat → Option Int} {cost : Nat → Option Int} {lw : Nat → Int}
theorem Rl.refl : Rl n L L := fun b x _ h => ⟨x, h, Int.le_refl _⟩
theorem Rl.trans (h : Rl n L0 L) (g : Rl n L L') : Rl n L0 L' := fun b x hb e => by
  obtain ⟨y, e1, h1⟩ := h b x hb e
  obtain ⟨z, e2, h2⟩ := g b y hb e1
  exact ⟨z, e2, Int.le_trans h2 h1⟩
theorem Rl.set {b : Nat} {v : Int} (h : ∀ y, L b = some y → v ≤ y) : Rl n L (setL L b v) := fun c x _ e => by
  unfold setL
  by_cases hc : c = b
  · subst hc
    exact ⟨v, by rw [if_pos rfl], h x e⟩
  · exact ⟨x, by rw [if_neg hc]; exact e, Int.le_refl _⟩
theorem Dn.mono {a b : Nat} (hb : b < n) (g : Rl n L L') (d : Dn n R L0 L a b) : Dn n R L0 L' a b := fun x e => by
  obtain ⟨y, e1, h1⟩ := d x e
  obtain ⟨z, e2, h2⟩ := g b y hb e1
  exact ⟨z, e2, Int.le_trans h2 h1⟩
theorem Dn.now {a b : Nat} (ha : a < n) (g : Rl n L0 L) (h : Dn n R L L' a b) : Dn n R L0 L' a b := fun x e => by
  obtain ⟨x', e1, h1⟩ := g a x ha e
  obtain ⟨y, e2, h2⟩ := h x' e1
  exact ⟨y, e2, by omega⟩
theorem Snb.set {a b : Nat} {x : Int} (s : Snb n lw L) (ha : a < n) (hx : L a = some x) (tri : lw b ≤ lw a + R a b) : Snb n lw (setL L b (x + R a b)) := fun c y hc e => by
  unfold setL at e
  by_cases hcb : c = b
  · rw [if_pos hcb] at e
    cases e
    subst hcb
    have := s a x ha hx
    omega
  · rw [if_neg hcb] at e
    exact s c y hc e
theorem Up.zero : Up n R cost 0 cost := fun i j l c hl w hc => by
  match l, hl, w with
  | [x], _, w =>
    have h1 := w.hd
    have h2 := w.la
    simp at h1 h2
    subst h1; subst h2
    exact ⟨c, hc, by simp [rc]⟩
  | [], _, w => cases w.hd
  | _ :: _ :: _, hl, _ => simp at hl
theorem Up.step {k : Nat} (u : Up n R cost k L0) (g : Rl n L0 L) (d : ∀ a b, a < n → b < n → Dn n R L0 L a b) : Up n R cost (k + 1) L := fun i j l c hl w hc => by
  match l, hl, w with
  | [], _, w => cases w.hd
  | [x], _, w =>
    obtain ⟨y, e, h⟩ := u i j [x] c (by simp) w hc
    obtain ⟨z, e2, h2⟩ := g j y (w.lt j (by have := w.hd; simp at this; simp [this])) e
    exact ⟨z, e2, Int.le_trans h2 h⟩
  | q :: p :: t, hl, w =>
    have hq : q = j := by have := w.hd; simpa using this
    subst hq
    have w' : Way n i p (p :: t) := ⟨rfl, by have := w.la; rwa [List.getLast?_cons_cons] at this, fun x hx => w.lt x (List.mem_cons_of_mem _ hx)⟩
    obtain ⟨y, e, h⟩ := u i p (p :: t) c (by simp at hl ⊢; omega) w' hc
    obtain ⟨z, e2, h2⟩ := d p q (w.lt p (by simp)) (w.lt q (by simp)) y e
    refine ⟨z, e2, ?_⟩
    simp only [rc]
    omega
end
/-- what is to be found: the prices of the request behind the offsets -/
def costF (off : List Int) (row : List (Option Int)) (a : Nat) : Option Int := match row.getD a none with
  | some k => some (off.getD a 0 + k)
  | none => none
theorem costF_some {off : List Int} {row : List (Option Int)} {a : Nat} {k : Int} (h : row.getD a none = some k) : costF off row a = some (off.getD a 0 + k) := by unfold costF; rw [h]
theorem costF_none {off : List Int} {row : List (Option Int)} {a : Nat} (h : row.getD a none = none) : costF off row a = none := by unfold costF; rw [h]
section
variable {n : Nat} {R : Nat → Nat → Int} {ws : List (List Int)} {off : List Int} {row : List (Option Int)} {L : Nat → Option Int}
theorem raw_tri (M : Met n ws) (hne : srv n off row ≠ []) {a b : Nat} (ha : a < n) (hb : b < n) : rawAt ws (srv n off row) b ≤ rawAt ws (srv n off row) a + mat ws a b := by
  obtain ⟨q, hq, e⟩ := raw_has (ws := ws) (b := a) hne
  obtain ⟨p, k, hp, _, rfl⟩ := srv_mem.mp hq
  have h1 := raw_le (ws := ws) (b := b) hq
  have h2 := M.tri p a b hp ha hb
  simp only at e h1
  omega
theorem Snb.start (M : Met n ws) : Snb n (rawAt ws (srv n off row)) (costF off row) := fun b x hb e => by
  unfold costF at e
  cases hc : row.getD b none with
  | none => rw [hc] at e; cases e
  | some k =>
    rw [hc] at e
    cases e
    have h := raw_le (ws := ws) (b := b) (srv_mem.mpr ⟨b, k, hb, hc, rfl⟩ : (off.getD b 0 + k, b) ∈ srv n off row)
    have := M.z b hb
    simp only at h
    omega
theorem Up.fin (lst : Least n R (mat ws)) (hR : ∀ i j, i < n → j < n → 0 ≤ R i j) (hne : srv n off row ≠ []) (u : Up n R (costF off row) n L) (s : Snb n (rawAt ws (srv n off row)) L) {b : Nat} (hb : b < n) : L b = some (rawAt ws (srv n off row) b) := by
  obtain ⟨q, hq, e⟩ := raw_has (ws := ws) (b := b) hne
  obtain ⟨p, k, hp, hk, rfl⟩ := srv_mem.mp hq
  obtain ⟨l, w, er⟩ := lst.has p b hp hb
  obtain ⟨l', w', nd, hr⟩ := simple hR l.length l (Nat.le_refl _) w
  have hlen : l'.length ≤ n := pigeon n l' w'.lt nd
  obtain ⟨y, ey, hy⟩ := u p b l' _ (by omega) w' (costF_some hk)
  have h2 := s b y hb ey
  have hyr : y = rawAt ws (srv n off row) b := by
    simp only at e
    omega
  rw [ey, hyr]
end
end Toy

namespace Toy
open PySem PySem.Spec PyProof.Rows L2
/-! own exception classes with an __init__ of their own: what the written part says of them, as one flag -/
def isNew : List (Option Value) → Bool
  | _ :: _ :: _ :: _ :: some (.builtin m) :: _ :: [] => decide (m = "ValueError.__new__")
  | _ => false
def ownMro (C : Addr) : List Value → Bool
  | .ref D :: l => decide (D = C) && PySem.HandSPX.refsVE l
  | _ => false
def isTy : Value → Bool
  | .type t => decide (t = "type")
  | _ => false
def shapeB (C : Addr) (o : Obj) : Bool := isTy o.cls && isNew o.slots.toList && match o.data with
  | .cls c => ownMro C c.mro && c.hasDict && !c.hasDel
  | _ => false
theorem isNew_ok {l : List (Option Value)} (h : isNew l = true) : ∃ u v x y z, l = [u, v, x, y, some (.builtin "ValueError.__new__"), z] := by
  match l, h with
  | [u, v, x, y, some (.builtin m), z], h => exact ⟨u, v, x, y, z, by rw [of_decide_eq_true h]⟩
theorem ownMro_ok {C : Addr} {l : List Value} (h : ownMro C l = true) : ∃ r, l = .ref C :: r ∧ PySem.HandSPX.refsVE r = true := by
  match l, h with
  | .ref D :: r, h =>
    have g := Bool.and_eq_true_iff.mp h
    exact ⟨r, by rw [of_decide_eq_true g.1], g.2⟩
theorem isTy_ok {v : Value} (h : isTy v = true) : v = .type "type" := by
  match v, h with
  | .type t, h => rw [of_decide_eq_true h]
theorem shape_ok {C : Addr} {o : Obj} (h : shapeB C o = true) : ∃ nm q N bs bm sn sub ab col dd u v x y z, o = excClassObj nm q C N bs bm true sn sub ab col dd u v x y z "ValueError.__new__" ∧ PySem.HandSPX.refsVE bm = true := by
  obtain ⟨cl, dd, dt, ⟨sl⟩⟩ := o
  unfold shapeB at h
  have g := Bool.and_eq_true_iff.mp h
  have g1 := Bool.and_eq_true_iff.mp g.1
  have hc : cl = .type "type" := isTy_ok g1.1
  obtain ⟨u, v, x, y, z, hs⟩ := isNew_ok g1.2
  have hs : sl = _ := hs
  cases dt with
  | cls c =>
    have g2 := Bool.and_eq_true_iff.mp g.2
    have g3 := Bool.and_eq_true_iff.mp g2.1
    obtain ⟨nm, bs, mro, N, q, hd, sn, sub, ab, col, del⟩ := c
    obtain ⟨bm, hm, hr⟩ := ownMro_ok g3.1
    have hm : mro = _ := hm
    have hd' : hd = true := g3.2
    have hl : del = false := by
      have e : (!del) = true := g2.2
      cases del <;> first | rfl | cases e
    subst hm hc hs hd' hl
    exact ⟨nm, q, N, bs, bm, sn, sub, ab, col, dd, u, v, x, y, z, rfl, hr⟩
  | _ => cases g.2
def oexB (K : PySem.W.Frag) (C : Addr) : Bool := (K.lookup C).any (shapeB C) && xfB K C && PySem.W.keepIn K (.ref C) && decide (PySem.W.typeIn K (.ref C) = some (.type "type")) && decide (PySem.W.findIn K (.ref C) "__setattr__" = some (some (.builtin "object.__setattr__")))
theorem oexB_ok {K : PySem.W.Frag} {C : Addr} (h : oexB K C = true) : OexC K C ∧ XfC K C := by
  have g1 := Bool.and_eq_true_iff.mp h
  have g2 := Bool.and_eq_true_iff.mp g1.1
  have g3 := Bool.and_eq_true_iff.mp g2.1
  have g4 := Bool.and_eq_true_iff.mp g3.1
  have x := xfB_ok g4.2
  obtain ⟨o, ho, hs⟩ := Option.any_eq_true _ _ |>.mp g4.1
  obtain ⟨nm, q, N, bs, bm, sn, sub, ab, col, dd, u, v, w, y, z, rfl, hr⟩ := shape_ok hs
  exact ⟨⟨⟨nm, q, N, bs, bm, sn, sub, ab, col, dd, u, v, w, y, z, ho, hr⟩, of_decide_eq_true g1.2, x.exC, of_decide_eq_true g2.2, g3.2⟩, x⟩
/-! a head that asks one more flag of the written part -/
abbrev AlX : Type := He.AlD × Bool
def obsX (fa : List He.Fa) (fn : List He.DefD) (b : PySem.W.Frag → Bool) (K : PySem.W.Frag) : AlX := (He.obsD fa fn K, b K)
def obsXG (n : Nat) (fa : List He.Fa) (fn : List He.DefD) (b : PySem.W.Frag → Bool) (g : Addr → Option Obj) : AlX := obsX fa fn b (He.frG g (He.asD g n))
def hookX (n : Nat) (fa : List He.Fa) (fn : List He.DefD) (b : PySem.W.Frag → Bool) : PySem.W.Hook where
  α := AlX
  obs := fun s => obsXG n fa fn b s.heap.get?
  val := fun _ => (He.valD fn, true)
  says := fun _ h => ∃ K : PySem.W.Frag, K.In h ∧ He.SaysD fa fn K ∧ b K = true
  of := fun _ _ e => ⟨_, He.frG_in, congrArg Prod.fst e, congrArg Prod.snd e⟩
  keeps := fun _ _ _ ⟨K, hK, c, e⟩ k => ⟨K, PySem.W.Frag.In.keeps hK k, c, e⟩
theorem obsXG_eq {n : Nat} {fa : List He.Fa} {fn : List He.DefD} {b : PySem.W.Frag → Bool} {g : Addr → Option Obj} {s : Shared} (h : ∀ a, g a = s.heap.get? a) : obsXG n fa fn b g = (hookX n fa fn b).obs s := by
  have e : g = s.heap.get? := funext h
  rw [e] <;> rfl
/-! defs and methods that may raise -/
section
variable {P : Program} {w : World} {K : PySem.W.Frag} {mg : Str → Option Value} {base : Heap}
def OkX (P : Program) (w : World) (K : PySem.W.Frag) (mg : Str → Option Value) (base : Heap) (k : Nat) (x : Str) (ps : List Str) (sp : Sp) : Prop :=
  ∃ (f : Addr) (fd : FuncData), mg x = some (.ref f) ∧ PySem.W.keepIn K (.ref f) = true ∧ Binds K fd ps [] ∧ FnOk P w K mg base (L2.CX P w) k f fd ps sp
theorem okX_of {x : Str} {st : Stmt} {N ps : List Str} {k : Nat} {sp : Sp} (D : DefAt K mg x st ps) (S : FnScope N ps (defScope st)) (len : ∀ vs H Q E, sp vs H Q E → vs.length = ps.length)
    (hbody : ∀ (f : Addr) (cdv : Value) (A : Around) (outer : List Env) (s : Shared) (H : Hp) (vs : List V) (Q : VK) (E : XK), Room k (A.deeper (envOfC x (defScope st) s.heap.objs.size f cdv)) → sp vs H Q E →
      ∃ t, PSs (cxOf (L2.CX P w) P w K mg base N x (defScope st) f cdv A outer s H E) (defBody st) t ∧ t { nx := fun _ H' => Q .non H', rt := Q } (start N vs) H) : OkX P w K mg base (k + 1) x ps sp := by
  obtain ⟨f, fd, m, F, b⟩ := D.h
  exact ⟨f, fd, m, F.kp, b, F.okX S len fun cdv A outer s H vs Q E hr h => hbody f cdv A outer s H vs Q E hr h⟩
theorem okMX_of {m qual : Str} {C : Addr} {st : Stmt} {N ps : List Str} {k : Nat} {sp : Sp} (D : MethAt K C m qual st ps) (S : FnScope N ps (defScope st)) (len : ∀ vs H Q E, sp vs H Q E → vs.length = ps.length)
    (hbody : ∀ (f : Addr) (cdv : Value) (A : Around) (outer : List Env) (s : Shared) (H : Hp) (vs : List V) (Q : VK) (E : XK), Room k (A.deeper (envOfC qual (defScope st) s.heap.objs.size f cdv)) → sp vs H Q E →
      ∃ t, PSs (cxOf (L2.CX P w) P w K mg base N qual (defScope st) f cdv A outer s H E) (defBody st) t ∧ t { nx := fun _ H' => Q .non H', rt := Q } (start N vs) H) : OkM P w K mg base (L2.CX P w) (k + 1) C m ps sp := by
  obtain ⟨f, fd, M, F, b⟩ := D.h
  exact ⟨f, fd, M, b, F.okX S len fun cdv A outer s H vs Q E hr h => hbody f cdv A outer s H vs Q E hr h⟩
/-- an error class with an __init__ that keeps its one argument -/
structure ExcAt (K : PySem.W.Frag) (mg : Str → Option Value) (x : Str) (C : Addr) (f : Str) (st : Stmt) : Prop where
  mg : mg x = some (.ref C)
  T : OexC K C
  X : XfC K C
  no : PySem.W.findIn K (.ref C) f = some none
  h : ∃ (fI : Addr) (fd : FuncData) (q : Str), PySem.W.findIn K (.ref C) "__init__" = some (some (.ref fI)) ∧ PySem.W.typeIn K (.ref fI) = some (.type "function") ∧ Fun K "__init__" q st fI fd ∧ Binds K fd ["self", f] []
def spInitF (K : PySem.W.Frag) (f : Str) : Sp := fun vs H Q _ => ∃ (a C : Addr) (v : V), vs = [.ref a, v] ∧ OexC K C ∧ PySem.W.findIn K (.ref C) f = some none ∧ H a = some (exo a C none) ∧
  ∀ dx, H dx = none → dx ≠ a → Q .non (upd (upd H dx (exd dx [(f, v)])) a (exo a C (some dx)))
theorem init_raise {K : PySem.W.Frag} {f : Str} {H : Hp} {v : V} {C : Addr} {Q : XK} (T : OexC K C) (hno : PySem.W.findIn K (.ref C) f = some none) (h : ∀ d H', Same H H' → H d = none → H' d = some (.xd [(f, v)]) → Q (.ref C) (some d) H') :
    ∀ a, H a = none → spInitF K f (.ref a :: ([v] ++ [])) (upd H a (exo a C none)) (fun v' H2 => v' = .non ∧ ∃ (d : Addr) (fs : List (Str × V)), H2 a = some (exo a C (some d)) ∧ H2 d = some (exd d fs) ∧ H d = none ∧ Q (.ref C) (some d) (upd (L2.del H2 a) d (.xd fs))) (fun _ _ _ => False) := by
  intro a na
  refine ⟨a, C, v, rfl, T, hno, upd_same, fun dx ndx ne => ⟨rfl, dx, _, upd_same, ?_, ?_, h dx _ ?_ ?_ upd_same⟩⟩
  · rw [upd_ne ne]; exact upd_same
  · rw [upd_ne ne] at ndx; exact ndx
  · intro b o e
    have hba : b ≠ a := ne_of_none e na
    have hbd : b ≠ dx := by
      rw [upd_ne ne] at ndx; exact ne_of_none e ndx
    rw [upd_ne hbd, del_ne hba, upd_ne hba, upd_ne hbd, upd_ne hba]
    exact e
  · rw [upd_ne ne] at ndx; exact ndx
end
/-! a method's call in a try's body: what it may let out hangs on the slots -/
def tMethA (C : Addr) (m : Str) (sp : Sp) (E : L2.St → XK) (to : TE) (t : TA) : TE := fun σ H Q => to σ H fun y G => ∃ p x l, y = .ref p ∧ G p = some (.ins C x l) ∧ l.lookup m = none ∧ t σ G fun ys G2 => sp (y :: ys) G2 Q (E σ)
/-- how the call of a method is gone through -/
def CallOfMeth (X : Cx) (o : Expr) (m : Str) (es : List Expr) (ap cp : Pos) (pl : Sem Bool) : Prop :=
  eval (.Call (.Attribute o m ap) es [] cp) X.env = (do let y ← eval o X.env; standAt ap.atName; let (g, l) ← holding [y] (getMethod y m pl); callWith cp g l (backTo cp (starEach es X.env)) (backToKw cp (keywordEach [] X.env)))
theorem pe_methA {X : Cx} {CX : CXT} {k : Nat} {f C : Addr} {fd : FuncData} {ps : List Str} {sp : Sp} {E : L2.St → XK} {m : Str} {ap cp : Pos} {o e : Expr} {es : List Expr} {to : TE} {t : TA} {pl : Sem Bool}
    (ho : PE X o to) (cl : Cls X.K C) (me : Meth X.K C m f) (F : FnOk X.prog X.w X.K X.mg X.base CX k f fd ps sp) (rm : Room k X.A) (bi : Binds X.K fd ps []) (pa : ∀ σ, PassesAt CX X σ (E σ)) (ha : PA X (e :: es) t)
    (h1 : starEach (e :: es) X.env = (false, eval e X.env) :: starEach es X.env := by rfl) (h2 : (backTo cp (starEach es X.env)).any (·.1) = false := by rfl) (h3 : CallOfMeth X o m (e :: es) ap cp pl := by rfl) :
    PE X (.Call (.Attribute o m ap) (e :: es) [] cp) (tMethA C m sp E to t) := .mk fun pins s σ H Q I h => by
  apply PySem.W.methodCall_KW (pl := pl) _ h3
  apply thn (ho.run pins s σ H _ I h)
  rintro u s1 ⟨y, G, I1, ry, p, x, l, rfl, hp, hl, q⟩
  cases (show u = Value.ref p from ry)
  apply getmeth_ok I1 hp cl me hl
  apply PySem.W.callWith_K (first := [.ref p]) (h₀ := X.base) I.ok.mod.kin me.kp _ h1 h2
  apply thn (ha.run cp pins s1 σ G _ I1 q)
  rintro us s2 ⟨ys, G2, I2, rs, q2⟩
  exact ⟨I2.kIn, run_fnS (vs := .ref p :: ys) F rm bi (pa σ) I2 (.cons rfl rs) q2⟩
/-! try with several clauses, with a name or without -/
abbrev Clause := Value × Option Nat × (Addr → Value → Option Addr → TS)
def wManyA (K : PySem.W.Frag) (Wout : WX) (D : Ends) : List Clause → WX
  | [] => Wout
  | (c, none, ts) :: r => fun cls d σ H => ∃ b, PySem.W.exmOne K cls c = some b ∧ (b = true → ∀ a, H a = none → ts a cls d D σ H) ∧ (b = false → wManyA K Wout D r cls d σ H)
  | (c, some i, ts) :: r => fun cls d σ H => ∃ b, PySem.W.exmOne K cls c = some b ∧
      (b = true → ∀ a, H a = none → ts a cls d { nx := fun σ' H' => D.nx (σ'.set i none) H', rt := D.rt, bk := fun σ' H' => D.bk (σ'.set i none) H', ct := fun σ' H' => D.ct (σ'.set i none) H' } (σ.set i (some (.ref a))) H) ∧
      (b = false → wManyA K Wout D r cls d σ H)
inductive HdsA (X : Cx) : List ExceptHandler → List Clause → Prop
  | nil : HdsA X [] []
  | cons {x : Str} {c : Value} {ts : Addr → Value → Option Addr → TS} {b₀ : Stmt} {suite : List Stmt} {np pos' : Pos} {hds : List ExceptHandler} {l : List Clause} (hc : Names X x c)
      (hsu : ∀ (a : Addr) (oe : Obj) (cls : Value) (d : Option Addr) (pn : List (Addr × Obj)), Zc cls d oe → (∃ vs, oe.data = .fields vs) → PSs (X.suite a ((a, oe) :: pn)) (b₀ :: suite) (ts a cls d)) (r : HdsA X hds l) :
      HdsA X (.ExceptHandler (some (.Name x np)) none (b₀ :: suite) pos' :: hds) ((c, none, ts) :: l)
  | consA {x n : Str} {c : Value} {i : Nat} {ts : Addr → Value → Option Addr → TS} {b₀ : Stmt} {suite : List Stmt} {np pos' : Pos} {hds : List ExceptHandler} {l : List Clause} (hi : X.N[i]? = some n) (hln : X.env.kindOf n = some .local) (hc : Names X x c)
      (hsu : ∀ (a : Addr) (oe : Obj) (cls : Value) (d : Option Addr) (pn : List (Addr × Obj)), Zc cls d oe → (∃ vs, oe.data = .fields vs) → PSs (X.suite a ((a, oe) :: pn)) (b₀ :: suite) (ts a cls d)) (r : HdsA X hds l) :
      HdsA X (.ExceptHandler (some (.Name x np)) (some n) (b₀ :: suite) pos' :: hds) ((c, some i, ts) :: l)
section
variable {X : Cx} {pins : List (Addr × Obj)} {σ : L2.St} {H : Hp} {a : Addr} {cls : Value} {d : Option Addr} {B : Heap} {sI s : Shared}
/-- an error at a, of the class cls and with the dict d, has come down in X's def: sI is the state without it -/
structure Ground (X : Cx) (pins : List (Addr × Obj)) (σ : L2.St) (H : Hp) (a : Addr) (cls : Value) (d : Option Addr) (B : Heap) (sI s : Shared) : Prop where
  inv : Inv X pins σ H sI
  old : ∀ b o, sI.heap.get? b = some o → b ∉ frs X.stack → B.get? b = some o
  fly : HandSPX.FlyingZ B (X.env :: X.outer) a (Zc cls d) s.heap
  up : sI.heap.UpToSlots s.heap
  free : H a = none
  os : s.os = sI.os
  bare : AllBare s.gens
theorem Ground.now (g : Ground X pins σ H a cls d B sI s) : Inv X pins σ H s := g.inv.landed g.old g.fly.1 g.up g.os g.bare
theorem Ground.on (g : Ground X pins σ H a cls d B sI s) {h : Heap} (f : HandSPX.FlyingZ B (X.env :: X.outer) a (Zc cls d) h) (u : s.heap.UpToSlots h) : Ground X pins σ H a cls d B sI { s with heap := h } :=
  { inv := g.inv, old := g.old, fly := f, up := g.up.trans u, free := g.free, os := g.os, bare := g.bare }
/-- it is no frame of a def -/
theorem Ground.noFrame (g : Ground X pins σ H a cls d B sI s) : ¬ a ∈ frs (X.env :: X.outer) := by
  obtain ⟨oe, vs, e1, _, e2⟩ := g.fly.there
  intro m
  obtain ⟨_, u, e3, no⟩ := g.fly.2.2.1.mem m
  cases e1.symm.trans e3
  exact no vs e2
/-- what a clause's suite begins with -/
theorem Ground.seen (g : Ground X pins σ H a cls d B sI s) (hf : X.env.frame = some X.env.locals) : ∃ oe, s.heap.get? a = some oe ∧ Zc cls d oe ∧ (∃ vs, oe.data = .fields vs) ∧ Inv (X.suite a ((a, oe) :: (X.pn ++ pins))) [] σ H s := by
  obtain ⟨oe, vs, e1, z, e2⟩ := g.fly.there
  have no := g.noFrame
  refine ⟨oe, e1, z, ⟨vs, e2⟩, g.now.suite e1 e2 g.free (fun w => no ?_) fun w => no ?_⟩
  · subst w
    exact List.mem_filterMap.mpr ⟨X.env, .head _, hf⟩
  · have ⟨v, hv, ev⟩ := List.mem_filterMap.mp w
    exact List.mem_filterMap.mpr ⟨v, .tail _ hv, ev⟩
/-- the clause's class is asked for -/
theorem Ground.asked (g : Ground X pins σ H a cls d B sI s) (hf : X.env.frame = some X.env.locals) {x : Str} {c : Value} {np : Pos} {b : Bool} {Q : Bool → Shared → Prop} {E E' : Value → Shared → Prop} (hc : Names X x c) (hx : PySem.W.exmOne X.K cls c = some b) (q : Q b s) :
    wpAny (model X.prog X.w) (X.A.mark (some (.ref a))) (eval (.Name x np) X.env) (fun v t => wpAny (model X.prog X.w) (X.A.mark (some (.ref a))) (excMatches (.ref a) v) Q E t) E' s := by
  obtain ⟨oe, e1, z, _, S⟩ := g.seen hf
  have ty : PySem.W.Looks (model X.prog X.w) s.heap (typeOf (.ref a)) cls := fun _ _ _ _ kp r => wpAny_typeOf_ref (kp a oe e1) (z.1 ▸ r)
  have go := (PySem.W.exm_one (M := model X.prog X.w) g.now.kIn ty hx).here (A := X.A.mark (some (.ref a))) (E := E) q
  rcases hc.2.2 with m | ⟨m, v, n⟩
  · exact ld_glob (X := X.suite a ((a, oe) :: (X.pn ++ pins))) S hc.1 m go hc.2.1
  · exact ld_blt (X := X.suite a ((a, oe) :: (X.pn ++ pins))) S hc.1 m v go n hc.2.1
/-- no clause is left: it goes on -/
theorem Ground.goes (g : Ground X pins σ H a cls d B sI s) (hs : X.stack = X.env :: X.outer) (hf : X.env.frame = some X.env.locals) {W : WX} (tk : Takes X W) {Q : Flow → Shared → Prop} (w : W cls d σ H) :
    wpAny (model X.prog X.w) X.A (handleBy (.ref a) X.env []) Q X.xe s := by
  apply wpAny_handleBy_nil
  have off : ∀ {Q' : Flow → Shared → Prop}, wpAny (model X.prog X.w) X.A (setFlight (.ref a) X.env.frame) (fun _ t => wpAny (model X.prog X.w) X.A (throw (.ref a) : Sem Flow) Q' X.xe t) X.xe s := fun {Q'} => by
    rw [hf]
    apply HandSPX.setFlight_upZ g.fly
    intro h held u
    apply wpAny_throw
    apply tk
    exact ⟨a, B, sI, pins, σ, H, cls, d, rfl, g.inv, g.old, g.up.trans u, .inr (.inr (hs ▸ held)), g.free, g.os, g.bare, w⟩
  have ⟨_, _, _, oe, vs, T, _, _, e1, _, e2, e3, _⟩ := g.fly
  show wpAny _ _ (PySem.passOn _ _ _) _ _ _
  unfold PySem.passOn
  apply wpAny_bind
  apply wpAny_field e1 e2 e3
  rw [if_neg (by simp)]
  first
    | exact wpAny_bind (wpAny_pure (wpAny_bind off))
    | exact wpAny_bind off
/-- the ends of a suite are those of the try -/
theorem suite_ends {q : Addr × Obj} {D : Ends} {f : Flow} {t : Shared} (ok : X.Ok) (h : SP (X.suite a (q :: (X.pn ++ pins))) [] D f t) : SP X pins D f t := by
  cases f with
  | ret u => exact let ⟨v, τ, G, S, r, w⟩ := h; ⟨v, τ, G, S.unsuite ok, r, w⟩
  | next => exact let ⟨τ, G, S, w⟩ := h; ⟨τ, G, S.unsuite ok, w⟩
  | brk => exact let ⟨τ, G, S, w⟩ := h; ⟨τ, G, S.unsuite ok, w⟩
  | cont => exact let ⟨τ, G, S, w⟩ := h; ⟨τ, G, S.unsuite ok, w⟩
/-- the clauses one after the other -/
theorem Ground.clauses (hs : X.stack = X.env :: X.outer) (hf : X.env.frame = some X.env.locals) (hN : X.N.Nodup) {W : WX} (tk : Takes X W) {D : Ends} {hds : List ExceptHandler} {l : List Clause} (hh : HdsA X hds l) :
    ∀ {s : Shared}, Ground X pins σ H a cls d B sI s → wManyA X.K W D l cls d σ H → wpAny (model X.prog X.w) X.A (handleBy (.ref a) X.env hds) (SP X pins D) X.xe s := by
  induction hh with
  | nil => exact fun g w => g.goes hs hf tk w
  | cons hc hsu _ ih =>
    rintro s g ⟨b, hx, hy, hn⟩
    apply wpAny_handleBy_cons (codeAny_handlers_test (g.asked hf hc hx ?_)) nofun
    cases b
    · exact ih g (hn rfl)
    · apply codeAny_handlers_suite
      apply HandSPX.lands_againZ g.fly
      intro h f u
      have g2 := g.on f u
      obtain ⟨oe, _, z, fs, S⟩ := g2.seen hf
      exact wpAny_mono ((hsu a oe cls d (X.pn ++ pins) z fs).run [] _ σ H _ S (hy rfl a g.free)) (fun _ _ r => suite_ends g.inv.ok r) fun _ _ r => r.elim
  | @consA x n c i ts b₀ st np p' hds2 l2 hi hln hc hsu _ ih =>
    rintro s g ⟨b, hx, hy, hn⟩
    apply wpAny_handleBy_cons (codeAny_handlers_test (g.asked hf hc hx ?_)) nofun
    cases b
    · exact ih g (hn rfl)
    · apply codeAny_handlers_suite_as
      apply HandSPX.lands_againZ g.fly
      intro h f u
      have g2 := g.on f u
      obtain ⟨oe, _, z, fs, S⟩ := g2.seen hf
      apply store_ok (X := X.suite a ((a, oe) :: (X.pn ++ pins))) (v := .ref a) S hN hi (.inl hln) rfl _ (.inr hln)
      intro s2 S2
      refine wpAny_mono ((hsu a oe cls d (X.pn ++ pins) z fs).run [] s2 _ H _ S2 (hy rfl a g.free)) (fun fl s3 r => ?_) fun _ _ r => r.elim
      have gone : ∀ {τ : L2.St} {G : Hp} {P : Shared → Prop}, Inv X pins τ G s3 → (∀ s4, Inv X pins (τ.set i none) G s4 → P s4) → wpAny (model X.prog X.w) X.A (do bindName X.env n .none; unbindBehindTheSuite X.env n p') (fun _ s4 => P s4) X.xe s3 := fun J k => gone_ok J hN hi hln k
      have r2 := suite_ends g.inv.ok r
      cases fl with
      | ret u => exact let ⟨v, τ, G, J, rv, w⟩ := r2; gone J fun s4 J4 => ⟨v, _, G, J4, rv, w⟩
      | next => exact let ⟨τ, G, J, w⟩ := r2; gone J fun s4 J4 => ⟨_, G, J4, w⟩
      | brk => exact let ⟨τ, G, J, w⟩ := r2; gone J fun s4 J4 => ⟨_, G, J4, w⟩
      | cont => exact let ⟨τ, G, J, w⟩ := r2; gone J fun s4 J4 => ⟨_, G, J4, w⟩
/-- the ends of a try's body are those of the try -/
theorem body_ends {pn : List (Addr × Obj)} {xe : Value → Shared → Prop} {D : Ends} {f : Flow} {t : Shared} (ok : X.Ok) (h : SP (X.tr pn xe) [] D f t) (hp : ∀ {τ : L2.St} {G : Hp}, Inv (X.tr pn xe) [] τ G t → Inv X pins τ G t) : SP X pins D f t := by
  cases f with
  | ret u => exact let ⟨v, τ, G, S, r, w⟩ := h; ⟨v, τ, G, hp S, r, w⟩
  | next => exact let ⟨τ, G, S, w⟩ := h; ⟨τ, G, hp S, w⟩
  | brk => exact let ⟨τ, G, S, w⟩ := h; ⟨τ, G, hp S, w⟩
  | cont => exact let ⟨τ, G, S, w⟩ := h; ⟨τ, G, hp S, w⟩
end
theorem ps_try_manyA {X : Cx} {body : List Stmt} {h₀ : ExceptHandler} {hds : List ExceptHandler} {l : List Clause} {pos : Pos} {tb : WX → TS} {W : WX} (hs : X.stack = X.env :: X.outer) (hf : X.env.frame = some X.env.locals) (hN : X.N.Nodup) (tk : Takes X W)
    (hb : ∀ (V : WX) (pn : List (Addr × Obj)) (xe : Value → Shared → Prop), Takes (X.tr pn xe) V → PassesOwn (model X.prog X.w) X.A X.env xe → PSs (X.tr pn xe) body (tb V)) (hh : HdsA X (h₀ :: hds) l) :
    PS X (.Try body (h₀ :: hds) [] [] pos) (fun D σ H => tb (wManyA X.K W D l) D σ H) := .mk fun pins s σ H D I h => by
  have ok := I.ok
  have fr : X.A.frames = some (X.env :: X.outer) := hs ▸ ok.frames
  apply wpAny_Try_except
  let xe : Value → Shared → Prop := fun e t => wpAny (model X.prog X.w) X.A (noteFrame e X.env) (fun _ t2 => wpAny (model X.prog X.w) X.A (setFlight e none) (fun _ t3 => wpAny (model X.prog X.w) X.A (handleBy e X.env (h₀ :: hds)) (SP X pins D) X.xe t3) X.xe t2) X.xe t
  have run := (hb (wManyA X.K W D l) (X.pn ++ pins) xe (fun u t x => by
    obtain ⟨a, B, sI, ps, τ, G, cls, d, rfl, J, old, up, sky, free, os, bare, w⟩ := x
    apply Sky.land Zc.steady fr hf (hs ▸ sky)
    intro g fl u
    exact Ground.clauses hs hf hN tk hh { inv := J.ofTry ok, old := old, fly := fl, up := up.trans u, free := free, os := os, bare := bare } w) PassesOwn.looking).run [] s σ H D (I.toTry _) h
  refine wpAny_mono run (fun f t r => ?_) fun _ _ r => r
  have r2 := body_ends (pins := pins) ok r fun S => S.ofTry ok
  cases f with
  | next => exact wpAny_execs_nil r2
  | _ => exact r2
end Toy

namespace Toy
open PySem PySem.Spec PyProof.Rows L2
/-! isinstance with built-in types, of things that may be objects of own classes -/
def six : List String := ["bool", "int", "str", "list", "tuple", "dict"]
/-- no object of the class C is of one of the six types -/
def plainB (K : PySem.W.Frag) (C : Addr) : Bool := six.all fun T => decide (PySem.W.kitOne K (.ref C) (.type T) = some false)
theorem plainB_ok {K : PySem.W.Frag} {C : Addr} (h : plainB K C = true) {T : String} (m : T ∈ six) : PySem.W.kitOne K (.ref C) (.type T) = some false := of_decide_eq_true (List.all_eq_true.mp h T m)
/-- what the written part says of a class whose objects are asked for: `__class__` is found at object, and is read by its getter -/
abbrev clsG : Value := .builtin "object.__class__"
abbrev askG (K : PySem.W.Frag) (C : Addr) : Option (Option Value) × Option (Option Value) × Option Bool × Option Bool := (PySem.W.findIn K (.ref C) "__class__", PySem.W.specialIn K clsG "__get__", PySem.W.takesIn K clsG, PySem.W.mroIn K C (.type "object"))
def insB (K : PySem.W.Frag) (C : Addr) : Bool := plainB K C && decide (askG K C = (some (some clsG), some (some (.builtin "getset_descriptor.__get__")), some true, some true))
structure AskC (K : PySem.W.Frag) (C : Addr) : Prop where
  plain : plainB K C = true
  all : askG K C = (some (some clsG), some (some (.builtin "getset_descriptor.__get__")), some true, some true)
theorem insB_ok {K : PySem.W.Frag} {C : Addr} (h : insB K C = true) : AskC K C := ⟨(Bool.and_eq_true_iff.mp h).1, of_decide_eq_true (Bool.and_eq_true_iff.mp h).2⟩
section
variable {K : PySem.W.Frag} {C : Addr} (i : AskC K C)
include i
theorem AskC.gives : PySem.W.findIn K (.ref C) "__class__" = some (some clsG) := congrArg (·.1) i.all
theorem AskC.reads : PySem.W.specialIn K clsG "__get__" = some (some (.builtin "getset_descriptor.__get__")) := congrArg (·.2.1) i.all
theorem AskC.takes : PySem.W.takesIn K clsG = some true := congrArg (·.2.2.1) i.all
theorem AskC.roots : PySem.W.mroIn K C (.type "object") = some true := congrArg (·.2.2.2) i.all
end
/-- an error as a value -/
structure ErrC (K : PySem.W.Frag) (C : Addr) : Prop where
  ins : AskC K C
  x : XfC K C
/-- the name of the built-in type, "object" for an object of an own class -/
inductive TyG (K : PySem.W.Frag) (H : Hp) : V → String → Prop
  | blt {v : V} {n : String} : tyN H v = some n → TyG K H v n
  | ins {a C dx : Addr} {fs : List (Str × V)} : H a = some (.ins C dx fs) → Cls K C → AskC K C → TyG K H (.ref a) "object"
  | err {a C : Addr} : H a = some (ExO (.ref C) a) → ErrC K C → TyG K H (.ref a) "object"
theorem TyG.same {K : PySem.W.Frag} {H H' : Hp} {v : V} {n : String} (h : TyG K H v n) (k : Same H H') : TyG K H' v n := by
  cases h with
  | blt h => exact .blt (tyN_keep k h)
  | ins h c i => exact .ins (k _ _ h) c i
  | err h c => exact .err (k _ _ h) c
/-- .. of a class without an __init__ of its own -/
def vbm : List Value := [.type "ValueError", .type "Exception", .type "BaseException", .type "object"]
def errB (K : PySem.W.Frag) (C : Addr) : Bool := insB K C && xfB K C && PySem.W.excIn K C vbm "ValueError.__new__" && PySem.W.keepIn K (.ref C) && decide (PySem.W.typeIn K (.ref C) = some (.type "type"))
structure ErrX (K : PySem.W.Frag) (C : Addr) : Prop where
  er : ErrC K C
  ex : PySem.W.excIn K C [.type "ValueError", .type "Exception", .type "BaseException", .type "object"] "ValueError.__new__" = true
  kp : (PySem.W.keepIn K (.ref C)) = true
  ty : PySem.W.typeIn K (.ref C) = some (.type "type")
theorem errX_ok {K : PySem.W.Frag} {C : Addr} (h : errB K C = true) : ErrX K C := by
  simp only [errB, Bool.and_eq_true, decide_eq_true_eq] at h
  exact ⟨⟨insB_ok h.1.1.1.1, xfB_ok h.1.1.1.2⟩, h.1.1.2, h.1.2, h.2⟩
section
variable {X : Cx}
def isOf (n T : String) : Bool := n == T || (n == "bool" && T == "int")
def rIsG (K : PySem.W.Frag) (T : String) : List V → Hp → VK → Prop := fun xs H Q => ∃ (x : V) (n : String), xs = [x, .ty T] ∧ TyG K H x n ∧ Q (.bl (isOf n T)) H
theorem call_isG {T : String} (m : T ∈ six) : CallR X (.builtin "isinstance") (rIsG X.K T) := by
  intro pins s σ H xs us Q I r h
  obtain ⟨x, n, e, ty, q⟩ := h
  have hob : isOf "object" T = false := by
    unfold six at m
    simp only [List.mem_cons, List.not_mem_nil, or_false] at m
    rcases m with rfl | rfl | rfl | rfl | rfl | rfl <;> rfl
  cases ty with
  | blt hb => exact call_isN pins s σ H xs us Q I r ⟨x, n, _, e, hb, kit7 hb m, q⟩
  | ins ha c i =>
    rw [hob] at q
    exact call_isi pins s σ H xs us Q I r ⟨_, .ty T, .ref _, .type T, false, e, .ty T, .base (.ins ha c i.gives i.reads i.takes i.roots), plainB_ok i.plain m, q⟩
  | @err a C ha c =>
    rw [hob] at q
    subst e
    obtain ⟨u1, u2, rfl, r1, r2⟩ : ∃ u1 u2, us = [u1, u2] ∧ RelV (.ref a) u1 ∧ RelV (.ty T) u2 := by
      cases r with
      | cons p1 t => cases t with
        | cons p2 t => cases t with
          | nil => exact ⟨_, _, rfl, p1, p2⟩
    have e1 : u1 = .ref a := r1
    have e2 : u2 = .type T := r2
    subst e1 e2
    obtain ⟨⟨oe, vs, hget, hz, hf, _⟩, _⟩ := I.hok a _ ha
    have at_ : PySem.W.InstAt s.heap a oe C none := by
      cases oe with
      | mk oc od oda osl =>
        have z1 : oc = .ref C := hz.1
        have z2 : od = none := hz.2
        have z3 : oda = .fields vs := hf
        subst z1 z2 z3
        exact .mk hget rfl rfl trivial
    exact PySem.W.kia_one (PySem.W.handS_kitx_exc c.x.ga c.x.gg c.x.exC c.x.hdC c.ins.gives c.ins.reads c.ins.takes c.ins.roots) I.kIn at_ (plainB_ok c.ins.plain m) (fun z => nomatch z) fun tk => ⟨.bl false, H, I.tok tk, rfl, q⟩
/-- X(), an error class without an __init__: a new error, not raised -/
theorem pe_err0 {C : Addr} {bm : List Value} {B nw ini : String} {x : Str} {p pos : Pos} (F : ExcBaseFacts B nw ini bm) (q : PySem.W.excIn X.K C bm nw = true) (m : X.mg x = some (.ref C)) (k : PySem.W.keepIn X.K (.ref C) = true) (g : Gl X x) (hd : (x == ("__debug__" : Str)) = false := by decide) :
    PE X (.Call (.Name x p) [] [] pos) (fun _ H Q => ∀ a, H a = none → Q (.ref a) (upd H a (ExO (.ref C) a))) := .mk fun pins s σ H Q I h => by
  have done : wpAny (model X.prog X.w) X.A (call (.ref C) ([] ++ [])) (EP X pins σ Q) X.xe s := by
    obtain ⟨_, _, _, _, _, _, _, _, _, _, _, _, _, _, _, _, _, there, ns, no, tail⟩ := exc_obj I.kIn q
    apply wpAny_call_exc_subT F tail there ns no (hrest := Nat.zero_le _)
    intro h2 e new
    have free := I.hok.gone new.new
    have ⟨_, at_, _⟩ := new.there
    exact ⟨.ref e, upd H e (ExO (.ref C) e), I.laidN new.keeps new.new free (exO_ok at_ ⟨rfl, rfl⟩ rfl rfl rfl (show 4 < 6 from by decide)), rfl, h e free⟩
  exact wpAny_Call_Name_kw (ld_glob I g m (PySem.W.callWith_K0 I.kIn k done) hd)
end
end Toy

namespace Toy
open PySem PySem.Spec PyProof.Rows L2
/-! a thing compared with itself -/
inductive Selfy (K : PySem.W.Frag) (H : Hp) : V → Prop
  | flat {v : V} : scal v v = true → Selfy K H v
  | lst {a : Addr} {xs : List V} : SqL K H a xs → Selfy K H (.ref a)
  | tup {a : Addr} {xs : List V} : SqT K H a xs → Selfy K H (.ref a)
  | dct {a : Addr} {kvs : List (Key × V)} : H a = some (.dK kvs) → (kvs.map (·.1)).Nodup → Selfy K H (.ref a)
theorem kv_keys {ks : List (Key × V)} {vs : List (Key × Value)} (r : KV ks vs) : ks.map (·.1) = vs.map (·.1) := by
  unfold KV at r
  induction r with
  | nil => rfl
  | cons h _ ih => rw [List.map_cons, List.map_cons, ih, h.1]
theorem hits_self {A : Around} {s : Shared} {kb : List (Key × Value)} : ∀ {ka : List (Key × Value)}, (∀ p ∈ ka, valueAt kb p.1 = some p.2) → PySem.W.KeqHits A s kb ka true
  | [], _ => .nil
  | (k, v) :: r, h => PySem.W.KeqHits.hit (e := true) (b := true) (h (k, v) List.mem_cons_self) (SeqAt.EqAt.same v) (hits_self fun p m => h p (List.mem_cons_of_mem _ m))
theorem find_self {α β : Type} [DecidableEq α] : ∀ {l : List (α × β)}, (l.map (·.1)).Nodup → ∀ p ∈ l, (l.find? fun q => decide (q.1 = p.1)) = some p
  | [], _, p, m => by cases m
  | q :: l, nd, p, m => by
    rw [List.map_cons, List.nodup_cons] at nd
    rw [List.find?_cons]
    rcases List.mem_cons.mp m with rfl | m
    · simp
    · have : q.1 ≠ p.1 := fun e => nd.1 (by rw [e]; exact List.mem_map.mpr ⟨p, m, rfl⟩)
      rw [decide_eq_false this]
      exact find_self nd.2 p m
section
variable {X : Cx}
def rEqS (K : PySem.W.Frag) (b : Bool) : R2 := fun x y H Q => x = y ∧ Selfy K H x ∧ Q (.bl b) H
theorem op_eqS (hu : X.A.units + 64 < cLine) : OpR X (compareOp .Eq) (rEqS X.K true) := by
  intro pins s σ H x y v u Q I rx ry h
  obtain ⟨rfl, S, q⟩ := h
  have yes : ∀ n : Nat, (List.range n).all (fun _ => true) = true := fun n => List.all_eq_true.mpr fun _ _ => rfl
  cases S with
  | flat f => exact op_eq pins s σ H x x v u Q I rx ry ⟨f, by rw [decide_eq_true rfl]; exact q⟩
  | @lst a xs hl =>
    cases (show v = Value.ref a from rx)
    cases (show u = Value.ref a from ry)
    obtain ⟨us, _, p, _⟩ := I.list hl
    exact SeqAt.eq_listAt (e := fun _ => true) p.isList p.isList rfl (by omega) (fun j _ _ => SeqAt.EqAt.same _) (by rw [yes]; exact ⟨.bl true, H, I, rfl, q⟩)
  | @tup a xs hl =>
    cases (show v = Value.ref a from rx)
    cases (show u = Value.ref a from ry)
    obtain ⟨us, _, p, _⟩ := I.tuple hl
    exact SeqAt.eq_tupleAt (e := fun _ => true) p p (by omega) (fun j _ _ => SeqAt.EqAt.same _) (by rw [yes, beq_self_eq_true]; exact ⟨.bl true, H, I, rfl, q⟩)
  | @dct a kvs ha nd =>
    cases (show v = Value.ref a from rx)
    cases (show u = Value.ref a from ry)
    obtain ⟨_, y, vs, r, d⟩ := (show ObjOk X.prog X.w H s.heap a (.dK kvs) from I.hok a _ ha)
    refine PySem.W.keq_eq (knd := mixKind X.prog X.w) (r := true) y y d d (by omega) (fun _ => hits_self fun p m => ?_) ?_
    · show ((vs.find? fun q => decide (q.1 = p.1)).map (·.2)) = some p.2
      rw [find_self (by rw [← kv_keys r]; exact nd) p m]; rfl
    · rw [beq_self_eq_true]; exact ⟨.bl true, H, I, rfl, q⟩
theorem op_neS (hu : X.A.units + 64 < cLine) : OpR X (compareOp .NotEq) (rEqS X.K false) := by
  intro pins s σ H x y v u Q I rx ry h
  obtain ⟨rfl, S, q⟩ := h
  have yes : ∀ n : Nat, (List.range n).all (fun _ => true) = true := fun n => List.all_eq_true.mpr fun _ _ => rfl
  have no : EP X pins σ Q (.bool false) s := ⟨.bl false, H, I, rfl, q⟩
  cases S with
  | flat f => exact op_ne pins s σ H x x v u Q I rx ry ⟨f, by rw [decide_eq_true rfl]; exact q⟩
  | @lst a xs hl =>
    cases (show v = Value.ref a from rx)
    cases (show u = Value.ref a from ry)
    obtain ⟨us, _, p, _⟩ := I.list hl
    exact SeqAt.RcNeAt.lists (e := fun _ => true) p.isList p.isList rfl (by omega) (fun j _ _ => SeqAt.EqAt.same _) _ _ _ _ (by rw [yes]; exact no)
  | @tup a xs hl =>
    cases (show v = Value.ref a from rx)
    cases (show u = Value.ref a from ry)
    obtain ⟨us, _, p, _⟩ := I.tuple hl
    exact SeqAt.RcNeAt.tuples (e := fun _ => true) p p (by omega) (fun j _ _ => SeqAt.EqAt.same _) _ _ _ _ (by rw [yes, beq_self_eq_true]; exact no)
  | @dct a kvs ha nd =>
    cases (show v = Value.ref a from rx)
    cases (show u = Value.ref a from ry)
    obtain ⟨_, y, vs, r, d⟩ := (show ObjOk X.prog X.w H s.heap a (.dK kvs) from I.hok a _ ha)
    refine PySem.W.keq_ne (knd := mixKind X.prog X.w) (r := true) y y d d (by omega) (fun _ => hits_self fun p m => ?_) ?_
    · show ((vs.find? fun q => decide (q.1 = p.1)).map (·.2)) = some p.2
      rw [find_self (by rw [← kv_keys r]; exact nd) p m]; rfl
    · rw [beq_self_eq_true]; exact no
end
/-! errors as values, with a field or without -/
structure ErrV (K : PySem.W.Frag) (C : Addr) : Prop where
  ask : AskC K C
  x : XfC K C
theorem any_cls {K : PySem.W.Frag} {C : Addr} (h : PySem.W.hasDictIn K C = true) : (PySem.W.clsIn K C).isSome = true := by
  unfold PySem.W.hasDictIn at h
  cases e : PySem.W.clsIn K C with
  | none => rw [e] at h; cases h
  | some _ => rfl
/-- at e an error of the class at C; its dict at d has the fields fs, where it has one -/
inductive ErrAt (H : Hp) (e C : Addr) : Prop
  | bare : H e = some (ExO (.ref C) e) → ErrAt H e C
  | kept {d : Addr} {fs : List (Str × V)} : H e = some (exo e C (some d)) → H d = some (exd d fs) → ErrAt H e C
theorem ErrAt.keep {H H' : Hp} {e C : Addr} (h : ErrAt H e C) (k : Same H H') : ErrAt H' e C := by
  cases h with
  | bare h => exact .bare (k _ _ h)
  | kept h1 h2 => exact .kept (k _ _ h1) (k _ _ h2)
section
variable {X : Cx} {pins : List (Addr × Obj)} {σ : L2.St} {H : Hp} {s : Shared}
theorem ErrAt.inst {e C : Addr} (h : ErrAt H e C) (I : Inv X pins σ H s) : ∃ oe od, PySem.W.InstAt s.heap e oe C od := by
  cases h with
  | bare h =>
    obtain ⟨⟨oe, vs, g, z, f, _⟩, _⟩ := I.hok e _ h
    obtain ⟨c, d, dt, sl⟩ := oe
    obtain ⟨z1, z2⟩ := z
    cases z1
    cases z2
    cases f
    exact ⟨_, none, g, rfl, rfl, trivial⟩
  | @kept d fs h1 h2 =>
    obtain ⟨t, g⟩ := exo_at I.hok h1
    obtain ⟨m, ns, _⟩ := exd_at I.hok h2
    obtain ⟨od, g2, _⟩ := lookIn_ns ns
    exact ⟨_, some od, g, rfl, rfl, g2⟩
end
section
variable {X : Cx}
/-- isinstance of such an error, by one class -/
def rIsEV (K : PySem.W.Frag) : List V → Hp → VK → Prop := fun xs H Q => ∃ (e C : Addr) (c : V) (u : Value) (b : Bool), xs = [.ref e, c] ∧ ErrAt H e C ∧ ErrV K C ∧ ClsV c u ∧ PySem.W.kitOne K (.ref C) u = some b ∧ Q (.bl b) H
theorem call_isEV : CallR X (.builtin "isinstance") (rIsEV X.K) := by
  intro pins s σ H xs us Q I r h
  obtain ⟨e, C, c, u, b, rfl, at_, V, k, ok, q⟩ := h
  obtain ⟨u1, u2, rfl, r1, r2⟩ := vals2 r
  cases (show u1 = Value.ref e from r1)
  cases k.eq r2
  obtain ⟨oe, od, J⟩ := at_.inst I
  exact PySem.W.kia_one (PySem.W.kitx_exc (any_cls V.x.hdC) V.x.ga V.x.gg V.x.exC V.ask.gives V.ask.reads V.ask.takes V.ask.roots) I.kIn J ok (fun z => nomatch z) fun tk => ⟨.bl b, H, I.tok tk, rfl, q⟩
/-- .. by a tuple of classes -/
def rIsEVT (K : PySem.W.Frag) : List V → Hp → VK → Prop := fun xs H Q => ∃ (e C tp : Addr) (cs : List V) (ws : List Value) (b : Bool), xs = [.ref e, .ref tp] ∧ ErrAt H e C ∧ ErrV K C ∧ H tp = some (.tup cs) ∧ Paired ClsV cs ws ∧ PySem.W.kitAny K (.ref C) ws = some b ∧ Q (.bl b) H
theorem call_isEVT : CallR X (.builtin "isinstance") (rIsEVT X.K) := by
  intro pins s σ H xs us Q I r h
  obtain ⟨e, C, tp, cs, ws, b, rfl, at_, V, ht, k, ok, q⟩ := h
  obtain ⟨u1, u2, rfl, r1, r2⟩ := vals2 r
  cases (show u1 = Value.ref e from r1)
  cases (show u2 = Value.ref tp from r2)
  obtain ⟨oe, od, J⟩ := at_.inst I
  obtain ⟨its, rv, ⟨o, g, hc, n, hd⟩, _⟩ := I.tuple (SqT.of ht)
  cases ClsV.all k rv
  obtain ⟨c, dd, dt, sl⟩ := o
  cases hc
  cases hd
  exact PySem.W.kia_tup (PySem.W.kitx_exc (any_cls V.x.hdC) V.x.ga V.x.gg V.x.exC V.ask.gives V.ask.reads V.ask.takes V.ask.roots) I.kIn J g ok (fun z => nomatch z) fun tk => ⟨.bl b, H, I.tok tk, rfl, q⟩
/-- e.f of an error that is held -/
def tXv (K : PySem.W.Frag) (f : Str) (te : TE) : TE := fun σ H Q => te σ H fun x G => ∃ (e C d : Addr) (fs : List (Str × V)) (v : V), x = .ref e ∧ G e = some (exo e C (some d)) ∧ G d = some (exd d fs) ∧ XfC K C ∧ PySem.W.findIn K (.ref C) f = some none ∧ fs.lookup f = some v ∧ Q v G
theorem pe_xv {e : Expr} {te : TE} {pos : Pos} {f : Str} (he : PE X e te) (hb : attributeBase e f X.env (eval e X.env) = eval e X.env := by rfl) : PE X (.Attribute e f pos) (tXv X.K f te) := .mk fun pins s σ H Q I h => by
  refine attr_of hb (thn (he.run pins s σ H _ I h) ?_)
  rintro u s1 ⟨x, G, I1, rx, e, C, d, fs, v, rfl, g1, g2, x5, no, l, q⟩
  cases (show u = Value.ref e from rx)
  obtain ⟨t, o1⟩ := exo_at I1.hok g1
  obtain ⟨m, ns, rel⟩ := exd_at I1.hok g2
  obtain ⟨od, o2, lk⟩ := lookIn_ns ns
  obtain ⟨u, hu, ru⟩ := RelO.some_of (v := v) (o := m f) (by rw [← l]; exact rel f)
  exact HandSPX.exc_get I1.kIn ⟨o1, rfl, rfl, o2⟩ x5.ga x5.gg x5.exC (PySem.W.findObj_own x5.hdC no rfl (by rw [lk, hu])) (handed_of ru) ⟨v, G, I1.tok _, ru, q⟩
end
section
variable {X : Cx} {pins : List (Addr × Obj)} {σ : L2.St} {H : Hp} {s : Shared}
/-- the call of an error class by its values -/
theorem made_err {CX : CXT} {k : Nat} {f : Addr} {fd : FuncData} {ps : List Str} {sp : Sp} {C : Addr} {vs : List V} {us : List Value} {Q : VK} (T : OexC X.K C) (at_ : PySem.W.findIn X.K (.ref C) "__init__" = some (some (.ref f)))
    (ty : PySem.W.typeIn X.K (.ref f) = some (.type "function")) (F : FnOk X.prog X.w X.K X.mg X.base CX k f fd ps sp) (rm : Room (k + 1) X.A) (bi : Binds X.K fd ps []) (pa : Passes CX X (fun _ _ _ => False)) (I : Inv X pins σ H s) (r : Vals vs us)
    (h : vs.length ≤ 1000 ∧ ∀ a, H a = none → sp (.ref a :: vs) (upd H a (exo a C none)) (fun v G => v = .non ∧ Q (.ref a) G) (fun _ _ _ => False)) :
    wpAny (model X.prog X.w) X.A (call (.ref C) us) (EP X pins σ Q) X.xe s := by
  obtain ⟨_, _, _, _, mr, _, _, _, _, _, _, _, _, _, _, look, tail⟩ := T.cls
  obtain ⟨hp, gs, dr, tk, os⟩ := s
  have old : hp.objs.size ≤ hp.objs.size + 1 := Nat.le_succ _
  let h1 := (hp.push (PySem.W.kdv_tup us)).push (PySem.HandSPX.excO C hp.objs.size)
  have here : h1.get? (hp.objs.size + 1) = some (PySem.HandSPX.excO C hp.objs.size) := by heap_get
  have q := h.2 _ (I.hok.fresh old)
  have J : Inv X pins σ (upd H (hp.objs.size + 1) (exo (hp.objs.size + 1) C none)) ⟨h1, gs, dr, tk, os⟩ := I.laid (t' := tk) (fun b o e => Heap.get?_push_of_some _ (Heap.get?_push_of_some _ e)) old (exo_ok here)
  have all : Vals (V.ref (hp.objs.size + 1) :: vs) (Value.ref (hp.objs.size + 1) :: us) := .cons rfl r
  have many : (Value.ref (hp.objs.size + 1) :: us ++ []).length = ps.length := by rw [List.append_nil, ← all.length]; exact F.len _ _ _ _ q
  have bd := bi ⟨h1, gs, dr, tk, os⟩ (Value.ref (hp.objs.size + 1) :: us) J.kIn many
  rw [List.append_nil] at bd
  have few : us.length ≤ sizeLine := by rw [← Paired.length r]; exact Nat.le_trans h.1 (by decide)
  have run := F.run _ X.stack _ _ ⟨Value.ref (hp.objs.size + 1) :: us, []⟩ _ _ _ _ (rm.make C us []) (J.env0.make C us []) bd all q
  refine wpAny_call (PySem.HandSPX.call_own PySem.F.excBase_ValueError (fun Y => PySem.HandSPX.refsVE_contains Y mr tail) (I.kIn _ _ look) (PySem.W.looks_findIn I.kIn at_) (fun self => PySem.W.bind_fn I.kIn self ty) few (codeAny_mono run fun res t w => ?_))
  match res, w with
  | .error er, w => exact pa pins σ _ _ er t J w
  | .ok (.ret u), w =>
    obtain ⟨v, G, o2, b2, un2, ok2, rv, rfl, q2⟩ := w
    exact ⟨rv, .ref (hp.objs.size + 1), G, J.call' (ch := []) o2 un2 ok2 b2 (fun b z => absurd z (by simp)), rfl, q2⟩
end
/-- C(e): a new error that is kept -/
def tMkV (C : Addr) (sp : Sp) (ta : TA) : TE := fun σ H Q => ta σ H fun vs G => vs.length ≤ 1000 ∧ ∀ a, G a = none → sp (.ref a :: vs) (upd G a (exo a C none)) (fun v G2 => v = .non ∧ Q (.ref a) G2) (fun _ _ _ => False)
theorem pe_mkV {X : Cx} {CX : CXT} {x : Str} {C f : Addr} {k : Nat} {fd : FuncData} {ps : List Str} {sp : Sp} {e : Expr} {es : List Expr} {ta : TA} {p pos : Pos} (T : OexC X.K C) (at_ : PySem.W.findIn X.K (.ref C) "__init__" = some (some (.ref f)))
    (ty : PySem.W.typeIn X.K (.ref f) = some (.type "function")) (F : FnOk X.prog X.w X.K X.mg X.base CX k f fd ps sp) (rm : Room (k + 1) X.A) (bi : Binds X.K fd ps []) (pa : Passes CX X (fun _ _ _ => False)) (g : Gl X x) (m : X.mg x = some (.ref C)) (ha : PA X (e :: es) ta)
    (h0 : (x == ("__debug__" : Str)) = false := by decide) (h1 : starEach (e :: es) X.env = (false, eval e X.env) :: starEach es X.env := by rfl) (h2 : (backTo pos (starEach es X.env)).any (·.1) = false := by rfl) :
    PE X (.Call (.Name x p) (e :: es) [] pos) (tMkV C sp ta) := .mk fun pins s σ H Q I h =>
  wpAny_Call_Name_kw (ld_glob I g m (PySem.W.callWith_K (h₀ := X.base) I.ok.mod.kin T.kC (thn (ha.run pos pins s σ H _ I h) fun us s1 ⟨vs, G, I1, r, q⟩ => ⟨I1.kIn, made_err T at_ ty F rm bi pa I1 r q⟩) h1 h2) h0)

/-- what the making of such an error asks -/
theorem mk_val {K : PySem.W.Frag} {f : Str} {H : Hp} {v : V} {C : Addr} {Q : Addr → Hp → Prop} {E : XK} (T : OexC K C) (no : PySem.W.findIn K (.ref C) f = some none)
    (h : ∀ a d G, Same H G → H a = none → G a = some (exo a C (some d)) → G d = some (exd d [(f, v)]) → Q a G) : [v].length ≤ 1000 ∧ ∀ a, H a = none → spInitF K f (.ref a :: [v]) (upd H a (exo a C none)) (fun u G => u = .non ∧ Q a G) E := by
  refine ⟨by show 1 ≤ 1000; decide, fun a na => ⟨a, C, v, rfl, T, no, upd_same, fun d nd ne => ⟨rfl, h a d _ ?_ na upd_same ?_⟩⟩⟩
  · intro b o e
    have hba : b ≠ a := ne_of_none e na
    have hbd : b ≠ d := by
      rw [upd_ne ne] at nd; exact ne_of_none e nd
    rw [upd_ne hba, upd_ne hbd, upd_ne hba]
    exact e
  · rw [upd_ne ne]; exact upd_same
/-! a family of error classes under one root: none is one of the others -/
def five : List Value := [.type "LookupError", .type "ArithmeticError", .type "RuntimeError", .type "TypeError", .type "AttributeError"]
def errB1 (K : PySem.W.Frag) (C h : Addr) : Bool := insB K C && (xfB K C && (decide (PySem.W.kitOne K (.ref C) (.ref h) = some true) && (decide (PySem.W.kitOne K (.ref C) (.type "ValueError") = some true) && decide (PySem.W.kitAny K (.ref C) five = some false))))
def errsB (K : PySem.W.Frag) (cs : List Addr) (h : Addr) : Bool := (cs.all fun C => errB1 K C h) && (List.range cs.length).all fun i => (List.range cs.length).all fun j => decide (PySem.W.kitOne K (.ref (cs.getD i 0)) (.ref (cs.getD j 0)) = some (decide (i = j)))
structure Errs (K : PySem.W.Frag) (cs : List Addr) (h : Addr) : Prop where
  one : ∀ C ∈ cs, errB1 K C h = true
  two : ∀ i j, i < cs.length → j < cs.length → PySem.W.kitOne K (.ref (cs.getD i 0)) (.ref (cs.getD j 0)) = some (decide (i = j))
theorem errsB_ok {K : PySem.W.Frag} {cs : List Addr} {h : Addr} (e : errsB K cs h = true) : Errs K cs h := by
  obtain ⟨e1, e2⟩ := Bool.and_eq_true_iff.mp e
  exact ⟨List.all_eq_true.mp e1, fun i j hi hj => of_decide_eq_true (List.all_eq_true.mp (List.all_eq_true.mp e2 i (List.mem_range.mpr hi)) j (List.mem_range.mpr hj))⟩
section
variable {K : PySem.W.Frag} {cs : List Addr} {h : Addr} (E : Errs K cs h) {C : Addr} (m : C ∈ cs)
include E m
theorem Errs.val : ErrV K C := by
  obtain ⟨e1, e2⟩ := Bool.and_eq_true_iff.mp (E.one C m)
  exact ⟨insB_ok e1, xfB_ok (Bool.and_eq_true_iff.mp e2).1⟩
theorem Errs.root : PySem.W.kitOne K (.ref C) (.ref h) = some true := of_decide_eq_true (Bool.and_eq_true_iff.mp (Bool.and_eq_true_iff.mp (Bool.and_eq_true_iff.mp (E.one C m)).2).2).1
theorem Errs.isVE : PySem.W.kitOne K (.ref C) (.type "ValueError") = some true := of_decide_eq_true (Bool.and_eq_true_iff.mp (Bool.and_eq_true_iff.mp (Bool.and_eq_true_iff.mp (Bool.and_eq_true_iff.mp (E.one C m)).2).2).2).1
theorem Errs.noOther : PySem.W.kitAny K (.ref C) five = some false := of_decide_eq_true (Bool.and_eq_true_iff.mp (Bool.and_eq_true_iff.mp (Bool.and_eq_true_iff.mp (Bool.and_eq_true_iff.mp (E.one C m)).2).2).2).2
end
/-- the heap behind the raising of such an error -/
def raisedHp (H : Hp) (a dx C : Addr) (fs : List (Str × V)) : Hp := upd (L2.del (upd (upd (upd H a (exo a C none)) dx (exd dx fs)) a (exo a C (some dx))) a) dx (.xd fs)
theorem raised_same {H : Hp} {a dx C : Addr} {fs : List (Str × V)} (na : H a = none) (nd : upd H a (exo a C none) dx = none) (ne : dx ≠ a) : Same H (raisedHp H a dx C fs) := fun b o e => by
  have hba : b ≠ a := ne_of_none e na
  have hbd : b ≠ dx := by
    rw [upd_ne ne] at nd; exact ne_of_none e nd
  unfold raisedHp
  rw [upd_ne hbd, del_ne hba, upd_ne hba, upd_ne hbd, upd_ne hba]
  exact e
end Toy

namespace Toy
open PySem PySem.Spec PyProof.Rows L2
/-! sets that can be gone through, over any kind of keys -/
theorem paired_perm {α β : Type} {R : α → β → Prop} {xs ys : List α} (p : ys.Perm xs) : ∀ {ks : List β}, Paired R xs ks → ∃ js, js.Perm ks ∧ Paired R ys js := by
  induction p with
  | nil => exact fun h => ⟨_, .refl _, h⟩
  | cons x _ ih =>
    intro ks h
    cases h with
    | cons h1 h2 =>
      obtain ⟨js, q, r⟩ := ih h2
      exact ⟨_, .cons _ q, .cons h1 r⟩
  | swap x y l =>
    intro ks h
    cases h with
    | cons h1 h2 => cases h2 with
      | cons h2 h3 => exact ⟨_, .swap _ _ _, .cons h2 (.cons h1 h3)⟩
  | trans _ _ ih1 ih2 =>
    intro ks h
    obtain ⟨js, q, r⟩ := ih2 h
    obtain ⟨is, q2, r2⟩ := ih1 r
    exact ⟨is, q2.trans q, r2⟩
section
variable {P : Program} {w : World} {κ : Type} [DecidableEq κ] {knd : KeyKind P w κ}
structure Entry (knd : KeyKind P w κ) (e : Int × Value) (k : κ) : Prop where
  key : knd.is k e.2 = true
  hash : e.1 = knd.hash k
  scan : e.2.scannable = true
/-- a set's table: its entries are those of the keys ks, and it can be gone through -/
structure Tab (knd : KeyKind P w κ) (es : Array (Int × Value)) (t : SetTable) (ks : List κ) : Prop where
  ent : Paired (Entry knd) es.toList ks
  once : ks.Nodup
  few : es.size < scanBound
  fits : t.fits es.size = true
  ris : Ris t.place.toList
  led : w.params.followText "set-order" = true ∨ t.led = true
theorem Tab.size {es : Array (Int × Value)} {t : SetTable} {ks : List κ} (T : Tab knd es t ks) : es.size = ks.length := by
  rw [← Array.length_toList]; exact Paired.length T.ent
theorem Tab.elems {es : Array (Int × Value)} {t : SetTable} {ks : List κ} (T : Tab knd es t ks) : ElemsOf knd es.toList := fun e m => by
  obtain ⟨i, hi⟩ := List.getElem?_of_mem m
  have : i < ks.length := by rw [← Paired.length T.ent]; exact (List.getElem?_eq_some_iff.mp hi).1
  obtain ⟨k, _, r⟩ := prd_at1 T.ent hi
  exact ⟨⟨k, r.key, r.hash⟩, r.scan⟩
theorem ent_has {l : List (Int × Value)} {ks : List κ} (p : Paired (Entry knd) l ks) (k : κ) : k ∈ ks ↔ ∃ e ∈ l, knd.is k e.2 = true := by
  induction p with
  | nil => simp
  | @cons e j l js r _ ih =>
    simp only [List.mem_cons, ih]
    constructor
    · rintro (rfl | ⟨x, m, h⟩)
      · exact ⟨e, .inl rfl, r.key⟩
      · exact ⟨x, .inr m, h⟩
    · rintro ⟨x, rfl | m, h⟩
      · exact .inl (knd.inj _ _ _ h r.key)
      · exact .inr ⟨x, m, h⟩
/-- laid anew, at another size -/
theorem Tab.again {es : Array (Int × Value)} {t : SetTable} {ks : List κ} (T : Tab knd es t ks) (n : Nat) : ∃ js, js.Perm ks ∧ Tab knd (relayAll t es n).1 (relayAll t es n).2.1 js := by
  have p := relayAll_perm t es n
  obtain ⟨js, q, r⟩ := paired_perm p T.ent
  refine ⟨js, q, r, q.nodup_iff.mpr T.once, ?_, relayAll_fits t es n, relayAll_ris t es n, T.led.imp id fun z => (relayAll_led t es n).trans z⟩
  rw [← Array.length_toList, p.length_eq, Array.length_toList]
  exact T.few
/-- one more -/
theorem Tab.more {es : Array (Int × Value)} {t : SetTable} {ks : List κ} (T : Tab knd es t ks) {k : κ} {v : Value} (hk : knd.is k v = true) (hs : v.scannable = true) (new : ¬ k ∈ ks) (room : ks.length + 1 < scanBound) :
    ∃ js, js.Perm (k :: ks) ∧ Tab knd (layNew t es (knd.hash k) v).1 (layNew t es (knd.hash k) v).2.1 js := by
  have p := layNew_perm t es (knd.hash k) v
  rw [Array.toList_push] at p
  have p2 := p.trans (List.perm_append_singleton _ _)
  obtain ⟨js, q, r⟩ := paired_perm p2 (ks := k :: ks) (.cons ⟨hk, rfl, hs⟩ T.ent)
  refine ⟨js, q, r, q.nodup_iff.mpr (List.nodup_cons.mpr ⟨new, T.once⟩), ?_, layNew_fits t es _ v, layNew_ris t es _ v T.ris, T.led.imp id fun z => (layNew_led t es _ v).trans z⟩
  rw [← Array.length_toList, p2.length_eq, List.length_cons, Array.length_toList, T.size]
  exact room
theorem Tab.plainOff {es : Array (Int × Value)} {t : SetTable} {ks : List κ} (T : Tab knd es t ks) : Tab knd es { t with plain := false } ks := ⟨T.ent, T.once, T.few, SetTable.fits_plain_off T.fits, T.ris, T.led⟩
/-- the set at a has the keys ks -/
def Bag (knd : KeyKind P w κ) (h : Heap) (a : Addr) (ks : List κ) : Prop := ∃ o es ep t, h.get? a = some o ∧ o.ExactSet ∧ o.data = .set es ep t ∧ Tab knd es t ks
theorem Bag.at {h h' : Heap} {a : Addr} {ks : List κ} (B : Bag knd h a ks) (k : ∀ o, h.get? a = some o → h'.get? a = some o) : Bag knd h' a ks := by
  obtain ⟨o, es, ep, t, e, r⟩ := B
  exact ⟨o, es, ep, t, k o e, r⟩
theorem Bag.setOf {h : Heap} {a : Addr} {ks : List κ} (B : Bag knd h a ks) : h.SetOf knd a (fun k => decide (k ∈ ks)) ks.length := by
  obtain ⟨o, es, ep, t, e, x, d, T⟩ := B
  exact ⟨o, es, ep, t, e, x, d, T.elems, fun k => by rw [decide_eq_true_eq]; exact ent_has T.ent k, T.few, T.fits, T.size⟩
variable {A : Around} {E : Value → Shared → Prop} {s : Shared}
/-- a table is written, and perhaps laid anew -/
theorem tab_put {a : Addr} {o : Obj} {es es1 : Array (Int × Value)} {ep : Nat} {t t1 : SetTable} {ks : List κ} {R : Option Bool → Shared → Prop} {g : Bool → Sem Unit} (hg : ∀ (b : Bool) (s : Shared) (Q : Unit → Shared → Prop), Q () s → wpAny (model P w) A (g b) Q E s)
    (ho : s.heap.get? a = some o) (hx : o.ExactSet) (hd : o.data = .set es ep t) (T : Tab knd es1 t1 ks) {c : Bool} (h : ∀ h' js, Heap.SameBut a s.heap h' → js.Perm ks → Bag knd h' a js → R (some true) { s with heap := h' }) :
    wpAny (model P w) A (do
      storeSet a es1 t1
      if c = true then do
        g (relayAll t1 es1 (SetTable.grown es1.size)).2.2
        storeSet a (relayAll t1 es1 (SetTable.grown es1.size)).1 (relayAll t1 es1 (SetTable.grown es1.size)).2.1
        pure (some true)
      else pure (some true)) R E s := by
  have one : ∀ {h : Heap} {o : Obj} {es es' : Array (Int × Value)} {ep : Nat} {t t' : SetTable}, h.get? a = some o → o.data = .set es ep t → (h.update a (Obj.putSet es' t')).get? a = some { o with data := .set es' (ep + 1) t' } := by
    intro h o es es' ep t t' e d
    have := Heap.get?_update_self (Obj.putSet es' t') e (by rw [putSet_of es' t' d]; rfl)
    rwa [putSet_of es' t' d] at this
  refine wpAny_bind (wpAny_storeSet_of ho hd ?_ (fits_of_scanBound T.few))
  have b1 := Heap.SameBut.update s.heap a (Obj.putSet es1 t1)
  have h1 := one (es' := es1) (t' := t1) ho hd
  cases c with
  | false => exact wpAny_pure (h _ ks b1 (.refl _) ⟨_, es1, _, t1, h1, hx, rfl, T⟩)
  | true =>
    obtain ⟨js, q, T2⟩ := T.again (SetTable.grown es1.size)
    refine wpAny_bind (hg _ _ _ (wpAny_bind (wpAny_storeSet_of h1 rfl ?_ (fits_of_scanBound T2.few))))
    exact wpAny_pure (h _ js (b1.trans (Heap.SameBut.update _ a _)) q ⟨_, _, _, _, one h1 rfl, hx, rfl, T2⟩)
/-- a.add(v) -/
theorem bag_add {a : Addr} {ks : List κ} {k : κ} {v : Value} {Q : Value → Shared → Prop} (B : Bag knd s.heap a ks) (hk : knd.is k v = true) (hs : v.scannable = true) (room : ks.length + 1 < scanBound)
    (h : ∀ h' js, Heap.SameBut a s.heap h' → Bag knd h' a js → (∀ j, j ∈ js ↔ j = k ∨ j ∈ ks) → Q .none { s with heap := h', toks := s.toks + 1 }) : wpAny (model P w) A (call (.builtin "set.add") [.ref a, v]) Q E s := by
  refine wpAny_call_entry F.slot_set_add B.setOf.typeIs F.entry_set_add ?_ (F.args_set_add_2 _ _)
  obtain ⟨o, es, ep, t, ho, hx, hd, T⟩ := B
  unfold Builtin.«set.add» Builtin.Frozenset.oneOther Builtin.Frozenset.addrOf setAdd
  simp only [List.isEmpty_nil, bind_assoc]
  refine wpAny_bind (wpAny_pure ?_)
  refine wpAny_bind (wpAny_pure (wpAny_bind (wpAny_holding (wpAny_bind (knd.pyHash hk ?_)))))
  unfold setAddHashed setAddHashedIn
  refine wpAny_holding (wpAny_bind (wpAny_setState_of ho hd T.fits ?_))
  dsimp only
  rw [byScan_of hs T.few T.elems]
  simp only [↓reduceIte]
  unfold setAddByScan
  refine wpAny_bind (wpAny_bind (wpAny_rule (wpAny_bind (wpAny_setScan_of hk ho hd T.fits T.elems ?_))))
  cases e : es.toList.findIdx? (fun e => knd.is k e.2) with
  | some j =>
    obtain ⟨hj, pj, _⟩ := List.findIdx?_eq_some_iff_getElem.mp e
    have m : k ∈ ks := (ent_has T.ent k).mpr ⟨_, List.getElem_mem hj, pj⟩
    exact wpAny_pure (wpAny_pure (wpAny_pure ⟨_, rfl, h s.heap ks (.refl _ _) ⟨o, es, ep, t, ho, hx, hd, T⟩ fun j => ⟨.inr, fun q => q.elim (fun z => z ▸ m) id⟩⟩))
  | none =>
    have new : ¬ k ∈ ks := fun z => by
      obtain ⟨x, m, q⟩ := (ent_has T.ent k).mp z
      have := List.findIdx?_eq_none_iff.mp e x m
      rw [q] at this
      cases this
    obtain ⟨js, q, T1⟩ := T.more hk hs new room
    dsimp only
    generalize layNew t es (knd.hash k) v = Z at T1 ⊢
    obtain ⟨es1, t1, dm, gv⟩ := Z
    dsimp only at T1 ⊢
    have done : ∀ h' is, Heap.SameBut a s.heap h' → is.Perm js → Bag knd h' a is → Q .none { s with heap := h', toks := s.toks + 1 } := fun h' is sb pm B => h h' is sb B fun j => by
      rw [(pm.trans q).mem_iff, List.mem_cons]
    refine wpAny_bind ?_
    have slip : ∀ {Q' : Unit → Shared → Prop} {s' : Shared}, Q' () s' → ∀ b, wpAny (model P w) A.in1 (match b with | true => rule "set.scan.the-table-gave-way" | false => pure ()) Q' E s' := fun q b => by
      cases b
      · exact wpAny_pure q
      · exact wpAny_rule q
    refine slip ?_ gv
    split
    · refine wpAny_bind ?_
      rw [hashByValue_scannable 8 hs]
      refine wpAny_pure ?_
      have T2 : Tab knd es1 (if plainKind v = true then t1 else { t1 with plain := false }) js := by
        split
        · exact T1
        · exact T1.plainOff
      refine tab_put (s := { s with toks := s.toks + 1 }) ?_ ho hx hd T2 ?_
      · exact fun b s Q q => slip q b
      · exact fun h' is sb pm B => wpAny_pure (wpAny_pure ⟨_, rfl, done h' is sb pm B⟩)
    · refine wpAny_bind (wpAny_pure ?_)
      simp only [↓reduceIte]
      refine tab_put (s := { s with toks := s.toks + 1 }) ?_ ho hx hd T1 ?_
      · exact fun b s Q q => slip q b
      · exact fun h' is sb pm B => wpAny_pure (wpAny_pure ⟨_, rfl, done h' is sb pm B⟩)
end
/-! sets of texts -/
def TxO (P : Program) (w : World) (a : Addr) (zs : List Str) : HO := .ext fun h => ∃ ks, Bag (PySem.strKind P w) h a ks ∧ ∀ k, k ∈ ks ↔ k ∈ zs
theorem txO_ok {P : Program} {w : World} {H : Hp} {h : Heap} {a : Addr} {ks zs : List Str} (B : Bag (PySem.strKind P w) h a ks) (e : ∀ k, k ∈ ks ↔ k ∈ zs) : ObjOk P w H h a (TxO P w a zs) :=
  ⟨⟨ks, B, e⟩, let ⟨o, _, _, _, h, _⟩ := B; ⟨o, h⟩, fun _ _ ⟨js, B, e⟩ k => ⟨js, B.at fun o q => k o q, e⟩⟩
theorem txO_get {X : Cx} {pins : List (Addr × Obj)} {σ : L2.St} {H : Hp} {s : Shared} {a : Addr} {zs : List Str} (I : Inv X pins σ H s) (e : H a = some (TxO X.prog X.w a zs)) : ∃ ks, Bag (PySem.strKind X.prog X.w) s.heap a ks ∧ ∀ k, k ∈ ks ↔ k ∈ zs := (I.hok a _ e).1
theorem once_le {ks zs : List Str} (nd : ks.Nodup) (h : ∀ k ∈ ks, k ∈ zs) : ks.length ≤ zs.length := by
  induction ks generalizing zs with
  | nil => exact Nat.zero_le _
  | cons k ks ih =>
    have ⟨n1, n2⟩ := List.nodup_cons.mp nd
    have m := h k List.mem_cons_self
    have := ih n2 (zs := zs.erase k) fun j hj => (List.mem_erase_of_ne (a := j) (b := k) (fun e : j = k => n1 (by rw [← e]; exact hj))).mpr (h j (List.mem_cons_of_mem _ hj))
    rw [List.length_erase_of_mem m] at this
    have := List.length_pos_of_mem m
    rw [List.length_cons]
    omega
theorem strs_of {out : List Value} {js : List Str} (p : Paired (fun v k => ∃ tk, v = Value.str k tk) out js) : StrsAre out js := by
  induction p with
  | nil => exact .nil
  | cons h _ ih =>
    obtain ⟨tk, rfl⟩ := h
    exact .cons _ _ ih
theorem str_scan {k : Str} {v : Value} (h : (∃ t, v = Value.str k t)) : v.scannable = true := by
  obtain ⟨t, rfl⟩ := h
  rfl
theorem str_is (P : Program) (w : World) (k : Str) (t : Tok) : (PySem.strKind P w).is k (.str k t) = true := by
  show (k == k) = true
  exact beq_self_eq_true k
section
variable {X : Cx} {pins : List (Addr × Obj)} {σ : L2.St} {H : Hp} {s : Shared}
/-- a text is put into the set at a -/
theorem tx_add {A : Around} {E : Value → Shared → Prop} {Q : Value → Shared → Prop} {a : Addr} {zs : List Str} {z : Str} {u : Value} (I : Inv X pins σ H s) (e : H a = some (TxO X.prog X.w a zs)) (r : RelV (.str z) u) (few : zs.length < 1000)
    (h : ∀ s', Inv X pins σ (upd H a (TxO X.prog X.w a (z :: zs))) s' → Q .none s') : wpAny (model X.prog X.w) A (call (.builtin "set.add") [.ref a, u]) Q E s := by
  obtain ⟨ks, B, m⟩ := txO_get I e
  obtain ⟨t, rfl⟩ := (show ∃ t, u = Value.str z t from r)
  have le : ks.length ≤ zs.length := once_le (let ⟨_, _, _, _, _, _, _, T⟩ := B; T.once) fun k hk => (m k).mp hk
  refine bag_add B (str_is X.prog X.w z t) rfl (by show ks.length + 1 < 4096; omega) fun h' js sb B2 q => ?_
  have there : ∃ o, h'.get? a = some o := let ⟨o, _, _, _, g, _⟩ := B2; ⟨o, g⟩
  refine h _ (I.write (e := a) (t' := s.toks + 1) (by rw [e]; trivial) (.inl rfl) (fun b o hb g => (sb.2 b hb).trans g) there (txO_ok B2 fun k => ?_))
  rw [q k, m k, List.mem_cons]
/-- sorted of a set of texts -/
def rSortedTx (P : Program) (w : World) : List V → Hp → VK → Prop := fun vs H Q => ∃ (a : Addr) (zs : List Str), vs = [V.ref a] ∧ H a = some (TxO P w a zs) ∧ zs.length < 64 ∧
  ∀ (ys : List Str) (p : Addr), ys.Nodup → sortedS ys = true → (∀ k, k ∈ ys ↔ k ∈ zs) → H p = none → Q (.ref p) (upd H p (.lst (ys.map V.str)))
theorem cr_sortedTx (hc : X.calm = true) : CallR X (.builtin "sorted") (rSortedTx X.prog X.w) := by
  intro pins s σ H xs us Q I r h
  obtain ⟨a, zs, rfl, e, few, q⟩ := h
  obtain ⟨u, rfl, rx⟩ := vals1 r
  cases (show u = Value.ref a from rx)
  obtain ⟨ks, ⟨o, es, ep, t, ho, hx, hd, T⟩, m⟩ := txO_get I e
  have le : ks.length < 64 := Nat.lt_of_le_of_lt (once_le T.once fun k hk => (m k).mp hk) few
  refine Calls.call_function_entry PyProof.Rows.kind_sorted PyProof.Rows.plain_sorted PyProof.Rows.entry_sorted (PyProof.Rows.args_sorted1 _) ?_
  unfold Builtin.«sorted»
  refine wpAny_bind (m := checkCount "sorted" 1 1 _) (wpAny_pure (wpAny_bind (collect_set (A := X.A.in1) (I.ok.hd hc) ⟨o, ho, hx.1, hd⟩ T.fits T.few T.ris T.led fun s1 out old _ gs os pm => ?_)))
  obtain ⟨js, pj, rj⟩ := paired_perm (R := fun v k => ∃ tk, v = Value.str k tk) (xs := es.toList.map (·.2)) (ks := ks) pm (by
    have : ∀ {l : List (Int × Value)} {ks : List Str}, Paired (Entry (PySem.strKind X.prog X.w)) l ks → Paired (fun v k => ∃ tk, v = Value.str k tk) (l.map (·.2)) ks := by
      intro l ks p
      induction p with
      | nil => exact .nil
      | cons h _ ih => exact .cons (Value.isStrOf_shape h.key) ih
    exact this T.ent)
  have S := strs_of rj
  have len : out.length = ks.length := by rw [Paired.length rj, pj.length_eq]
  have I1 : Inv X pins σ H s1 := I.call' (ch := []) os (Un.kept old) (I.hok.kept old) (by rw [gs]; exact I.bare) (fun b z => absurd z (by simp))
  refine wpAny_bind (wpAny_newList ?_ (by rw [len, sizeLine_eq]; omega))
  have at_ : (s1.heap.push (seqObj "list" out.toArray 0)).get? s1.heap.objs.size = some (seqObj "list" out.toArray 0) := Heap.get?_push_size _ rfl
  refine wpAny_bind (wpAny_holding (wpAny_call_entry PyProof.Rows.slot_list_sort ⟨_, at_, rfl⟩ PyProof.Rows.entry_list_sort (list_sort_treeK strKind_oneLt at_ S.keysOf (fun _ _ _ e => keyKind_strs (by rw [← e]; exact S)) (by rw [len]; exact le) ?_) (PyProof.Rows.args_list_sort _)))
  intro st p1 p2
  obtain ⟨ys, g1, g2, g3⟩ := sorted_out_str S p1 p2
  obtain ⟨ep2, at2⟩ := PyProof.Rows.sortedHeap_at (vs := out) (out := (arrOf st).map (·.2)) at_
  have mem : ∀ k, k ∈ ys ↔ k ∈ zs := fun k => by rw [g2.mem_iff, pj.mem_iff, m k]
  have once : ys.Nodup := g2.nodup_iff.mpr (pj.nodup_iff.mpr T.once)
  have small : (ys.map V.str).length ≤ sizeLine := by rw [List.length_map, g2.length_eq, pj.length_eq, sizeLine_eq]; omega
  have kept : ∀ b o, s1.heap.get? b = some o → (sortedHeap (s1.heap.push (seqObj "list" out.toArray 0)) s1.heap.objs.size out ((arrOf st).map (·.2))).get? b = some o := fun b o g => by
    have lt := Heap.lt_size g
    rw [PyProof.Rows.sortedHeap_old (Nat.ne_of_lt lt) (by rw [size_push']; exact Nat.lt_succ_of_lt lt)]
    exact Heap.get?_push_of_some _ g
  refine ⟨_, rfl, wpAny_pure ⟨_, rfl, .ref s1.heap.objs.size, upd H s1.heap.objs.size (.lst (ys.map V.str)), ?_, rfl, q ys _ once g3 mem (I1.hok.fresh (Nat.le_refl _))⟩⟩
  exact I1.laid (t' := s1.toks) kept (Nat.le_refl _) (show ObjOk X.prog X.w _ _ _ (.lst (ys.map V.str)) from ⟨small, ((arrOf st).map (·.2)).toList, ep2, vals_of_strs g1, by rw [Array.toArray_toList]; exact at2⟩)
end
end Toy

namespace Toy
open PySem PySem.Spec PyProof.Rows L2
/-! {el for t0 in i0 for t1 in i1}: a set of texts -/
abbrev twoFor (el t0 i0 t1 i1 : Expr) (sc : Scope) (p : Pos) : Expr := .SetComp el [⟨t0, i0, [], 0⟩, ⟨t1, i1, [], 0⟩] sc p
section
variable {P : Program} {w : World} {A : Around} {R : Result → Shared → Prop} {s : Shared} {el t0 i0 t1 i1 : Expr} {sc : Scope} {p : Pos} {it acc : Value} {env : Env}
theorem turn_outer : compTurn (twoFor el t0 i0 t1 i1 sc p) 0 it acc env = (do
    standAt i0.pos
    match ← pyNext it with
    | none => pure (.done .next)
    | some v =>
      letOwnedTupleGo t0 it v
      assign t0 env v
      let x ← eval i1 env
      standAt i1.pos
      let x ← foldedSetIterable i1 env x
      let _ ← runOwn (.compStart (twoFor el t0 i0 t1 i1 sc p) 1 (← holding [x] (pyIter x)) acc env) env
      again (.compLoop (twoFor el t0 i0 t1 i1 sc p) 0 it acc env)) := by first | rfl | (unfold compTurn; simp; rfl)
theorem turn_inner : compTurn (twoFor el t0 i0 t1 i1 sc p) 1 it acc env = (do
    standAt i1.pos
    match ← pyNext it with
    | none => pure (.done .next)
    | some v =>
      letOwnedTupleGo t1 it v
      assign t1 env v
      let x ← eval el env
      standAt el.pos
      let _ ← call (.builtin "set.add") [acc, x]
      again (.compLoop (twoFor el t0 i0 t1 i1 sc p) 1 it acc env)) := by first | rfl | (unfold compTurn; simp; rfl)
abbrev fails (P : Program) (w : World) (A : Around) (env : Env) (R : Result → Shared → Prop) : Value → Shared → Prop := notedBy (model P w) A env fun e s => R (.error e) s
abbrev less (Z : Nat → Shared → Prop) (n : Nat) (s : Shared) : Prop := ∃ m, m < n ∧ Z m s
theorem loop_outer (fold : ∀ x, foldedSetIterable i1 env x = pure x) (Z : Nat → Shared → Prop) (turn : ∀ n s, Z n s → wpAny (model P w) A (pyNext it) (fun r s => match r with
      | none => R (.ok .next) s
      | some v => wpAny (model P w) A (letOwnedTupleGo t0 it v) (fun _ s => wpAny (model P w) A (assign t0 env v) (fun _ s => wpAny (model P w) A (eval i1 env) (fun x s => wpAny (model P w) A (pyIter x) (fun j s =>
          codeAny (model P w) A (.compStart (twoFor el t0 i0 t1 i1 sc p) 1 j acc env) (fun r s => match r with | .ok _ => less Z n s | .error _ => False) s) (fails P w A env R) s) (fails P w A env R) s) (fails P w A env R) s) (fails P w A env R) s) (fails P w A env R) s)
    (n : Nat) (z : Z n s) : codeAny (model P w) A (.compLoop (twoFor el t0 i0 t1 i1 sc p) 0 it acc env) R s := by
  refine codeAny_loop rfl Z (fun n s z => ?_) n z
  show wpAny _ A ((compTurn (twoFor el t0 i0 t1 i1 sc p) 0 it acc env).onRaise (fun x => do noteFrame x env; theTreesLotGoes x)) _ _ s
  refine wpAny_noted ?_
  rw [turn_outer]
  refine wpAny_bind (wpAny_standAt (wpAny_bind (thn (turn n s z) fun r s1 q => ?_)))
  match r, q with
  | none, q => exact wpAny_pure q
  | some v, q => exact wpAny_bind (thn q fun _ _ q => wpAny_bind (thn q fun _ _ q => wpAny_bind (thn q fun x _ q => wpAny_bind (wpAny_standAt (wpAny_bind (wpAny_of_eq (fold x) (wpAny_bind (wpAny_holding (thn q fun j _ q => wpAny_bind (wpAny_runOwn (by
      rw [Around.mark_none]
      refine codeAny_mono q fun r _ q => ?_
      match r, q with
      | .ok _, q => first | exact wpAny_pure ⟨rfl, q⟩ | exact wpAny_bind (wpAny_pure (wpAny_pure ⟨rfl, q⟩))
      | .error _, q => exact q.elim)))))))))))
theorem loop_inner (Z : Nat → Shared → Prop) (turn : ∀ n s, Z n s → wpAny (model P w) A (pyNext it) (fun r s => match r with
      | none => R (.ok .next) s
      | some v => wpAny (model P w) A (letOwnedTupleGo t1 it v) (fun _ s => wpAny (model P w) A (assign t1 env v) (fun _ s => wpAny (model P w) A (eval el env) (fun x s =>
          wpAny (model P w) A (call (.builtin "set.add") [acc, x]) (fun _ s => less Z n s) (fails P w A env R) s) (fails P w A env R) s) (fails P w A env R) s) (fails P w A env R) s) (fails P w A env R) s)
    (n : Nat) (z : Z n s) : codeAny (model P w) A (.compLoop (twoFor el t0 i0 t1 i1 sc p) 1 it acc env) R s := by
  refine codeAny_loop rfl Z (fun n s z => ?_) n z
  show wpAny _ A ((compTurn (twoFor el t0 i0 t1 i1 sc p) 1 it acc env).onRaise (fun x => do noteFrame x env; theTreesLotGoes x)) _ _ s
  refine wpAny_noted ?_
  rw [turn_inner]
  refine wpAny_bind (wpAny_standAt (wpAny_bind (thn (turn n s z) fun r s1 q => ?_)))
  match r, q with
  | none, q => exact wpAny_pure q
  | some v, q => exact wpAny_bind (thn q fun _ _ q => wpAny_bind (thn q fun _ _ q => wpAny_bind (thn q fun x _ q => wpAny_bind (wpAny_standAt (wpAny_bind (thn q fun _ _ q => wpAny_pure ⟨rfl, q⟩))))))
theorem start_inner (h0 : codeAny (model P w) A (.compLoop (twoFor el t0 i0 t1 i1 sc p) 1 it acc env) R s)
    (h : wpAny (model P w) A (pyIter it) (fun j s => codeAny (model P w) A (.compLoop (twoFor el t0 i0 t1 i1 sc p) 1 j acc env) R s) (fails P w A env R) s) : codeAny (model P w) A (.compStart (twoFor el t0 i0 t1 i1 sc p) 1 it acc env) R s := by
  refine codeAny_of_tree ?_
  show wpAny _ _ ((compStart (twoFor el t0 i0 t1 i1 sc p) 1 it acc env).onRaise (fun x => do noteFrame x env; standAt theWindowsPlace)) _ _ s
  refine wpAny_notedAt ?_
  unfold compStart
  show wpAny _ _ (ask >>= _) _ _ s
  refine wpAny_bind (wpAny_askSetting (wpAny_ite ?_))
  split
  · first | exact wpAny_bind (wpAny_pure (wpAny_pure ⟨rfl, h0⟩)) | exact wpAny_pure ⟨rfl, h0⟩
  · refine wpAny_bind (wpAny_rule ?_)
    show wpAny _ _ (standAt i1.pos >>= _) _ _ s
    exact wpAny_bind (wpAny_standAt (wpAny_bind (thn h fun j _ q => wpAny_pure ⟨rfl, q⟩)))
end
section
variable {Y : Cx} {el t0 i0 t1 i1 : Expr} {sc : Scope} {p : Pos} {D : Addr} {vs vs1 : List Nat} {g g1 : TG} {te : TE} {wi wi1 : TI}
theorem calmly {α : Type} {t : Sem α} {Q Q' : α → Shared → Prop} {E : Value → Shared → Prop} {s : Shared} (hx : Y.xe = fun _ _ => False) (h : wpAny (model Y.prog Y.w) Y.A t Q Y.xe s) (k : ∀ a s, Q a s → Q' a s) : wpAny (model Y.prog Y.w) Y.A t Q' E s := by
  rw [hx] at h
  exact thnF h k
/-- what a turn of the second clause leads to -/
def Inner (P : Program) (w : World) (D : Addr) (g1 : TG) (te : TE) (vs1 : List Nat) (σ : L2.St) (J : It) (Nx : Hp → Prop) (H : Hp) : Prop := ∃ W : Nat → Nat → Hp → Prop, (∃ m, W 0 m H) ∧ ∀ j k H, W j k H →
  (J.stop j H ∧ Nx H) ∨ (J.go j H ∧ ∃ N : Hp → Prop, (∀ H', N H' → ∃ k', k' < k ∧ W (j + 1) k' H') ∧ ∀ x H', J.yld j H x H' → g1 x (wipe σ vs1) H' fun τ G => wipe τ vs1 = wipe σ vs1 ∧ te τ G fun y G2 =>
    ∃ (z : Str) (zs : List Str), y = .str z ∧ G2 D = some (TxO P w D zs) ∧ zs.length < 1000 ∧ N (upd G2 D (TxO P w D (z :: zs))))
theorem inner_run {pins : List (Addr × Obj)} {σ : L2.St} {H : Hp} {s : Shared} {J : It} {fp : List Addr} {it : Addr} {tn : Nat → Heap → Prop} {Nx : Hp → Prop} {Z : Shared → Prop} (hc : Y.calm = true) (hx : Y.xe = fun _ _ => False) (T : Turn Y.prog Y.w Y.K t1 J fp it tn) (pg : PG Y t1 g1) (pe : PE Y el te)
    (free : ∀ G : Hp, (∀ b ∈ fp, G b = none) → ∀ b ∈ fp, FpOk Y pins G b) (I : Inv Y pins σ H s) (st : tn 0 s.heap) (nf : ∀ b ∈ fp, H b = none) (h : Inner Y.prog Y.w D g1 te vs1 σ J Nx H) (fin : ∀ G s', Inv Y pins (wipe σ vs1) G s' → Nx G → Z s') :
    codeAny (model Y.prog Y.w) Y.A (.compStart (twoFor el t0 i0 t1 i1 sc p) 1 (.ref it) (.ref D) Y.env) (fun r s' => match r with | .ok _ => Z s' | .error _ => False) s := by
  obtain ⟨W, ⟨m, w0⟩, turn⟩ := h
  have loop : codeAny (model Y.prog Y.w) Y.A (.compLoop (twoFor el t0 i0 t1 i1 sc p) 1 (.ref it) (.ref D) Y.env) (fun r s' => match r with | .ok _ => Z s' | .error _ => False) s := by
    refine loop_inner (fun k s' => ∃ j G, Inv Y pins (wipe σ vs1) G s' ∧ tn j s'.heap ∧ (∀ b ∈ fp, G b = none) ∧ W j k G) ?_ m ⟨0, H, I.weak (wipe_length _ _) fun j v e => (wipe_some e).1, st, nf, w0⟩
    rintro k s2 ⟨j, G, I2, st2, n2, w2⟩
    rcases turn j k G w2 with ⟨stop, q⟩ | ⟨go, N, next, step⟩
    · refine thnF (T.done Y rfl rfl rfl hc j pins s2 _ G (fun _ _ => False) I2 (free G n2) st2 stop) ?_
      rintro r s3 ⟨rfl, I3⟩
      exact fin G s3 I3 q
    · refine thnF (T.item Y rfl rfl rfl hc j pins s2 _ G (fun _ _ => False) I2 (free G n2) st2 go) ?_
      rintro r s3 ⟨u, rfl, q3⟩
      refine thnF q3 ?_
      rintro _ s4 ⟨x, G4, I4, r4, y4, st4, n4⟩
      have I4' := I4.pinned (free G4 n4) (T.obj _ _ st4)
      refine calmly hx (pg.run _ s4 _ G4 x u _ I4' r4 (step x G4 y4)) ?_
      rintro _ s5 ⟨τ, G5, I5, e5, q5⟩
      refine calmly hx (pe.run _ s5 τ G5 _ I5 q5) ?_
      rintro v s6 ⟨y, G6, I6, r6, z, zs, rfl, at6, few, nx⟩
      refine tx_add I6 at6 r6 few fun s7 I7 => ?_
      obtain ⟨k', lt, w7⟩ := next _ nx
      have same : ∀ b ∈ fp, ∀ o, s4.heap.get? b = some o → s7.heap.get? b = some o ∧ (upd G6 D (TxO Y.prog Y.w D (z :: zs))) b = none := fun b hb o e => by
        have q := I7.pin (b, o) (List.mem_append_right _ (List.mem_append_right _ (mem_pinsAt hb e)))
        exact ⟨q.1, q.2.1⟩
      refine ⟨k', lt, j + 1, _, I7.unpinned.weak (by rw [← e5, wipe_length]) (fun j v e => by rw [← e5] at e; exact (wipe_some e).1), T.keep _ _ _ st4 fun b hb o e => (same b hb o e).1, fun b hb => ?_, w7⟩
      obtain ⟨o, e, _⟩ := T.obj _ _ st4 b hb
      exact (same b hb o e).2
  exact start_inner loop (T.self Y.A 0 _ _ _ st loop)
/-- the whole block -/
def Outer (P : Program) (w : World) (D : Addr) (g : TG) (wi1 : TI) (g1 : TG) (te : TE) (vs vs1 : List Nat) (σ : L2.St) (J : It) (Q : Hp → Prop) (H : Hp) : Prop := ∃ W : Nat → Nat → Hp → Prop, (∃ m, W 0 m H) ∧ ∀ i m H, W i m H →
  (J.stop i H ∧ Q H) ∨ (J.go i H ∧ ∃ N : Hp → Prop, (∀ H', N H' → ∃ m', m' < m ∧ W (i + 1) m' H') ∧ ∀ x H', J.yld i H x H' → g x (wipe σ vs) H' fun τ G => wipe τ vs = wipe σ vs ∧ wi1 τ G fun J1 G2 => Inner P w D g1 te vs1 τ J1 N G2)
theorem outer_run {σ : L2.St} {H : Hp} {s : Shared} {J : It} {fp : List Addr} {it : Addr} {tn : Nat → Heap → Prop} {Q : Hp → Prop} {R : Result → Shared → Prop} (hc : Y.calm = true) (hx : Y.xe = fun _ _ => False) (sub : ∀ i ∈ vs1, i ∈ vs) (fold : ∀ x, foldedSetIterable i1 Y.env x = pure x)
    (T : Turn Y.prog Y.w Y.K t0 J fp it tn) (pg : PG Y t0 g) (pi1 : PI Y t1 i1 wi1) (pg1 : PG Y t1 g1) (pe : PE Y el te) (free : ∀ G : Hp, (∀ b ∈ fp, G b = none) → ∀ b ∈ fp, FpOk Y [] G b)
    (I : Inv Y [] (wipe σ vs) H s) (st : tn 0 s.heap) (nf : ∀ b ∈ fp, H b = none) (h : Outer Y.prog Y.w D g wi1 g1 te vs vs1 σ J Q H) (fin : ∀ G s', Inv Y [] (wipe σ vs) G s' → Q G → R (.ok .next) s') :
    codeAny (model Y.prog Y.w) Y.A (.compLoop (twoFor el t0 i0 t1 i1 sc p) 0 (.ref it) (.ref D) Y.env) R s := by
  obtain ⟨W, ⟨m, w0⟩, turn⟩ := h
  refine loop_outer fold (fun m s' => ∃ i G, Inv Y [] (wipe σ vs) G s' ∧ tn i s'.heap ∧ (∀ b ∈ fp, G b = none) ∧ W i m G) ?_ m ⟨0, H, I, st, nf, w0⟩
  rintro m s2 ⟨i, G, I2, st2, n2, w2⟩
  rcases turn i m G w2 with ⟨stop, q⟩ | ⟨go, N, next, step⟩
  · refine thnF (T.done Y rfl rfl rfl hc i [] s2 _ G (fun _ _ => False) I2 (free G n2) st2 stop) ?_
    rintro r s3 ⟨rfl, I3⟩
    exact fin G s3 I3 q
  · refine thnF (T.item Y rfl rfl rfl hc i [] s2 _ G (fun _ _ => False) I2 (free G n2) st2 go) ?_
    rintro r s3 ⟨u, rfl, q3⟩
    refine thnF q3 ?_
    rintro _ s4 ⟨x, G4, I4, r4, y4, st4, n4⟩
    have I4' := I4.pinned (free G4 n4) (T.obj _ _ st4)
    refine calmly hx (pg.run _ s4 _ G4 x u _ I4' r4 (step x G4 y4)) ?_
    rintro _ s5 ⟨τ, G5, I5, e5, q5⟩
    refine calmly hx (pi1.run _ s5 τ G5 _ I5 q5) fun xv s6 q6 => calmly hx q6 ?_
    rintro _ s7 ⟨it1, fp1, tn1, J1, G7, rfl, I7, T1, st7, f7, q7⟩
    refine inner_run (Nx := N) hc hx T1 pg1 pe (fun G n b hb => ⟨n b hb, (f7 b hb).2⟩) I7 st7 (fun b hb => (f7 b hb).1) q7 ?_
    intro G8 s8 I8 nx
    obtain ⟨m', lt, w8⟩ := next _ nx
    have same : ∀ b ∈ fp, ∀ o, s4.heap.get? b = some o → s8.heap.get? b = some o ∧ G8 b = none := fun b hb o e => by
      have q := I8.pin (b, o) (List.mem_append_right _ (List.mem_append_right _ (mem_pinsAt hb e)))
      exact ⟨q.1, q.2.1⟩
    refine ⟨m', lt, i + 1, G8, (I8.unpinned (pins := [])).weak ?_ ?_, T.keep _ _ _ st4 fun b hb o e => (same b hb o e).1, fun b hb => ?_, w8⟩
    · rw [← e5, wipe_length, wipe_length]
    · intro j v e
      rw [← e5] at e
      obtain ⟨a1, a2⟩ := wipe_some e
      rw [wipe_out fun z => a2 (sub j z)]
      exact a1
    · obtain ⟨o, e, _⟩ := T.obj _ _ st4 b hb
      exact (same b hb o e).2
end
def tSc2 (P : Program) (w : World) (wi : TI) (g : TG) (wi1 : TI) (g1 : TG) (te : TE) (vs vs1 : List Nat) : TE := fun σ H Q => wi σ H fun J G => ∀ D, G D = none → Outer P w D g wi1 g1 te vs vs1 σ J (Q (.ref D)) (upd G D (TxO P w D []))
theorem tab_fresh (P : Program) (w : World) : Tab (PySem.strKind P w) (#[] : Array (Int × Value)) (.fresh 0 0 (!w.params.followText "set-order")) [] :=
  ⟨.nil, .nil, by decide, by rfl, by first | exact List.Pairwise.nil | exact ris_range 0 | decide, by
    cases h : w.params.followText "set-order" with
    | true => exact .inl rfl
    | false => exact .inr rfl⟩
section
variable {X : Cx} {el t0 i0 t1 i1 : Expr} {sc : Scope} {p : Pos} {wi wi1 : TI} {g g1 : TG} {te : TE} {own : List (Str × Nat)} {vs1 : List Nat}
/-- the block that such a comprehension runs in -/
abbrev blkOf (X : Cx) (s : Shared) (H : Hp) (sc : Scope) (C : Addr) (cl : List (Str × Addr)) (fp : List Addr) : Cx := X.blk s H sc (compEnvC sc cl C X.env) fp
theorem pe_sc2 (hc : X.calm = true) (nd : X.N.Nodup) (hi : PI X t0 i0 wi) (ok : BlkOk X.N X.env.scope sc own) (sub : ∀ i ∈ vs1, i ∈ own.map (·.2))
    (hg : ∀ s H C cl fp, PG (blkOf X s H sc C cl fp) t0 g) (hi1 : ∀ s H C cl fp, PI (blkOf X s H sc C cl fp) t1 i1 wi1) (hg1 : ∀ s H C cl fp, PG (blkOf X s H sc C cl fp) t1 g1) (he : ∀ s H C cl fp, PE (blkOf X s H sc C cl fp) el te)
    (f0 : ∀ x, foldedSetIterable i0 X.env x = pure x := by intro _; rfl) (f1 : ∀ env x, foldedSetIterable i1 env x = pure x := by intro _ _; rfl) :
    PE X (twoFor el t0 i0 t1 i1 sc p) (tSc2 X.prog X.w wi g wi1 g1 te (own.map (·.2)) vs1) := .mk fun pins s σ H Q I h => by
  have clo : ∀ y ∈ sc.names, y.2 = .free → ∃ c, X.env.cells.lookup y.1 = some c := fun y m e => (ok.free y m e).elim (fun k => I.ok.has _ (.inl k)) fun k => I.ok.has _ (.inr k)
  rw [PpSet.eval_SetComp]
  refine wpAny_comprehension_free (use := none) rfl f0 (closure_ok clo) ok.kind (fun y m e => by rw [ok.uniq y m, e]) (thn (hi.run pins s σ H _ I h) fun xv s1 q => thn q ?_)
  rintro _ s2 ⟨it, fp, tn, J, G, rfl, I2, T, st, foot, q⟩
  refine PpSet.newSet_ok (newEnv_comp ?_)
  obtain ⟨D, eD⟩ : ∃ D, s2.heap.objs.size = D := ⟨_, rfl⟩
  have free : G D = none := I2.hok.fresh (Nat.le_of_eq eD)
  have q := q D free
  let ob : Obj := { cls := .type "set", dict := none, data := .set #[] 0 (.fresh 0 0 (!X.w.params.followText "set-order")) }
  obtain ⟨s3, e3⟩ : ∃ s3 : Shared, s3 = { s2 with heap := s2.heap.push ob } := ⟨_, rfl⟩
  have top : (s2.heap.push ob).get? D = some ob := by rw [← eD]; exact Heap.get?_push_size _ rfl
  have I3 : Inv X pins σ (upd G D (TxO X.prog X.w D [])) s3 := by
    rw [e3]
    exact I2.laid (t' := s2.toks) (fun b o e => Heap.get?_push_of_some _ e) (Nat.le_of_eq eD) (txO_ok ⟨ob, _, _, _, top, ⟨rfl, rfl, rfl⟩, rfl, tab_fresh X.prog X.w⟩ fun k => Iff.rfl)
  have foot3 : ∀ b ∈ fp, FpOk X pins (upd G D (TxO X.prog X.w D [])) b ∧ b < s3.heap.objs.size := fun b m => by
    obtain ⟨o, e, _⟩ := T.obj _ _ st b m
    have lt : b < s2.heap.objs.size := Heap.lt_size e
    refine ⟨⟨?_, (foot b m).2⟩, ?_⟩
    · rw [upd_ne (by rw [← eD]; exact Nat.ne_of_lt lt)]
      exact (foot b m).1
    · rw [e3]
      show b < (s2.heap.push ob).objs.size
      rw [Heap.size_push]
      exact Nat.lt_succ_of_lt lt
  have I4 := block_start I3 ok nd foot3
  have s3h : s3.heap = s2.heap.push ob := by rw [e3]
  rw [eD]
  obtain ⟨C, eC⟩ : ∃ C, s3.heap.objs.size = C := ⟨_, rfl⟩
  obtain ⟨ce, ece⟩ : ∃ ce, ce = compEnvC sc (cellsFrom (s3.heap.objs.size + 1) sc.names (cloFrom X.env.cells sc.names [])) s3.heap.objs.size X.env := ⟨_, rfl⟩
  obtain ⟨s4, e4⟩ : ∃ s4 : Shared, s4 = { s3 with heap := pushCells (s3.heap.push { cls := .type "dict", data := .dict #[] }) sc.names } := ⟨_, rfl⟩
  have loc : ce.locals = s3.heap.objs.size := by rw [ece] <;> rfl
  have pg := hg s3 (upd G D (TxO X.prog X.w D [])) s3.heap.objs.size (cellsFrom (s3.heap.objs.size + 1) sc.names (cloFrom X.env.cells sc.names [])) fp
  have pi1 := hi1 s3 (upd G D (TxO X.prog X.w D [])) s3.heap.objs.size (cellsFrom (s3.heap.objs.size + 1) sc.names (cloFrom X.env.cells sc.names [])) fp
  have pg1 := hg1 s3 (upd G D (TxO X.prog X.w D [])) s3.heap.objs.size (cellsFrom (s3.heap.objs.size + 1) sc.names (cloFrom X.env.cells sc.names [])) fp
  have pe := he s3 (upd G D (TxO X.prog X.w D [])) s3.heap.objs.size (cellsFrom (s3.heap.objs.size + 1) sc.names (cloFrom X.env.cells sc.names [])) fp
  unfold blkOf at pg pi1 pg1 pe
  rw [← ece] at I4 pg pi1 pg1 pe
  rw [← e4] at I4
  have st4 : tn 0 s4.heap := T.keep _ _ _ st fun b _ o e => by
    rw [e4]
    refine pushCells_keeps _ _ _ _ (Heap.get?_push_of_some _ ?_)
    rw [s3h]
    exact Heap.get?_push_of_some _ e
  have loop : codeAny (model X.prog X.w) X.A (.compLoop (twoFor el t0 i0 t1 i1 sc p) 0 (.ref it) (.ref D) ce) (compPost (model X.prog X.w) X.A X.xe none (EP X pins σ Q) (.ref D) s3.heap.objs.size) s4 := by
    refine outer_run (Y := X.blk s3 (upd G D (TxO X.prog X.w D [])) sc ce fp) (Q := Q (.ref D)) hc rfl sub (f1 _) T pg pi1 pg1 pe (fun G n b m => ?_) I4 st4 (fun b m => (foot3 b m).1.1) q ?_
    · exact ⟨n b m, (I4.ok.exf b m).1, I4.ok.exfs b m, .inl m, fun x c e => (I4.ok.exf b m).2 x c e, fun p m => absurd (show p ∈ ([] : List (Addr × Obj)) ++ [] from m) (by simp)⟩
    · intro G5 s5 I5 q5
      have I6 : Inv X pins σ G5 s5 := I3.call' (ch := fp) I5.os I5.base I5.hok I5.bare fun b m => ⟨(foot3 b m).1.2.2.2.1, (foot3 b m).1.2.1, (foot3 b m).1.2.2.2.2.1, (foot3 b m).1.2.2.2.2.2⟩
      have gone : G5 s3.heap.objs.size = none := by
        have z : G5 ce.locals = none := I5.free
        rwa [loc] at z
      obtain ⟨m, hn, _⟩ := I5.loc
      have hn : s5.heap.Ns ce.locals m := hn
      rw [loc] at hn
      obtain ⟨a0, a1, a2, a3, a4, a5⟩ := I3.fpOk (Nat.le_refl _) gone
      exact ⟨m, hn, fun h' sb => ⟨.ref D, G5, I6.turned (t' := s5.toks) (fun b o nb e => (sb.2 b nb).trans e) a0 a1 a3 a4 a5, rfl, q5⟩⟩
  have fine := PpSet.codeAny_compStart_set loop (T.self X.A 0 _ _ _ st4 loop)
  rw [ece, e4, e3] at fine
  exact fine
end
end Toy

namespace Toy
open PySem PySem.Spec PyProof.Rows L2
/-! several dicts locked while an expression runs -/
def tLockN (t : TE) : Nat → TE
  | 0 => t
  | n + 1 => tLockE (tLockN t n)
theorem pe_lockN {X : Cx} {e : Expr} {t : TE} (h : PE X e t) : ∀ n, PE X e (tLockN t n)
  | 0 => h
  | n + 1 => pe_lock (pe_lockN h n)
def tLocks (t : TE) : TE := fun σ H Q => ∃ n, tLockN t n σ H Q
theorem pe_locks {X : Cx} {e : Expr} {t : TE} (h : PE X e t) : PE X e (tLocks t) := .mk fun pins s σ H Q I ⟨n, q⟩ => (pe_lockN h n).run pins s σ H Q I q
def unlocked (ds : List Addr) (H G : Hp) : Hp := fun b => if b ∈ ds then H b else G b
theorem locks_in {t : TE} {σ : L2.St} : ∀ {ds : List Addr} {ks : List (List (Key × V))} {H : Hp} {Q : VK}, ds.Nodup → Paired (fun d kvs => H d = some (.dK kvs)) ds ks →
    (∀ G, (∀ b, ¬ b ∈ ds → G b = H b) → Paired (fun d kvs => ∃ od, G d = some (.frz od (.dK kvs))) ds ks → t σ G fun v G' => (∀ b ∈ ds, G' b = G b) ∧ Q v (unlocked ds H G')) → tLockN t ds.length σ H Q
  | [], [], H, Q, _, _, k => by
    have q := k H (fun _ _ => rfl) .nil
    have e : (fun v G' => (∀ b ∈ ([] : List Addr), G' b = H b) ∧ Q v (unlocked [] H G')) = Q := by
      funext v G'
      have : unlocked [] H G' = G' := by funext b; unfold unlocked; simp
      rw [this]
      simp
    rw [e] at q
    exact q
  | d :: ds, kv :: ks, H, Q, nd, p, k => by
    cases p with
    | cons h1 h2 =>
      have ⟨n1, n2⟩ := List.nodup_cons.mp nd
      refine ⟨d, _, h1, True.intro, fun od => ?_⟩
      have off : ∀ b, b ∈ ds → b ≠ d := fun b m e => n1 (e ▸ m)
      refine locks_in n2 (ks := ks) ?_ fun G eq p2 => ?_
      · have : ∀ {ds : List Addr} {ks : List (List (Key × V))}, (∀ b ∈ ds, b ≠ d) → Paired (fun d kvs => H d = some (.dK kvs)) ds ks → Paired (fun x kvs => upd H d (.frz od (.dK kv)) x = some (.dK kvs)) ds ks := by
          intro ds ks o p
          induction p with
          | nil => exact .nil
          | cons h _ ih => exact .cons (by rw [upd_ne (o _ List.mem_cons_self)]; exact h) (ih fun b m => o b (List.mem_cons_of_mem _ m))
        exact this off h2
      · have gd : G d = some (.frz od (.dK kv)) := by rw [eq d n1]; exact upd_same
        have q := k G (fun b m => by
          rw [eq b fun z => m (List.mem_cons_of_mem _ z), upd_ne fun z : b = d => m (by rw [z]; exact List.mem_cons_self)]) (.cons ⟨od, gd⟩ p2)
        have e : (fun v G' => (∀ b ∈ d :: ds, G' b = G b) ∧ Q v (unlocked (d :: ds) H G')) = fun v G' => (∀ b ∈ ds, G' b = G b) ∧ (fun v H' => H' d = some (.frz od (.dK kv)) ∧ Q v (upd H' d (.dK kv))) v (unlocked ds (upd H d (.frz od (.dK kv))) G') := by
          funext v G'
          apply propext
          have e1 : unlocked ds (upd H d (.frz od (.dK kv))) G' d = G' d := by unfold unlocked; rw [if_neg n1]
          have e2 : upd (unlocked ds (upd H d (.frz od (.dK kv))) G') d (.dK kv) = unlocked (d :: ds) H G' := by
            funext b
            by_cases hb : b = d
            · subst hb
              rw [upd_same]
              unfold unlocked
              rw [if_pos List.mem_cons_self, h1]
            · rw [upd_ne hb]
              unfold unlocked
              by_cases m : b ∈ ds
              · rw [if_pos m, if_pos (List.mem_cons_of_mem _ m), upd_ne hb]
              · rw [if_neg m, if_neg fun z => (List.mem_cons.mp z).elim hb m]
          show _ ↔ (∀ b ∈ ds, G' b = G b) ∧ unlocked ds (upd H d (.frz od (.dK kv))) G' d = some (.frz od (.dK kv)) ∧ Q v (upd (unlocked ds (upd H d (.frz od (.dK kv))) G') d (.dK kv))
          rw [e1, e2, List.forall_mem_cons, gd]
          exact ⟨fun ⟨⟨a, b⟩, c⟩ => ⟨b, a, c⟩, fun ⟨b, a, c⟩ => ⟨⟨a, b⟩, c⟩⟩
        rw [e] at q
        exact q
theorem wipe_get (σ : L2.St) (k : Nat) : ∀ vs : List Nat, (wipe σ vs)[k]? = if k ∈ vs ∧ k < σ.length then some none else σ[k]?
  | [] => by simp [wipe]
  | v :: vs => by
    unfold wipe
    rw [List.getElem?_set, wipe_length, wipe_get σ k vs]
    by_cases h : v = k
    · subst h
      by_cases l : v < σ.length
      · simp [l]
      · simp [l]
    · have : ¬ k = v := fun e => h e.symm
      simp [h, this]
theorem wipe_set {σ : L2.St} {vs : List Nat} {i : Nat} {v : Option V} (m : i ∈ vs) : wipe ((wipe σ vs).set i v) vs = wipe σ vs := by
  apply List.ext_getElem?
  intro k
  rw [wipe_get, List.length_set, wipe_length, wipe_get]
  by_cases h : k ∈ vs ∧ k < σ.length
  · rw [if_pos h, if_pos h]
  · rw [if_neg h, if_neg h]
    by_cases e : i = k
    · subst e
      rw [List.getElem?_set]
      have : ¬ i < σ.length := fun l => h ⟨m, l⟩
      simp [this, wipe_length]
    · rw [List.getElem?_set_ne e, wipe_get, if_neg h]
/-! machines -/
/-- a turn as a dict -/
def tkv (row : List (Str × Int)) : List (Key × V) := row.map fun p => (Sum.inr p.1, V.int p.2)
structure Turns (ts : List (List (Str × Int))) : Prop where
  lo : 1 ≤ ts.length
  hi : ts.length ≤ 4
  row : ∀ r ∈ ts, 1 ≤ r.length ∧ r.length ≤ 15 ∧ (r.map (·.1)).Nodup ∧ ∀ p ∈ r, Name 8 p.1 ∧ 0 ≤ p.2 ∧ p.2 < ts.length
structure TurnsAt (H : Hp) (ta : Addr) (ds : List Addr) (ts : List (List (Str × Int))) : Prop where
  tup : H ta = some (.tup (ds.map V.ref))
  nd : ds.Nodup
  each : Paired (fun d r => H d = some (.dK (tkv r))) ds ts
theorem TurnsAt.same {H G : Hp} {ta : Addr} {ds : List Addr} {ts : List (List (Str × Int))} (t : TurnsAt H ta ds ts) (k : Same H G) : TurnsAt G ta ds ts :=
  ⟨k _ _ t.tup, t.nd, prd_imp t.each fun _ _ h => k _ _ h⟩
def keysOf (ts : List (List (Str × Int))) : List Str := (ts.map fun r => r.map (·.1)).flatten
theorem tkv_at {r : List (Str × Int)} {i : Nat} {k : Key} {v : V} (h : (tkv r)[i]? = some (k, v)) : ∃ p, r[i]? = some p ∧ k = Sum.inr p.1 ∧ v = .int p.2 := by
  unfold tkv at h
  rw [List.getElem?_map] at h
  cases e : r[i]? with
  | none => rw [e] at h; cases h
  | some p => rw [e] at h; cases h; exact ⟨p, rfl, rfl, rfl⟩
theorem tkv_len {r : List (Str × Int)} : (tkv r).length = r.length := List.length_map _
/-- {name for turn in turns for name in turn} -/
theorem keys_set {P : Program} {w : World} {K : PySem.W.Frag} {σ : L2.St} {H : Hp} {Q : VK} {a i j : Nat} {ta : Addr} {ds : List Addr} {ts : List (List (Str × Int))} (hσ : σ[a]? = some (some (.ref ta))) (T : TurnsAt H ta ds ts) (few : (keysOf ts).length ≤ 900) (li : i < σ.length) (lj : j < σ.length) (ij : i ≠ j)
    (k : ∀ D zs, H D = none → (∀ z, z ∈ zs ↔ z ∈ keysOf ts) → zs.length ≤ (keysOf ts).length → Q (.ref D) (upd H D (TxO P w D zs))) :
    tLockN (tSc2 P w (iTup K (tVar a)) (gName i) (iKeys (tVar i)) (gName j) (tVar j) [i, j] [j]) ds.length σ H Q := by
  have tds : ¬ ta ∈ ds := fun m => by
    obtain ⟨n, hn⟩ := List.getElem?_of_mem m
    obtain ⟨r, _, e⟩ := prd_at1 T.each hn
    rw [T.tup] at e; cases e
  refine locks_in T.nd (ks := ts.map tkv) ?_ fun G off fr => ?_
  · have : ∀ {ds : List Addr} {ts : List (List (Str × Int))}, Paired (fun d r => H d = some (.dK (tkv r))) ds ts → Paired (fun d kvs => H d = some (.dK kvs)) ds (ts.map tkv) := by
      intro ds ts p
      induction p with
      | nil => exact .nil
      | cons h _ ih => exact .cons h ih
    exact this T.each
  · have g0 : G ta = some (.tup (ds.map V.ref)) := by rw [off ta tds]; exact T.tup
    have len : ds.length = ts.length := Paired.length T.each
    refine ⟨_, hσ, ta, rfl, ⟨_, SqT.of g0⟩, fun D nD => ?_⟩
    have nta : ta ≠ D := ne_of_none g0 nD
    have nds : ∀ b ∈ ds, b ≠ D := fun b m e => by
      obtain ⟨n, hn⟩ := List.getElem?_of_mem m
      obtain ⟨kv, _, od, e2⟩ := prd_at1 fr hn
      rw [e, nD] at e2; cases e2
    refine ⟨fun n m G2 => m = ds.length - n ∧ n ≤ ds.length ∧ ∃ zs, G2 = upd G D (TxO P w D zs) ∧ (∀ z, z ∈ zs ↔ z ∈ keysOf (ts.take n)) ∧ zs.length = (keysOf (ts.take n)).length, ⟨ds.length, by simp, Nat.zero_le _, [], rfl, by simp [keysOf], by simp [keysOf]⟩, ?_⟩
    rintro n m G2 ⟨rfl, hn, zs, rfl, mem, lenz⟩
    have at_ : ∀ {zs}, SqT K (upd G D (TxO P w D zs)) ta (ds.map V.ref) := SqT.of ((upd_ne nta).trans g0)
    by_cases hlt : n < ds.length
    · right
      obtain ⟨d, hd⟩ : ∃ d, ds[n]? = some d := ⟨_, List.getElem?_eq_getElem hlt⟩
      obtain ⟨kv, hkv, od, ed⟩ := prd_at1 fr hd
      obtain ⟨r, hr, rfl⟩ : ∃ r, ts[n]? = some r ∧ tkv r = kv := by
        rw [List.getElem?_map] at hkv
        cases e : ts[n]? with
        | none => rw [e] at hkv; cases hkv
        | some r => rw [e] at hkv; exact ⟨r, rfl, Option.some.inj hkv⟩
      have nd := nds d (List.mem_of_getElem? hd)
      have tk : keysOf (ts.take (n + 1)) = keysOf (ts.take n) ++ r.map (·.1) := by
        unfold keysOf
        rw [List.take_add_one, hr]
        simp
      have tl : (keysOf (ts.take (n + 1))).length ≤ (keysOf ts).length := by
        unfold keysOf
        conv => rhs; rw [← List.take_append_drop (n + 1) ts]
        rw [List.map_append, List.flatten_append, List.length_append]
        exact Nat.le_add_right _ _
      refine ⟨⟨_, .ref d, at_, by rw [List.getElem?_map, hd]; rfl⟩, fun G3 => ∃ zs, G3 = upd G D (TxO P w D zs) ∧ (∀ z, z ∈ zs ↔ z ∈ keysOf (ts.take (n + 1))) ∧ zs.length = (keysOf (ts.take (n + 1))).length, fun G3 q => ⟨ds.length - (n + 1), by omega, rfl, hlt, q⟩, ?_⟩
      rintro x G3 ⟨rfl, e⟩
      have e := e _ at_
      rw [List.getElem?_map, hd] at e
      obtain rfl := Option.some.inj (show some (V.ref d) = some x from e)
      have wl : (wipe σ [i, j]).length = σ.length := wipe_length _ _
      refine ⟨wipe_set (by simp), ?_⟩
      refine ⟨_, List.getElem?_set_self (by rw [wl]; exact li), d, od, rfl, .inl ⟨tkv r, (upd_ne nd).trans ed, ?_⟩⟩
      refine ⟨fun p q G3 => q = r.length - p ∧ p ≤ r.length ∧ ∃ zs, G3 = upd G D (TxO P w D zs) ∧ (∀ z, z ∈ zs ↔ z ∈ keysOf (ts.take n) ++ (r.map (·.1)).take p) ∧ zs.length = (keysOf (ts.take n)).length + p, ⟨r.length, by simp, Nat.zero_le _, zs, rfl, by simpa using mem, by simpa using lenz⟩, ?_⟩
      rintro p q G3 ⟨rfl, hp, ys, rfl, mem2, len2⟩
      have fd : (upd G D (TxO P w D ys)) d = some (.frz od (.dK (tkv r))) := (upd_ne nd).trans ed
      by_cases hlp : p < r.length
      · right
        refine ⟨⟨fd, by rw [tkv_len]; exact hlp⟩, fun G4 => ∃ zs, G4 = upd G D (TxO P w D zs) ∧ (∀ z, z ∈ zs ↔ z ∈ keysOf (ts.take n) ++ (r.map (·.1)).take (p + 1)) ∧ zs.length = (keysOf (ts.take n)).length + (p + 1), fun G4 q => ⟨r.length - (p + 1), by omega, rfl, hlp, q⟩, ?_⟩
        rintro x G4 ⟨rfl, kk, v, e, rfl⟩
        obtain ⟨pr, e1, rfl, rfl⟩ := tkv_at e
        refine ⟨wipe_set (by simp), ?_⟩
        refine ⟨_, List.getElem?_set_self (by rw [wipe_length, List.length_set, wl]; exact lj), pr.1, ys, rfl, upd_same, ?_, pr.1 :: ys, by rw [upd_upd], fun z => ?_, ?_⟩
        · rw [len2]
          rw [tk, List.length_append, List.length_map] at tl
          omega
        · rw [List.mem_cons, mem2 z, List.take_add_one, List.getElem?_map, e1]
          simp only [List.mem_append, Option.map_some, Option.toList_some, List.mem_singleton]
          constructor
          · rintro (h | h | h)
            · exact .inr (.inr h)
            · exact .inl h
            · exact .inr (.inl h)
          · rintro (h | h | h)
            · exact .inr (.inl h)
            · exact .inr (.inr h)
            · exact .inl h
        · rw [List.length_cons, len2]; omega
      · left
        have : p = r.length := by omega
        subst this
        refine ⟨⟨fd, by rw [tkv_len]; exact Nat.le_refl _⟩, ys, rfl, fun z => ?_, ?_⟩
        · rw [mem2 z, tk, ← List.length_map (f := (·.1)), List.take_length]
        · rw [len2, tk, List.length_append, List.length_map]
    · left
      have : n = ds.length := by omega
      subst this
      rw [len, List.take_length] at mem lenz
      refine ⟨⟨_, at_, by rw [List.length_map]; exact Nat.le_refl _⟩, fun b m => upd_ne (nds b m), ?_⟩
      have eq : unlocked ds H (upd G D (TxO P w D zs)) = upd H D (TxO P w D zs) := by
        funext b
        unfold unlocked
        by_cases m : b ∈ ds
        · rw [if_pos m, upd_ne (nds b m)]
        · rw [if_neg m]
          by_cases hb : b = D
          · subst hb; rw [upd_same, upd_same]
          · rw [upd_ne hb, upd_ne hb, off b m]
      rw [eq]
      have hD : H D = none := by
        rw [← off D fun m => nds D m rfl]; exact nD
      exact k D zs hD mem (Nat.le_of_eq lenz)
/-- a Machine's attributes -/
def mfs (ta : Addr) (n : Int) (nv : V) : List (Str × V) := putF "names" nv (putF "states" (.int n) (putF "_turns" (.ref ta) []))
section
variable {ta : Addr} {n : Int} {nv : V}
theorem mfs_turns : (mfs ta n nv).lookup ("_turns" : Str) = some (.ref ta) := by unfold mfs; rw [lookup_putF, if_neg (by decide +kernel), lookup_putF, if_neg (by decide +kernel), lookup_putF, if_pos rfl]
theorem mfs_states : (mfs ta n nv).lookup ("states" : Str) = some (.int n) := by unfold mfs; rw [lookup_putF, if_neg (by decide +kernel), lookup_putF, if_pos rfl]
theorem mfs_names : (mfs ta n nv).lookup ("names" : Str) = some nv := by unfold mfs; rw [lookup_putF, if_pos rfl]
theorem mfs_no {m : Str} (h1 : ¬ m = "names") (h2 : ¬ m = "states") (h3 : ¬ m = "_turns") : (mfs ta n nv).lookup m = none := by unfold mfs; rw [lookup_putF, if_neg h1, lookup_putF, if_neg h2, lookup_putF, if_neg h3]; rfl
end
structure Mc where
  ts : List (List (Str × Int))
  ns : List Str
structure McOk (M : Mc) : Prop where
  ts : Turns M.ts
  srt : sortedS M.ns = true
  nd : M.ns.Nodup
  mem : ∀ z, z ∈ M.ns ↔ z ∈ keysOf M.ts
structure McAt (C : Addr) (H : Hp) (m : Addr) (M : Mc) : Prop where
  ex : ∃ (dx ta na : Addr) (ds : List Addr), H m = some (.ins C dx (mfs ta M.ts.length (.ref na))) ∧ TurnsAt H ta ds M.ts ∧ H na = some (.tup (M.ns.map V.str))
theorem McAt.same {C : Addr} {H G : Hp} {m : Addr} {M : Mc} (A : McAt C H m M) (k : Same H G) : McAt C G m M := by
  obtain ⟨dx, ta, na, ds, h1, h2, h3⟩ := A.ex
  exact ⟨dx, ta, na, ds, k _ _ h1, h2.same k, k _ _ h3⟩
def spIsTurn : Sp := fun vs H Q _ => ∃ (d : Addr) (r : List (Str × Int)) (n : Int), vs = [.ref d, .int n] ∧ H d = some (.dK (tkv r)) ∧ 1 ≤ r.length ∧ r.length ≤ 15 ∧ (r.map (·.1)).Nodup ∧ (∀ p ∈ r, Name 8 p.1 ∧ 0 ≤ p.2 ∧ p.2 < n) ∧ ∀ G, Same H G → Q (.bl true) G
def spIsTurns : Sp := fun vs H Q _ => ∃ (ta : Addr) (ds : List Addr) (ts : List (List (Str × Int))), vs = [.ref ta] ∧ TurnsAt H ta ds ts ∧ Turns ts ∧ ∀ G, Same H G → Q (.bl true) G
def spMachine (C : Addr) : Sp := fun vs H Q _ => ∃ (p dx ta : Addr) (ds : List Addr) (ts : List (List (Str × Int))), vs = [.ref p, .ref ta] ∧ H p = some (.ins C dx []) ∧ TurnsAt H ta ds ts ∧ Turns ts ∧
  ∀ M G, McOk M → M.ts = ts → McAt C G p M → (∀ b o, b ≠ p → H b = some o → G b = some o) → Q .non G
def spTurnsP (C : Addr) : Sp := fun vs H Q _ => ∃ (p : Addr) (M : Mc), vs = [.ref p] ∧ McAt C H p M ∧ McOk M ∧ ∀ ta ds G, Same H G → TurnsAt G ta ds M.ts → (∀ d ∈ ds, H d = none) → Q (.ref ta) G
theorem Turns.few {ts : List (List (Str × Int))} (T : Turns ts) : (keysOf ts).length ≤ 60 := by
  unfold keysOf
  rw [List.length_flatten, List.map_map]
  have h := T.hi
  have hr := T.row
  have : ∀ l : List (List (Str × Int)), (∀ r ∈ l, r ∈ ts) → (l.map (List.length ∘ fun r => r.map (·.1))).sum ≤ 15 * l.length := by
    intro l
    induction l with
    | nil => intro _; simp
    | cons r l ih =>
      intro m
      have a := (hr r (m r List.mem_cons_self)).2.1
      have b := ih fun x hx => m x (List.mem_cons_of_mem _ hx)
      simp only [List.map_cons, List.sum_cons, Function.comp, List.length_map, List.length_cons] at b ⊢
      omega
  have := this ts fun _ h => h
  omega
theorem tkv_val {r : List (Str × Int)} (nd : (r.map (·.1)).Nodup) {p : Str × Int} (m : p ∈ r) : valV (tkv r) (.inr p.1 : Key) = some (.int p.2) := by
  have nd2 : ((tkv r).map (·.1)).Nodup := by
    unfold tkv
    rw [List.map_map, show ((fun x : Key × V => x.1) ∘ fun p : Str × Int => ((Sum.inr p.1 : Key), V.int p.2)) = (Sum.inr ∘ fun p : Str × Int => p.1) from rfl, ← List.map_map]
    exact nd.map _ fun a b h e => h (Sum.inr.inj e)
  have mm : ((Sum.inr p.1 : Key), V.int p.2) ∈ tkv r := List.mem_map.mpr ⟨p, m, rfl⟩
  have := find_self nd2 _ mm
  show ((tkv r).find? fun q => decide (q.1 = (Sum.inr p.1 : Key))).map (·.2) = _
  rw [this]; rfl
theorem tkv_none {r : List (Str × Int)} {z : Str} (h : ¬ z ∈ r.map (·.1)) : valV (tkv r) (.inr z : Key) = none := by
  have : (tkv r).find? (fun q => decide (q.1 = (Sum.inr z : Key))) = none := by
    rw [List.find?_eq_none]
    intro q hq
    unfold tkv at hq
    obtain ⟨p, hp, rfl⟩ := List.mem_map.mp hq
    simp only [decide_eq_true_eq]
    intro e
    exact h (List.mem_map.mpr ⟨p, hp, Sum.inr.inj e⟩)
  show ((tkv r).find? fun q => decide (q.1 = (Sum.inr z : Key))).map (·.2) = none
  rw [this]; rfl
theorem tkv_some {r : List (Str × Int)} {z : Str} : (valV (tkv r) (.inr z : Key)).isSome = true ↔ z ∈ r.map (·.1) := by
  constructor
  · intro h
    refine Classical.byContradiction fun n => ?_
    rw [tkv_none n] at h
    cases h
  · intro h
    by_cases nd : True
    · obtain ⟨p, hp, rfl⟩ := List.mem_map.mp h
      show (((tkv r).find? fun q => decide (q.1 = (Sum.inr p.1 : Key))).map (·.2)).isSome = true
      rw [Option.isSome_map, List.find?_isSome]
      exact ⟨(Sum.inr p.1, .int p.2), List.mem_map.mpr ⟨p, hp, rfl⟩, by simp⟩
    · exact absurd True.intro nd
/-- several new dicts in a row -/
theorem paired_snoc_at {H G : Hp} {ds : List Addr} {ts : List (List (Str × Int))} (p : Paired (fun d r => H d = some (.dK (tkv r))) ds ts) (k : ∀ d ∈ ds, ∀ o, H d = some o → G d = some o) : Paired (fun d r => G d = some (.dK (tkv r))) ds ts := by
  induction p with
  | nil => exact .nil
  | cons h _ ih => exact .cons (k _ List.mem_cons_self _ h) (ih fun d m => k d (List.mem_cons_of_mem _ m))
/-- one of some texts -/
def isOne (zs : List Str) : V → Bool
  | .str z => decide (z ∈ zs)
  | _ => false
end Toy

namespace Toy
open PySem PySem.Spec PyProof.Rows L2
/-! properties of own classes in a head's facts -/
/-- the class C has f as a property whose getter is the def st -/
structure PropAt (K : PySem.W.Frag) (C : Addr) (f qual : Str) (st : Stmt) : Prop where
  h : ∃ (p g : Addr) (fd : FuncData), PropOf K C f p g ∧ Fun K f qual st g fd ∧ Binds K fd ["self"] []
structure PrD where
  cls : Str
  d : He.DefD
def PrD.at_ (K : PySem.W.Frag) (q : PrD) : Addr := He.ma K (He.ga K q.cls) q.d.name
def PrD.getter (K : PySem.W.Frag) (q : PrD) : Addr := match PySem.W.recIn K (q.at_ K) "property" with
  | some (.ref g :: _) => g
  | _ => 0
def fnAt (K : PySem.W.Frag) (g : Addr) : He.FnW := match K.lookup g with
  | some ⟨_, _, .func x, _⟩ => some (x.name, x.qualname, x.params, x.body, x.scope, x.globals, x.closure, x.builtins)
  | _ => none
def plainFn (K : PySem.W.Frag) (g : Addr) (qual : Str) : Bool := PySem.W.keepIn K (.ref g) && match K.lookup g with
  | some ⟨_, _, .func x, _⟩ => PySem.W.codeIn K x.code qual && (He.dflB K x.defaults [] && He.kwdB K x.kwdefaults [])
  | _ => false
def PrD.ok (K : PySem.W.Frag) (q : PrD) : Bool := plainFn K (q.getter K) q.d.qual && (decide (PySem.W.findIn K (.ref (He.ga K q.cls)) q.d.name = some (some (.ref (q.at_ K)))) && (decide (PySem.W.specialIn K (.ref (q.at_ K)) "__get__" = some (some (.builtin "property.__get__"))) &&
  (decide (PySem.W.takesIn K (.ref (q.at_ K)) = some true) && match PySem.W.recIn K (q.at_ K) "property" with
    | some (.ref _ :: _) => true
    | _ => false)))
theorem fnAt_fun {K : PySem.W.Frag} {g : Addr} {d : He.DefD} (e : fnAt K g = d.val) (c : plainFn K g d.qual = true) : ∃ fd, FunD K d.name d.qual d.params d.body d.scope [] [] g fd := by
  obtain ⟨keep, c⟩ := Bool.and_eq_true_iff.mp c
  cases l : K.lookup g with
  | none => rw [l] at c; cases c
  | some o =>
    obtain ⟨oc, od, dt, osl⟩ := o
    unfold fnAt at e
    rw [l] at c e
    cases dt with
    | func x =>
      obtain ⟨nm, ql, pm, bd, sp, gl, cl, df, kd, a1, a2, a3, cd, a4, bu⟩ := x
      have e : (some (nm, ql, pm, bd, sp, gl, cl, bu) : He.FnW) = some (d.name, d.qual, d.params, .stmts d.body, d.scope, mainGlobals, [], builtinsNs) := e
      simp only [Option.some.injEq, Prod.mk.injEq] at e
      obtain ⟨rfl, rfl, rfl, rfl, rfl, rfl, rfl, rfl⟩ := e
      obtain ⟨c1, c2⟩ := Bool.and_eq_true_iff.mp c
      obtain ⟨c2, c3⟩ := Bool.and_eq_true_iff.mp c2
      exact ⟨_, ⟨oc, od, df, kd, a1, a2, a3, cd, a4, osl, rfl, l, c1, He.dflB_ok c2, He.kwdB_ok c3⟩, keep⟩
    | _ => cases c
theorem prD_ok {K : PySem.W.Frag} {q : PrD} (e : fnAt K (q.getter K) = q.d.val) (c : q.ok K = true) : ∃ fd, PropOf K (He.ga K q.cls) q.d.name (q.at_ K) (q.getter K) ∧ FunD K q.d.name q.d.qual q.d.params q.d.body q.d.scope [] [] (q.getter K) fd := by
  obtain ⟨c1, c⟩ := Bool.and_eq_true_iff.mp c
  obtain ⟨c2, c⟩ := Bool.and_eq_true_iff.mp c
  obtain ⟨c3, c⟩ := Bool.and_eq_true_iff.mp c
  obtain ⟨c4, c5⟩ := Bool.and_eq_true_iff.mp c
  obtain ⟨fd, F⟩ := fnAt_fun e c1
  refine ⟨fd, ⟨of_decide_eq_true c2, of_decide_eq_true c3, of_decide_eq_true c4, ?_⟩, F⟩
  unfold PrD.getter
  split at c5
  · rename_i g rest h
    rw [h]
    exact ⟨rest, rfl⟩
  · cases c5
/-! a head that asks a flag, and getters -/
abbrev AlP : Type := He.AlD × Bool × List He.FnW
def obsP (fa : List He.Fa) (fn : List He.DefD) (b : PySem.W.Frag → Bool) (pr : List PrD) (K : PySem.W.Frag) : AlP := (He.obsD fa fn K, b K && pr.all fun q => q.ok K, pr.map fun q => fnAt K (q.getter K))
def obsPG (n : Nat) (fa : List He.Fa) (fn : List He.DefD) (b : PySem.W.Frag → Bool) (pr : List PrD) (g : Addr → Option Obj) : AlP := obsP fa fn b pr (He.frG g (He.asD g n))
structure HasP (b : PySem.W.Frag → Bool) (pr : List PrD) (K : PySem.W.Frag) : Prop where
  flag : b K = true
  ok : (pr.all fun q => q.ok K) = true
  val : (pr.map fun q => fnAt K (q.getter K)) = pr.map fun q => q.d.val
def hookP (n : Nat) (fa : List He.Fa) (fn : List He.DefD) (b : PySem.W.Frag → Bool) (pr : List PrD) : PySem.W.Hook where
  α := AlP
  obs := fun s => obsPG n fa fn b pr s.heap.get?
  val := fun _ => (He.valD fn, true, pr.map fun q => q.d.val)
  says := fun _ h => ∃ K : PySem.W.Frag, K.In h ∧ He.SaysD fa fn K ∧ HasP b pr K
  of := fun _ _ e => ⟨_, He.frG_in, congrArg (fun z : AlP => z.1) e, by
    have two := Bool.and_eq_true_iff.mp (congrArg (fun z : AlP => z.2.1) e)
    exact ⟨two.1, two.2, congrArg (fun z : AlP => z.2.2) e⟩⟩
  keeps := fun _ _ _ ⟨K, hK, c, e⟩ k => ⟨K, PySem.W.Frag.In.keeps hK k, c, e⟩
theorem obsPG_eq {n : Nat} {fa : List He.Fa} {fn : List He.DefD} {b : PySem.W.Frag → Bool} {pr : List PrD} {g : Addr → Option Obj} {s : Shared} (h : ∀ a, g a = s.heap.get? a) : obsPG n fa fn b pr g = (hookP n fa fn b pr).obs s := by
  have e : g = s.heap.get? := funext h
  rw [e] <;> rfl
/-- a head's run is looked at part by part (each needs less room) -/
theorem run_parts {S σ γ ε : Type} {X : Option S} {l : S → Bool} {sn : S → σ} {g : σ} {A B D : S → Bool} {C : S → γ} {c : γ} {E : S → ε} {e : ε} (h1 : X.map (fun s => (l s, sn s)) = some (true, g)) (hA : X.map A = some true) (hB : X.map B = some true) (hC : X.map (fun s => (C s, D s, E s)) = some (c, true, e)) :
    X.map (fun s => (l s, sn s, ((A s && B s, C s), D s, E s))) = some (true, g, ((true, c), true, e)) := by
  cases X with
  | none => cases h1
  | some s =>
    simp only [Option.map_some, Option.some.injEq, Prod.mk.injEq] at h1 hA hB hC ⊢
    obtain ⟨a1, a2⟩ := h1
    obtain ⟨c1, c2, c3⟩ := hC
    exact ⟨a1, a2, ⟨by rw [hA, hB]; rfl, c1⟩, c2, c3⟩
theorem HasP.prop {b : PySem.W.Frag → Bool} {pr : List PrD} {K : PySem.W.Frag} (P : HasP b pr K) (i : Nat) {q : PrD} (h : pr[i]? = some q) : ∃ fd, PropOf K (He.ga K q.cls) q.d.name (q.at_ K) (q.getter K) ∧ FunD K q.d.name q.d.qual q.d.params q.d.body q.d.scope [] [] (q.getter K) fd := by
  refine prD_ok ?_ (List.all_eq_true.mp P.ok q (List.mem_of_getElem? h))
  have e : (pr.map fun q => fnAt K (q.getter K))[i]? = (pr.map fun q => q.d.val)[i]? := by rw [P.val]
  rw [List.getElem?_map, List.getElem?_map, h] at e
  exact Option.some.inj e
section
variable {P : Program} {w : World} {K : PySem.W.Frag} {mg : Str → Option Value} {base : Heap}
def OkP (P : Program) (w : World) (K : PySem.W.Frag) (mg : Str → Option Value) (base : Heap) (k : Nat) (C : Addr) (f : Str) (sp : Sp) : Prop := ∃ (p g : Addr) (fd : FuncData), PropOf K C f p g ∧ Binds K fd ["self"] [] ∧ FnOk P w K mg base CX0 k g fd ["self"] sp
theorem okP_of {C : Addr} {m q : Str} {st : Stmt} {N : List Str} {k : Nat} {sp : Sp} (D : PropAt K C m q st) (S : FnScope N ["self"] (defScope st)) (len : ∀ vs H Q E, sp vs H Q E → vs.length = (["self"] : List Str).length)
    (body : ∀ (f : Addr) (cd : Value) (A : Around) (out : List Env) (s : Shared) (H : Hp) (vs : List V) (Q : VK) (E : XK), Room k (A.deeper (envOfC q (defScope st) s.heap.objs.size f cd)) → sp vs H Q E →
      ∃ t, PSs (cxOf CX0 P w K mg base N q (defScope st) f cd A out s H E).nox (defBody st) t ∧ t { nx := fun _ G => Q .non G, rt := Q } (start N vs) H) : OkP P w K mg base (k + 1) C m sp := by
  obtain ⟨p, g, fd, pr, F, b⟩ := D.h
  exact ⟨p, g, fd, pr, b, F.ok S len fun cd A out s H vs Q E hr h => body g cd A out s H vs Q E hr h⟩
end
end Toy

namespace Toy
open PySem PySem.Spec PyProof.Rows L2
/-! sorted texts are told by their members -/
def leT (a b : Str) : Prop := ltCps b.cps.toList a.cps.toList = false
theorem leT_iff {a b : Str} : leT a b ↔ a.cps.toList ≤ b.cps.toList := by
  unfold leT
  rw [ltCps_eq, decide_eq_false_iff_not]
  exact List.not_lt
theorem leT_trans {a b c : Str} (h : leT a b) (k : leT b c) : leT a c := leT_iff.mpr (List.le_trans (leT_iff.mp h) (leT_iff.mp k))
theorem leT_antisymm {a b : Str} (h : leT a b) (k : leT b a) : a = b := by
  have e := List.le_antisymm (leT_iff.mp h) (leT_iff.mp k)
  have e2 : a.cps = b.cps := Array.toList_inj.mp e
  cases a; cases b; exact congrArg Str.mk e2
theorem rising_pw : ∀ {r : List Str} {p : Str}, risingS p r = true → (∀ x ∈ r, leT p x) ∧ r.Pairwise leT
  | [], _, _ => ⟨by simp, .nil⟩
  | x :: r, p, h => by
    obtain ⟨h1, h2⟩ := Bool.and_eq_true_iff.mp (show (!ltCps x.cps.toList p.cps.toList && risingS x r) = true from h)
    obtain ⟨k1, k2⟩ := rising_pw h2
    have hp : leT p x := by
      unfold leT
      revert h1
      cases ltCps x.cps.toList p.cps.toList <;> simp
    refine ⟨fun y m => ?_, List.pairwise_cons.mpr ⟨k1, k2⟩⟩
    rcases List.mem_cons.mp m with rfl | m
    · exact hp
    · exact leT_trans hp (k1 y m)
theorem sorted_pw : ∀ {l : List Str}, sortedS l = true → l.Pairwise leT
  | [], _ => .nil
  | x :: r, h => List.pairwise_cons.mpr (rising_pw h)
theorem leT_refl (a : Str) : leT a a := leT_iff.mpr (List.le_refl _)
theorem pw_uniq : ∀ {l k : List Str}, l.Pairwise leT → k.Pairwise leT → l.Perm k → l = k
  | [], k, _, _, p => (List.nil_perm.mp p).symm
  | a :: l, [], _, _, p => by have := p.length_eq; simp at this
  | a :: l, b :: k, h1, h2, p => by
    obtain ⟨a1, a2⟩ := List.pairwise_cons.mp h1
    obtain ⟨b1, b2⟩ := List.pairwise_cons.mp h2
    have ab : leT a b := by
      rcases List.mem_cons.mp (p.mem_iff.mpr List.mem_cons_self) with e | m
      · rw [e]; exact leT_refl _
      · exact a1 b m
    have ba : leT b a := by
      rcases List.mem_cons.mp (p.mem_iff.mp List.mem_cons_self) with e | m
      · rw [e]; exact leT_refl _
      · exact b1 a m
    obtain rfl := leT_antisymm ab ba
    rw [pw_uniq a2 b2 (List.perm_cons _ |>.mp p)]
theorem sorted_uniq {l k : List Str} (h1 : sortedS l = true) (h2 : sortedS k = true) (p : l.Perm k) : l = k := pw_uniq (sorted_pw h1) (sorted_pw h2) p
/-- the names of a turn, in order -/
noncomputable def srtN (r : List (Str × Int)) : List Str := open Classical in if h : ∃ ys : List Str, ys.Perm (r.map (·.1)) ∧ sortedS ys = true then Classical.choose h else []
theorem srtN_eq {r : List (Str × Int)} {ys : List Str} (p : ys.Perm (r.map (·.1))) (s : sortedS ys = true) : ys = srtN r := by
  have h : ∃ ys : List Str, ys.Perm (r.map (·.1)) ∧ sortedS ys = true := ⟨ys, p, s⟩
  unfold srtN
  rw [dif_pos h]
  obtain ⟨q1, q2⟩ := Classical.choose_spec h
  exact sorted_uniq s q2 (p.trans q1.symm)
/-! a loop over a list within a comprehension -/
theorem it_list {K : PySem.W.Frag} {a : Addr} {xs : List V} {g : TG} {σ0 : L2.St} {B : L2.St → Hp → (Hp → Prop) → Prop} {Hs : Hp} {Qd : Hp → Prop} (Pv : Nat → Hp → Prop) (h0 : Pv 0 Hs) (hl : ∀ i H, i ≤ xs.length → Pv i H → SqL K H a xs)
    (hs : ∀ i x H, xs[i]? = some x → Pv i H → g x σ0 H fun σ2 H2 => B σ2 H2 (Pv (i + 1))) (hd : ∀ H, Pv xs.length H → Qd H) :
    ∃ W : Nat → Nat → Hp → Prop, (∃ m, W 0 m Hs) ∧ ∀ i m H, W i m H →
      ((Itl K a).stop i H ∧ Qd H) ∨ ((Itl K a).go i H ∧ ∃ Nx : Hp → Prop, (∀ H', Nx H' → ∃ m', m' < m ∧ W (i + 1) m' H') ∧ ∀ x H', (Itl K a).yld i H x H' → g x σ0 H' fun σ2 H2 => B σ2 H2 Nx) := by
  refine ⟨fun n left G => left + n = xs.length ∧ Pv n G, ⟨xs.length, Nat.add_zero _, h0⟩, fun n left G h => ?_⟩
  obtain ⟨sum, here⟩ := h
  have stands := hl n G (by omega) here
  cases left with
  | zero =>
    obtain rfl : xs.length = n := by omega
    exact Or.inl ⟨⟨xs, stands, by omega⟩, hd G here⟩
  | succ left =>
    obtain ⟨y, hy⟩ : ∃ y, xs[n]? = some y := ⟨_, List.getElem?_eq_getElem (by omega)⟩
    refine Or.inr ⟨⟨xs, y, stands, hy⟩, Pv (n + 1), fun G' h => ⟨left, by omega, by omega, h⟩, ?_⟩
    rintro x _ ⟨rfl, only⟩
    exact hs n x _ (only xs stands) here
/-! the asks of a view -/
noncomputable def reqsOf (mo : Str) (row : List (Str × Int)) : V → List Str
  | .str z => if mo = "true" then [z] else srtN row
  | _ => srtN row
noncomputable def hintsOf (mo : Str) (row : List (Str × Int)) : List V := if mo = "none" then [.non] else (srtN row).map V.str
def toOf (row : List (Str × Int)) (z : Str) : Int := ((row.find? fun p => decide (p.1 = z)).map (·.2)).getD 0
noncomputable def asksFor (mo : Str) (ts : List (List (Str × Int))) (row : List (Str × Int)) (zs : List Str) : List (Str × V) := zs.flatMap fun z => (hintsOf mo (ts.getD (toOf row z).toNat [])).map fun h => (z, h)
noncomputable def asksOf (mo : Str) (ts : List (List (Str × Int))) (s : Int) (hv : V) : List (Str × V) := asksFor mo ts (ts.getD s.toNat []) (reqsOf mo (ts.getD s.toNat []) hv)
def AskAt (H : Hp) (v : V) (p : Str × V) : Prop := ∃ t, v = .ref t ∧ H t = some (.tup [.str p.1, p.2])
theorem AskAt.same {H G : Hp} {v : V} {p : Str × V} (a : AskAt H v p) (k : Same H G) : AskAt G v p := by
  obtain ⟨t, e, h⟩ := a
  exact ⟨t, e, k _ _ h⟩
/-- the asks in a list -/
structure AsksAt (H : Hp) (l : Addr) (ps : List (Str × V)) : Prop where
  ex : ∃ us : List V, H l = some (.lst us) ∧ Paired (AskAt H) us ps
theorem AsksAt.same {H G : Hp} {l : Addr} {ps : List (Str × V)} (a : AsksAt H l ps) (k : Same H G) : AsksAt G l ps := by
  obtain ⟨us, h1, h2⟩ := a.ex
  exact ⟨us, k _ _ h1, prd_imp h2 fun _ _ h => h.same k⟩
theorem AsksAt.add {H : Hp} {D t : Addr} {ps : List (Str × V)} (a : AsksAt H D ps) (nt : H t = none) (p : Str × V) : ∃ us, (upd H t (.tup [.str p.1, p.2])) D = some (.lst us) ∧ us.length = ps.length ∧ AsksAt (upd (upd H t (.tup [.str p.1, p.2])) D (.lst (us ++ [.ref t]))) D (ps ++ [p]) := by
  obtain ⟨us, h1, h2⟩ := a.ex
  have nD : D ≠ t := ne_of_none h1 nt
  have s := same_new (o := .tup [.str p.1, p.2]) nt
  refine ⟨us, s _ _ h1, Paired.length h2, ⟨us ++ [.ref t], upd_same, Paired.snoc (prd_imp h2 fun v q h => ?_) ⟨t, rfl, (upd_ne nD.symm).trans upd_same⟩⟩⟩
  obtain ⟨b, e, hb⟩ := h
  exact ⟨b, e, (upd_ne (ne_of hb h1 (by intro z; cases z))).trans (s _ _ hb)⟩
theorem toOf_val {row : List (Str × Int)} (nd : (row.map (·.1)).Nodup) {z : Str} (m : z ∈ row.map (·.1)) : valV (tkv row) (.inr z : Key) = some (.int (toOf row z)) ∧ ∃ p ∈ row, p.1 = z ∧ p.2 = toOf row z := by
  obtain ⟨p, hp, rfl⟩ := List.mem_map.mp m
  have e : toOf row p.1 = p.2 := by
    unfold toOf
    have : (row.find? fun q => decide (q.1 = p.1)) = some p := by
      have key : ∀ (l : List (Str × Int)), (l.map (·.1)).Nodup → p ∈ l → (l.find? fun q => decide (q.1 = p.1)) = some p := by
        intro l
        induction l with
        | nil => intro _ h; cases h
        | cons q l ih =>
          intro nd h
          rw [List.map_cons] at nd
          have ⟨n1, n2⟩ := List.nodup_cons.mp nd
          rcases List.mem_cons.mp h with e | h
          · subst e
            rw [List.find?_cons_of_pos (by simp)]
          · rw [List.find?_cons_of_neg, ih n2 h]
            intro e
            exact n1 (of_decide_eq_true e ▸ List.mem_map.mpr ⟨p, h, rfl⟩)
      exact key row nd hp
    rw [this]; rfl
  rw [e]
  exact ⟨tkv_val nd hp, p, hp, rfl, rfl⟩
theorem srtN_perm {r : List (Str × Int)} (h : ∃ ys : List Str, ys.Perm (r.map (·.1)) ∧ sortedS ys = true) : (srtN r).Perm (r.map (·.1)) := by
  obtain ⟨ys, p, s⟩ := h
  rw [← srtN_eq p s]; exact p
theorem srt_ex (l : List Str) : ∃ ys : List Str, ys.Perm l ∧ sortedS ys = true := by
  refine ⟨l.mergeSort (fun a b => !ltCps b.cps.toList a.cps.toList), List.mergeSort_perm _ _, sortedS_of_pairwise _ ?_⟩
  have h := List.pairwise_mergeSort (le := fun a b : Str => !ltCps b.cps.toList a.cps.toList) (fun a b c h k => ?_) (fun a b => ?_) l
  · exact h.imp fun {a b} e => by simpa using e
  · have h : leT a b := by simpa [leT] using h
    have k : leT b c := by simpa [leT] using k
    have := leT_trans h k
    simpa [leT] using this
  · rcases List.le_total a.cps.toList b.cps.toList with h | h
    · have := leT_iff.mpr h
      unfold leT at this
      simp [this]
    · have := leT_iff.mpr h
      unfold leT at this
      simp [this]
theorem srtN_all (r : List (Str × Int)) : (srtN r).Perm (r.map (·.1)) := srtN_perm (srt_ex _)
theorem srtN_len (r : List (Str × Int)) : (srtN r).length ≤ r.length := by
  by_cases h : ∃ ys : List Str, ys.Perm (r.map (·.1)) ∧ sortedS ys = true
  · have := (srtN_perm h).length_eq
    rw [List.length_map] at this
    omega
  · unfold srtN
    rw [dif_neg h]
    exact Nat.zero_le _
theorem hintsOf_len {mo : Str} {r : List (Str × Int)} (h1 : 1 ≤ r.length) : (hintsOf mo r).length ≤ r.length := by
  unfold hintsOf
  split
  · exact h1
  · rw [List.length_map]; exact srtN_len r
theorem asksFor_snoc (mo : Str) (ts : List (List (Str × Int))) (row : List (Str × Int)) (zs : List Str) (z : Str) : asksFor mo ts row (zs ++ [z]) = asksFor mo ts row zs ++ (hintsOf mo (ts.getD (toOf row z).toNat [])).map fun h => (z, h) := by
  unfold asksFor
  rw [List.flatMap_append]
  simp
theorem asksFor_len {mo : Str} {ts : List (List (Str × Int))} {row : List (Str × Int)} : ∀ {zs : List Str}, (∀ z ∈ zs, (hintsOf mo (ts.getD (toOf row z).toNat [])).length ≤ 15) → (asksFor mo ts row zs).length ≤ 15 * zs.length
  | [], _ => by simp [asksFor]
  | z :: zs, h => by
    have h1 := asksFor_len (mo := mo) (ts := ts) (row := row) (zs := zs) fun y m => h y (List.mem_cons_of_mem _ m)
    have h2 := h z List.mem_cons_self
    have e : asksFor mo ts row (z :: zs) = (hintsOf mo (ts.getD (toOf row z).toNat [])).map (fun h => (z, h)) ++ asksFor mo ts row zs := rfl
    rw [e, List.length_append, List.length_map, List.length_cons]
    omega
end Toy

namespace Toy
open PySem PySem.Spec PyProof.Rows L2
/-! dicts whose keys are nested tuples of numbers, texts and None -/
abbrev NK := PySem.NestedKey
mutual
/-- the value v is the key k -/
inductive KeyIs (H : Hp) : V → NK → Prop
  | non : KeyIs H .non .none
  | int (i : Int) : KeyIs H (.int i) (.num i)
  | str (x : Str) : KeyIs H (.str x) (.text x)
  | tup {a : Addr} {vs : List V} {ks : List NK} : H a = some (.tup vs) → KeysAre H vs ks → KeyIs H (.ref a) (.tup ks)
inductive KeysAre (H : Hp) : List V → List NK → Prop
  | nil : KeysAre H [] []
  | cons {v : V} {k : NK} {vs : List V} {ks : List NK} : KeyIs H v k → KeysAre H vs ks → KeysAre H (v :: vs) (k :: ks)
end
mutual
theorem KeyIs.firm {H G : Hp} (hk : ∀ a xs, H a = some (.tup xs) → G a = some (.tup xs)) : ∀ (k : NK) (v : V), KeyIs H v k → KeyIs G v k
  | .none, _, h => by cases h; exact .non
  | .num _, _, h => by cases h; exact .int _
  | .text _, _, h => by cases h; exact .str _
  | .tup ks, _, h => by
    cases h with
    | tup e t => exact .tup (hk _ _ e) (KeysAre.firm hk ks _ t)
theorem KeysAre.firm {H G : Hp} (hk : ∀ a xs, H a = some (.tup xs) → G a = some (.tup xs)) : ∀ (ks : List NK) (vs : List V), KeysAre H vs ks → KeysAre G vs ks
  | [], _, h => by cases h; exact .nil
  | k :: ks, _, h => by
    cases h with
    | cons h t => exact .cons (KeyIs.firm hk k _ h) (KeysAre.firm hk ks _ t)
end
theorem KeyIs.same {H G : Hp} {v : V} {k : NK} (h : KeyIs H v k) (s : Same H G) : KeyIs G v k := KeyIs.firm (fun a xs e => s _ _ e) k v h
mutual
theorem KeyIs.at {P : Program} {w : World} {H : Hp} {h : Heap} (ok : HOk P w H h) : ∀ (k : NK) (v : V) (u : Value), KeyIs H v k → RelV v u → NestedIs h k u
  | .none, _, u, q, r => by
    cases q
    cases (show u = Value.none from r)
    exact .none
  | .num i, _, u, q, r => by
    cases q
    obtain ⟨t, rfl⟩ := (show ∃ t, u = Value.int i t from r)
    exact .int _ _
  | .text x, _, u, q, r => by
    cases q
    obtain ⟨t, rfl⟩ := (show ∃ t, u = Value.str x t from r)
    exact .text _ _
  | .tup ks, _, u, q, r => by
    cases q with
    | @tup a vs _ e t =>
      cases (show u = Value.ref a from r)
      obtain ⟨_, its, r, o, h1, h2, n, h3⟩ := (show ObjOk P w H h a (.tup vs) from ok a _ e)
      exact .tup h1 h2 h3 (KeysAre.at ok ks vs its t r)
theorem KeysAre.at {P : Program} {w : World} {H : Hp} {h : Heap} (ok : HOk P w H h) : ∀ (ks : List NK) (vs : List V) (us : List Value), KeysAre H vs ks → Vals vs us → NestedAll h ks us
  | [], _, us, q, r => by
    cases q
    cases r
    exact .nil
  | k :: ks, _, us, q, r => by
    cases q with
    | cons q1 q2 =>
      cases r with
      | cons r1 r2 => exact .cons (KeyIs.at ok k _ _ q1 r1) (KeysAre.at ok ks _ _ q2 r2)
end
theorem RelO.of_iff {x : V} {u : Value} (r : RelV x u) : RelV x u := r
abbrev NEnt := NK × Addr × V
def NRel (p : NEnt) (q : NK × Addr × Value) : Prop := p.1 = q.1 ∧ p.2.1 = q.2.1 ∧ RelV p.2.2 q.2.2
/-- such a dict, with the tuples that its keys are -/
def NdO (P : Program) (w : World) (d : Addr) (xs : List NEnt) : HO := .ext fun h => xs.length ≤ sizeLine ∧ (d == sysModules) = false ∧ ∃ ys : List (NK × Addr × Value), Paired NRel xs ys ∧
  ∃ o es ep, h.get? d = some o ∧ o.ExactDict ∧ o.data = .dict es ep ∧ es.toList = ys.map (entryOfKey (nestedKind P w)) ∧ (ys.map (·.1)).Nodup
structure NdKeys (H : Hp) (xs : List NEnt) : Prop where
  k : ∀ x ∈ xs, KeyIs H (.ref x.2.1) x.1 ∧ x.1.depth ≤ 8
theorem NdKeys.firm {H G : Hp} {xs : List NEnt} (n : NdKeys H xs) (hk : ∀ a ys, H a = some (.tup ys) → G a = some (.tup ys)) : NdKeys G xs := ⟨fun x m => ⟨(n.k x m).1.firm hk _ _, (n.k x m).2⟩⟩
/-- at d stands such a dict (a new one, or one that has been written) -/
def NdAt (P : Program) (w : World) (H : Hp) (d : Addr) (xs : List NEnt) : Prop := (xs = [] ∧ H d = some (.dK [])) ∨ (H d = some (NdO P w d xs) ∧ NdKeys H xs)
theorem NdAt.same {P : Program} {w : World} {H G : Hp} {d : Addr} {xs : List NEnt} (a : NdAt P w H d xs) (s : Same H G) : NdAt P w G d xs := by
  rcases a with ⟨e, h⟩ | ⟨h, n⟩
  · exact .inl ⟨e, s _ _ h⟩
  · exact .inr ⟨s _ _ h, n.firm fun a ys e => s _ _ e⟩
def lookN (xs : List NEnt) (k : NK) : Option V := (xs.find? fun x => decide (x.1 = k)).map (·.2.2)
theorem look_rel {xs : List NEnt} {ys : List (NK × Addr × Value)} (r : Paired NRel xs ys) (k : NK) : (lookN xs k = none ∧ atKey ys k = none) ∨ ∃ v p, lookN xs k = some v ∧ atKey ys k = some p ∧ RelV v p.2 := by
  induction r with
  | nil => exact .inl ⟨rfl, rfl⟩
  | @cons x y xs ys h t ih =>
    obtain ⟨h1, h2, h3⟩ := h
    by_cases e : x.1 = k
    · have e2 : y.1 = k := h1 ▸ e
      refine .inr ⟨x.2.2, y.2, ?_, ?_, h3⟩
      · unfold lookN; rw [List.find?_cons_of_pos (by simpa using e)]; rfl
      · unfold atKey; rw [List.find?_cons_of_pos (by simpa using e2)]; rfl
    · have e2 : ¬ y.1 = k := h1 ▸ e
      have a : lookN (x :: xs) k = lookN xs k := by unfold lookN; rw [List.find?_cons_of_neg (by simpa using e)]
      have b : atKey (y :: ys) k = atKey ys k := by unfold atKey; rw [List.find?_cons_of_neg (by simpa using e2)]
      rw [a, b]; exact ih
section
variable {X : Cx} {pins : List (Addr × Obj)} {σ : L2.St} {H : Hp} {s : Shared} {d b : Addr} {xs : List NEnt} {k : NK} {A : Around} {E : Value → Shared → Prop}
theorem nd_of (I : Inv X pins σ H s) (a : NdAt X.prog X.w H d xs) : xs.length ≤ sizeLine ∧ (d == sysModules) = false ∧ ∃ ys, Paired NRel xs ys ∧ s.heap.DictOfH (nestedKind X.prog X.w) d ys := by
  rcases a with ⟨rfl, h⟩ | ⟨h, n⟩
  · obtain ⟨z, hd, vs, rel, o, es, ep, h1, h2, h3, _, h5, _⟩ := dk_of I.hok h
    have e0 : vs = [] := by cases rel; rfl
    subst e0
    have e1 : es.toList = [] := by
      generalize es.toList = l at h5
      cases h5; rfl
    exact ⟨Nat.zero_le _, hd, [], .nil, o, es, ep, h1, h2, h3, by rw [e1]; rfl, by simp, by simp⟩
  · obtain ⟨⟨z, hd, ys, rel, o, es, ep, h1, h2, h3, h4, h5⟩, _⟩ := I.hok d _ h
    refine ⟨z, hd, ys, rel, o, es, ep, h1, h2, h3, h4, fun y m => ?_, h5⟩
    obtain ⟨i, hi⟩ := List.getElem?_of_mem m
    obtain ⟨x, hx, r1, r2, _⟩ := prd_at2 rel hi
    obtain ⟨q1, q2⟩ := n.k x (List.mem_of_getElem? hx)
    rw [← r1, ← r2]
    exact ⟨KeyIs.at I.hok _ _ _ q1 rfl, q2⟩
theorem nd_key (I : Inv X pins σ H s) (ky : KeyIs H (.ref b) k) (dp : k.depth ≤ 8) : (nestedKind X.prog X.w).is s.heap k b := ⟨KeyIs.at I.hok _ _ _ ky rfl, dp⟩
theorem nd_room (hu : A.units + 64 < cLine) : (nestedKind X.prog X.w).room A.in1 := by
  show A.in1.units + 8 < cLine
  have : A.in1.units = A.units + 1 := rfl
  omega
theorem nd_in {Q : Value → Shared → Prop} (hu : A.units + 64 < cLine) (I : Inv X pins σ H s) (a : NdAt X.prog X.w H d xs) (ky : KeyIs H (.ref b) k) (dp : k.depth ≤ 8) (h : ∀ s', Inv X pins σ H s' → Q (.bool (lookN xs k).isSome) s') :
    wpAny (model X.prog X.w) A (compareOp .In (.ref b) (.ref d)) Q E s := by
  obtain ⟨z, hd, ys, rel, dd⟩ := nd_of I a
  refine wpAny_in_heap (nd_room (X := X) hu) (nd_key I ky dp) hd dd ?_
  rcases look_rel rel k with ⟨e1, e2⟩ | ⟨v, p, e1, e2, _⟩
  · rw [e2]; rw [e1] at h; exact h _ (I.tok _)
  · rw [e2]; rw [e1] at h; exact h _ (I.tok _)
theorem nd_notIn {Q : Value → Shared → Prop} (hu : A.units + 64 < cLine) (I : Inv X pins σ H s) (a : NdAt X.prog X.w H d xs) (ky : KeyIs H (.ref b) k) (dp : k.depth ≤ 8) (h : ∀ s', Inv X pins σ H s' → Q (.bool (!(lookN xs k).isSome)) s') :
    wpAny (model X.prog X.w) A (compareOp .NotIn (.ref b) (.ref d)) Q E s := by
  obtain ⟨z, hd, ys, rel, dd⟩ := nd_of I a
  refine wpAny_notIn_heap (nd_room (X := X) hu) (nd_key I ky dp) hd dd ?_
  rcases look_rel rel k with ⟨e1, e2⟩ | ⟨v, p, e1, e2, _⟩
  · rw [e2]; rw [e1] at h; exact h _ (I.tok _)
  · rw [e2]; rw [e1] at h; exact h _ (I.tok _)
theorem nd_get {v : V} {Q : Value → Shared → Prop} (hu : A.units + 64 < cLine) (I : Inv X pins σ H s) (a : NdAt X.prog X.w H d xs) (ky : KeyIs H (.ref b) k) (dp : k.depth ≤ 8) (l : lookN xs k = some v) (h : ∀ u s', Inv X pins σ H s' → RelV v u → Q u s') :
    wpAny (model X.prog X.w) A (getItem (.ref d) (.ref b)) Q E s := by
  obtain ⟨z, hd, ys, rel, dd⟩ := nd_of I a
  rcases look_rel rel k with ⟨e1, _⟩ | ⟨v', p, e1, e2, r⟩
  · rw [l] at e1; cases e1
  · rw [l] at e1; cases e1
    exact wpAny_getItem_heap (nd_room (X := X) hu) (nd_key I ky dp) dd e2 (h _ _ (I.tok _) r)
theorem nd_put {v : V} {u : Value} {Q : Unit → Shared → Prop} (hu : A.units + 64 < cLine) (I : Inv X pins σ H s) (a : NdAt X.prog X.w H d xs) (ky : KeyIs H (.ref b) k) (dp : k.depth ≤ 8) (l : lookN xs k = none) (small : xs.length < sizeLine) (rv : RelV v u)
    (h : ∀ s', Inv X pins σ (upd H d (NdO X.prog X.w d (xs ++ [(k, b, v)]))) s' → Q () s') : wpAny (model X.prog X.w) A (setItem (.ref d) (.ref b) u) Q E s := by
  obtain ⟨z, hd, ys, rel, dd⟩ := nd_of I a
  have hz : ys.length ≤ sizeLine := by rw [← Paired.length rel]; exact z
  rcases look_rel rel k with ⟨_, e2⟩ | ⟨v', p, e1, _, _⟩
  · refine wpAny_setItem_heap (hsz := hz) (nd_room (X := X) hu) (nd_key I ky dp) dd fun h' dd' hs => h _ ?_
    rw [storedH_new e2] at dd'
    obtain ⟨o, es, ep, h1, h2, h3, h4, _, h5⟩ := dd'
    refine d_write I ?_ hs ⟨o, h1⟩ ⟨⟨by rw [List.length_append]; exact small, hd, ys ++ [(k, b, u)], Paired.snoc rel ⟨rfl, rfl, rv⟩, o, es, ep, h1, h2, h3, h4, h5⟩, ⟨o, h1⟩, fun g1 g2 ⟨q1, q2, q3, q4, o', es', ep', q5, q6⟩ kk => ⟨q1, q2, q3, q4, o', es', ep', kk _ q5, q6⟩⟩
    rcases a with ⟨_, e⟩ | ⟨e, _⟩ <;> rw [e] <;> exact True.intro
  · rw [l] at e1; cases e1
theorem nd_typeIs (I : Inv X pins σ H s) (a : NdAt X.prog X.w H d xs) : s.TypeIs (.ref d) "dict" := by
  obtain ⟨_, _, ys, _, dd⟩ := nd_of I a
  exact dd.typeIs
end
/-! the rules -/
def NdKey (P : Program) (w : World) (H : Hp) (x y : V) (xs : List NEnt) (k : NK) (d b : Addr) : Prop := x = .ref d ∧ y = .ref b ∧ NdAt P w H d xs ∧ KeyIs H (.ref b) k ∧ k.depth ≤ 8
def tNdIn (P : Program) (w : World) (ty td : TE) : TE := fun σ H Q => ty σ H fun y H1 => td σ H1 fun x H2 => ∃ xs k d b, NdKey P w H2 x y xs k d b ∧ Q (.bl (lookN xs k).isSome) H2
def tNdNotIn (P : Program) (w : World) (ty td : TE) : TE := fun σ H Q => ty σ H fun y H1 => td σ H1 fun x H2 => ∃ xs k d b, NdKey P w H2 x y xs k d b ∧ Q (.bl (!(lookN xs k).isSome)) H2
def tNdGet (P : Program) (w : World) (td ty : TE) : TE := fun σ H Q => td σ H fun x H1 => ty σ H1 fun y H2 => ∃ xs k d b v, NdKey P w H2 x y xs k d b ∧ lookN xs k = some v ∧ Q v H2
def sNdPut (P : Program) (w : World) (td ty tv : TE) : TS := fun D σ H => tv σ H fun v H1 => td σ H1 fun x H2 => ty σ H2 fun y H3 => ∃ xs k d b, NdKey P w H3 x y xs k d b ∧ lookN xs k = none ∧ xs.length < sizeLine ∧ D.nx σ (upd H3 d (NdO P w d (xs ++ [(k, b, v)])))
section
variable {X : Cx} {o i e value : Expr} {pos pos' tpos : Pos} {td ty tv : TE}
theorem pc_ndin (hu : X.A.units + 64 < cLine) (hi : PE X i ty) (ho : PE X o td) : PC X .In i o (tNdIn X.prog X.w ty td) := by
  refine ⟨fun pins s σ H Q I h => ?_⟩
  refine thn (hi.run pins s σ H _ I h) fun iv s1 ⟨y, H1, I1, ry, q1⟩ => thn (ho.run pins s1 σ H1 _ I1 q1) fun u s2 ⟨x, H2, I2, rx, xs, k, d, b, ⟨ex, ey, a, ky, dp⟩, q2⟩ => ?_
  subst ex ey
  cases (show u = Value.ref d from rx)
  cases (show iv = Value.ref b from ry)
  exact nd_in hu I2 a ky dp fun s3 I3 => ⟨.bl _, H2, I3, rfl, q2⟩
theorem pc_ndnotin (hu : X.A.units + 64 < cLine) (hi : PE X i ty) (ho : PE X o td) : PC X .NotIn i o (tNdNotIn X.prog X.w ty td) := by
  refine ⟨fun pins s σ H Q I h => ?_⟩
  refine thn (hi.run pins s σ H _ I h) fun iv s1 ⟨y, H1, I1, ry, q1⟩ => thn (ho.run pins s1 σ H1 _ I1 q1) fun u s2 ⟨x, H2, I2, rx, xs, k, d, b, ⟨ex, ey, a, ky, dp⟩, q2⟩ => ?_
  subst ex ey
  cases (show u = Value.ref d from rx)
  cases (show iv = Value.ref b from ry)
  exact nd_notIn hu I2 a ky dp fun s3 I3 => ⟨.bl _, H2, I3, rfl, q2⟩
theorem pe_ndget (hu : X.A.units + 64 < cLine) (ho : PE X o td) (hi : PE X i ty) (hs : NoSl i) : PE X (.Subscript o i pos) (tNdGet X.prog X.w td ty) := by
  refine ⟨fun pins s σ H Q I h => ?_⟩
  refine subD_of PySem.F.slot_dict_getitem.lookup hs (thn (ho.run pins s σ H _ I h) fun u s1 ⟨x, H1, I1, rx, q1⟩ => thn (hi.run pins s1 σ H1 _ I1 q1) fun iv s2 ⟨y, H2, I2, ry, xs, k, d, b, v, ⟨ex, ey, a, ky, dp⟩, l, q2⟩ => ?_)
  subst ex ey
  cases (show u = Value.ref d from rx)
  cases (show iv = Value.ref b from ry)
  exact ⟨nd_typeIs I2 a, nd_get hu I2 a ky dp l fun w' s3 I3 rw' => ⟨v, H2, I3, rw', q2⟩⟩
theorem ps_ndput (hu : X.A.units + 64 < cLine) (ho : PE X o td) (hi : PE X i ty) (hv : PE X value tv) (hs : swapsWith value (some (.Subscript o i pos')) pos.line X.env = pure false) :
    PS X (.Assign [.Subscript o i pos'] value pos) (sNdPut X.prog X.w td ty tv) := by
  refine ⟨fun pins s σ H D I h => ?_⟩
  refine wpAny_Assign_Subscript (thn (hv.run pins s σ H _ I h) fun r s1 ⟨v, H1, I1, rv, q1⟩ => thn (ho.run pins s1 σ H1 _ I1 q1) fun u s2 ⟨x, H2, I2, rx, q2⟩ => thn (hi.run pins s2 σ H2 _ I2 q2) fun iv s3 ⟨y, H3, I3, ry, xs, k, d, b, ⟨ex, ey, a, ky, dp⟩, l, sm, q3⟩ => ?_) hs
  subst ex ey
  cases (show u = Value.ref d from rx)
  cases (show iv = Value.ref b from ry)
  exact nd_put hu I3 a ky dp l sm rv fun s4 I4 => ⟨σ, _, I4, q3⟩
end
/-- what the dict is behind a store -/
theorem NdAt.put {P : Program} {w : World} {H : Hp} {d b : Addr} {xs : List NEnt} {k : NK} {v : V} (a : NdAt P w H d xs) (ky : KeyIs H (.ref b) k) (dp : k.depth ≤ 8) : NdAt P w (upd H d (NdO P w d (xs ++ [(k, b, v)]))) d (xs ++ [(k, b, v)]) := by
  have hk : ∀ a ys, H a = some (.tup ys) → (upd H d (NdO P w d (xs ++ [(k, b, v)]))) a = some (.tup ys) := fun c ys e => by
    refine (upd_ne ?_).trans e
    intro z
    subst z
    rcases a with ⟨_, h⟩ | ⟨h, _⟩ <;> rw [e] at h <;> cases h
  refine .inr ⟨upd_same, ⟨fun x m => ?_⟩⟩
  rcases List.mem_append.mp m with m | m
  · rcases a with ⟨e, _⟩ | ⟨_, n⟩
    · rw [e] at m; cases m
    · exact ⟨(n.k x m).1.firm hk _ _, (n.k x m).2⟩
  · rw [List.mem_singleton.mp m]
    exact ⟨ky.firm hk _ _, dp⟩
end Toy

namespace Toy
open PySem PySem.Spec PyProof.Rows L2 PySem.SeqAt
/-! a dict beside things of other kinds -/
section
variable {prog : Program} {w : World} {A : Around} {E : Value → Shared → Prop} {s : Shared}
theorem dict_no {d : Addr} {x : Value} {T : String} (td : s.TypeIs (.ref d) "dict") (tx : s.TypeIs x T) (no : isSubtype (.type T) (.type "dict") = pure false) (Q : Value → Shared → Prop) (q : Q .notImplemented s) :
    wpAny (model prog w) A (call (.builtin "dict.__eq__") [.ref d, x]) Q E s := by
  refine wpAny_call_entry PySem.F.slot_dict_eq td PySem.F.entry_dict_eq ?_ (PySem.F.args_dict_eq_2 _ _)
  have args : ∀ {R : Value × Value → Shared → Prop} {E' : Value → Shared → Prop} {A' : Around}, R (.ref d, x) s → wpAny (model prog w) A' (Builtin.Dict.dictSlotArgs "__eq__" ⟨[.ref d, x], []⟩) R E' s := fun {R E' A'} r => by
    unfold Builtin.Dict.dictSlotArgs
    exact wpAny_bind (wpAny_notOrdered_dict td (show wpAny _ _ (pure (Value.ref d, x)) _ _ s from wpAny_pure r))
  refine wpAny_bind (m := Builtin.Dict.dictSlotArgs "__eq__" ⟨[.ref d, x], []⟩) (args (wpAny_bind (wpAny_isInstance (T := T) tx no ?_)))
  rw [if_pos (show (!false) = true from rfl)]
  exact wpAny_bind (wpAny_rule (wpAny_pure ⟨.notImplemented, rfl, q⟩))
theorem tup_no {l d : Addr} (tl : s.TypeIs (.ref l) "tuple") (td : s.TypeIs (.ref d) "dict") (Q : Value → Shared → Prop) (q : Q .notImplemented s) : wpAny (model prog w) A (call (.builtin "tuple.__eq__") [.ref l, .ref d]) Q E s := by
  refine wpAny_call_entry PySem.F.slot_tuple_eq tl PySem.F.entry_tuple_eq ?_ (PySem.F.args_tuple_eq_2 _ _)
  refine wpAny_bind (m := isInstance (.ref d) (.type "tuple")) (wpAny_isInstance td PySem.F.sub_dict_tuple ?_)
  exact wpAny_pure ⟨.notImplemented, rfl, q⟩
theorem str_asks (z : Str) (t : Tok) (d : Addr) (dd : Option Addr) (es : Array DictEntry) (ep : Nat) (sl : Array (Option Value)) :
    Meets (Builtin.«str.__eq__» ⟨[.str z t, .ref d], []⟩) (fun _ R s => s.heap.get? d = some { cls := .type "dict", dict := dd, data := .dict es ep, slots := sl } ∧ R (.ok (.ret .notImplemented)) s) :=
  .of_wp fun prog w A R s h => by
    obtain ⟨hp, g, d', tk, os⟩ := s
    obtain ⟨hd, r⟩ := h
    wp_walk using PySem.AutoSeq1.wpAny_loadPart' hd, wpAny_load hd
    exact ⟨_, rfl, r⟩
end
theorem none_dict {A : Around} {s : Shared} {d : Addr} (td : s.TypeIs (.ref d) "dict") (hu : A.units < cLine) : EqAt A s .none (.ref d) false := fun prog w E Q q => by
  have rc : wpAny (model prog w) A (richCompare .Eq .none (.ref d)) (fun v s' => v = .bool false ∧ Q false s') E s :=
    rc_eq_decline_or (k := false) rfl td (by decide) PySem.F.sub_dict_NoneType PySem.F.slot_NoneType_eq PySem.F.slot_dict_eq_refl
      (fun _ hq => call_gives PySem.F.slot_NoneType_eq rfl PySem.F.entry_NoneType_eq (PySem.F.args_NoneType_eq_2 _ _) (NoneType___eq___none_ref_0 d) hq)
      (fun Q1 hq => dict_no (x := .none) (T := "NoneType") td rfl PySem.F.sub_NoneType_dict Q1 hq)
      (fun _ hq => wpAny_of_eq (rfl : isSame .none (.ref d) = pure false) hq) (.inr hu) ⟨rfl, q⟩
  unfold eqBool
  refine wpAny_holding (wpAny_ite_split (fun same => absurd (eq_of_beq same) nofun) fun _ => wpAny_bind (wpAny_mono rc ?_ fun _ _ e => e))
  rintro _ s' ⟨rfl, q'⟩
  exact wpAny_truthy_bool q'
/-- a dict stands at d -/
def IsDct (s : Shared) (d : Addr) : Prop := ∃ (dd : Option Addr) (es : Array DictEntry) (ep : Nat) (sl : Array (Option Value)), s.heap.get? d = some { cls := .type "dict", dict := dd, data := .dict es ep, slots := sl }
theorem IsDct.ty {s : Shared} {d : Addr} (i : IsDct s d) : s.TypeIs (.ref d) "dict" := by
  obtain ⟨_, _, _, _, h⟩ := i
  exact ⟨_, h, rfl⟩
theorem str_dict {A : Around} {s : Shared} {d : Addr} (z : Str) (t : Tok) (i : IsDct s d) (hu : A.units < cLine) : EqAt A s (.str z t) (.ref d) false := fun prog w E Q q => by
  have td := i.ty
  obtain ⟨dd, es, ep, sl, hd⟩ := i
  have rc : wpAny (model prog w) A (richCompare .Eq (.str z t) (.ref d)) (fun v s' => v = .bool false ∧ Q false s') E s :=
    rc_eq_decline_or (k := false) rfl td (by decide) PySem.F.sub_dict_str PySem.F.slot_str_eq PySem.F.slot_dict_eq_refl
      (fun _ hq => call_meets PySem.F.slot_str_eq rfl PySem.F.entry_str_eq (PySem.F.args_str_eq_2 _ _) (str_asks z t d dd es ep sl) ⟨hd, hq⟩)
      (fun Q1 hq => dict_no (x := .str z t) (T := "str") td rfl PySem.F.sub_str_dict Q1 hq)
      (fun _ hq => wpAny_of_eq (rfl : isSame (.str z t) (.ref d) = pure false) hq) (.inr hu) ⟨rfl, q⟩
  unfold eqBool
  refine wpAny_holding (wpAny_ite_split (fun same => absurd (eq_of_beq same) nofun) fun _ => wpAny_bind (wpAny_mono rc ?_ fun _ _ e => e))
  rintro _ s' ⟨rfl, q'⟩
  exact wpAny_truthy_bool q'
theorem tup_dict {A : Around} {s : Shared} {l d : Addr} {items : Array Value} (hl : s.heap.IsTuple l items) (i : IsDct s d) (hu : A.units < cLine) : EqAt A s (.ref l) (.ref d) false := by
  have td := i.ty
  obtain ⟨o, ho, hc, hi⟩ := id hl
  obtain ⟨dd, es, ep, sl, hd⟩ := i
  have ne : l ≠ d := fun e => by
    subst e
    rw [hd] at ho
    cases ho
    injection hc with hc
    exact absurd hc (by decide)
  refine .of_refs ne fun prog w E Q q => ?_
  exact rc_eq_decline_or (k := false) ⟨_, ho, hc⟩ td (by decide) PySem.F.sub_dict_tuple PySem.F.slot_tuple_eq PySem.F.slot_dict_eq_refl
    (fun Q1 hq => tup_no ⟨_, ho, hc⟩ td Q1 hq) (fun Q1 hq => dict_no (x := .ref l) (T := "tuple") td ⟨_, ho, hc⟩ PySem.F.sub_tuple_dict Q1 hq)
    (fun _ hq => wpAny_isSame_ref_other' ne ho hd (by simp) hq) (.inr hu) q
end Toy

namespace Toy
open PySem PySem.Spec PyProof.Rows L2 PySem.SeqAt
/-! any thing of the built-in kinds in a list of asks -/
section
variable {X : Cx} {pins : List (Addr × Obj)} {σ : L2.St} {H : Hp} {s : Shared}
theorem dk_dct (I : Inv X pins σ H s) {a : Addr} {kvs : List (Key × V)} (h : H a = some (.dK kvs)) : IsDct s a := by
  obtain ⟨_, _, vs, _, ⟨c, dd, dt, sl⟩, es, ep, h1, h2, h3, _⟩ := dk_of I.hok h
  have h3 : dt = .dict es ep := h3
  have h4 : c = .type "dict" := h2.1
  subst h3 h4
  exact ⟨dd, es, ep, sl, h1⟩
theorem flat_eq (I : Inv X pins σ H s) {f v : V} {A0 : Addr → Prop} (hf : f = .non ∨ ∃ z, f = .str z) (D : Dat A0 H v) {uf uv : Value} (rf : RelV f uf) (rv : RelV v uv) {A : Around} (hu : A.units < cLine) : EqAt A s uf uv (decide (f = v)) := by
  rcases hf with rfl | ⟨z, rfl⟩
  · cases (show uf = Value.none from rf)
    cases D with
    | non => cases (show uv = Value.none from rv); exact EqAt.same _
    | bl b => cases (show uv = Value.bool b from rv); exact EqAt.none_bool b
    | int i => obtain ⟨t, rfl⟩ := (show ∃ t, uv = Value.int i t from rv); exact EqAt.none_int i t
    | str y => obtain ⟨t, rfl⟩ := (show ∃ t, uv = Value.str y t from rv); exact EqAt.none_str y t
    | lst a xs _ h _ =>
      cases (show uv = Value.ref a from rv)
      obtain ⟨us, _, p, _⟩ := I.list (SqL.of h)
      exact EqAt.none_list p.isList hu
    | tup a xs _ h _ =>
      cases (show uv = Value.ref a from rv)
      obtain ⟨us, _, p, _⟩ := I.tuple (SqT.of h)
      exact EqAt.none_tuple p hu
    | dK a kvs _ h _ =>
      cases (show uv = Value.ref a from rv)
      exact none_dict (dk_dct I h).ty hu
  · obtain ⟨t, rfl⟩ := (show ∃ t, uf = Value.str z t from rf)
    cases D with
    | non => cases (show uv = Value.none from rv); exact EqAt.str_none z t
    | bl b => cases (show uv = Value.bool b from rv); exact EqAt.str_bool z t b
    | int i => obtain ⟨t2, rfl⟩ := (show ∃ t, uv = Value.int i t from rv); exact EqAt.str_int z t i t2
    | str y =>
      obtain ⟨t2, rfl⟩ := (show ∃ t, uv = Value.str y t from rv)
      refine (EqAt.str_str z t y t2).cast ?_
      rw [Bool.eq_iff_iff, beq_iff_eq, decide_eq_true_iff]
      exact ⟨fun e => by rw [e], fun e => by injection e⟩
    | lst a xs _ h _ =>
      cases (show uv = Value.ref a from rv)
      obtain ⟨us, _, p, _⟩ := I.list (SqL.of h)
      exact EqAt.str_list z t p.isList hu
    | tup a xs _ h _ =>
      cases (show uv = Value.ref a from rv)
      obtain ⟨us, _, p, _⟩ := I.tuple (SqT.of h)
      exact EqAt.str_tuple z t p hu
    | dK a kvs _ h _ =>
      cases (show uv = Value.ref a from rv)
      exact str_dict z t (dk_dct I h) hu
/-- the thing x is the ask p -/
def IsAsk (H : Hp) (x : V) (p : Str × V) : Prop := ∃ a, x = .ref a ∧ H a = some (.tup [.str p.1, p.2])
open Classical in
theorem ask_eq (I : Inv X pins σ H s) {x : V} {A0 : Addr → Prop} {t : Addr} {p : Str × V} (ht : H t = some (.tup [.str p.1, p.2])) (fl : p.2 = .non ∨ ∃ z, p.2 = .str z) (D : Dat A0 H x) {ux : Value} (rx : RelV x ux) {A : Around} (hu : A.units + 1 < cLine) :
    EqAt A s (.ref t) ux (decide (IsAsk H x p)) := by
  have hu0 : A.units < cLine := by omega
  obtain ⟨its, rt, pt, _⟩ := I.tuple (SqT.of (K := X.K) ht)
  have no : (∀ a, x = .ref a → H a ≠ some (.tup [.str p.1, p.2])) → decide (IsAsk H x p) = false := fun h => decide_eq_false fun ⟨a, e, q⟩ => h a e q
  cases D with
  | non => cases (show ux = Value.none from rx); rw [no fun a e => nomatch e]; exact EqAt.tuple_none pt hu0
  | bl b => cases (show ux = Value.bool b from rx); rw [no fun a e => nomatch e]; exact EqAt.tuple_bool b pt hu0
  | int i => obtain ⟨t2, rfl⟩ := (show ∃ t, ux = Value.int i t from rx); rw [no fun a e => nomatch e]; exact EqAt.tuple_int i t2 pt hu0
  | str y => obtain ⟨t2, rfl⟩ := (show ∃ t, ux = Value.str y t from rx); rw [no fun a e => nomatch e]; exact EqAt.tuple_str y t2 pt hu0
  | lst a xs _ h _ =>
    cases (show ux = Value.ref a from rx)
    obtain ⟨us, _, q, _⟩ := I.list (SqL.of (K := X.K) h)
    rw [no fun b e z => by cases e; rw [h] at z; cases z]
    exact EqAt.tuple_list pt q.isList hu0
  | dK a kvs _ h _ =>
    cases (show ux = Value.ref a from rx)
    rw [no fun b e z => by cases e; rw [h] at z; cases z]
    exact tup_dict pt (dk_dct I h) hu0
  | tup a xs _ h hx =>
    cases (show ux = Value.ref a from rx)
    by_cases e : t = a
    · subst e
      rw [decide_eq_true (show IsAsk H (.ref t) p from ⟨t, rfl, ht⟩)]
      exact EqAt.same _
    obtain ⟨its2, r2, p2, _⟩ := I.tuple (SqT.of (K := X.K) h)
    have n1 : its.length = 2 := (Vals.length rt).symm
    have n2 := Vals.length r2
    refine EqAt.cast (EqAt.of_refs e (RcAt.tuples (e := fun j => decide (([V.str p.1, p.2] : List V)[j]? = xs[j]?)) pt p2 hu0 fun j h1 h2 => ?_)) ?_
    · have j2 : j < xs.length := by rw [n2]; simpa using h2
      have j1 : j < 2 := by rw [← n1]; simpa using h1
      obtain ⟨f, hf, fl2⟩ : ∃ f, ([V.str p.1, p.2] : List V)[j]? = some f ∧ (f = .non ∨ ∃ z, f = .str z) := by
        rcases (by omega : j = 0 ∨ j = 1) with rfl | rfl
        · exact ⟨_, rfl, .inr ⟨_, rfl⟩⟩
        · exact ⟨_, rfl, fl⟩
      have hxj : xs[j]? = some xs[j] := List.getElem?_eq_getElem j2
      obtain ⟨u1, hu1, ru1⟩ := Vals.get rt hf
      obtain ⟨u2, hu2, ru2⟩ := Vals.get r2 hxj
      have q1 : its.toArray[j] = u1 := by
        have := (List.getElem?_eq_some_iff.mp hu1).2
        simpa using this
      have q2 : its2.toArray[j] = u2 := by
        have := (List.getElem?_eq_some_iff.mp hu2).2
        simpa using this
      rw [q1, q2, hf, hxj]
      have room : A.in1.units < cLine := by
        have : A.in1.units = A.units + 1 := rfl
        omega
      refine (flat_eq I fl2 (hx _ (List.getElem_mem j2)) ru1 ru2 room).cast ?_
      rw [Bool.eq_iff_iff, decide_eq_true_iff, decide_eq_true_iff]
      exact ⟨fun e => by rw [e], fun e => by injection e⟩
    · have sz : its.toArray.size = 2 := by simpa using n1
      have sz2 : its2.toArray.size = xs.length := by simpa using n2.symm
      rw [sz, sz2, Bool.eq_iff_iff, decide_eq_true_iff, Bool.and_eq_true, List.all_eq_true, beq_iff_eq]
      constructor
      · rintro ⟨all, len⟩
        refine ⟨a, rfl, ?_⟩
        rw [h]
        congr 2
        apply List.ext_getElem?
        intro j
        by_cases hj : j < 2
        · exact (of_decide_eq_true (all j (List.mem_range.mpr (by omega)))).symm
        · rw [List.getElem?_eq_none (by omega), List.getElem?_eq_none (by simpa using Nat.le_of_not_lt hj)]
      · rintro ⟨b, eb, hb⟩
        cases eb
        rw [h] at hb
        cases hb
        exact ⟨fun j _ => decide_eq_true rfl, rfl⟩
end
open Classical in
def rAskIn (no : Bool) : R2 := fun x y H Q => ∃ (A0 : Addr → Prop) (l : Addr) (ps : List (Str × V)), y = .ref l ∧ Dat A0 H x ∧ AsksAt H l ps ∧ (∀ p ∈ ps, p.2 = .non ∨ ∃ z, p.2 = .str z) ∧ Q (.bl (no != decide (∃ p ∈ ps, IsAsk H x p))) H
section
variable {X : Cx}
open Classical in
theorem ask_items {pins : List (Addr × Obj)} {σ : L2.St} {H : Hp} {s : Shared} (I : Inv X pins σ H s) {x : V} {A0 : Addr → Prop} (D : Dat A0 H x) {ux : Value} (rx : RelV x ux) {A : Around} (hu : A.units + 2 < cLine) : ∀ {us : List V} {ps : List (Str × V)} {its : List Value}, Paired (AskAt H) us ps → Vals us its → (∀ p ∈ ps, p.2 = .non ∨ ∃ z, p.2 = .str z) →
    (∀ y ∈ its, EqAt A.in1 s y ux (decide (∃ p, p ∈ ps ∧ y = y ∧ ∃ t, y = Value.ref t ∧ H t = some (.tup [.str p.1, p.2]) ∧ IsAsk H x p))) ∧
    (its.any fun y => decide (∃ p, p ∈ ps ∧ y = y ∧ ∃ t, y = Value.ref t ∧ H t = some (.tup [.str p.1, p.2]) ∧ IsAsk H x p)) = decide (∃ p ∈ ps, IsAsk H x p) := by
  intro us ps its P V1 fl
  have room : A.in1.units + 1 < cLine := by
    have : A.in1.units = A.units + 1 := rfl
    omega
  refine ⟨fun y my => ?_, ?_⟩
  · obtain ⟨i, hi⟩ := List.getElem?_of_mem my
    obtain ⟨v, hv, rv⟩ := prd_at2 V1 hi
    obtain ⟨p, hp, t, rfl, ht⟩ := prd_at1 P hv
    cases (show y = Value.ref t from rv)
    refine (ask_eq I ht (fl p (List.mem_of_getElem? hp)) D rx room).cast ?_
    rw [Bool.eq_iff_iff, decide_eq_true_iff, decide_eq_true_iff]
    constructor
    · exact fun h => ⟨p, List.mem_of_getElem? hp, rfl, t, rfl, ht, h⟩
    · rintro ⟨p', _, _, t', e, ht', h⟩
      cases e
      rw [ht] at ht'
      have : p = p' := by
        injection ht' with e
        injection e with e
        injection e with e1 e2
        injection e1 with e1
        injection e2 with e2 _
        exact Prod.ext e1 e2
      rw [this]; exact h
  · rw [Bool.eq_iff_iff, List.any_eq_true, decide_eq_true_iff]
    constructor
    · rintro ⟨y, _, h⟩
      obtain ⟨p, mp, _, _, _, _, h⟩ := of_decide_eq_true h
      exact ⟨p, mp, h⟩
    · rintro ⟨p, mp, h⟩
      obtain ⟨i, hi⟩ := List.getElem?_of_mem mp
      obtain ⟨v, hv, t, rfl, ht⟩ := prd_at2 P hi
      obtain ⟨u, hu1, ru⟩ := Vals.get V1 hv
      cases (show u = Value.ref t from ru)
      exact ⟨_, List.mem_of_getElem? hu1, decide_eq_true ⟨p, mp, rfl, t, rfl, ht, h⟩⟩
open Classical in
theorem op_notInAsk (hu : X.A.units + 64 < cLine) : OpR X (compareOp .NotIn) (rAskIn true) := by
  intro pins s σ H x y v u Q I rx ry h
  obtain ⟨A0, l, ps, rfl, D, A, fl, q⟩ := h
  cases (show u = Value.ref l from ry)
  obtain ⟨us, e, P⟩ := A.ex
  obtain ⟨its, r, p, _⟩ := I.list (SqL.of (K := X.K) e)
  obtain ⟨h1, h2⟩ := ask_items (A := X.A) I D rx (by omega) P r fl
  refine notIn_listAt _ p.isList (fun z m => h1 z (by simpa using m)) ?_
  rw [List.any_toArray, h2]
  exact ⟨.bl (!decide (∃ p ∈ ps, IsAsk H x p)), H, I, rfl, by simpa using q⟩
open Classical in
theorem op_inAsk (hu : X.A.units + 64 < cLine) : OpR X (compareOp .In) (rAskIn false) := by
  intro pins s σ H x y v u Q I rx ry h
  obtain ⟨A0, l, ps, rfl, D, A, fl, q⟩ := h
  cases (show u = Value.ref l from ry)
  obtain ⟨us, e, P⟩ := A.ex
  obtain ⟨its, r, p, _⟩ := I.list (SqL.of (K := X.K) e)
  obtain ⟨h1, h2⟩ := ask_items (A := X.A) I D rx (by omega) P r fl
  refine in_listAt _ p.isList (fun z m => h1 z (by simpa using m)) ?_
  rw [List.any_toArray, h2]
  exact ⟨.bl (decide (∃ p ∈ ps, IsAsk H x p)), H, I, rfl, by simpa using q⟩
end
end Toy

namespace Toy
open PySem PySem.Spec PyProof.Rows L2
/-! what is never come to; a display with one nested key; classes with defaults -/
def tNever : TE := fun _ _ _ => False
theorem pe_never {X : Cx} {e : Expr} : PE X e tNever := ⟨fun _ _ _ _ _ _ h => h.elim⟩
/-- a new dict that is walked, and asked for no more: it stays locked -/
def tFrz (te : TE) : TE := fun σ H Q => te σ H fun x H1 => ∃ d kvs, x = .ref d ∧ H1 d = some (.dK kvs) ∧ ∀ od, Q x (upd H1 d (.frz od (.dK kvs)))
theorem pe_frz {X : Cx} {e : Expr} {te : TE} (he : PE X e te) : PE X e (tFrz te) := by
  refine ⟨fun pins s σ H Q I h => ?_⟩
  refine thn (he.run pins s σ H _ I h) fun u s1 ⟨x, H1, I1, rx, d, kvs, ex, hd, q⟩ => ?_
  obtain ⟨od, I2⟩ := I1.lock hd True.intro
  exact ⟨x, _, I2, rx, q od⟩
def tNdOne (P : Program) (w : World) (tk tv : TE) : TE := fun σ H Q => ∀ p, H p = none → tk σ (upd H p (.dK [])) fun x H1 => tv σ H1 fun y H2 => ∃ k b, x = .ref b ∧ H2 p = some (.dK []) ∧ KeyIs H2 (.ref b) k ∧ k.depth ≤ 8 ∧ Q (.ref p) (upd H2 p (NdO P w p [(k, b, y)]))
theorem pe_ndone {X : Cx} {k v : Expr} {pos : Pos} {tk tv : TE} (hu : X.A.units + 64 < cLine) (hk : PE X k tk) (hv : PE X v tv) : PE X (.Dict [some k] [v] pos) (tNdOne X.prog X.w tk tv) := by
  refine ⟨fun pins s σ H Q I q => ?_⟩
  have free := I.hok.fresh (Nat.le_refl s.heap.objs.size)
  have J := I.laid (a := s.heap.objs.size) (o := .dK []) (h' := s.heap.push { cls := .type "dict", data := .dict #[] }) (t' := s.toks) (fun _ _ e => Heap.get?_push_of_some _ e) (Nat.le_refl _) (dk_empty s.heap I.big)
  have q := q _ free
  have room : (nestedKind X.prog X.w).room X.A := by
    show X.A.units + 8 < cLine
    omega
  rw [arm_eval_Dict, zip_pairTrees [some k] [v] X.env pos rfl rfl, dictDisplay_pairs _ (by simp [pairTrees]) (by simp [pairTrees])]
  refine wpAny_bind (wpAny_standAt (wpAny_bind (wpAny_subDictH (knd := nestedKind X.prog X.w) room (by simp [pairTrees]) ?_)))
  refine pairTrees_cons_walk (thn (hk.run pins _ σ _ _ J q) fun u s1 ⟨x, H1, I1, rx, q1⟩ => thn (hv.run pins s1 σ H1 _ I1 q1) fun uv s2 ⟨y, H2, I2, ry, kk, b, ex, e0, ky, dp, q2⟩ => pairTrees_nil_walk ?_)
  subst ex
  cases (show u = Value.ref b from rx)
  obtain ⟨z, hd, ys, rel, dd⟩ := nd_of I2 (.inl ⟨rfl, e0⟩)
  cases rel
  refine ⟨[(kk, b, uv)], ⟨rfl, rfl, nd_key I2 ky dp, True.intro⟩, dd, fun h' tk dd' hs => wpAny_pure ⟨.ref s.heap.objs.size, _, ?_, rfl, q2⟩⟩
  obtain ⟨o, es, ep, h1, h2, h3, h4, _, h5⟩ := dd'
  refine d_write I2 (by rw [e0]; exact True.intro) hs ⟨o, h1⟩ ⟨⟨(by show 1 ≤ sizeLine; decide), hd, [(kk, b, uv)], .cons ⟨rfl, rfl, ry⟩ .nil, o, es, ep, h1, h2, h3, h4, h5⟩, ⟨o, h1⟩, fun g1 g2 ⟨r1, r2, r3, r4, o', es', ep', r5, r6⟩ kp => ⟨r1, r2, r3, r4, o', es', ep', kp _ r5, r6⟩⟩
theorem call_lenN {X : Cx} : CallR X (.builtin "len") (fun xs H Q => ∃ a es, xs = [V.ref a] ∧ NdAt X.prog X.w H a es ∧ Q (.int es.length) H) := by
  intro pins s σ H xs us Q I r h
  obtain ⟨a, es, rfl, ha, q⟩ := h
  obtain ⟨u, rfl, ru⟩ := vals1 r
  cases (show u = Value.ref a from ru)
  obtain ⟨z, hd, ys, rel, dd⟩ := nd_of I ha
  have hl := Paired.length rel
  refine PyProof.Rows.call_len_slot (n := (ys.length : Int)) (nd_typeIs I ha) PySem.F.slot_dict_len (fun Q' q' => len_keyed hd ⟨ys, dd, rfl⟩ (by rw [pairsH_length]; exact q')) (by omega) (by rw [sizeLine_eq] at z; omega) ?_
  rw [← hl]
  exact ⟨.int es.length, H, I.tok _, ⟨_, rfl⟩, q⟩
/-- what such a display is -/
theorem NdAt.one {P : Program} {w : World} {H : Hp} {p b : Addr} {k : NK} {y : V} (hp : H p = some (.dK [])) (ky : KeyIs H (.ref b) k) (dp : k.depth ≤ 8) : NdAt P w (upd H p (NdO P w p [(k, b, y)])) p [(k, b, y)] :=
  NdAt.put (xs := []) (.inl ⟨rfl, hp⟩) ky dp
/-- such a dict where nothing but tuples must stay -/
theorem NdAt.go {P : Program} {w : World} {H G : Hp} {d : Addr} {xs : List NEnt} (a : NdAt P w H d xs) (e : G d = H d) (hk : ∀ a ys, H a = some (.tup ys) → G a = some (.tup ys)) : NdAt P w G d xs := by
  rcases a with ⟨z, h⟩ | ⟨h, n⟩
  · exact .inl ⟨z, e.trans h⟩
  · exact .inr ⟨e.trans h, n.firm hk⟩
section
variable {P : Program} {w : World} {K : PySem.W.Frag} {mg : Str → Option Value} {base : Heap}
structure ClsInitD (K : PySem.W.Frag) (C : Addr) (qual : Str) (st : Stmt) (ps : List Str) (dvs : List V) : Prop where
  h : ∃ (f : Addr) (fd : FuncData) (ds : List Value), Mk K C f ∧ FunD K "__init__" qual (defArgs st) (defBody st) (defScope st) dvs [] f fd ∧ Vals dvs ds ∧ Binds K fd ps ds
def OkID (P : Program) (w : World) (K : PySem.W.Frag) (mg : Str → Option Value) (base : Heap) (CX : CXT) (k : Nat) (x : Str) (C : Addr) (ps : List Str) (dvs : List V) (sp : Sp) : Prop :=
  ∃ (f : Addr) (fd : FuncData) (ds : List Value), mg x = some (.ref C) ∧ Mk K C f ∧ Vals dvs ds ∧ Binds K fd ps ds ∧ FnOk P w K mg base CX k f fd ps sp
theorem okID_of {x qual : Str} {C : Addr} {st : Stmt} {N ps : List Str} {dvs : List V} {k : Nat} {sp : Sp} (hm : mg x = some (.ref C)) (D : ClsInitD K C qual st ps dvs) (S : FnScope N ps (defScope st)) (len : ∀ vs H Q E, sp vs H Q E → vs.length = ps.length)
    (hbody : ∀ (f : Addr) (cdv : Value) (A : Around) (outer : List Env) (s : Shared) (H : Hp) (vs : List V) (Q : VK) (E : XK), Room k (A.deeper (envOfC qual (defScope st) s.heap.objs.size f cdv)) → sp vs H Q E →
      ∃ t, PSs (cxOf CX0 P w K mg base N qual (defScope st) f cdv A outer s H E) (defBody st) t ∧ t { nx := fun _ H' => Q .non H', rt := Q } (start N vs) H) : OkID P w K mg base CX0 (k + 1) x C ps dvs sp := by
  obtain ⟨f, fd, ds, M, F, r, b⟩ := D.h
  exact ⟨f, fd, ds, hm, M, r, b, F.ok S len fun cdv A outer s H vs Q E hr h => hbody f cdv A outer s H vs Q E hr h⟩
theorem init_atD {C qual : Str} {st : Stmt} {ps : List Str} {dvs : List V} (n : Nat) (g : (He.Fa.mkr C).ok K = true) (c : ∃ fd, FunD K "__init__" qual (defArgs st) (defBody st) (defScope st) dvs [] (He.ma K (He.ga K C) "__init__") fd) (hd : dvs ≠ []) (hn : n + (dvs.length - 0) = ps.length)
    (h : ∀ (T : Addr) (kV doc pm : Value) (an : Option Addr) (cdv ct : Value) (us its : List Value), us.length = n → its.length = dvs.length →
      ∃ k, bindArgs (PySem.W.fnOf "__init__" qual (defArgs st) (defBody st) (defScope st) (.ref T) kV doc pm an cdv ct) ⟨us, []⟩ = seqItems? (.ref T) >>= k ∧ k (some its.toArray) = pure (ps.zip (us ++ its.drop 0))) : ClsInitD K (He.ga K C) qual st ps dvs := by
  obtain ⟨fd, F⟩ := c
  obtain ⟨ds, r, b⟩ := F.binds1 n 0 hd hn h
  exact ⟨_, fd, ds, He.mkr_ok g, F, r, b⟩
end
end Toy

/-! == and != of dicts whose values are flat tuples; != of tuples whose items are equal -/
namespace Toy
open PySem PySem.Spec PyProof.Rows L2
open PySem.SeqAt MeetsSeq
/-- two tuples of flat things with the same items -/
def FlT (H : Hp) (x y : V) : Prop := ∃ t u xs, x = V.ref t ∧ y = V.ref u ∧ H t = some (.tup xs) ∧ H u = some (.tup xs) ∧ ∀ v ∈ xs, flatB v = true
section
variable {X : Cx} {pins : List (Addr × Obj)} {σ : L2.St} {H : Hp} {s : Shared}
theorem FlT.eqAt (I : Inv X pins σ H s) {A : Around} (hu : A.units < cLine) {x y : V} {v u : Value} (h : FlT H x y) (rx : RelV x v) (ry : RelV y u) : EqAt A s v u true := by
  obtain ⟨t, t2, xs, rfl, rfl, h1, h2, fl⟩ := h
  cases (show v = Value.ref t from rx)
  cases (show u = Value.ref t2 from ry)
  by_cases e : t = t2
  · subst e; exact EqAt.same _
  obtain ⟨us, r1, p1, _⟩ := I.tuple (SqT.of (K := X.K) h1)
  obtain ⟨ws, r2, p2, _⟩ := I.tuple (SqT.of (K := X.K) h2)
  have hsz : us.toArray.size = ws.toArray.size := by rw [List.size_toArray, List.size_toArray, ← r1.length, ← r2.length]
  have it : ∀ j (j1 : j < us.toArray.size) (j2 : j < ws.toArray.size), EqAt A.in1 s us.toArray[j] ws.toArray[j] true := by
    intro j j1 j2
    have l1 : j < us.length := by simpa using j1
    have l2 : j < ws.length := by simpa using j2
    have lx : j < xs.length := by rw [r1.length]; exact l1
    have a1 : RelV xs[j] us[j] := by
      obtain ⟨v, hv, rv⟩ := Vals.get r1 (List.getElem?_eq_getElem lx)
      rw [List.getElem?_eq_getElem l1] at hv
      cases hv; exact rv
    have a2 : RelV xs[j] ws[j] := by
      obtain ⟨v, hv, rv⟩ := Vals.get r2 (List.getElem?_eq_getElem lx)
      rw [List.getElem?_eq_getElem l2] at hv
      cases hv; exact rv
    simpa using eqAt_same a1 a2 (fl _ (List.getElem_mem lx))
  have k := RcAt.tuples (A := A) (e := fun _ => true) p1 p2 hu it
  have e1 : ((List.range (min us.toArray.size ws.toArray.size)).all (fun _ => true) && us.toArray.size == ws.toArray.size) = true := by
    rw [hsz]; simp
  rw [e1] at k
  exact EqAt.of_refs e k
theorem hits_flT (I : Inv X pins σ H s) {A : Around} (hu : A.units < cLine) {ls : List (Key × V)} {vb : List (Key × Value)} (rb : KV ls vb) {ks : List (Key × V)} {va : List (Key × Value)} (ra : KV ks va) :
    (∀ p ∈ ks, ∃ u, valV ls p.1 = some u ∧ FlT H p.2 u) → PySem.W.KeqHits A s vb va true := by
  unfold KV at ra
  induction ra with
  | nil => exact fun _ => .nil
  | @cons p q ps qs h _ ih =>
    intro hp
    obtain ⟨hk, hv⟩ := h
    obtain ⟨u, e, f⟩ := hp p List.mem_cons_self
    have rr : RelO (some u) (valueAt vb p.1) := by rw [← e]; exact rb.val p.1
    obtain ⟨y, hy, ry⟩ := rr.some_of
    obtain ⟨key, v⟩ := q
    obtain rfl : p.1 = key := hk
    have k := ih fun x m => hp x (List.mem_cons_of_mem _ m)
    have := PySem.W.KeqHits.hit (K := Key) hy (f.eqAt I hu hv ry) k
    exact this
end
section
variable {X : Cx}
/-- two dicts with the same keys, whose values are flat tuples with the same items -/
def rDkT (b : Bool) : R2 := fun x y H Q => ∃ a c ks ls, x = V.ref a ∧ y = V.ref c ∧ H a = some (.dK ks) ∧ H c = some (.dK ls) ∧ ks.length = ls.length ∧ (∀ p ∈ ks, ∃ u, valV ls p.1 = some u ∧ FlT H p.2 u) ∧ Q (.bl b) H
theorem op_eqDkT (hu : X.A.units + 64 < cLine) : OpR X (compareOp .Eq) (rDkT true) := by
  intro pins s σ H x y v u Q I rx ry h
  obtain ⟨a, c, ks, ls, rfl, rfl, ha, hc, hl, hp, q⟩ := h
  cases (show v = Value.ref a from rx)
  cases (show u = Value.ref c from ry)
  obtain ⟨_, ya, va, ra, da⟩ := (show ObjOk X.prog X.w H s.heap a (.dK ks) from I.hok a _ ha)
  obtain ⟨_, yb, vb, rb, db⟩ := (show ObjOk X.prog X.w H s.heap c (.dK ls) from I.hok c _ hc)
  have e : va.length = vb.length := by rw [← ra.length, ← rb.length]; exact hl
  exact PySem.W.keq_eq (knd := mixKind X.prog X.w) (r := true) ya yb da db (by omega) (fun _ => hits_flT I (by show X.A.units + 1 < cLine; omega) rb ra hp) ⟨.bl true, H, I, (by simp [e]; rfl), q⟩
theorem op_neDkT (hu : X.A.units + 64 < cLine) : OpR X (compareOp .NotEq) (rDkT false) := by
  intro pins s σ H x y v u Q I rx ry h
  obtain ⟨a, c, ks, ls, rfl, rfl, ha, hc, hl, hp, q⟩ := h
  cases (show v = Value.ref a from rx)
  cases (show u = Value.ref c from ry)
  obtain ⟨_, ya, va, ra, da⟩ := (show ObjOk X.prog X.w H s.heap a (.dK ks) from I.hok a _ ha)
  obtain ⟨_, yb, vb, rb, db⟩ := (show ObjOk X.prog X.w H s.heap c (.dK ls) from I.hok c _ hc)
  have e : va.length = vb.length := by rw [← ra.length, ← rb.length]; exact hl
  exact PySem.W.keq_ne (knd := mixKind X.prog X.w) (r := true) ya yb da db (by omega) (fun _ => hits_flT I (by show X.A.units + 1 < cLine; omega) rb ra hp) ⟨.bl false, H, I, (by simp [e]; rfl), q⟩
end
section
variable {P : Program} {w : World}
open AutoSeq1 (wpAny_loadPart')
/-- what != of two tuples does when their items are equal one by one: it goes through all pairs -/
theorem ne_pairs (l b : Addr) (ys zs : Array Value) (n n2 : Nat) (dd dd2 : Option Addr) (sl sl2 : Array (Option Value)) :
    MeetsIn P w (Builtin.«tuple.__ne__» ⟨[.ref l, .ref b], []⟩) fun A R s =>
      (s.heap.get? l = some { cls := .type "tuple", dict := dd, data := .seq ys n, slots := sl } ∧ s.heap.get? b = some { cls := .type "tuple", dict := dd2, data := .seq zs n2, slots := sl2 } ∧ ys.size = zs.size) ∧
      (∀ p ∈ ys.toList.zip zs.toList, EqP P w A.in1 s p.1 p.2 true) ∧ R (.ok (.ret (.bool false))) s := by
  refine .of_wp fun A R s ⟨⟨hl, hb, sz⟩, eqs, r⟩ => ?_
  obtain ⟨hp, g, d, tk, os⟩ := s
  have f2 := AutoSeq1.sub_tuple_tuple
  wp_walk using wpAny_loadPart' hl, wpAny_loadPart' hb, wpAny_forIn_list _ (fun rest c t => c.1 = none ∧ t = ⟨hp, g, d, tk, os⟩ ∧ ∃ gone, gone ++ rest = ys.toList.zip zs.toList) _
  case turn =>
    rintro ⟨y, z⟩ rest c t ⟨hc, rfl, gone, e⟩
    refine wpAny_bind (eqs (y, z) (e ▸ List.mem_append_right _ List.mem_cons_self) _ _ ?_)
    wp_walk
    exact ⟨rfl, rfl, gone ++ [(y, z)], by rw [List.append_assoc]; exact e⟩
  case fin =>
    rintro ⟨c, c2⟩ t ⟨hc, rfl, _⟩
    cases (show c = none from hc)
    wp_walk
    exact ⟨_, rfl, by simpa [Builtin.Tuple.tupleCompareSizes, bne, sz] using r⟩
  case h => exact ⟨rfl, rfl, [], rfl⟩
end
section
variable {X : Cx}
/-- two tuples whose items are equal one by one (lists and dicts of equal things among them) -/
def rNeTV (K : PySem.W.Frag) : R2 := fun x y H Q => ∃ n a c xs ys, n ≤ 60 ∧ x = V.ref a ∧ y = V.ref c ∧ SqT K H a xs ∧ SqT K H c ys ∧ Paired (EqV K H n) xs ys ∧ Q (.bl false) H
theorem op_neTV (hu : X.A.units + 64 < cLine) : OpR X (compareOp .NotEq) (rNeTV X.K) := by
  intro pins s σ H x y v u Q I rx ry h
  obtain ⟨n, a, c, xs, ys, hn, rfl, rfl, ha, hc, hp, q⟩ := h
  cases (show v = Value.ref a from rx)
  cases (show u = Value.ref c from ry)
  obtain ⟨us, r1, p1, _⟩ := I.tuple ha
  obtain ⟨ws, r2, p2, _⟩ := I.tuple hc
  have sz : us.toArray.size = ws.toArray.size := by
    rw [List.size_toArray, List.size_toArray, ← r1.length, ← r2.length]
    exact Paired.length hp
  have it := items_run (fun x y v u => eqV_run I n X.A.in1 (by show X.A.units + 1 + n < cLine; omega) x y v u) hp r1 r2
  have prs : ∀ p ∈ us.zip ws, EqP X.prog X.w X.A.in1 s p.1 p.2 true := by
    intro p m
    obtain ⟨j, hj⟩ := List.getElem?_of_mem m
    obtain ⟨e1, e2⟩ := List.getElem?_zip_eq_some.mp hj
    obtain ⟨l1, g1⟩ := List.getElem?_eq_some_iff.mp e1
    obtain ⟨l2, g2⟩ := List.getElem?_eq_some_iff.mp e2
    rw [← g1, ← g2]
    exact it j l1 l2
  obtain ⟨⟨cls, dd, data, sl⟩, ho, hc1, m1, hd⟩ := p1
  obtain ⟨⟨cls2, dd2, data2, sl2⟩, ho2, hc2, m2, hd2⟩ := p2
  simp only at hc1 hd hc2 hd2
  subst hc1 hd hc2 hd2
  have ta : s.TypeIs (.ref a) "tuple" := ⟨_, ho, rfl⟩
  have tb : s.TypeIs (.ref c) "tuple" := ⟨_, ho2, rfl⟩
  exact wpAny_richCompare_same_room (op := .NotEq) ta tb F.slot_tuple_ne (call_meetsIn F.slot_tuple_ne ta F.entry_tuple_ne (F.args_tuple_ne_2 _ _) (ne_pairs a c us.toArray ws.toArray m1 m2 dd dd2 sl sl2)
    ⟨⟨ho, ho2, sz⟩, by simpa using prs, (fun z => nomatch z), ⟨.bl false, H, I, rfl, q⟩⟩) (by omega)
end
end Toy

/-! == of tuples and dicts, nested, with either answer -/
namespace Toy
open PySem PySem.Spec PyProof.Rows L2
open PySem.SeqAt (EqAt)
open PySem.W (EqTree)
/-- a whole number or None -/
def numV : V → Bool
  | .non => true
  | .int _ => true
  | _ => false
/-- what a comparison of nested things answers -/
inductive ETr (K : PySem.W.Frag) (H : Hp) : Nat → V → V → Bool → Prop
  | flat {n : Nat} {x y : V} : numV x = true → numV y = true → ETr K H n x y (decide (x = y))
  | same {n : Nat} {a : Addr} : ETr K H n (.ref a) (.ref a) true
  | tups {n : Nat} {a b : Addr} {xs ys : List V} {e : Nat → Bool} : a ≠ b → SqT K H a xs → SqT K H b ys → (∀ (j : Nat) x y, xs[j]? = some x → ys[j]? = some y → ETr K H n x y (e j)) →
      ETr K H (n + 1) (.ref a) (.ref b) ((List.range (min xs.length ys.length)).all e && xs.length == ys.length)
  | dicts {n : Nat} {a b : Addr} {ks ls : List (Key × V)} {e : Key → Bool} : a ≠ b → H a = some (.dK ks) → H b = some (.dK ls) → (∀ p ∈ ks, ∀ u, valV ls p.1 = some u → ETr K H n p.2 u (e p.1)) →
      ETr K H (n + 1) (.ref a) (.ref b) (ks.length == ls.length && ks.all fun p => (valV ls p.1).isSome && e p.1)
theorem num_eqAt {A : Around} {s : Shared} {x y : V} {v u : Value} (hx : numV x = true) (hy : numV y = true) (rx : RelV x v) (ry : RelV y u) : EqAt A s v u (decide (x = y)) := by
  cases x with
  | non =>
    cases (show v = Value.none from rx)
    cases y with
    | non => cases (show u = Value.none from ry); exact (EqAt.same _).cast (by simp)
    | int j => obtain ⟨t, rfl⟩ := (show ∃ t, u = Value.int j t from ry); exact (EqAt.none_int j t).cast (by simp)
    | _ => cases hy
  | int i =>
    obtain ⟨t, rfl⟩ := (show ∃ t, v = Value.int i t from rx)
    cases y with
    | non => cases (show u = Value.none from ry); exact (EqAt.int_none i t).cast (by simp)
    | int j =>
      obtain ⟨t2, rfl⟩ := (show ∃ t, u = Value.int j t from ry)
      refine (EqAt.int_int i t j t2).cast ?_
      rw [Bool.eq_iff_iff, beq_iff_eq, decide_eq_true_iff]
      exact ⟨fun e => by rw [e], fun e => by injection e⟩
    | _ => cases hy
  | _ => cases hx
theorem kv_all {ks : List (Key × V)} {va : List (Key × Value)} {ls : List (Key × V)} {vb : List (Key × Value)} (ra : KV ks va) (rb : KV ls vb) (e : Key → Bool) :
    (va.all fun p => (valueAt vb p.1).isSome && e p.1) = ks.all fun p => (valV ls p.1).isSome && e p.1 := by
  unfold KV at ra
  induction ra with
  | nil => rfl
  | @cons p q ps qs h _ ih =>
    obtain ⟨hk, _⟩ := h
    have r := rb.val p.1
    have i : (valueAt vb q.1).isSome = (valV ls p.1).isSome := by
      have hk : p.1 = q.1 := hk
      rw [← hk]
      cases h1 : valV ls p.1 with
      | none => rw [h1] at r; rw [r.none_of]; rfl
      | some u => rw [h1] at r; obtain ⟨y, hy, _⟩ := r.some_of; rw [hy]; rfl
    rw [List.all_cons, List.all_cons, i, ih, show p.1 = q.1 from hk]
section
variable {X : Cx} {pins : List (Addr × Obj)} {σ : L2.St} {H : Hp} {s : Shared}
theorem tup_sides {K : PySem.W.Frag} {n : Nat} {R : V → V → Bool → Prop} {xs ys : List V} {us ws : List Value} {e : Nat → Bool} (r1 : Vals xs us) (r2 : Vals ys ws) (h : ∀ (j : Nat) x y, xs[j]? = some x → ys[j]? = some y → R x y (e j))
    {T : Value → Value → Bool → Prop} (run : ∀ x y b v u, R x y b → RelV x v → RelV y u → T v u b) : ∀ j (h1 : j < us.toArray.size) (h2 : j < ws.toArray.size), T us.toArray[j] ws.toArray[j] (e j) := by
  intro j j1 j2
  have l1 : j < us.length := by simpa using j1
  have l2 : j < ws.length := by simpa using j2
  have x1 : j < xs.length := by rw [r1.length]; exact l1
  have x2 : j < ys.length := by rw [r2.length]; exact l2
  obtain ⟨v, hv, rv⟩ := Vals.get r1 (List.getElem?_eq_getElem x1)
  obtain ⟨u, hu, ru⟩ := Vals.get r2 (List.getElem?_eq_getElem x2)
  rw [List.getElem?_eq_getElem l1] at hv
  rw [List.getElem?_eq_getElem l2] at hu
  have := run _ _ _ _ _ (h j _ _ (List.getElem?_eq_getElem x1) (List.getElem?_eq_getElem x2)) rv ru
  rw [← Option.some.inj hv, ← Option.some.inj hu] at this
  simpa using this
theorem dict_sides {R : V → V → Bool → Prop} {T : Value → Value → Bool → Prop} {ks ls : List (Key × V)} {va vb : List (Key × Value)} {e : Key → Bool} (ra : KV ks va) (rb : KV ls vb) (h : ∀ p ∈ ks, ∀ u, valV ls p.1 = some u → R p.2 u (e p.1))
    (run : ∀ x y b v u, R x y b → RelV x v → RelV y u → T v u b) : ∀ k v y, (k, v) ∈ va → valueAt vb k = some y → T v y (e k) := by
  intro k v y m hy
  obtain ⟨i, hi⟩ := List.getElem?_of_mem m
  obtain ⟨p, hp, hk, hv⟩ := prd_at2 (show Paired _ ks va from ra) hi
  have hk : p.1 = k := hk
  have r := rb.val p.1
  rw [hk, hy] at r
  obtain ⟨u, hu, ru⟩ : ∃ u, valV ls k = some u ∧ RelV u y := by
    cases h1 : valV ls k with
    | none => rw [h1] at r; cases r.none_of
    | some u =>
      rw [h1] at r
      obtain ⟨y', e1, r'⟩ := r.some_of
      cases e1
      exact ⟨u, rfl, r'⟩
  have := run _ _ _ _ _ (h p (List.mem_of_getElem? hp) u (by rw [hk]; exact hu)) hv ru
  rw [hk] at this
  exact this
theorem ETr.tree (I : Inv X pins σ H s) {n : Nat} {x y : V} {b : Bool} (t : ETr X.K H n x y b) : ∀ v u, RelV x v → RelV y u → EqTree X.prog X.w s n v u b := by
  induction t with
  | flat hx hy => exact fun v u rx ry => .leaf fun A _ => num_eqAt hx hy rx ry
  | same =>
    intro v u rx ry
    cases (show v = Value.ref _ from rx)
    cases (show u = Value.ref _ from ry)
    exact .same
  | @tups n a b xs ys e ne ha hb _ ih =>
    intro v u rx ry
    cases (show v = Value.ref a from rx)
    cases (show u = Value.ref b from ry)
    obtain ⟨us, r1, p1, _⟩ := I.tuple ha
    obtain ⟨ws, r2, p2, _⟩ := I.tuple hb
    have k := EqTree.tuples (n := n) ne p1 p2 (tup_sides (K := X.K) (n := n) (R := fun x y b => ∀ v u, RelV x v → RelV y u → EqTree X.prog X.w s n v u b) r1 r2 (fun j x y h1 h2 => ih j x y h1 h2) (T := EqTree X.prog X.w s n) fun x y b v u r rv ru => r v u rv ru)
    rw [List.size_toArray, List.size_toArray, ← r1.length, ← r2.length] at k
    exact k
  | @dicts n a b ks ls e ne ha hb _ ih =>
    intro v u rx ry
    cases (show v = Value.ref a from rx)
    cases (show u = Value.ref b from ry)
    obtain ⟨_, ya, va, ra, da⟩ := (show ObjOk X.prog X.w H s.heap a (.dK ks) from I.hok a _ ha)
    obtain ⟨_, yb, vb, rb, db⟩ := (show ObjOk X.prog X.w H s.heap b (.dK ls) from I.hok b _ hb)
    have k := EqTree.dicts (n := n) (e := e) ne ya yb da db (dict_sides (R := fun x y b => ∀ v u, RelV x v → RelV y u → EqTree X.prog X.w s n v u b) ra rb (fun p m u hu => ih p m u hu) (T := EqTree X.prog X.w s n) fun x y b v u r rv ru => r v u rv ru)
    rw [kv_all ra rb, ← ra.length, ← rb.length] at k
    exact k
end
section
variable {X : Cx}
/-- two other tuples or dicts, compared item by item -/
def rEqT (K : PySem.W.Frag) : R2 := fun x y H Q => ∃ n b, n ≤ 60 ∧ ETr K H n x y b ∧ (∃ a c, a ≠ c ∧ x = .ref a ∧ y = .ref c) ∧ Q (.bl b) H
theorem op_eqT (hu : X.A.units + 64 < cLine) : OpR X (compareOp .Eq) (rEqT X.K) := by
  intro pins s σ H x y v u Q I rx ry h
  obtain ⟨n, b, hn, t, ⟨a, c, ne, rfl, rfl⟩, q⟩ := h
  cases (show v = Value.ref a from rx)
  cases (show u = Value.ref c from ry)
  cases t with
  | flat hx _ => cases hx
  | same => exact absurd rfl ne
  | @tups n _ _ xs ys e _ ha hb it =>
    obtain ⟨us, r1, p1, _⟩ := I.tuple ha
    obtain ⟨ws, r2, p2, _⟩ := I.tuple hb
    refine PySem.W.eq_tuplesT (n := n) (e := e) p1 p2 (tup_sides (K := X.K) (n := n) r1 r2 it (T := EqTree X.prog X.w s n) fun x y b v u r rv ru => r.tree I v u rv ru) (by omega) ⟨.bl _, H, I, rfl, ?_⟩
    rw [List.size_toArray, List.size_toArray, ← r1.length, ← r2.length]
    exact q
  | @dicts n _ _ ks ls e _ ha hb it =>
    obtain ⟨_, ya, va, ra, da⟩ := (show ObjOk X.prog X.w H s.heap a (.dK ks) from I.hok a _ ha)
    obtain ⟨_, yb, vb, rb, db⟩ := (show ObjOk X.prog X.w H s.heap c (.dK ls) from I.hok c _ hb)
    refine PySem.W.eq_dictsT (n := n) (e := e) ya yb da db (dict_sides ra rb it (T := EqTree X.prog X.w s n) fun x y b v u r rv ru => r.tree I v u rv ru) (by omega) ⟨.bl _, H, I, rfl, ?_⟩
    rw [kv_all ra rb, ← ra.length, ← rb.length]
    exact q
end
end Toy

/-! == and != of two instances by the own __eq__ of their class, with either answer -/
namespace Toy
open PySem PySem.Spec PyProof.Rows L2
/-- what an own __eq__ promises: an answer that is told by R -/
def spCmp (R : Addr → Addr → Hp → Bool → Prop) : Sp := fun vs H Q _ => ∃ a b k, vs = [.ref a, .ref b] ∧ R a b H k ∧ ∀ H', L2.Ext H H' → Q (.bl k) H'
/-- the class at C leaves != to object -/
structure NoNe (K : PySem.W.Frag) (C : Addr) : Prop where
  ne : PySem.W.findIn K (.ref C) "__ne__" = some (some (.builtin "object.__ne__"))
  obj : PySem.W.mroIn K C (.type "object") = some true
/-- its flag in a head -/
def noneB (K : PySem.W.Frag) (x : Str) : Bool := decide ((PySem.W.findIn K (.ref (He.ga K x)) "__ne__", PySem.W.mroIn K (He.ga K x) (.type "object")) = (some (some (.builtin "object.__ne__")), some true))
theorem noneB_ok {K : PySem.W.Frag} {x : Str} (h : noneB K x = true) : NoNe K (He.ga K x) :=
  ⟨congrArg (·.1) (of_decide_eq_true h), congrArg (·.2) (of_decide_eq_true h)⟩
section
variable {prog : Program} {w : World} {A : Around} {E : Value → Shared → Prop} {s : Shared} {K : PySem.W.Frag} {x y C f : Addr} {ox oy : Obj} {od od' : Option Obj}
/-- object's own __ne__ turns what __eq__ answers round -/
theorem objNe_by (X : K.In s.heap) (I : PySem.W.InstAt s.heap x ox C od) (hs : PySem.W.findIn K (.ref C) "__eq__" = some (some (.ref f))) (hf : PySem.W.isFn K (.ref f) = true) (hu : A.units < cLine) {Q : Fin → Shared → Prop} {k : Bool} {J : Shared → Prop}
    (run : wpAny (model prog w) A (call (.ref f) [.ref x, .ref y]) (fun v t => v = .bool k ∧ J t) E s) (q : ∀ t, J t → Q (.done (.ret (.bool (!k)))) t) : wpAny (model prog w) A (Builtin.«object.__ne__» ⟨[.ref x, .ref y], []⟩) Q E s := by
  unfold Builtin.«object.__ne__»
  have asks : wpAny (model prog w) A (callSpecialIfBound? (.ref x) "__eq__" [.ref y]) (fun r t => r = some (.bool k) ∧ J t) E s :=
    PySem.W.ifBound_K X I hs hf (wpAny_mono run (fun v t ⟨e, j⟩ => ⟨by rw [e], j⟩) fun _ _ e => e)
  repeat (first
    | with_reducible refine wpAny_cRoomFor hu ?_
    | (refine wpAny_bind (m := callSpecialIfBound? (.ref x) "__eq__" [.ref y]) (wpAny_mono asks (fun r t z => ?_) fun _ _ e => e); obtain ⟨rfl, j⟩ := z)
    | (refine wpAny_bind (m := truthy (.bool _)) (wpAny_truthy_bool ?_))
    | wp_step)
  exact q _ j
/-- != of two instances of a class without an own __ne__ -/
theorem ne_by (X : K.In s.heap) (I : PySem.W.InstAt s.heap x ox C od) (I' : PySem.W.InstAt s.heap y oy C od') (N : NoNe K C) (hs : PySem.W.findIn K (.ref C) "__eq__" = some (some (.ref f))) (hf : PySem.W.isFn K (.ref f) = true) (hu : A.units + 1 < cLine) {Q : Value → Shared → Prop} {k : Bool} {J : Shared → Prop}
    (run : wpAny (model prog w) A.in1 (call (.ref f) [.ref x, .ref y]) (fun v t => v = .bool k ∧ J t) E s) (q : ∀ t, J t → Q (.bool (!k)) t) : wpAny (model prog w) A (richCompare .NotEq (.ref x) (.ref y)) Q E s := by
  have slot : wpAny (model prog w) A (call (.builtin "object.__ne__") [.ref x, .ref y]) (fun v t => v = .bool (!k) ∧ J t) E s :=
    wpAny_call (codeAny_call_builtin F.cmp_object.ne.plain F.cmpEntry_ne (PySem.W.check_slot F.cmpKind_ne F.cmpSplit_ne (I.type.andThen (PySem.W.looks_mroIn X N.obj)) (F.cmpArgs_ne _ _)
      (objNe_by (A := A.in1) X I hs hf hu run fun t j => ⟨rfl, j⟩)))
  have found : wpAny (model prog w) A (callSpecialIfBound? (.ref x) "__ne__" [.ref y]) (fun r t => r = some (.bool (!k)) ∧ J t) E s := by
    have tail : wpAny (model prog w) A (call (.builtin "object.__ne__") ([.ref x] ++ [.ref y]) >>= fun v => pure (some v)) (fun r t => r = some (.bool (!k)) ∧ J t) E s :=
      wpAny_bind (wpAny_mono slot (fun v t ⟨e, j⟩ => wpAny_pure ⟨by rw [e], j⟩) fun _ _ e => e)
    simp only [callSpecialIfBound?, bindSpecialIfBound?]
    refine wpAny_holding (wpAny_bind (wpAny_bind (wpAny_bind (I.type.here ((PySem.W.looks_findIn X N.ne).here ?_)))))
    refine wpAny_bind (wpAny_askSetting (wpAny_ite ?_))
    split
    · exact wpAny_bind (wpAny_of_eq (F.cmp_object.ne.bind _) (wpAny_pure (by exact tail)))
    · exact wpAny_tryCatch (wpAny_bind (wpAny_of_eq (F.cmp_object.ne.bind _) (wpAny_pure (by exact tail))))
  unfold richCompare
  simp only [oneThing_ref]
  refine wpAny_holding (wpAny_bind (wpAny_cRoomFor (Nat.lt_of_succ_lt hu) ?_))
  refine wpAny_bind (I.type.here (wpAny_bind (I'.type.here ?_)))
  rw [show (Value.ref C != Value.ref C) = false from by simp]
  refine wpAny_bind (wpAny_pure ?_)
  simp only [Bool.false_eq_true, if_false]
  refine wpAny_bind (m := tryCompare (.ref x) _ (.ref y)) (wpAny_bind (wpAny_mono found (fun r t z => ?_) fun _ _ e => e))
  obtain ⟨rfl, j⟩ := z
  exact wpAny_pure (wpAny_pure (q t j))
end
section
variable {X : Cx} {n : Nat} {CX : CXT} {C f : Addr} {fd : FuncData} {ps : List Str} {R : Addr → Addr → Hp → Bool → Prop} {E : XK}
/-- the own __eq__ run from within an expression -/
theorem own_run (F : FnOk X.prog X.w X.K X.mg X.base CX n f fd ps (spCmp R)) (hb : Binds X.K fd ps []) (hx : Passes CX X E) {A : Around} (sb : Sub X n A) {pins : List (Addr × Obj)} {σ : L2.St} {H : Hp} {s : Shared} (I : Inv X pins σ H s) {a b : Addr} {k : Bool} (r : R a b H k) :
    wpAny (model X.prog X.w) A (call (.ref f) [.ref a, .ref b]) (fun v t => v = .bool k ∧ ∃ H', Inv X pins σ H' t ∧ L2.Ext H H') X.xe s := by
  have promise : spCmp R [.ref a, .ref b] H (fun v G => v = .bl k ∧ L2.Ext H G) E := ⟨a, b, k, rfl, r, fun G e => ⟨rfl, e⟩⟩
  have two : ps.length = 2 := (F.len _ _ _ _ promise).symm
  have at0 : Env0 X.prog X.w X.K X.mg X.base A X.stack s H := by
    obtain ⟨fr, md, bs, bz, fn, ff, hk, br⟩ := I.env0
    exact ⟨sb.fr ▸ fr, md, bs, bz, fn, ff, hk, br⟩
  have bound := hb s [.ref a, .ref b] I.kIn (by rw [two]; rfl)
  refine wpAny_call (codeAny_mono (F.run A X.stack s H ⟨[.ref a, .ref b], []⟩ [.ref a, .ref b] [.ref a, .ref b] _ E sb.room at0 (by simpa using bound) (.cons rfl (.cons rfl .nil)) promise) ?_)
  intro out t h
  rcases out with e | fl
  · exact hx pins σ H s e t I h
  · cases fl with
    | ret v =>
      obtain ⟨z, G, J, rz, rfl, ex⟩ := I.after h
      exact ⟨rz, G, J, ex⟩
    | _ => exact h.elim
def rCmp (C : Addr) (R : Addr → Addr → Hp → Bool → Prop) (no : Bool) : R2 := fun x y H Q => ∃ a b dx dy fs gs k, x = V.ref a ∧ y = V.ref b ∧ H a = some (.ins C dx fs) ∧ H b = some (.ins C dy gs) ∧ R a b H k ∧ ∀ G, L2.Ext H G → Q (.bl (no ^^ k)) G
variable (F : FnOk X.prog X.w X.K X.mg X.base CX n f fd ps (spCmp R)) (hs : PySem.W.findIn X.K (.ref C) "__eq__" = some (some (.ref f))) (hf : PySem.W.isFn X.K (.ref f) = true) (hb : Binds X.K fd ps []) (hx : Passes CX X E)
include F hs hf hb hx
theorem op_eqO (hr : Room n X.A) : OpR X (compareOp .Eq) (rCmp C R false) := by
  intro pins s σ H x y v u Q I rx ry h
  obtain ⟨a, b, dx, dy, fs, gs, k, rfl, rfl, ha, hb', r, q⟩ := h
  cases (show v = Value.ref a from rx)
  cases (show u = Value.ref b from ry)
  have sb : Sub X n X.A := ⟨hr, rfl⟩
  obtain ⟨_, O, _⟩ := ins_get I.hok ha
  obtain ⟨_, O', _⟩ := ins_get I.hok hb'
  obtain ⟨_, J, _⟩ := O.look
  obtain ⟨_, J', _⟩ := O'.look
  obtain ⟨m, hF⟩ := I.fr
  refine PySem.W.cmp_K (op := .Eq) (tb := .ref C) sb.room.units0 hF I.ok.mod.kin J J'.type (by simp [PySem.W.notFirst]) hs hf (wpAny_mono (own_run F hb hx sb I r) (fun w t z => ?_) fun _ _ e => e)
  obtain ⟨rfl, G, I', ex⟩ := z
  have q := q G ex
  rw [Bool.false_xor] at q
  exact ⟨.bl k, G, I', rfl, q⟩
theorem op_neO (N : NoNe X.K C) (hr : Room (n + 1) X.A) : OpR X (compareOp .NotEq) (rCmp C R true) := by
  intro pins s σ H x y v u Q I rx ry h
  obtain ⟨a, b, dx, dy, fs, gs, k, rfl, rfl, ha, hb', r, q⟩ := h
  cases (show v = Value.ref a from rx)
  cases (show u = Value.ref b from ry)
  have sb : Sub X (n + 1) X.A := ⟨hr, rfl⟩
  obtain ⟨_, O, _⟩ := ins_get I.hok ha
  obtain ⟨_, O', _⟩ := ins_get I.hok hb'
  obtain ⟨_, J, _⟩ := O.look
  obtain ⟨_, J', _⟩ := O'.look
  refine ne_by I.kIn J J' N hs hf sb.in1.room.units0 (own_run F hb hx sb.in1 I r) fun t z => ?_
  obtain ⟨G, I', ex⟩ := z
  have q := q G ex
  rw [Bool.true_xor] at q
  exact ⟨.bl (!k), G, I', rfl, q⟩
end
end Toy

/-! texts: joined, of numbers; lists of texts and of numbers or None as data -/
namespace Toy
open PySem PySem.Spec PyProof.Rows L2
theorem str_assoc (a b c : Str) : a ++ b ++ c = a ++ (b ++ c) := by
  show (⟨_⟩ : Str) = ⟨_⟩
  congr 1
  exact Array.append_assoc ..
theorem str_nil (a : Str) : a ++ (Str.empty : Str) = a := by
  show (⟨_⟩ : Str) = a
  cases a with | mk c => exact congrArg Str.mk (Array.append_empty ..)
theorem nil_str (a : Str) : (Str.empty : Str) ++ a = a := by
  show (⟨_⟩ : Str) = a
  cases a with | mk c => exact congrArg Str.mk (Array.empty_append ..)
/-- texts one behind another -/
def catT : List Str → Str
  | [] => Str.empty
  | x :: r => x ++ catT r
theorem catT_app : ∀ a b : List Str, catT (a ++ b) = catT a ++ catT b
  | [], b => (nil_str _).symm
  | x :: r, b => by
    show x ++ catT (r ++ b) = x ++ catT r ++ catT b
    rw [catT_app r b, str_assoc]
theorem catT_snoc (a : List Str) (x : Str) : catT (a ++ [x]) = catT a ++ x := by
  rw [catT_app]
  show catT a ++ (x ++ Str.empty) = _
  rw [str_nil]
theorem fold_cps (g : Array Nat) : ∀ (r : List Str) (a b : Array Nat), List.foldl (fun acc (p : Str) => acc ++ g ++ p.cps) (a ++ b) r = a ++ List.foldl (fun acc (p : Str) => acc ++ g ++ p.cps) b r
  | [], _, _ => rfl
  | x :: r, a, b => by
    show List.foldl _ (a ++ b ++ g ++ x.cps) r = a ++ List.foldl _ (b ++ g ++ x.cps) r
    rw [Array.append_assoc, Array.append_assoc, fold_cps g r, Array.append_assoc]
theorem join_nil (s : Str) : Txt.join s [] = Str.empty := rfl
theorem join_one (s x : Str) : Txt.join s [x] = x := rfl
theorem join_cons (s x y : Str) (r : List Str) : Txt.join s (x :: y :: r) = x ++ (s ++ Txt.join s (y :: r)) := by
  show (⟨List.foldl (fun acc (p : Str) => acc ++ s.cps ++ p.cps) (x.cps ++ s.cps ++ y.cps) r⟩ : Str) = ⟨x.cps ++ (s.cps ++ List.foldl (fun acc (p : Str) => acc ++ s.cps ++ p.cps) y.cps r)⟩
  rw [Array.append_assoc, fold_cps, fold_cps]
theorem join_more (s x : Str) {l : List Str} (h : l ≠ []) : Txt.join s (x :: l) = x ++ (s ++ Txt.join s l) := by
  cases l with
  | nil => exact absurd rfl h
  | cons y r => exact join_cons s x y r
theorem join_cat : ∀ l : List Str, Txt.join Str.empty l = catT l
  | [] => rfl
  | [x] => (str_nil x).symm
  | x :: y :: r => by
    rw [join_cons, join_cat (y :: r), nil_str]; rfl
theorem len_cat : ∀ l : List Str, (catT l).length = (l.map (·.length)).sum
  | [] => rfl
  | x :: r => by
    rw [List.map_cons, List.sum_cons, ← len_cat r]
    exact PySem.Str.length_append _ _
theorem len_join (s : Str) : ∀ l : List Str, (Txt.join s l).length ≤ (l.map (·.length)).sum + l.length * s.length
  | [] => Nat.zero_le _
  | [x] => by rw [join_one]; simp
  | x :: y :: r => by
    have h := len_join s (y :: r)
    rw [join_cons, PySem.Str.length_append, PySem.Str.length_append, List.map_cons, List.sum_cons, List.length_cons, Nat.add_mul]
    omega
/-- the text of a number -/
def numS (i : Int) : Str := Str.ofString (toString i)
theorem numS_len {i : Int} (h : 0 ≤ i) (k : i < 100) : (numS i).length ≤ 2 := by
  have e : ∀ i : _root_.Fin 100, (numS ((i.val : Nat) : Int)).length ≤ 2 := by decide +kernel
  have := e ⟨i.toNat, by omega⟩
  simp only [Int.toNat_of_nonneg h] at this
  exact this
theorem num_log {i : Int} (h : 0 ≤ i) (k : i < 100) : i.natAbs.log2 < 1920 := by
  have : i.natAbs.log2 ≤ i.natAbs := Nat.log2_le_self _
  omega
/-- the text of a price or None -/
def priS : Option Int → Str
  | none => "-"
  | some i => numS i
theorem priS_len {x : Option Int} (h : ∀ i, x = some i → 0 ≤ i ∧ i < 100) : (priS x).length ≤ 2 := by
  cases x with
  | none => decide +kernel
  | some i => exact numS_len (h i rfl).1 (h i rfl).2
theorem sum_le {α : Type} {f : α → Nat} {m : Nat} : ∀ {l : List α}, (∀ x ∈ l, f x ≤ m) → (l.map f).sum ≤ l.length * m
  | [], _ => by simp
  | x :: r, h => by
    have h1 := h x List.mem_cons_self
    have h2 := sum_le (l := r) fun y hy => h y (List.mem_cons_of_mem _ hy)
    rw [List.map_cons, List.sum_cons, List.length_cons, Nat.add_mul]
    omega
/-! as data -/
theorem low_okT {z : Str} (h : Low z) : PyData.strOk z = true := by
  unfold PyData.strOk
  rw [Array.all_eq_true]
  intro i hi
  have := h.c z.cps[i] (Array.mem_toList_iff.mpr (Array.getElem_mem hi))
  exact decide_eq_true (by omega)
theorem tdp_strs {K : PySem.W.Frag} {H : Hp} : ∀ zs : List Str, DpAll K H (zs.map V.str) (zs.map PyData.str)
  | [] => .nil
  | z :: r => .cons (.str z) (tdp_strs r)
theorem teqv_strs : ∀ a b : List Str, PyData.eqvAll (a.map PyData.str) (b.map PyData.str) = decide (a = b)
  | [], [] => by simp [PyData.eqvAll]
  | [], _ :: _ => by simp [PyData.eqvAll]
  | _ :: _, [] => by simp [PyData.eqvAll]
  | x :: r, y :: t => by
    have h := teqv_strs r t
    simp only [List.map_cons, PyData.eqvAll, h, PyData.eqv]
    by_cases e : x = y <;> by_cases f : r = t <;> simp [e, f]
theorem tstrL_eqv (a b : List Str) : PyData.eqv (.list (a.map PyData.str)) (.list (b.map PyData.str)) = decide (a = b) := by
  simp only [PyData.eqv]; exact teqv_strs a b
/-- a list of data that can be laid and are flat enough -/
theorem tlstD {ds : List PyData} (h : ∀ d ∈ ds, PyData.canLay0 d = true ∧ PyData.depth d ≤ 8) : SeqAt.shaped (.list ds) = true := by
  have a : PyData.canLayAll0 ds = true ∧ PyData.depthAll ds ≤ 9 := by
    induction ds with
    | nil => simp [PyData.canLayAll0, PyData.depthAll]
    | cons x t ih =>
      obtain ⟨i1, i2⟩ := ih fun d m => h d (List.mem_cons_of_mem _ m)
      obtain ⟨x1, x2⟩ := h x List.mem_cons_self
      refine ⟨by simp [PyData.canLayAll0, x1, i1], ?_⟩
      simp only [PyData.depthAll]
      omega
  have c : PyData.canLay0 (.list ds) = true := by simp only [PyData.canLay0]; exact a.1
  have d : PyData.depth (.list ds) ≤ 64 := by simp only [PyData.depth]; omega
  show (PyData.canLay0 (.list ds) && decide (PyData.depth (.list ds) ≤ 64)) = true
  rw [c, decide_eq_true d]; rfl
theorem tshaped_strs {zs : List Str} (h : ∀ z ∈ zs, Low z) : SeqAt.shaped (.list (zs.map PyData.str)) = true := tlstD fun d m => by
  obtain ⟨z, mz, rfl⟩ := List.mem_map.mp m
  exact ⟨by simp [PyData.canLay0, low_okT (h z mz)], by simp [PyData.depth]⟩
def optD : Option Int → PyData
  | none => .none
  | some i => .int i
theorem tdp_opts {K : PySem.W.Frag} {H : Hp} : ∀ xs : List (Option Int), DpAll K H (xs.map vO) (xs.map optD)
  | [] => .nil
  | none :: r => .cons .non (tdp_opts r)
  | some i :: r => .cons (.int i) (tdp_opts r)
theorem teqv_opts : ∀ a b : List (Option Int), PyData.eqvAll (a.map optD) (b.map optD) = decide (a = b)
  | [], [] => by simp [PyData.eqvAll]
  | [], _ :: _ => by simp [PyData.eqvAll]
  | _ :: _, [] => by simp [PyData.eqvAll]
  | x :: r, y :: t => by
    have h := teqv_opts r t
    have e0 : PyData.eqv (optD x) (optD y) = decide (x = y) := by
      cases x <;> cases y <;> simp [optD, PyData.eqv]
      rw [Bool.eq_iff_iff, beq_iff_eq, decide_eq_true_iff]
    simp only [List.map_cons, PyData.eqvAll, h, e0]
    by_cases e : x = y <;> by_cases f : r = t <;> simp [e, f]
theorem toptL_eqv (a b : List (Option Int)) : PyData.eqv (.list (a.map optD)) (.list (b.map optD)) = decide (a = b) := by
  simp only [PyData.eqv]; exact teqv_opts a b
theorem tshaped_opts (xs : List (Option Int)) : SeqAt.shaped (.list (xs.map optD)) = true := tlstD fun d m => by
  obtain ⟨z, mz, rfl⟩ := List.mem_map.mp m
  cases z <;> exact ⟨by simp [optD, PyData.canLay0], by simp [optD, PyData.depth]⟩
/-- the beginning of a name -/
theorem cut8 {z : Str} (h1 : 1 ≤ z.length) (h : Low z) : Name 8 (cutS z none (some 8)) := by
  have e : HT.sIx z.length 0 none = 0 := rfl
  have e2 : HT.sIx z.length z.length (some 8) = min 8 z.length := by
    unfold HT.sIx
    show (if (8 : Int) < 0 then _ else min (8 : Int).toNat z.length) = _
    rw [if_neg (by omega)]; rfl
  have ec : (cutS z none (some 8)).cps = (z.cps.toList.take (min 8 z.length)).toArray := by
    unfold cutS
    rw [e, e2]; rfl
  have el : (cutS z none (some 8)).length = min (min 8 z.length) z.length := by
    show (cutS z none (some 8)).cps.size = _
    rw [ec, List.size_toArray, List.length_take, Array.length_toList]; rfl
  refine ⟨by rw [el]; omega, by rw [el]; omega, ⟨fun x hx => ?_⟩⟩
  rw [ec, List.toList_toArray] at hx
  exact h.c x (List.mem_of_mem_take hx)
theorem low_two {a b : Str} (h1 : Low a) (h2 : Low b) : Low (a ++ b) := ⟨fun x hx => by
  have e : (a ++ b).cps = a.cps ++ b.cps := rfl
  rw [e, Array.toList_append] at hx
  rcases List.mem_append.mp hx with q | q
  · exact h1.c x q
  · exact h2.c x q⟩
end Toy

/-! == of two tuples that hold the same things: flat ones, tuples and dicts in them, of any depth -/
namespace Toy
open PySem PySem.Spec PyProof.Rows L2
open PySem.SeqAt (EqAt)
open PySem.W (EqTree)
/-- the same things -/
inductive SameT (K : PySem.W.Frag) (H : Hp) : Nat → V → V → Prop
  | flat {n : Nat} {x : V} : flatB x = true → SameT K H n x x
  | same {n : Nat} {a : Addr} : SameT K H n (.ref a) (.ref a)
  | tups {n : Nat} {a b : Addr} {xs ys : List V} : SqT K H a xs → SqT K H b ys → xs.length = ys.length → (∀ (j : Nat) x y, xs[j]? = some x → ys[j]? = some y → SameT K H n x y) → SameT K H (n + 1) (.ref a) (.ref b)
  | dicts {n : Nat} {a b : Addr} {ks ls : List (Key × V)} {u : Key → V} : H a = some (.dK ks) → H b = some (.dK ls) → ks.length = ls.length → (∀ p ∈ ks, valV ls p.1 = some (u p.1)) → (∀ p ∈ ks, SameT K H n p.2 (u p.1)) → SameT K H (n + 1) (.ref a) (.ref b)
/-- two dicts of the same keys -/
theorem SameT.ofDicts {K : PySem.W.Frag} {H : Hp} {n : Nat} {a b : Addr} {ks ls : List (Key × V)} (ha : H a = some (.dK ks)) (hb : H b = some (.dK ls)) (hl : ks.length = ls.length) (h : ∀ p ∈ ks, ∃ u, valV ls p.1 = some u ∧ SameT K H n p.2 u) : SameT K H (n + 1) (.ref a) (.ref b) := by
  refine .dicts (u := fun k => (valV ls k).getD .non) ha hb hl (fun p m => ?_) (fun p m => ?_)
  · obtain ⟨u, e, _⟩ := h p m
    rw [e]; rfl
  · obtain ⟨u, e, k⟩ := h p m
    rw [e]; exact k
theorem all_true {n m : Nat} (h : n = m) : ((List.range (min n m)).all (fun _ => true) && n == m) = true := by subst h; simp
theorem kvs_true {ks ls : List (Key × V)} (h : ks.length = ls.length) (g : ∀ p ∈ ks, ∃ u, valV ls p.1 = some u) : (ks.length == ls.length && ks.all fun p => (valV ls p.1).isSome && true) = true := by
  rw [h]
  simp only [BEq.rfl, Bool.and_true, Bool.true_and, List.all_eq_true]
  intro p m
  obtain ⟨u, e⟩ := g p m
  rw [e]; rfl
section
variable {X : Cx} {pins : List (Addr × Obj)} {σ : L2.St} {H : Hp} {s : Shared}
theorem SameT.tree (I : Inv X pins σ H s) {n : Nat} {x y : V} (t : SameT X.K H n x y) : ∀ v u, RelV x v → RelV y u → EqTree X.prog X.w s n v u true := by
  induction t with
  | flat f => exact fun v u rx ry => .leaf fun A _ => eqAt_same rx ry f
  | same =>
    intro v u rx ry
    cases (show v = Value.ref _ from rx)
    cases (show u = Value.ref _ from ry)
    exact .same
  | @tups n a b xs ys ha hb hl _ ih =>
    intro v u rx ry
    cases (show v = Value.ref a from rx)
    cases (show u = Value.ref b from ry)
    by_cases ne : a = b
    · subst ne; exact .same
    obtain ⟨us, r1, p1, _⟩ := I.tuple ha
    obtain ⟨ws, r2, p2, _⟩ := I.tuple hb
    have k := EqTree.tuples (n := n) (e := fun _ => true) ne p1 p2 (tup_sides (K := X.K) (n := n) (R := fun x y b => b = true ∧ ∀ v u, RelV x v → RelV y u → EqTree X.prog X.w s n v u true) r1 r2 (fun j x y h1 h2 => ⟨rfl, ih j x y h1 h2⟩) (T := EqTree X.prog X.w s n) fun x y b v u r rv ru => by rw [r.1]; exact r.2 v u rv ru)
    rw [List.size_toArray, List.size_toArray, ← r1.length, ← r2.length, all_true hl] at k
    exact k
  | @dicts n a b ks ls w ha hb hl hw hp ih =>
    intro v u rx ry
    cases (show v = Value.ref a from rx)
    cases (show u = Value.ref b from ry)
    by_cases ne : a = b
    · subst ne; exact .same
    obtain ⟨_, ya, va, ra, da⟩ := (show ObjOk X.prog X.w H s.heap a (.dK ks) from I.hok a _ ha)
    obtain ⟨_, yb, vb, rb, db⟩ := (show ObjOk X.prog X.w H s.heap b (.dK ls) from I.hok b _ hb)
    have k := EqTree.dicts (n := n) (e := fun _ => true) ne ya yb da db (dict_sides (R := fun x y b => b = true ∧ ∀ v u, RelV x v → RelV y u → EqTree X.prog X.w s n v u true) ra rb (fun p m u hu => ⟨rfl, by
      rw [hw p m] at hu
      cases hu
      exact ih p m⟩) (T := EqTree X.prog X.w s n) fun x y b v u r rv ru => by rw [r.1]; exact r.2 v u rv ru)
    rw [kv_all ra rb (fun _ => true), ← ra.length, ← rb.length, kvs_true hl (fun p m => ⟨_, hw p m⟩)] at k
    exact k
end
section
variable {X : Cx}
/-- two other tuples that hold the same things -/
def rEqTu (K : PySem.W.Frag) : R2 := fun x y H Q => ∃ n a c, n ≤ 60 ∧ a ≠ c ∧ x = .ref a ∧ y = .ref c ∧ (∃ xs ys, SqT K H a xs ∧ SqT K H c ys ∧ xs.length = ys.length ∧ ∀ (j : Nat) x y, xs[j]? = some x → ys[j]? = some y → SameT K H n x y) ∧ Q (.bl true) H
theorem op_eqTu (hu : X.A.units + 64 < cLine) : OpR X (compareOp .Eq) (rEqTu X.K) := by
  intro pins s σ H x y v u Q I rx ry h
  obtain ⟨n, a, c, hn, ne, rfl, rfl, ⟨xs, ys, ha, hb, hl, it⟩, q⟩ := h
  cases (show v = Value.ref a from rx)
  cases (show u = Value.ref c from ry)
  obtain ⟨us, r1, p1, _⟩ := I.tuple ha
  obtain ⟨ws, r2, p2, _⟩ := I.tuple hb
  refine PySem.W.eq_tuplesT (n := n) (e := fun _ => true) p1 p2 (tup_sides (K := X.K) (n := n) (R := fun x y b => b = true ∧ SameT X.K H n x y) r1 r2 (fun j x y h1 h2 => ⟨rfl, it j x y h1 h2⟩) (T := EqTree X.prog X.w s n) fun x y b v u r rv ru => by rw [r.1]; exact r.2.tree I v u rv ru) (by omega) ⟨.bl _, H, I, rfl, ?_⟩
  rw [List.size_toArray, List.size_toArray, ← r1.length, ← r2.length, all_true hl]
  exact q
end
end Toy

/-! isinstance of an error that has just been caught -/
namespace Toy
open PySem PySem.Spec PyProof.Rows L2
section
variable {X : Cx} {a : Addr} {oe : Obj} {cls : Value} {d : Option Addr} {pn : List (Addr × Obj)}
/-- the caught error has no fields, or they are told -/
def XdOk (d : Option Addr) (H : Hp) : Prop := d = none ∨ ∃ (dd : Addr) (fs : List (Str × V)), d = some dd ∧ H dd = some (.xd fs)
theorem xd_inst (hz : Zc cls d oe) (hf : ∃ vs, oe.data = .fields vs) {C : Addr} (hc : cls = .ref C) {pins : List (Addr × Obj)} {σ : L2.St} {H : Hp} {s : Shared} (I : Inv (X.suite a ((a, oe) :: pn)) pins σ H s) (x : XdOk d H) : ∃ od, PySem.W.InstAt s.heap a oe C od := by
  obtain ⟨ha, _⟩ := I.pin (a, oe) (List.mem_append_left _ List.mem_cons_self)
  obtain ⟨vs, hd⟩ := hf
  subst hc
  have nc : PySem.W.notCls oe := by unfold PySem.W.notCls; rw [hd] <;> rfl
  rcases x with rfl | ⟨dd, fs, rfl, ea⟩
  · exact ⟨none, ha, hz.1, nc, by rw [hz.2]; trivial⟩
  · have hx : ObjOk X.prog X.w H s.heap dd (.xd fs) := I.hok dd _ ea
    obtain ⟨mA, hns, hr⟩ := hx
    obtain ⟨od, ho, hl⟩ := lookIn_ns hns
    exact ⟨some od, ha, hz.1, nc, by rw [hz.2]; exact ho⟩
/-- isinstance of it, by one class -/
def rIsXV (K : PySem.W.Frag) (a : Addr) (cls : Value) (d : Option Addr) : List V → Hp → VK → Prop := fun xs H Q => ∃ (C : Addr) (c : V) (u : Value) (b : Bool), xs = [.ref a, c] ∧ cls = .ref C ∧ XdOk d H ∧ ErrV K C ∧ ClsV c u ∧ PySem.W.kitOne K (.ref C) u = some b ∧ Q (.bl b) H
theorem call_isXV (hz : Zc cls d oe) (hf : ∃ vs, oe.data = .fields vs) : CallR (X.suite a ((a, oe) :: pn)) (.builtin "isinstance") (rIsXV X.K a cls d) := by
  intro pins s σ H xs us Q I r h
  obtain ⟨C, c, u, b, rfl, hc, xo, V, k, ok, q⟩ := h
  obtain ⟨u1, u2, rfl, r1, r2⟩ := vals2 r
  cases (show u1 = Value.ref a from r1)
  cases k.eq r2
  obtain ⟨od, J⟩ := xd_inst hz hf hc I xo
  exact PySem.W.kia_one (PySem.W.kitx_exc (any_cls V.x.hdC) V.x.ga V.x.gg V.x.exC V.ask.gives V.ask.reads V.ask.takes V.ask.roots) I.kIn J ok (fun z => nomatch z) fun tk => ⟨.bl b, H, I.tok tk, rfl, q⟩
/-- .. by a tuple of classes -/
def rIsXVT (K : PySem.W.Frag) (a : Addr) (cls : Value) (d : Option Addr) : List V → Hp → VK → Prop := fun xs H Q => ∃ (C tp : Addr) (cs : List V) (ws : List Value) (b : Bool), xs = [.ref a, .ref tp] ∧ cls = .ref C ∧ XdOk d H ∧ ErrV K C ∧ H tp = some (.tup cs) ∧ Paired ClsV cs ws ∧ PySem.W.kitAny K (.ref C) ws = some b ∧ Q (.bl b) H
theorem call_isXVT (hz : Zc cls d oe) (hf : ∃ vs, oe.data = .fields vs) : CallR (X.suite a ((a, oe) :: pn)) (.builtin "isinstance") (rIsXVT X.K a cls d) := by
  intro pins s σ H xs us Q I r h
  obtain ⟨C, tp, cs, ws, b, rfl, hc, xo, V, ht, k, ok, q⟩ := h
  obtain ⟨u1, u2, rfl, r1, r2⟩ := vals2 r
  cases (show u1 = Value.ref a from r1)
  cases (show u2 = Value.ref tp from r2)
  obtain ⟨od, J⟩ := xd_inst hz hf hc I xo
  obtain ⟨its, rv, ⟨o, g, hc', n, hd⟩, _⟩ := I.tuple (SqT.of ht)
  cases ClsV.all k rv
  obtain ⟨c, dd, dt, sl⟩ := o
  cases hc'
  cases hd
  exact PySem.W.kia_tup (PySem.W.kitx_exc (any_cls V.x.hdC) V.x.ga V.x.gg V.x.exC V.ask.gives V.ask.reads V.ask.takes V.ask.roots) I.kIn J g ok (fun z => nomatch z) fun tk => ⟨.bl b, H, I.tok tk, rfl, q⟩
end
end Toy

namespace Toy
open PySem PySem.Spec PyProof.Rows L2
/-! the text by places -/
def top (i : Nat) : Stmt := PySem.Challenge.pw_hintslie_k88_bad_systems_behind_bad_text.main.body.getD i (.Pass ⟨0, 0, 0, 0⟩)
abbrev s_BadSystemZ_initZ : Stmt := inClass (top 2) 0
theorem sc_BadSystemZ_initZ : FnScope ["self", "part"] ["self", "part"] (defScope s_BadSystemZ_initZ) := ⟨rfl, rfl, rfl, by decide +kernel, rfl, by decide +kernel, by decide +kernel⟩
abbrev s_BadTextZ_initZ : Stmt := inClass (top 6) 0
theorem sc_BadTextZ_initZ : FnScope ["self", "line"] ["self", "line"] (defScope s_BadTextZ_initZ) := ⟨rfl, rfl, rfl, by decide +kernel, rfl, by decide +kernel, by decide +kernel⟩
abbrev s_is_integer : Stmt := top 9
theorem sc_is_integer : FnScope ["thing"] ["thing"] (defScope s_is_integer) := ⟨rfl, rfl, rfl, by decide +kernel, rfl, by decide +kernel, by decide +kernel⟩
abbrev s_is_natural : Stmt := top 10
theorem sc_is_natural : FnScope ["thing"] ["thing"] (defScope s_is_natural) := ⟨rfl, rfl, rfl, by decide +kernel, rfl, by decide +kernel, by decide +kernel⟩
abbrev s_is_below : Stmt := top 11
theorem sc_is_below : FnScope ["thing", "many"] ["thing", "many"] (defScope s_is_below) := ⟨rfl, rfl, rfl, by decide +kernel, rfl, by decide +kernel, by decide +kernel⟩
abbrev s_is_row : Stmt := top 12
theorem sc_is_row : FnScope ["thing"] ["thing"] (defScope s_is_row) := ⟨rfl, rfl, rfl, by decide +kernel, rfl, by decide +kernel, by decide +kernel⟩
abbrev s_is_tuple_of : Stmt := top 13
theorem sc_is_tuple_of : FnScope ["thing", "many"] ["thing", "many"] (defScope s_is_tuple_of) := ⟨rfl, rfl, rfl, by decide +kernel, rfl, by decide +kernel, by decide +kernel⟩
abbrev s_is_name : Stmt := top 14
theorem sc_is_name : FnScope ["thing", "letter"] ["thing"] (defScope s_is_name) := ⟨rfl, rfl, rfl, by decide +kernel, rfl, by decide +kernel, by decide +kernel⟩
abbrev s_is_known : Stmt := top 15
theorem sc_is_known : FnScope ["thing", "names"] ["thing", "names"] (defScope s_is_known) := ⟨rfl, rfl, rfl, by decide +kernel, rfl, by decide +kernel, by decide +kernel⟩
abbrev s__is_turn : Stmt := top 18
theorem sc__is_turn : FnScope ["thing", "states", "name"] ["thing", "states"] (defScope s__is_turn) := ⟨rfl, rfl, rfl, by decide +kernel, rfl, by decide +kernel, by decide +kernel⟩
abbrev s__is_turns : Stmt := top 19
theorem sc__is_turns : FnScope ["thing", "turn"] ["thing"] (defScope s__is_turns) := ⟨rfl, rfl, rfl, by decide +kernel, rfl, by decide +kernel, by decide +kernel⟩
abbrev s_MachineZ_initZ : Stmt := inClass (top 20) 0
theorem sc_MachineZ_initZ : FnScope ["self", "turns", "turn", "name"] ["self", "turns"] (defScope s_MachineZ_initZ) := ⟨rfl, rfl, rfl, by decide +kernel, rfl, by decide +kernel, by decide +kernel⟩
abbrev s_Machine_turns : Stmt := inClass (top 20) 1
theorem sc_Machine_turns : FnScope ["self", "turn"] ["self"] (defScope s_Machine_turns) := ⟨rfl, rfl, rfl, by decide +kernel, rfl, by decide +kernel, by decide +kernel⟩
abbrev s_Machine_lets : Stmt := inClass (top 20) 3
theorem sc_Machine_lets : FnScope ["self", "row", "state", "name"] ["self", "row"] (defScope s_Machine_lets) := ⟨rfl, rfl, rfl, by decide +kernel, rfl, by decide +kernel, by decide +kernel⟩
abbrev s__is_price : Stmt := top 25
theorem sc__is_price : FnScope ["thing"] ["thing"] (defScope s__is_price) := ⟨rfl, rfl, rfl, by decide +kernel, rfl, by decide +kernel, by decide +kernel⟩
abbrev s_is_moves : Stmt := top 26
theorem sc_is_moves : FnScope ["thing", "post", "prices", "price"] ["thing"] (defScope s_is_moves) := ⟨rfl, rfl, rfl, by decide +kernel, rfl, by decide +kernel, by decide +kernel⟩
abbrev s__is_prices : Stmt := top 27
theorem sc__is_prices : FnScope ["thing", "posts", "told", "price"] ["thing", "posts"] (defScope s__is_prices) := ⟨rfl, rfl, rfl, by decide +kernel, rfl, by decide +kernel, by decide +kernel⟩
abbrev s__is_requests : Stmt := top 28
theorem sc__is_requests : FnScope ["thing", "posts", "name"] ["thing", "posts"] (defScope s__is_requests) := ⟨rfl, rfl, rfl, by decide +kernel, rfl, by decide +kernel, by decide +kernel⟩
abbrev s_least_ways : Stmt := top 29
theorem sc_least_ways : FnScope ["moves", "ways", "posts", "middle", "start", "end", "prices", "row"] ["moves"] (defScope s_least_ways) := ⟨rfl, rfl, rfl, by decide +kernel, rfl, by decide +kernel, by decide +kernel⟩
abbrev s_SystemZ_initZ : Stmt := inClass (top 30) 0
theorem sc_SystemZ_initZ : FnScope ["self", "moves", "requests", "name"] ["self", "moves", "requests"] (defScope s_SystemZ_initZ) := ⟨rfl, rfl, rfl, by decide +kernel, rfl, by decide +kernel, by decide +kernel⟩
abbrev s_System_requests : Stmt := inClass (top 30) 1
theorem sc_System_requests : FnScope ["self", "name"] ["self"] (defScope s_System_requests) := ⟨rfl, rfl, rfl, by decide +kernel, rfl, by decide +kernel, by decide +kernel⟩
abbrev s_SystemZcheck_post : Stmt := inClass (top 30) 3
theorem sc_SystemZcheck_post : FnScope ["self", "post"] ["self", "post"] (defScope s_SystemZcheck_post) := ⟨rfl, rfl, rfl, by decide +kernel, rfl, by decide +kernel, by decide +kernel⟩
abbrev s_System_prices : Stmt := inClass (top 30) 5
theorem sc_System_prices : FnScope ["self", "name"] ["self", "name"] (defScope s_System_prices) := ⟨rfl, rfl, rfl, by decide +kernel, rfl, by decide +kernel, by decide +kernel⟩
abbrev s_System_served : Stmt := inClass (top 30) 6
theorem sc_System_served : FnScope ["self", "name", "post", "prices"] ["self", "name", "post"] (defScope s_System_served) := ⟨rfl, rfl, rfl, by decide +kernel, rfl, by decide +kernel, by decide +kernel⟩
abbrev s_is_number : Stmt := top 35
theorem sc_is_number : FnScope ["word", "letter"] ["word"] (defScope s_is_number) := ⟨rfl, rfl, rfl, by decide +kernel, rfl, by decide +kernel, by decide +kernel⟩
abbrev s_lines_of : Stmt := top 36
theorem sc_lines_of : FnScope ["text"] ["text"] (defScope s_lines_of) := ⟨rfl, rfl, rfl, by decide +kernel, rfl, by decide +kernel, by decide +kernel⟩
abbrev s_check_closed : Stmt := top 37
theorem sc_check_closed : FnScope ["lines"] ["lines"] (defScope s_check_closed) := ⟨rfl, rfl, rfl, by decide +kernel, rfl, by decide +kernel, by decide +kernel⟩
abbrev s__all_numbers : Stmt := top 39
theorem sc__all_numbers : FnScope ["words", "word"] ["words"] (defScope s__all_numbers) := ⟨rfl, rfl, rfl, by decide +kernel, rfl, by decide +kernel, by decide +kernel⟩
abbrev s__is_request : Stmt := top 40
theorem sc__is_request : FnScope ["words", "last", "word"] ["words", "last"] (defScope s__is_request) := ⟨rfl, rfl, rfl, by decide +kernel, rfl, by decide +kernel, by decide +kernel⟩
abbrev s__price : Stmt := top 41
theorem sc__price : FnScope ["word"] ["word"] (defScope s__price) := ⟨rfl, rfl, rfl, by decide +kernel, rfl, by decide +kernel, by decide +kernel⟩
abbrev s_read_system : Stmt := top 42
theorem sc_read_system : FnScope ["text", "lines", "moves", "requests", "last", "index", "line", "words", "word"] ["text"] (defScope s_read_system) := ⟨rfl, rfl, rfl, by decide +kernel, rfl, by decide +kernel, by decide +kernel⟩
abbrev s__turn : Stmt := top 43
theorem sc__turn : FnScope ["words", "turn", "last", "word", "parts"] ["words"] (defScope s__turn) := ⟨rfl, rfl, rfl, by decide +kernel, rfl, by decide +kernel, by decide +kernel⟩
abbrev s_read_machine : Stmt := top 44
theorem sc_read_machine : FnScope ["text", "lines", "turns", "index", "line", "turn"] ["text"] (defScope s_read_machine) := ⟨rfl, rfl, rfl, by decide +kernel, rfl, by decide +kernel, by decide +kernel⟩
abbrev s__law_cell : Stmt := top 46
theorem sc__law_cell : FnScope ["script", "k"] ["script", "k"] (defScope s__law_cell) := ⟨rfl, rfl, rfl, by decide +kernel, rfl, by decide +kernel, by decide +kernel⟩
abbrev s__law_stock : Stmt := top 47
theorem sc__law_stock : FnScope ["script", "k", "number"] ["script", "k"] (defScope s__law_stock) := ⟨rfl, rfl, rfl, by decide +kernel, rfl, by decide +kernel, by decide +kernel⟩
abbrev s__law_draw : Stmt := top 48
theorem sc__law_draw : FnScope ["stock", "many", "number", "mixed"] ["stock", "many"] (defScope s__law_draw) := ⟨rfl, rfl, rfl, by decide +kernel, rfl, by decide +kernel, by decide +kernel⟩
abbrev s__law_word : Stmt := top 49
theorem sc__law_word : FnScope ["stock", "letters", "word", "k"] ["stock"] (defScope s__law_word) := ⟨rfl, rfl, rfl, by decide +kernel, rfl, by decide +kernel, by decide +kernel⟩
abbrev s__law_names : Stmt := top 50
theorem sc__law_names : FnScope ["stock", "many", "names", "k", "longer", "name"] ["stock", "many"] (defScope s__law_names) := ⟨rfl, rfl, rfl, by decide +kernel, rfl, by decide +kernel, by decide +kernel⟩
abbrev s__law_size : Stmt := top 51
theorem sc__law_size : FnScope ["stock", "due", "most", "odd"] ["stock", "due", "most"] (defScope s__law_size) := ⟨rfl, rfl, rfl, by decide +kernel, rfl, by decide +kernel, by decide +kernel⟩
abbrev s__law_price : Stmt := top 52
theorem sc__law_price : FnScope ["stock", "odd", "price"] ["stock"] (defScope s__law_price) := ⟨rfl, rfl, rfl, by decide +kernel, rfl, by decide +kernel, by decide +kernel⟩
abbrev s__law_posts : Stmt := top 53
theorem sc__law_posts : FnScope ["stock", "many", "moves", "a", "row", "b", "price"] ["stock", "many"] (defScope s__law_posts) := ⟨rfl, rfl, rfl, by decide +kernel, rfl, by decide +kernel, by decide +kernel⟩
abbrev s__law_items : Stmt := top 54
theorem sc__law_items : FnScope ["stock", "posts", "holes", "items", "b", "price"] ["stock", "posts"] (defScope s__law_items) := ⟨rfl, rfl, rfl, by decide +kernel, rfl, by decide +kernel, by decide +kernel⟩
abbrev s__law_item : Stmt := top 55
theorem sc__law_item : FnScope ["item"] ["item"] (defScope s__law_item) := ⟨rfl, rfl, rfl, by decide +kernel, rfl, by decide +kernel, by decide +kernel⟩
abbrev s__law_due : Stmt := top 56
theorem sc__law_due : FnScope ["moves", "requests", "posts", "a", "name", "prices", "item"] ["moves", "requests"] (defScope s__law_due) := ⟨rfl, rfl, rfl, by decide +kernel, rfl, by decide +kernel, by decide +kernel⟩
abbrev s__law_due_machine : Stmt := top 57
theorem sc__law_due_machine : FnScope ["turns", "row", "name"] ["turns"] (defScope s__law_due_machine) := ⟨rfl, rfl, rfl, by decide +kernel, rfl, by decide +kernel, by decide +kernel⟩
abbrev s__law_told : Stmt := top 58
theorem sc__law_told : FnScope ["text", "of_system", "told", "found", "e"] ["text", "of_system"] (defScope s__law_told) := ⟨rfl, rfl, rfl, by decide +kernel, rfl, by decide +kernel, by decide +kernel⟩
abbrev s__law_machine_lines : Stmt := top 59
theorem sc__law_machine_lines : FnScope ["turns", "lines", "row", "name"] ["turns"] (defScope s__law_machine_lines) := ⟨rfl, rfl, rfl, by decide +kernel, rfl, by decide +kernel, by decide +kernel⟩
abbrev s__law_system_lines : Stmt := top 60
theorem sc__law_system_lines : FnScope ["moves", "requests", "lines", "row", "name", "step", "item"] ["moves", "requests"] (defScope s__law_system_lines) := ⟨rfl, rfl, rfl, by decide +kernel, rfl, by decide +kernel, by decide +kernel⟩
abbrev s__law_holds : Stmt := top 61
theorem sc__law_holds : FnScope ["stock", "lines", "of_system", "part", "due", "spoil", "at", "odd", "told", "line"] ["stock", "lines", "of_system", "part", "due"] (defScope s__law_holds) := ⟨rfl, rfl, rfl, by decide +kernel, rfl, by decide +kernel, by decide +kernel⟩
abbrev s_law : Stmt := top 62
theorem sc_law : FnScope ["script", "stock", "names", "posts", "moves", "requests", "name", "copied", "due", "row", "states", "turns", "k"] ["script"] (defScope s_law) := ⟨rfl, rfl, rfl, by decide +kernel, rfl, by decide +kernel, by decide +kernel⟩
structure Top (K : PySem.W.Frag) (mg : Str → Option Value) where
  b_ValueError : mg "ValueError" = none
  b_abs : mg "abs" = none
  b_all : mg "all" = none
  b_bool : mg "bool" = none
  b_dict : mg "dict" = none
  b_enumerate : mg "enumerate" = none
  b_int : mg "int" = none
  b_isinstance : mg "isinstance" = none
  b_len : mg "len" = none
  b_list : mg "list" = none
  b_max : mg "max" = none
  b_min : mg "min" = none
  b_range : mg "range" = none
  b_sorted : mg "sorted" = none
  b_str : mg "str" = none
  b_tuple : mg "tuple" = none
  g_DIGITS : ∃ t, mg "DIGITS" = some (.str "0123456789" t)
  g_LETTERS : ∃ t, mg "LETTERS" = some (.str "abcdefghijklmnopqrstuvwxyz" t)
  g_MOST_DIGITS : ∃ t, mg "MOST_DIGITS" = some (.int 9 t)
  g_MOST_POSTS : ∃ t, mg "MOST_POSTS" = some (.int 6 t)
  g_MOST_PRICE : ∃ t, mg "MOST_PRICE" = some (.int 9 t)
  g_MOST_REQUESTS : ∃ t, mg "MOST_REQUESTS" = some (.int 5 t)
  g_MOST_STATES : ∃ t, mg "MOST_STATES" = some (.int 4 t)
  g_NO_NAME : ∃ t, mg "NO_NAME" = some (.str "-" t)
  d_is_integer : DefAt K mg "is_integer" s_is_integer ["thing"]
  d_is_natural : DefAt K mg "is_natural" s_is_natural ["thing"]
  d_is_below : DefAt K mg "is_below" s_is_below ["thing", "many"]
  d_is_row : DefAt K mg "is_row" s_is_row ["thing"]
  d_is_tuple_of : DefAt K mg "is_tuple_of" s_is_tuple_of ["thing", "many"]
  d_is_name : DefAt K mg "is_name" s_is_name ["thing"]
  d_is_known : DefAt K mg "is_known" s_is_known ["thing", "names"]
  d__is_turn : DefAt K mg "_is_turn" s__is_turn ["thing", "states"]
  d__is_turns : DefAt K mg "_is_turns" s__is_turns ["thing"]
  d__is_price : DefAt K mg "_is_price" s__is_price ["thing"]
  d_is_moves : DefAt K mg "is_moves" s_is_moves ["thing"]
  d__is_prices : DefAt K mg "_is_prices" s__is_prices ["thing", "posts"]
  d__is_requests : DefAt K mg "_is_requests" s__is_requests ["thing", "posts"]
  d_least_ways : DefAt K mg "least_ways" s_least_ways ["moves"]
  d_is_number : DefAt K mg "is_number" s_is_number ["word"]
  d_lines_of : DefAt K mg "lines_of" s_lines_of ["text"]
  d_check_closed : DefAt K mg "check_closed" s_check_closed ["lines"]
  d__all_numbers : DefAt K mg "_all_numbers" s__all_numbers ["words"]
  d__is_request : DefAt K mg "_is_request" s__is_request ["words", "last"]
  d__price : DefAt K mg "_price" s__price ["word"]
  d_read_system : DefAt K mg "read_system" s_read_system ["text"]
  d__turn : DefAt K mg "_turn" s__turn ["words"]
  d_read_machine : DefAt K mg "read_machine" s_read_machine ["text"]
  d__law_cell : DefAt K mg "_law_cell" s__law_cell ["script", "k"]
  d__law_stock : DefAt K mg "_law_stock" s__law_stock ["script", "k"]
  d__law_draw : DefAt K mg "_law_draw" s__law_draw ["stock", "many"]
  d__law_word : DefAt K mg "_law_word" s__law_word ["stock"]
  d__law_names : DefAt K mg "_law_names" s__law_names ["stock", "many"]
  d__law_size : DefAt K mg "_law_size" s__law_size ["stock", "due", "most"]
  d__law_price : DefAt K mg "_law_price" s__law_price ["stock"]
  d__law_posts : DefAt K mg "_law_posts" s__law_posts ["stock", "many"]
  d__law_items : DefAt K mg "_law_items" s__law_items ["stock", "posts"]
  d__law_item : DefAt K mg "_law_item" s__law_item ["item"]
  d__law_due : DefAt K mg "_law_due" s__law_due ["moves", "requests"]
  d__law_due_machine : DefAt K mg "_law_due_machine" s__law_due_machine ["turns"]
  d__law_told : DefAt K mg "_law_told" s__law_told ["text", "of_system"]
  d__law_machine_lines : DefAt K mg "_law_machine_lines" s__law_machine_lines ["turns"]
  d__law_system_lines : DefAt K mg "_law_system_lines" s__law_system_lines ["moves", "requests"]
  d__law_holds : DefAt K mg "_law_holds" s__law_holds ["stock", "lines", "of_system", "part", "due"]
  d_law : DefAt K mg "law" s_law ["script"]
  c_HintError : Addr
  mg_HintError : mg "HintError" = some (.ref c_HintError)
  y_HintError : ErrX K c_HintError
  c_BadText : Addr
  x_BadText : ExcAt K mg "BadText" c_BadText "line" s_BadTextZ_initZ
  c_BadSystem : Addr
  x_BadSystem : ExcAt K mg "BadSystem" c_BadSystem "part" s_BadSystemZ_initZ
  c_BadMachine : Addr
  mg_BadMachine : mg "BadMachine" = some (.ref c_BadMachine)
  y_BadMachine : ErrX K c_BadMachine
  e_BadText_BadText : PySem.W.exmOne K (.ref c_BadText) (.ref c_BadText) = some true
  e_BadSystem_BadText : PySem.W.exmOne K (.ref c_BadSystem) (.ref c_BadText) = some false
  e_BadSystem_BadSystem : PySem.W.exmOne K (.ref c_BadSystem) (.ref c_BadSystem) = some true
  e_BadMachine_BadText : PySem.W.exmOne K (.ref c_BadMachine) (.ref c_BadText) = some false
  e_BadMachine_BadSystem : PySem.W.exmOne K (.ref c_BadMachine) (.ref c_BadSystem) = some false
  e_BadMachine_BadMachine : PySem.W.exmOne K (.ref c_BadMachine) (.ref c_BadMachine) = some true
  c_System : Addr
  cl_System : Cls K c_System
  mg_System : mg "System" = some (.ref c_System)
  na_System_moves : NoAttr K c_System "moves"
  na_System_posts : NoAttr K c_System "posts"
  na_System_names : NoAttr K c_System "names"
  na_System_ways : NoAttr K c_System "ways"
  na_System__requests : NoAttr K c_System "_requests"
  i_System : ClsInit K c_System "System.__init__" s_SystemZ_initZ ["self", "moves", "requests"]
  p_System_requests : PropAt K c_System "requests" "System.requests" s_System_requests
  m_System__check_post : MethAt K c_System "_check_post" "System._check_post" s_SystemZcheck_post ["self", "post"]
  m_System_prices : MethAt K c_System "prices" "System.prices" s_System_prices ["self", "name"]
  m_System_served : MethAt K c_System "served" "System.served" s_System_served ["self", "name", "post"]
  c_Machine : Addr
  cl_Machine : Cls K c_Machine
  mg_Machine : mg "Machine" = some (.ref c_Machine)
  na_Machine_names : NoAttr K c_Machine "names"
  na_Machine_states : NoAttr K c_Machine "states"
  na_Machine__turns : NoAttr K c_Machine "_turns"
  i_Machine : ClsInit K c_Machine "Machine.__init__" s_MachineZ_initZ ["self", "turns"]
  p_Machine_turns : PropAt K c_Machine "turns" "Machine.turns" s_Machine_turns
  m_Machine_lets : MethAt K c_Machine "lets" "Machine.lets" s_Machine_lets ["self", "row"]
  er : Errs K [c_BadText, c_BadSystem, c_BadMachine] c_HintError
end Toy

namespace Toy
open PySem PySem.Spec PyProof.Rows L2
/-! the head's run, ahead of all (it takes the most room) -/
def hds_BadSystemZ_initZ : He.DefD := ⟨("BadSystem", some "__init__"), "__init__", "BadSystem.__init__", defArgs s_BadSystemZ_initZ, defBody s_BadSystemZ_initZ, defScope s_BadSystemZ_initZ, [], []⟩
def hds_BadTextZ_initZ : He.DefD := ⟨("BadText", some "__init__"), "__init__", "BadText.__init__", defArgs s_BadTextZ_initZ, defBody s_BadTextZ_initZ, defScope s_BadTextZ_initZ, [], []⟩
def hds_is_integer : He.DefD := ⟨("is_integer", none), "is_integer", "is_integer", defArgs s_is_integer, defBody s_is_integer, defScope s_is_integer, [], []⟩
def hds_is_natural : He.DefD := ⟨("is_natural", none), "is_natural", "is_natural", defArgs s_is_natural, defBody s_is_natural, defScope s_is_natural, [], []⟩
def hds_is_below : He.DefD := ⟨("is_below", none), "is_below", "is_below", defArgs s_is_below, defBody s_is_below, defScope s_is_below, [], []⟩
def hds_is_row : He.DefD := ⟨("is_row", none), "is_row", "is_row", defArgs s_is_row, defBody s_is_row, defScope s_is_row, [], []⟩
def hds_is_tuple_of : He.DefD := ⟨("is_tuple_of", none), "is_tuple_of", "is_tuple_of", defArgs s_is_tuple_of, defBody s_is_tuple_of, defScope s_is_tuple_of, [], []⟩
def hds_is_name : He.DefD := ⟨("is_name", none), "is_name", "is_name", defArgs s_is_name, defBody s_is_name, defScope s_is_name, [], []⟩
def hds_is_known : He.DefD := ⟨("is_known", none), "is_known", "is_known", defArgs s_is_known, defBody s_is_known, defScope s_is_known, [], []⟩
def hds__is_turn : He.DefD := ⟨("_is_turn", none), "_is_turn", "_is_turn", defArgs s__is_turn, defBody s__is_turn, defScope s__is_turn, [], []⟩
def hds__is_turns : He.DefD := ⟨("_is_turns", none), "_is_turns", "_is_turns", defArgs s__is_turns, defBody s__is_turns, defScope s__is_turns, [], []⟩
def hds_MachineZ_initZ : He.DefD := ⟨("Machine", some "__init__"), "__init__", "Machine.__init__", defArgs s_MachineZ_initZ, defBody s_MachineZ_initZ, defScope s_MachineZ_initZ, [], []⟩
def hds_Machine_lets : He.DefD := ⟨("Machine", some "lets"), "lets", "Machine.lets", defArgs s_Machine_lets, defBody s_Machine_lets, defScope s_Machine_lets, [], []⟩
def hds__is_price : He.DefD := ⟨("_is_price", none), "_is_price", "_is_price", defArgs s__is_price, defBody s__is_price, defScope s__is_price, [], []⟩
def hds_is_moves : He.DefD := ⟨("is_moves", none), "is_moves", "is_moves", defArgs s_is_moves, defBody s_is_moves, defScope s_is_moves, [], []⟩
def hds__is_prices : He.DefD := ⟨("_is_prices", none), "_is_prices", "_is_prices", defArgs s__is_prices, defBody s__is_prices, defScope s__is_prices, [], []⟩
def hds__is_requests : He.DefD := ⟨("_is_requests", none), "_is_requests", "_is_requests", defArgs s__is_requests, defBody s__is_requests, defScope s__is_requests, [], []⟩
def hds_least_ways : He.DefD := ⟨("least_ways", none), "least_ways", "least_ways", defArgs s_least_ways, defBody s_least_ways, defScope s_least_ways, [], []⟩
def hds_SystemZ_initZ : He.DefD := ⟨("System", some "__init__"), "__init__", "System.__init__", defArgs s_SystemZ_initZ, defBody s_SystemZ_initZ, defScope s_SystemZ_initZ, [], []⟩
def hds_SystemZcheck_post : He.DefD := ⟨("System", some "_check_post"), "_check_post", "System._check_post", defArgs s_SystemZcheck_post, defBody s_SystemZcheck_post, defScope s_SystemZcheck_post, [], []⟩
def hds_System_prices : He.DefD := ⟨("System", some "prices"), "prices", "System.prices", defArgs s_System_prices, defBody s_System_prices, defScope s_System_prices, [], []⟩
def hds_System_served : He.DefD := ⟨("System", some "served"), "served", "System.served", defArgs s_System_served, defBody s_System_served, defScope s_System_served, [], []⟩
def hds_is_number : He.DefD := ⟨("is_number", none), "is_number", "is_number", defArgs s_is_number, defBody s_is_number, defScope s_is_number, [], []⟩
def hds_lines_of : He.DefD := ⟨("lines_of", none), "lines_of", "lines_of", defArgs s_lines_of, defBody s_lines_of, defScope s_lines_of, [], []⟩
def hds_check_closed : He.DefD := ⟨("check_closed", none), "check_closed", "check_closed", defArgs s_check_closed, defBody s_check_closed, defScope s_check_closed, [], []⟩
def hds__all_numbers : He.DefD := ⟨("_all_numbers", none), "_all_numbers", "_all_numbers", defArgs s__all_numbers, defBody s__all_numbers, defScope s__all_numbers, [], []⟩
def hds__is_request : He.DefD := ⟨("_is_request", none), "_is_request", "_is_request", defArgs s__is_request, defBody s__is_request, defScope s__is_request, [], []⟩
def hds__price : He.DefD := ⟨("_price", none), "_price", "_price", defArgs s__price, defBody s__price, defScope s__price, [], []⟩
def hds_read_system : He.DefD := ⟨("read_system", none), "read_system", "read_system", defArgs s_read_system, defBody s_read_system, defScope s_read_system, [], []⟩
def hds__turn : He.DefD := ⟨("_turn", none), "_turn", "_turn", defArgs s__turn, defBody s__turn, defScope s__turn, [], []⟩
def hds_read_machine : He.DefD := ⟨("read_machine", none), "read_machine", "read_machine", defArgs s_read_machine, defBody s_read_machine, defScope s_read_machine, [], []⟩
def hds__law_cell : He.DefD := ⟨("_law_cell", none), "_law_cell", "_law_cell", defArgs s__law_cell, defBody s__law_cell, defScope s__law_cell, [], []⟩
def hds__law_stock : He.DefD := ⟨("_law_stock", none), "_law_stock", "_law_stock", defArgs s__law_stock, defBody s__law_stock, defScope s__law_stock, [], []⟩
def hds__law_draw : He.DefD := ⟨("_law_draw", none), "_law_draw", "_law_draw", defArgs s__law_draw, defBody s__law_draw, defScope s__law_draw, [], []⟩
def hds__law_word : He.DefD := ⟨("_law_word", none), "_law_word", "_law_word", defArgs s__law_word, defBody s__law_word, defScope s__law_word, [], []⟩
def hds__law_names : He.DefD := ⟨("_law_names", none), "_law_names", "_law_names", defArgs s__law_names, defBody s__law_names, defScope s__law_names, [], []⟩
def hds__law_size : He.DefD := ⟨("_law_size", none), "_law_size", "_law_size", defArgs s__law_size, defBody s__law_size, defScope s__law_size, [], []⟩
def hds__law_price : He.DefD := ⟨("_law_price", none), "_law_price", "_law_price", defArgs s__law_price, defBody s__law_price, defScope s__law_price, [], []⟩
def hds__law_posts : He.DefD := ⟨("_law_posts", none), "_law_posts", "_law_posts", defArgs s__law_posts, defBody s__law_posts, defScope s__law_posts, [], []⟩
def hds__law_items : He.DefD := ⟨("_law_items", none), "_law_items", "_law_items", defArgs s__law_items, defBody s__law_items, defScope s__law_items, [], []⟩
def hds__law_item : He.DefD := ⟨("_law_item", none), "_law_item", "_law_item", defArgs s__law_item, defBody s__law_item, defScope s__law_item, [], []⟩
def hds__law_due : He.DefD := ⟨("_law_due", none), "_law_due", "_law_due", defArgs s__law_due, defBody s__law_due, defScope s__law_due, [], []⟩
def hds__law_due_machine : He.DefD := ⟨("_law_due_machine", none), "_law_due_machine", "_law_due_machine", defArgs s__law_due_machine, defBody s__law_due_machine, defScope s__law_due_machine, [], []⟩
def hds__law_told : He.DefD := ⟨("_law_told", none), "_law_told", "_law_told", defArgs s__law_told, defBody s__law_told, defScope s__law_told, [], []⟩
def hds__law_machine_lines : He.DefD := ⟨("_law_machine_lines", none), "_law_machine_lines", "_law_machine_lines", defArgs s__law_machine_lines, defBody s__law_machine_lines, defScope s__law_machine_lines, [], []⟩
def hds__law_system_lines : He.DefD := ⟨("_law_system_lines", none), "_law_system_lines", "_law_system_lines", defArgs s__law_system_lines, defBody s__law_system_lines, defScope s__law_system_lines, [], []⟩
def hds__law_holds : He.DefD := ⟨("_law_holds", none), "_law_holds", "_law_holds", defArgs s__law_holds, defBody s__law_holds, defScope s__law_holds, [], []⟩
def hds_law : He.DefD := ⟨("law", none), "law", "law", defArgs s_law, defBody s_law, defScope s_law, [], []⟩
def hpr0 : PrD := ⟨"Machine", ⟨("turns", none), "turns", "Machine.turns", defArgs s_Machine_turns, defBody s_Machine_turns, defScope s_Machine_turns, [], []⟩⟩
def hpr1 : PrD := ⟨"System", ⟨("requests", none), "requests", "System.requests", defArgs s_System_requests, defBody s_System_requests, defScope s_System_requests, [], []⟩⟩
def hprs : List PrD := [hpr0, hpr1]
def hfn0 : List He.DefD := [hds_BadSystemZ_initZ, hds_BadTextZ_initZ, hds_is_integer, hds_is_natural, hds_is_below, hds_is_row, hds_is_tuple_of, hds_is_name, hds_is_known, hds__is_turn, hds__is_turns, hds_MachineZ_initZ, hds_Machine_lets, hds__is_price, hds_is_moves, hds__is_prices, hds__is_requests, hds_least_ways, hds_SystemZ_initZ, hds_SystemZcheck_post, hds_System_prices, hds_System_served, hds_is_number, hds_lines_of, hds_check_closed, hds__all_numbers, hds__is_request, hds__price, hds_read_system, hds__turn]
def hfn1 : List He.DefD := [hds_read_machine, hds__law_cell, hds__law_stock, hds__law_draw, hds__law_word, hds__law_names, hds__law_size, hds__law_price, hds__law_posts, hds__law_items, hds__law_item, hds__law_due, hds__law_due_machine, hds__law_told, hds__law_machine_lines, hds__law_system_lines, hds__law_holds, hds_law]
def hfn : List He.DefD := hfn0 ++ hfn1
def hfa0 : List He.Fa := [.free "ValueError", .free "abs", .free "all", .free "bool", .free "dict", .free "enumerate", .free "int", .free "isinstance", .free "len", .free "list", .free "max", .free "min", .free "range", .free "sorted", .free "str", .free "tuple", .str "DIGITS" "0123456789", .str "LETTERS" "abcdefghijklmnopqrstuvwxyz", .int "MOST_DIGITS" 9, .int "MOST_POSTS" 6, .int "MOST_PRICE" 9, .int "MOST_REQUESTS" 5, .int "MOST_STATES" 4, .str "NO_NAME" "-", .glo "is_integer", .glo "is_natural", .glo "is_below", .glo "is_row", .glo "is_tuple_of", .glo "is_name"]
def hfa1 : List He.Fa := [.glo "is_known", .glo "_is_turn", .glo "_is_turns", .glo "_is_price", .glo "is_moves", .glo "_is_prices", .glo "_is_requests", .glo "least_ways", .glo "is_number", .glo "lines_of", .glo "check_closed", .glo "_all_numbers", .glo "_is_request", .glo "_price", .glo "read_system", .glo "_turn", .glo "read_machine", .glo "_law_cell", .glo "_law_stock", .glo "_law_draw", .glo "_law_word", .glo "_law_names", .glo "_law_size", .glo "_law_price", .glo "_law_posts", .glo "_law_items", .glo "_law_item", .glo "_law_due", .glo "_law_due_machine", .glo "_law_told"]
def hfa2 : List He.Fa := [.glo "_law_machine_lines", .glo "_law_system_lines", .glo "_law_holds", .glo "law", .glo "HintError", .glo "BadText", .noat "BadText" "line", .meth "BadText" "__init__", .glo "BadSystem", .noat "BadSystem" "part", .meth "BadSystem" "__init__", .glo "BadMachine", .exm "BadText" "BadText" true, .exm "BadSystem" "BadText" false, .exm "BadSystem" "BadSystem" true, .exm "BadMachine" "BadText" false, .exm "BadMachine" "BadSystem" false, .exm "BadMachine" "BadMachine" true, .cls "System", .glo "System", .noat "System" "moves", .noat "System" "posts", .noat "System" "names", .noat "System" "ways", .noat "System" "_requests", .mkr "System", .meth "System" "_check_post", .meth "System" "prices", .meth "System" "served", .cls "Machine"]
def hfa3 : List He.Fa := [.glo "Machine", .noat "Machine" "names", .noat "Machine" "states", .noat "Machine" "_turns", .mkr "Machine", .meth "Machine" "lets"]
def hfa : List He.Fa := hfa0 ++ hfa1 ++ hfa2 ++ hfa3
def hnames0 : List Str := ["__name__", "HintError", "BadSystem", "NoPost", "NoRequest", "BadMachine", "BadText", "LETTERS", "is_integer", "is_natural", "is_below", "is_row", "is_tuple_of", "is_name", "is_known", "MOST_STATES", "_is_turn", "_is_turns", "Machine", "MOST_POSTS", "MOST_REQUESTS", "MOST_PRICE", "_is_price", "is_moves", "_is_prices", "_is_requests", "least_ways", "System", "DIGITS", "MOST_DIGITS"]
def hnames1 : List Str := ["NO_NAME", "is_number", "lines_of", "check_closed", "_all_numbers", "_is_request", "_price", "read_system", "_turn", "read_machine", "_law_cell", "_law_stock", "_law_draw", "_law_word", "_law_names", "_law_size", "_law_price", "_law_posts", "_law_items", "_law_item", "_law_due", "_law_due_machine", "_law_told", "_law_machine_lines", "_law_system_lines", "_law_holds"]
def hnames : List Str := hnames0 ++ hnames1
def hex : List Str := ["BadText", "BadSystem"]
def hexE : List Str := ["HintError", "BadMachine"]
def hexI : List Str := []
abbrev hexF0 : PySem.W.Frag → Bool := fun K => errsB K [He.ga K "BadText", He.ga K "BadSystem", He.ga K "BadMachine"] (He.ga K "HintError")
abbrev hexB : PySem.W.Frag → Bool := fun K => ((hex.all fun x => oexB K (He.ga K x)) && ((hexE.all fun x => errB K (He.ga K x)) && hexI.all fun x => insB K (He.ga K x))) && (hexF0 K && true)
abbrev HexP : PySem.W.Frag → Prop := fun K => HasP hexB hprs K
theorem hflag {K : PySem.W.Frag} (e : HexP K) (i : Nat) {x : Str} (h : hex[i]? = some x) : oexB K (He.ga K x) = true := List.all_eq_true.mp (Bool.and_eq_true_iff.mp (Bool.and_eq_true_iff.mp e.flag).1).1 x (List.mem_of_getElem? h)
theorem hflagE {K : PySem.W.Frag} (e : HexP K) (i : Nat) {x : Str} (h : hexE[i]? = some x) : errB K (He.ga K x) = true := List.all_eq_true.mp (Bool.and_eq_true_iff.mp (Bool.and_eq_true_iff.mp (Bool.and_eq_true_iff.mp e.flag).1).2).1 x (List.mem_of_getElem? h)
theorem hflagI {K : PySem.W.Frag} (e : HexP K) (i : Nat) {x : Str} (h : hexI[i]? = some x) : insB K (He.ga K x) = true := List.all_eq_true.mp (Bool.and_eq_true_iff.mp (Bool.and_eq_true_iff.mp (Bool.and_eq_true_iff.mp e.flag).1).2).2 x (List.mem_of_getElem? h)
theorem hflagF0 {K : PySem.W.Frag} (e : HexP K) : hexF0 K = true := (Bool.and_eq_true_iff.mp (Bool.and_eq_true_iff.mp e.flag).2).1
abbrev hR : PySem.W.OpenRow := PySem.W.OpenLaw.row PySem.Challenge.rw_hintslie_k88_bad_systems_behind_bad_text
abbrev hhk : PySem.W.Hook := hookP 5 hfa hfn hexB hprs
def hob (s : PySem.W.SharedT) : AlP := obsPG 5 hfa hfn hexB hprs (HandSHeadRun.getT s)
theorem hob_eq (s : PySem.W.SharedT) : hob s = hhk.obs s.abs := obsPG_eq (HandSHeadRun.getT_eq s)
def hkf (s : PySem.W.SharedT) : PySem.W.Frag := He.frG (HandSHeadRun.getT s) (He.asD (HandSHeadRun.getT s) 5)
open HandSHeadRun PySem.W PySem.Calls in
theorem hrun1 (w : World) (os : OsState) : (endF (stepQ (denQ tabQ) hR.prog w) 6000 hR.prog w os).map (fun s => (looksF hR.prog (boot_heap w.params) s.abs, seenQ (PySem.W.view hR.prog [62]) hnames (importedModules hR.prog.main.body) (fun s => xlAt (PySem.W.view hR.prog [62]) [] s && recOk hR.toRowW.records s) s.abs)) = some (true, openGood (PySem.W.view hR.prog [62]) hnames) := by kernel_rfl
open HandSHeadRun PySem.W PySem.Calls in
theorem hrunA (w : World) (os : OsState) : (endF (stepQ (denQ tabQ) hR.prog w) 6000 hR.prog w os).map (fun s => hfa.all fun f => f.ok (hkf s)) = some true := by kernel_rfl
open HandSHeadRun PySem.W PySem.Calls in
theorem hrunB (w : World) (os : OsState) : (endF (stepQ (denQ tabQ) hR.prog w) 6000 hR.prog w os).map (fun s => hfn.all fun d => d.ok (hkf s)) = some true := by kernel_rfl
open HandSHeadRun PySem.W PySem.Calls in
theorem hrunC (w : World) (os : OsState) : (endF (stepQ (denQ tabQ) hR.prog w) 6000 hR.prog w os).map (fun s => (hfn.map fun d => He.fnW (hkf s) d.at_, hexB (hkf s) && hprs.all fun q => q.ok (hkf s), hprs.map fun q => fnAt (hkf s) (q.getter (hkf s)))) = some (hfn.map He.DefD.val, true, hprs.map fun q => q.d.val) := by kernel_rfl
theorem hrun (w : World) : HandSHeadRun.RunEq hR (PySem.W.view hR.prog [62]) hhk hob 6000 hnames w := fun os => run_parts (hrun1 w os) (hrunA w os) (hrunB w os) (hrunC w os)
end Toy

namespace Toy
open PySem PySem.Spec PyProof.Rows L2
local macro_rules | `(tactic| walk_at "hp") => `(tactic| first
  | assumption
  | exact upd_same
  | (refine Eq.trans (upd_ne (by first | assumption | (apply Ne.symm; assumption))) ?_; walk_at "hp"))
local macro_rules | `(tactic| walk_at "side") => `(tactic| first
  | exact .inl ⟨by omega, by omega⟩
  | exact .inr ⟨by omega, by omega⟩
  | exact ⟨by omega, by omega⟩
  | (show _ ≤ _; omega)
  | (show (_ : Int) < _; omega)
  | decide
  | assumption)
local macro_rules | `(tactic| walk_at "r") => `(tactic| first
  | refine ⟨_, rfl, ?_⟩
  | refine ⟨_, _, rfl, rfl, ?_⟩
  | refine ⟨_, _, _, _, rfl, rfl, SqL.of (by walk_at "hp"), rfl, ?_⟩
  | refine ⟨_, _, _, _, rfl, rfl, SqT.of (by walk_at "hp"), rfl, ?_⟩
  | refine ⟨_, _, _, _, rfl, rfl, (by walk_at "hp"), rfl, ?_⟩
  | refine And.intro rfl ?_
  | refine ⟨_, _, rfl, SqT.of (by walk_at "hp"), ?_⟩
  | refine ⟨_, _, rfl, SqL.of (by walk_at "hp"), ?_⟩
  | refine .inl ⟨_, rfl, ?_⟩
  | refine ⟨_, _, rfl, .inl (SqL.of (by walk_at "hp")), ?_⟩
  | refine ⟨_, _, rfl, .inr (SqT.of (by walk_at "hp")), ?_⟩
  | refine ⟨_, _, rfl, .inl ⟨SqL.of (by walk_at "hp"), ?_⟩⟩
  | refine And.intro (.inl ⟨rfl, _, SqL.of (by walk_at "hp")⟩) ?_
  | refine ⟨_, _, _, rfl, rfl, (by walk_at "hp"), ?_⟩
  | refine ⟨_, _, rfl, (by walk_at "hp"), ?_⟩
  | refine And.intro (by walk_at "side") ?_)
local macro_rules | `(tactic| walk_at "rr") => `(tactic| (repeat walk_at "r"))
local macro_rules | `(tactic| walk_at "k") => `(tactic| first
  | refine ite2 (fun _ => ?_) (fun g => absurd rfl g)
  | refine ite2 (fun g => absurd g (by decide)) (fun _ => ?_)
  | refine ite2 (fun _ => ?_) (fun g => absurd (decide_eq_true (by omega)) g)
  | refine ite2 (fun g => absurd (of_decide_eq_true g) (by omega)) (fun _ => ?_)
  | refine ite2 (fun g => (nd_t g (by omega)).elim) (fun _ => ?_)
  | refine ite2 (fun _ => ?_) (fun g => absurd (nd_f g) (by omega)))
local macro_rules | `(tactic| walk_at "rk") => `(tactic| (repeat (first | walk_at "r" | walk_at "k")))
def spCell (K : PySem.W.Frag) : Sp := fun vs H Q _ => ∃ (a : Addr) (ns : List Int) (j : Nat), vs = [.ref a, .int j] ∧ SqL K H a (ns.map V.int) ∧ ∀ v, Q (.int v) H
def spStock (K : PySem.W.Frag) : Sp := fun vs H Q _ => ∃ (a : Addr) (ns : List Int) (j : Nat), vs = [.ref a, .int j] ∧ SqL K H a (ns.map V.int) ∧ ∀ d H', Same H H' → H d = none → Dice d H' d → Q (.ref d) H'
section
variable {P : Program} {w : World} {K : PySem.W.Frag} {mg : Str → Option Value} {base : Heap}
theorem ok__law_cell (T : Top K mg) : Ok P w K mg base 1 "_law_cell" ["script", "k"] (spCell K) := by
  refine ok_of T.d__law_cell sc__law_cell (fun vs H Q E h => ?_) (fun f cdv A outer s H vs Q E hr h => ?_)
  · obtain ⟨a, ns, j, rfl, _⟩ := h
    rfl
  · obtain ⟨a, ns, j, rfl, hS, k⟩ := h
    skip
    refine ⟨_, (pss_cons (ps_if (pt_cmpR op_lt (pv 1) (pe_callB (id := "len") call_len_seq (by rfl) T.b_len (by decide +kernel) (pa_cons (pv 0) pa_nil)) (nomark _))
      (pss_one (ps_ret (pe_callTy (T := "int") call_int1 (by rfl) T.b_int (by decide +kernel) (pa_cons (pe_ix ix_list (pv 0) (pv 1) (fun _ _ => rfl)) pa_nil))))
      pss_nil)
      (pss_one (ps_ret pe_int))), ?_⟩
    refine ⟨_, rfl, _, rfl, a, _, rfl, .inl hS, _, _, rfl, rfl, _, rfl, ?_⟩
    rw [List.length_map]
    refine ite2 (fun g => ?_) (fun g => ?_)
    · have g := of_decide_eq_true g
      obtain ⟨z, hz⟩ : ∃ z, ns[j]? = some z := ⟨_, List.getElem?_eq_getElem (by omega)⟩
      refine ⟨_, rfl, _, rfl, a, _, _, .int z, rfl, rfl, hS, atI_nat (by rw [List.getElem?_map, hz]; rfl), ?_⟩
      walk_at "rr"
      exact k z
    · walk_at "rr"
      exact k 0
theorem ok__law_stock (T : Top K mg) : Ok P w K mg base 2 "_law_stock" ["script", "k"] (spStock K) := by
  refine ok_of T.d__law_stock sc__law_stock (fun vs H Q E h => ?_) (fun f cdv A outer s H vs Q E hr h => ?_)
  · obtain ⟨a, ns, j, rfl, _⟩ := h
    rfl
  · obtain ⟨a, ns, j, rfl, hS, k⟩ := h
    obtain ⟨f__law_cell, fd__law_cell, m__law_cell, k__law_cell, b__law_cell, G__law_cell⟩ := ok__law_cell (P := P) (w := w) (base := base) T
    have hr__law_cell : Room 1 _ := hr.mono (by decide)
    refine ⟨_, (pss_cons (ps_set (i := 2) sc__law_stock.nd rfl (Or.inl rfl) (pe_callB (id := "abs") call_abs (by rfl) T.b_abs (by decide +kernel) (pa_cons (pe_call G__law_cell hr__law_cell rfl m__law_cell k__law_cell b__law_cell .nil pass0 (pa_cons (pv 0) (pa_cons (pv 1) pa_nil))) pa_nil)))
      (pss_cons (ps_if (pt_cmpR op_ge (pv 2) (pe_op op_pow pe_int pe_int) (nomark _))
      (pss_one (ps_ret (pe_lst (pa_cons (pv 2) (pa_cons pe_int (pa_cons pe_bl pa_nil))))))
      pss_nil)
      (pss_one (ps_ret (pe_lst (pa_cons (pe_op op_add (pe_op op_mul (pv 2) pe_int) (pv 1)) (pa_cons pe_int (pa_cons pe_bl pa_nil)))))))), ?_⟩
    refine ⟨_, rfl, _, rfl, a, ns, j, rfl, hS, fun v => ?_⟩
    have nn : 0 ≤ (if v < 0 then -v else v) := by split <;> omega
    walk_at "rr"
    refine ite2 (fun g => ?_) (fun g => ?_)
    · walk_at "rr"
      refine ⟨(by show 3 ≤ sizeLine; decide), fun d nd => k d _ (same_new nd) nd ⟨⟨_, _, _, 0, 0, upd_same, rfl, nn, Int.le_refl _⟩⟩⟩
    · walk_at "rr"
      refine ⟨(by show 3 ≤ sizeLine; decide), fun d nd => k d _ (same_new nd) nd ⟨⟨_, _, _, 0, 0, upd_same, rfl, by omega, Int.le_refl _⟩⟩⟩
theorem ok__law_draw (T : Top K mg) : Ok P w K mg base 1 "_law_draw" ["stock", "many"] spDraw := by
  refine ok_of T.d__law_draw sc__law_draw (fun vs H Q E h => ?_) (fun f cdv A outer s H vs Q E hr h => ?_)
  · obtain ⟨d, c, n, rfl, _⟩ := h
    rfl
  · obtain ⟨d, c, n, rfl, D, hn, hn2, k⟩ := h
    refine ⟨_, (pss_cons (ps_set (i := 2) sc__law_draw.nd rfl (Or.inl rfl) (pe_ix ix_list (pv 0) pe_int (fun _ _ => rfl)))
      (pss_cons (ps_if (pt_val (pe_ix ix_list (pv 0) pe_int (fun _ _ => rfl)))
      (pss_cons (ps_asg (pe_op op_fdivW (pv 2) (pv 1)) (pg_sub (pv 0) pe_int set_list))
      (pss_one (ps_ret (pe_op op_mod (pe_callTy (T := "int") call_int1 (by rfl) T.b_int (by decide +kernel) (pa_cons (pv 2) pa_nil)) (pv 1)))))
      pss_nil)
      (pss_cons (ps_asg (pe_op op_add (pe_ix ix_list (pv 0) pe_int (fun _ _ => rfl)) pe_int) (pg_sub (pv 0) pe_int set_list))
      (pss_cons (ps_set (i := 3) sc__law_draw.nd rfl (Or.inl rfl) (pe_op op_mod (pe_callTy (T := "int") call_int1 (by rfl) T.b_int (by decide +kernel) (pa_cons (pe_op op_add (pe_op op_add (pe_op op_mul (pv 2) pe_int) (pe_op op_mul (pe_ix ix_list (pv 0) pe_int (fun _ _ => rfl)) pe_int)) pe_int) pa_nil)) pe_int))
      (pss_cons (ps_set (i := 3) sc__law_draw.nd rfl (Or.inl rfl) (pe_op op_mod (pe_callTy (T := "int") call_int1 (by rfl) T.b_int (by decide +kernel) (pa_cons (pe_op op_mul (pv 3) (pe_op op_add (pe_op op_fdiv (pv 3) pe_int) pe_int)) pa_nil)) pe_int))
      (pss_cons (ps_set (i := 3) sc__law_draw.nd rfl (Or.inl rfl) (pe_op op_mod (pe_callTy (T := "int") call_int1 (by rfl) T.b_int (by decide +kernel) (pa_cons (pe_op op_mul (pv 3) (pe_op op_add (pe_op op_add (pe_op op_fdiv (pv 3) pe_int) pe_int) (pe_ix ix_list (pv 0) pe_int (fun _ _ => rfl)))) pa_nil)) pe_int))
      (pss_one (ps_ret (pe_op op_mod (pe_callTy (T := "int") call_int1 (by rfl) T.b_int (by decide +kernel) (pa_cons (pe_op op_fdiv (pv 3) pe_int) pa_nil)) (pv 1)))))))))), ?_⟩
    obtain ⟨x, i, b, s', t, hd, hc, h0, h1⟩ := D.ex
    subst hc
    walk_at "rr"
    refine ite2 (fun g => ?_) (fun g => ?_)
    · walk_at "rr"
      refine ⟨wide_div hn hn2 (by decide) (by decide), ?_⟩
      walk_at "rr"
      exact k _ _ (Int.emod_nonneg _ (by omega)) (Int.emod_lt_of_pos _ hn) Keep.upd ⟨_, _, _, 0, 0, upd_same, rfl, Int.ediv_nonneg h0 (by omega), h1⟩
    · walk_at "rr"
      exact k _ _ (Int.emod_nonneg _ (by omega)) (Int.emod_lt_of_pos _ hn) Keep.upd ⟨_, _, _, 0, 0, upd_same, rfl, h0, by show 0 ≤ i + 1; omega⟩
end
end Toy

namespace Toy
open PySem PySem.Spec PyProof.Rows L2
local macro_rules | `(tactic| walk_at "hp") => `(tactic| first
  | assumption
  | exact upd_same
  | (refine Eq.trans (upd_ne (by first | assumption | (apply Ne.symm; assumption))) ?_; walk_at "hp"))
local macro_rules | `(tactic| walk_at "side") => `(tactic| first
  | exact .inl ⟨by omega, by omega⟩
  | exact .inr ⟨by omega, by omega⟩
  | exact ⟨by omega, by omega⟩
  | (show _ ≤ _; omega)
  | (show (_ : Int) < _; omega)
  | decide
  | assumption)
local macro_rules | `(tactic| walk_at "r") => `(tactic| first
  | refine ⟨_, rfl, ?_⟩
  | refine ⟨_, _, rfl, rfl, ?_⟩
  | refine ⟨_, _, _, _, rfl, rfl, SqL.of (by walk_at "hp"), rfl, ?_⟩
  | refine ⟨_, _, _, _, rfl, rfl, SqT.of (by walk_at "hp"), rfl, ?_⟩
  | refine ⟨_, _, _, _, rfl, rfl, (by walk_at "hp"), rfl, ?_⟩
  | refine And.intro rfl ?_
  | refine ⟨_, _, rfl, SqT.of (by walk_at "hp"), ?_⟩
  | refine ⟨_, _, rfl, SqL.of (by walk_at "hp"), ?_⟩
  | refine .inl ⟨_, rfl, ?_⟩
  | refine ⟨_, _, rfl, .inl (SqL.of (by walk_at "hp")), ?_⟩
  | refine ⟨_, _, rfl, .inr (SqT.of (by walk_at "hp")), ?_⟩
  | refine ⟨_, _, rfl, .inl ⟨SqL.of (by walk_at "hp"), ?_⟩⟩
  | refine And.intro (.inl ⟨rfl, _, SqL.of (by walk_at "hp")⟩) ?_
  | refine ⟨_, _, _, rfl, rfl, (by walk_at "hp"), ?_⟩
  | refine ⟨_, _, rfl, (by walk_at "hp"), ?_⟩
  | refine And.intro (by walk_at "side") ?_)
local macro_rules | `(tactic| walk_at "rr") => `(tactic| (repeat walk_at "r"))
local macro_rules | `(tactic| walk_at "k") => `(tactic| first
  | refine ite2 (fun _ => ?_) (fun g => absurd rfl g)
  | refine ite2 (fun g => absurd g (by decide)) (fun _ => ?_)
  | refine ite2 (fun _ => ?_) (fun g => absurd (decide_eq_true (by omega)) g)
  | refine ite2 (fun g => absurd (of_decide_eq_true g) (by omega)) (fun _ => ?_)
  | refine ite2 (fun g => (nd_t g (by omega)).elim) (fun _ => ?_)
  | refine ite2 (fun _ => ?_) (fun g => absurd (nd_f g) (by omega)))
local macro_rules | `(tactic| walk_at "rk") => `(tactic| (repeat (first | walk_at "r" | walk_at "k")))
def spWordS : Sp := fun vs H Q _ => ∃ (d c : Addr), vs = [.ref d] ∧ Dice c H d ∧ ∀ z H', Name 8 z → Keep d H H' → Dice c H' d → Q (.str z) H'
section
variable {P : Program} {w : World} {K : PySem.W.Frag} {mg : Str → Option Value} {base : Heap}
theorem ok__law_word (T : Top K mg) : Ok P w K mg base 2 "_law_word" ["stock"] spWordS := by
  refine ok_of T.d__law_word sc__law_word (fun vs H Q E h => ?_) (fun f cdv A outer s H vs Q E hr h => ?_)
  · obtain ⟨d, c, rfl, _⟩ := h
    rfl
  · obtain ⟨d, c, rfl, D, k⟩ := h
    obtain ⟨f__law_draw, fd__law_draw, m__law_draw, k__law_draw, b__law_draw, G__law_draw⟩ := ok__law_draw (P := P) (w := w) (base := base) T
    have hr__law_draw : Room 1 _ := hr.mono (by decide)
    refine ⟨_, (pss_cons (ps_set (i := 1) sc__law_word.nd rfl (Or.inl rfl) pe_str)
      (pss_cons (ps_set (i := 2) sc__law_word.nd rfl (Or.inl rfl) pe_str)
      (pss_cons (ps_for PassesOwn.never rfl (pi_range1 (by rfl) T.b_range (pa_cons (pe_op op_add pe_int (pe_call G__law_draw hr__law_draw rfl m__law_draw k__law_draw b__law_draw .nil pass0 (pa_cons (pv 0) (pa_cons pe_int pa_nil)))) pa_nil)) (pg_name (i := 3) sc__law_word.nd rfl (Or.inl rfl))
      (pss_one (ps_set (i := 2) sc__law_word.nd rfl (Or.inl rfl) (pe_op op_add_str (pv 2) (pe_item_str (pv 1) (pe_call G__law_draw hr__law_draw rfl m__law_draw k__law_draw b__law_draw .nil pass0 (pa_cons (pv 0) (pa_cons pe_int pa_nil))) (fun _ _ => rfl))))))
      (pss_one (ps_ret (pv 2)))))), ?_⟩
    walk_at "rr"
    refine ⟨_, _, _, rfl, D, by decide, by decide, fun v H1 v0 v1 k1 D1 => ?_⟩
    walk_at "rr"
    refine for_range (lo := 0) (n := (1 + v).toNat) (fun i σ' H2 => ∃ (z : Str) (o : Option V), σ' = [some (.ref d), some (.str abc), some (.str z), o] ∧ Keep d H H2 ∧ Dice c H2 d ∧ z.length = i ∧ Low z)
      ⟨_, none, rfl, k1, D1, (by decide +kernel), ⟨by decide +kernel⟩⟩ ?_ ?_
    · rintro i σ' H2 hi ⟨z, o, rfl, k2, D2, hz, hl⟩
      walk_at "rr"
      refine ⟨_, _, _, rfl, D2, by decide, by decide, fun u H3 u0 u1 k3 D3 => ?_⟩
      obtain ⟨ch, hc, c1, c2⟩ := abc_at u.toNat (by omega)
      refine ⟨_, _, ch, rfl, rfl, by omega, by omega, by rw [abc_len]; omega, hc, ?_⟩
      refine ⟨_, _, rfl, rfl, Nat.le_of_lt (small1000 (by rw [hz]; show i + 1 ≤ 1000; omega)), ?_⟩
      exact ⟨_, _, rfl, k2.trans k3, D3, by rw [len_app, hz], hl.app c1 c2⟩
    · rintro σ' H2 ⟨z, o, rfl, k2, D2, hz, hl⟩
      walk_at "rr"
      exact k _ _ ⟨by omega, by omega, hl⟩ k2 D2
end
end Toy

namespace Toy
open PySem PySem.Spec PyProof.Rows L2
local macro_rules | `(tactic| walk_at "hp") => `(tactic| first
  | assumption
  | exact upd_same
  | (refine Eq.trans (upd_ne (by first | assumption | (apply Ne.symm; assumption))) ?_; walk_at "hp"))
local macro_rules | `(tactic| walk_at "side") => `(tactic| first
  | exact .inl ⟨by omega, by omega⟩
  | exact .inr ⟨by omega, by omega⟩
  | exact ⟨by omega, by omega⟩
  | (show _ ≤ _; omega)
  | (show (_ : Int) < _; omega)
  | decide
  | assumption)
local macro_rules | `(tactic| walk_at "r") => `(tactic| first
  | refine ⟨_, rfl, ?_⟩
  | refine ⟨_, _, rfl, rfl, ?_⟩
  | refine ⟨_, _, _, _, rfl, rfl, SqL.of (by walk_at "hp"), rfl, ?_⟩
  | refine ⟨_, _, _, _, rfl, rfl, SqT.of (by walk_at "hp"), rfl, ?_⟩
  | refine ⟨_, _, _, _, rfl, rfl, (by walk_at "hp"), rfl, ?_⟩
  | refine And.intro rfl ?_
  | refine ⟨_, _, rfl, SqT.of (by walk_at "hp"), ?_⟩
  | refine ⟨_, _, rfl, SqL.of (by walk_at "hp"), ?_⟩
  | refine .inl ⟨_, rfl, ?_⟩
  | refine ⟨_, _, rfl, .inl (SqL.of (by walk_at "hp")), ?_⟩
  | refine ⟨_, _, rfl, .inr (SqT.of (by walk_at "hp")), ?_⟩
  | refine ⟨_, _, rfl, .inl ⟨SqL.of (by walk_at "hp"), ?_⟩⟩
  | refine And.intro (.inl ⟨rfl, _, SqL.of (by walk_at "hp")⟩) ?_
  | refine ⟨_, _, _, rfl, rfl, (by walk_at "hp"), ?_⟩
  | refine ⟨_, _, rfl, (by walk_at "hp"), ?_⟩
  | refine And.intro (by walk_at "side") ?_)
local macro_rules | `(tactic| walk_at "rr") => `(tactic| (repeat walk_at "r"))
local macro_rules | `(tactic| walk_at "k") => `(tactic| first
  | refine ite2 (fun _ => ?_) (fun g => absurd rfl g)
  | refine ite2 (fun g => absurd g (by decide)) (fun _ => ?_)
  | refine ite2 (fun _ => ?_) (fun g => absurd (decide_eq_true (by omega)) g)
  | refine ite2 (fun g => absurd (of_decide_eq_true g) (by omega)) (fun _ => ?_)
  | refine ite2 (fun g => (nd_t g (by omega)).elim) (fun _ => ?_)
  | refine ite2 (fun _ => ?_) (fun g => absurd (nd_f g) (by omega)))
local macro_rules | `(tactic| walk_at "rk") => `(tactic| (repeat (first | walk_at "r" | walk_at "k")))
def spNamesS : Sp := fun vs H Q _ => ∃ (d c : Addr) (n : Int), vs = [.ref d, .int n] ∧ Dice c H d ∧ 0 ≤ n ∧ n ≤ 1000 ∧
  ∀ (l : Addr) (zs : List Str) (H' : Hp), H l = none → H' l = some (.lst (zs.map V.str)) → zs.Nodup → (0 < n → 1 ≤ zs.length) → (zs.length : Int) ≤ n → (∀ z ∈ zs, Name 8 z) → Keep d H H' → Dice c H' d → Q (.ref l) H'
section
variable {P : Program} {w : World} {K : PySem.W.Frag} {mg : Str → Option Value} {base : Heap}
theorem ok__law_names (T : Top K mg) : Ok P w K mg base 3 "_law_names" ["stock", "many"] spNamesS := by
  refine ok_of T.d__law_names sc__law_names (fun vs H Q E h => ?_) (fun f cdv A outer s H vs Q E hr h => ?_)
  · obtain ⟨d, c, n, rfl, _⟩ := h
    rfl
  · obtain ⟨d, c, n, rfl, D, hn, hn2, k⟩ := h
    obtain ⟨f__law_draw, fd__law_draw, m__law_draw, k__law_draw, b__law_draw, G__law_draw⟩ := ok__law_draw (P := P) (w := w) (base := base) T
    have hr__law_draw : Room 1 _ := hr.mono (by decide)
    obtain ⟨f__law_word, fd__law_word, m__law_word, k__law_word, b__law_word, G__law_word⟩ := ok__law_word (P := P) (w := w) (base := base) T
    have hr__law_word : Room 2 _ := hr.mono (by decide)
    have hu64 := hr.units
    refine ⟨_, (pss_cons (ps_set (i := 2) sc__law_names.nd rfl (Or.inl rfl) (pe_lst pa_nil))
      (pss_cons (ps_for PassesOwn.never rfl (pi_range1 (by rfl) T.b_range (pa_cons (pv 1) pa_nil)) (pg_name (i := 3) sc__law_names.nd rfl (Or.inl rfl))
      (pss_cons (ps_set (i := 4) sc__law_names.nd rfl (Or.inl rfl) (pe_call G__law_draw hr__law_draw rfl m__law_draw k__law_draw b__law_draw .nil pass0 (pa_cons (pv 0) (pa_cons pe_int pa_nil))))
      (pss_cons (ps_set (i := 5) sc__law_names.nd rfl (Or.inl rfl) (pe_call G__law_word hr__law_word rfl m__law_word k__law_word b__law_word .nil pass0 (pa_cons (pv 0) pa_nil)))
      (C8.pss_cut (ps_if (PW.pt (pw_and (pt_cmpR (op_neD hu64) (pv 2) (pe_lst pa_nil) (nomark _)) (pw_and1 (pt_cmpR op_eq (pv 4) pe_int (nomark _)))))
      (pss_one (ps_set (i := 5) sc__law_names.nd rfl (Or.inl rfl) (pe_slice sl_str (pe_op op_add_str (pe_ix ix_list (pv 2) (pe_un un_neg pe_int) (fun _ _ => rfl)) (pv 5)) po_none (po_some pe_int))))
      pss_nil)
      (pss_one (ps_if (pt_cmpR op_notIn_seq (pv 5) (pv 2) rfl)
      (pss_one (ps_expr (pe_bm PySem.F.plainAttrs_list PySem.F.slot_list_append PySem.F.type_list_append mt_append (pv 2) (pa_cons (pv 5) pa_nil))))
      pss_nil))))))
      (pss_one (ps_ret (pv 2))))), ?_⟩
    refine ⟨(by show 0 ≤ sizeLine; decide), fun l nl => ?_⟩
    have nld := D.ne nl
    have nlc := D.nc nl
    walk_at "rr"
    refine for_range (lo := 0) (n := n.toNat) (fun i σ' H2 => ∃ (zs : List Str) (o o' o'' : Option V), σ' = [some (.ref d), some (.int n), some (.ref l), o, o', o''] ∧ H2 l = some (.lst (zs.map V.str)) ∧ zs.Nodup ∧ (1 ≤ i → 1 ≤ zs.length) ∧ zs.length ≤ i ∧ (∀ z ∈ zs, Name 8 z) ∧ Keep d H H2 ∧ Dice c H2 d)
      ⟨[], none, none, none, rfl, upd_same, .nil, by omega, Nat.le_refl _, (by simp), same_keep (same_new nl), D.upd nld nlc⟩ ?_ ?_
    · rintro i σ' H2 hi ⟨zs, o, o', o'', rfl, hl, nd, h1, h2, hN, k2, D2⟩
      walk_at "rr"
      refine ⟨_, _, _, rfl, D2, by decide, by decide, fun v H3 v0 v1 k3 D3 => ?_⟩
      have hl3 := k3 _ _ nld hl
      walk_at "rr"
      refine fun z H4 hz k4 D4 => ?_
      have hl4 := k4 _ _ nld hl3
      have k24 := (k2.trans k3).trans k4
      refine ⟨fun σ' G => (∃ z o o', σ' = [some (.ref d), some (.int n), some (.ref l), o, o', some (.str z)] ∧ Name 8 z) ∧ Keep d H G ∧ Dice c G d ∧ G l = some (.lst (zs.map V.str)), ?_, ?_⟩
      · refine ⟨_, rfl, (by show 0 ≤ sizeLine; decide), fun e ne => ?_⟩
        have ned := D4.ne ne
        have nec := D4.nc ne
        have nel : l ≠ e := ne_of_none hl4 ne
        have low : ∀ y ∈ zs, Low y := fun y my => (hN y my).low
        have k25 : Keep d H (upd H4 e (.lst [])) := k24.mut (k24.free ned ne)
        have D5 := D4.upd ned nec (o := .lst [])
        have hl5 : (upd H4 e (.lst [])) l = some (.lst (zs.map V.str)) := (upd_ne nel).trans hl4
        have he5 : (upd H4 e (.lst [])) e = some (.lst []) := upd_same
        generalize upd H4 e (.lst []) = H5 at *
        refine ⟨.list (zs.map PyData.str), .list (([] : List Str).map PyData.str), .lst (SqL.of hl5) (tdp_strs zs), .lst (SqL.of he5) .nil, tshaped_strs low, tshaped_strs (by simp), _, rfl, ?_⟩
        rw [tstrL_eqv]
        refine ite2 (fun g => ?_) (fun g => ⟨⟨_, _, _, rfl, hz⟩, k25, D5, hl5⟩)
        have g : zs ≠ [] := by
          intro q
          rw [q] at g
          exact absurd g (by simp)
        walk_at "rr"
        refine ite2 (fun g2 => ?_) (fun g2 => ⟨⟨_, _, _, rfl, hz⟩, k25, D5, hl5⟩)
        obtain ⟨y, hy⟩ : ∃ y, zs.getLast? = some y := ⟨_, List.getLast?_eq_some_getLast g⟩
        have hyN := hN y (List.mem_of_getLast? hy)
        have hat : atI (zs.map V.str) (-1) = some (.str y) := by
          obtain ⟨ys, e⟩ := List.getLast?_eq_some_iff.mp hy
          rw [e, List.map_append]
          exact atI_last _ _
        have h1 := hyN.hi
        have h2 := hz.hi
        have h3 := hz.lo
        have lyz : (y ++ z).length = y.length + z.length := PySem.Str.length_append _ _
        refine ⟨_, rfl, 1, rfl, l, _, _, _, rfl, rfl, SqL.of hl5, hat, _, rfl, y, z, rfl, rfl, Nat.le_of_lt (small1000 (by omega)), ?_⟩
        refine ⟨8, rfl, _, rfl, by rw [lyz]; exact Nat.le_of_lt (small1000 (by omega)), ?_⟩
        exact ⟨⟨_, _, _, rfl, cut8 (by omega) (low_two hyN.low hz.low)⟩, k25, D5, hl5⟩
      rintro σ' H5 ⟨⟨z, o, o', rfl, hz⟩, k5, D5, hl5⟩
      walk_at "rr"
      refine ⟨flat_str _, ?_⟩
      walk_at "rr"
      refine ite2 (fun g => ?_) (fun g => ?_)
      · have g : ¬ z ∈ zs := by
          have g : (!inV (.str z) (zs.map V.str)) = true := g
          rw [inV_str] at g
          simpa using g
        walk_at "rr"
        refine ⟨(by rw [List.length_map]; exact small1000 (by omega)), zs ++ [z], _, _, _, rfl, ?_, ?_, ?_, ?_, ?_, k5.mut nl, D5.upd nld nlc⟩
        · rw [upd_same, List.map_append]; rfl
        · exact nd_snoc nd g
        · intro _; rw [List.length_append]; exact Nat.le_add_left _ _
        · rw [List.length_append]; exact Nat.add_le_add_right h2 1
        · intro y hy
          rcases List.mem_append.mp hy with q | q
          · exact hN y q
          · rw [List.mem_singleton.mp q]; exact hz
      · have g : z ∈ zs := by
          have g : ¬ (!inV (.str z) (zs.map V.str)) = true := g
          rw [inV_str] at g
          simpa using g
        exact ⟨zs, _, _, _, rfl, hl5, nd, fun _ => List.length_pos_of_mem g, by omega, hN, k5, D5⟩
    · rintro σ' H2 ⟨zs, o, o', o'', rfl, hl, nd, h1, h2, hN, k2, D2⟩
      walk_at "rr"
      exact k l zs H2 nl hl nd (fun g => h1 (by omega)) (by omega) hN k2 D2
end
end Toy

namespace Toy
open PySem PySem.Spec PyProof.Rows L2
local macro_rules | `(tactic| walk_at "hp") => `(tactic| first
  | assumption
  | exact upd_same
  | (refine Eq.trans (upd_ne (by first | assumption | (apply Ne.symm; assumption))) ?_; walk_at "hp"))
local macro_rules | `(tactic| walk_at "side") => `(tactic| first
  | exact .inl ⟨by omega, by omega⟩
  | exact .inr ⟨by omega, by omega⟩
  | exact ⟨by omega, by omega⟩
  | (show _ ≤ _; omega)
  | (show (_ : Int) < _; omega)
  | decide
  | assumption)
local macro_rules | `(tactic| walk_at "r") => `(tactic| first
  | refine ⟨_, rfl, ?_⟩
  | refine ⟨_, _, rfl, rfl, ?_⟩
  | refine ⟨_, _, _, _, rfl, rfl, SqL.of (by walk_at "hp"), rfl, ?_⟩
  | refine ⟨_, _, _, _, rfl, rfl, SqT.of (by walk_at "hp"), rfl, ?_⟩
  | refine ⟨_, _, _, _, rfl, rfl, (by walk_at "hp"), rfl, ?_⟩
  | refine And.intro rfl ?_
  | refine ⟨_, _, rfl, SqT.of (by walk_at "hp"), ?_⟩
  | refine ⟨_, _, rfl, SqL.of (by walk_at "hp"), ?_⟩
  | refine .inl ⟨_, rfl, ?_⟩
  | refine ⟨_, _, rfl, .inl (SqL.of (by walk_at "hp")), ?_⟩
  | refine ⟨_, _, rfl, .inr (SqT.of (by walk_at "hp")), ?_⟩
  | refine ⟨_, _, rfl, .inl ⟨SqL.of (by walk_at "hp"), ?_⟩⟩
  | refine And.intro (.inl ⟨rfl, _, SqL.of (by walk_at "hp")⟩) ?_
  | refine ⟨_, _, _, rfl, rfl, (by walk_at "hp"), ?_⟩
  | refine ⟨_, _, rfl, (by walk_at "hp"), ?_⟩
  | refine And.intro (by walk_at "side") ?_)
local macro_rules | `(tactic| walk_at "rr") => `(tactic| (repeat walk_at "r"))
local macro_rules | `(tactic| walk_at "k") => `(tactic| first
  | refine ite2 (fun _ => ?_) (fun g => absurd rfl g)
  | refine ite2 (fun g => absurd g (by decide)) (fun _ => ?_)
  | refine ite2 (fun _ => ?_) (fun g => absurd (decide_eq_true (by omega)) g)
  | refine ite2 (fun g => absurd (of_decide_eq_true g) (by omega)) (fun _ => ?_)
  | refine ite2 (fun g => (nd_t g (by omega)).elim) (fun _ => ?_)
  | refine ite2 (fun _ => ?_) (fun g => absurd (nd_f g) (by omega)))
local macro_rules | `(tactic| walk_at "rk") => `(tactic| (repeat (first | walk_at "r" | walk_at "k")))
section
variable {P : Program} {w : World} {K : PySem.W.Frag} {mg : Str → Option Value} {base : Heap}
end
end Toy

namespace Toy
open PySem PySem.Spec PyProof.Rows L2
local macro_rules | `(tactic| walk_at "hp") => `(tactic| first
  | assumption
  | exact upd_same
  | (refine Eq.trans (upd_ne (by first | assumption | (apply Ne.symm; assumption))) ?_; walk_at "hp"))
local macro_rules | `(tactic| walk_at "side") => `(tactic| first
  | exact .inl ⟨by omega, by omega⟩
  | exact .inr ⟨by omega, by omega⟩
  | exact ⟨by omega, by omega⟩
  | (show _ ≤ _; omega)
  | (show (_ : Int) < _; omega)
  | decide
  | assumption)
local macro_rules | `(tactic| walk_at "r") => `(tactic| first
  | refine ⟨_, rfl, ?_⟩
  | refine ⟨_, _, rfl, rfl, ?_⟩
  | refine ⟨_, _, _, _, rfl, rfl, SqL.of (by walk_at "hp"), rfl, ?_⟩
  | refine ⟨_, _, _, _, rfl, rfl, SqT.of (by walk_at "hp"), rfl, ?_⟩
  | refine ⟨_, _, _, _, rfl, rfl, (by walk_at "hp"), rfl, ?_⟩
  | refine And.intro rfl ?_
  | refine ⟨_, _, rfl, SqT.of (by walk_at "hp"), ?_⟩
  | refine ⟨_, _, rfl, SqL.of (by walk_at "hp"), ?_⟩
  | refine .inl ⟨_, rfl, ?_⟩
  | refine ⟨_, _, rfl, .inl (SqL.of (by walk_at "hp")), ?_⟩
  | refine ⟨_, _, rfl, .inr (SqT.of (by walk_at "hp")), ?_⟩
  | refine ⟨_, _, rfl, .inl ⟨SqL.of (by walk_at "hp"), ?_⟩⟩
  | refine And.intro (.inl ⟨rfl, _, SqL.of (by walk_at "hp")⟩) ?_
  | refine ⟨_, _, _, rfl, rfl, (by walk_at "hp"), ?_⟩
  | refine ⟨_, _, rfl, (by walk_at "hp"), ?_⟩
  | refine And.intro (by walk_at "side") ?_)
local macro_rules | `(tactic| walk_at "rr") => `(tactic| (repeat walk_at "r"))
local macro_rules | `(tactic| walk_at "k") => `(tactic| first
  | refine ite2 (fun _ => ?_) (fun g => absurd rfl g)
  | refine ite2 (fun g => absurd g (by decide)) (fun _ => ?_)
  | refine ite2 (fun _ => ?_) (fun g => absurd (decide_eq_true (by omega)) g)
  | refine ite2 (fun g => absurd (of_decide_eq_true g) (by omega)) (fun _ => ?_)
  | refine ite2 (fun g => (nd_t g (by omega)).elim) (fun _ => ?_)
  | refine ite2 (fun _ => ?_) (fun g => absurd (nd_f g) (by omega)))
local macro_rules | `(tactic| walk_at "rk") => `(tactic| (repeat (first | walk_at "r" | walk_at "k")))
theorem isTup_noG {K : PySem.W.Frag} {H : Hp} {m : Int} {v : V} {n : String} (h : TyG K H v n) (hn : (n == "tuple") = false) : isTup H m v = false := by
  cases h with
  | blt h => exact isTup_no h hn
  | ins h _ _ => unfold isTup; simp only [h]
  | err h _ => unfold isTup ExO at *; simp only [h]
theorem tyG_blt {K : PySem.W.Frag} {H : Hp} {v : V} {n : String} (h : TyG K H v n) (e : n ≠ "object") : tyN H v = some n := by
  cases h with
  | blt h => exact h
  | ins _ _ _ => exact absurd rfl e
  | err _ _ => exact absurd rfl e
theorem tyG_tup {K : PySem.W.Frag} {H : Hp} {v : V} (h : TyG K H v "tuple") : ∃ a xs, v = .ref a ∧ H a = some (.tup xs) := tyN_tup (tyG_blt h (by decide))
theorem isOf_tup (n : String) : isOf n "tuple" = (n == "tuple") := by unfold isOf; simp
theorem isOf_str (n : String) : isOf n "str" = (n == "str") := by unfold isOf; simp
theorem isOf_bool (n : String) : isOf n "bool" = (n == "bool") := by unfold isOf; simp
def spTupG (K : PySem.W.Frag) : Sp := fun vs H Q _ => ∃ (v : V) (n : String) (m : Int), vs = [v, .int m] ∧ TyG K H v n ∧ Q (.bl (isTup H m v)) H
section
variable {P : Program} {w : World} {K : PySem.W.Frag} {mg : Str → Option Value} {base : Heap}
theorem okG_is_tuple_of (T : Top K mg) : Ok P w K mg base 1 "is_tuple_of" ["thing", "many"] (spTupG K) := by
  refine ok_of T.d_is_tuple_of sc_is_tuple_of (fun vs H Q E h => ?_) (fun f cdv A outer s H vs Q E hr h => ?_)
  · obtain ⟨v, n, m, rfl, _⟩ := h
    rfl
  · obtain ⟨v, n, m, rfl, hn, k⟩ := h
    refine ⟨_, (pss_one (ps_ret (pe_and (pe_callB (id := "isinstance") (call_isG (T := "tuple") (by simp [six])) (by rfl) T.b_isinstance (by decide +kernel) (pa_cons (pv 0) (pa_cons (pe_bltn (v := .ty "tuple") (u := .type "tuple") (by rfl) T.b_tuple (by decide +kernel) rfl) pa_nil))) (pe_one (pe_cmpR op_eq (pe_callB call_len_seq (by rfl) T.b_len (by decide +kernel) (pa_cons (pv 0) pa_nil)) (pv 1) (nomark _)))))), ?_⟩
    refine ⟨_, rfl, _, n, rfl, hn, _, rfl, ?_⟩
    rw [isOf_tup]
    refine ite2 (fun g => ?_) (fun g => ?_)
    · have g := beq_iff_eq.mp g
      subst g
      obtain ⟨a, xs, rfl, ha⟩ := tyG_tup hn
      have e : isTup H m (.ref a) = decide ((xs.length : Int) = m) := by unfold isTup; simp only [ha]
      rw [e] at k
      walk_at "rr"
      rw [dec_int]
      exact k
    · rw [isTup_noG hn (by simpa using g)] at k
      exact k
theorem ok_is_tuple_of (T : Top K mg) : Ok P w K mg base 1 "is_tuple_of" ["thing", "many"] spIsTupleOf := by
  obtain ⟨f, fd, m, k, b, F⟩ := okG_is_tuple_of (P := P) (w := w) (base := base) T
  exact ⟨f, fd, m, k, b, F.imp fun vs H Q E ⟨v, n, i, e, h, q⟩ => ⟨v, n, i, e, .blt h, q⟩⟩
end
end Toy

namespace Toy
open PySem PySem.Spec PyProof.Rows L2
local macro_rules | `(tactic| walk_at "hp") => `(tactic| first
  | assumption
  | exact upd_same
  | (refine Eq.trans (upd_ne (by first | assumption | (apply Ne.symm; assumption))) ?_; walk_at "hp"))
local macro_rules | `(tactic| walk_at "side") => `(tactic| first
  | exact .inl ⟨by omega, by omega⟩
  | exact .inr ⟨by omega, by omega⟩
  | exact ⟨by omega, by omega⟩
  | (show _ ≤ _; omega)
  | (show (_ : Int) < _; omega)
  | decide
  | assumption)
local macro_rules | `(tactic| walk_at "r") => `(tactic| first
  | refine ⟨_, rfl, ?_⟩
  | refine ⟨_, _, rfl, rfl, ?_⟩
  | refine ⟨_, _, _, _, rfl, rfl, SqL.of (by walk_at "hp"), rfl, ?_⟩
  | refine ⟨_, _, _, _, rfl, rfl, SqT.of (by walk_at "hp"), rfl, ?_⟩
  | refine ⟨_, _, _, _, rfl, rfl, (by walk_at "hp"), rfl, ?_⟩
  | refine And.intro rfl ?_
  | refine ⟨_, _, rfl, SqT.of (by walk_at "hp"), ?_⟩
  | refine ⟨_, _, rfl, SqL.of (by walk_at "hp"), ?_⟩
  | refine .inl ⟨_, rfl, ?_⟩
  | refine ⟨_, _, rfl, .inl (SqL.of (by walk_at "hp")), ?_⟩
  | refine ⟨_, _, rfl, .inr (SqT.of (by walk_at "hp")), ?_⟩
  | refine ⟨_, _, rfl, .inl ⟨SqL.of (by walk_at "hp"), ?_⟩⟩
  | refine And.intro (.inl ⟨rfl, _, SqL.of (by walk_at "hp")⟩) ?_
  | refine ⟨_, _, _, rfl, rfl, (by walk_at "hp"), ?_⟩
  | refine ⟨_, _, rfl, (by walk_at "hp"), ?_⟩
  | refine And.intro (by walk_at "side") ?_)
local macro_rules | `(tactic| walk_at "rr") => `(tactic| (repeat walk_at "r"))
local macro_rules | `(tactic| walk_at "k") => `(tactic| first
  | refine ite2 (fun _ => ?_) (fun g => absurd rfl g)
  | refine ite2 (fun g => absurd g (by decide)) (fun _ => ?_)
  | refine ite2 (fun _ => ?_) (fun g => absurd (decide_eq_true (by omega)) g)
  | refine ite2 (fun g => absurd (of_decide_eq_true g) (by omega)) (fun _ => ?_)
  | refine ite2 (fun g => (nd_t g (by omega)).elim) (fun _ => ?_)
  | refine ite2 (fun _ => ?_) (fun g => absurd (nd_f g) (by omega)))
local macro_rules | `(tactic| walk_at "rk") => `(tactic| (repeat (first | walk_at "r" | walk_at "k")))
section
variable {P : Program} {w : World} {K : PySem.W.Frag} {mg : Str → Option Value} {base : Heap}
theorem ok_is_integer (T : Top K mg) : Ok P w K mg base 1 "is_integer" ["thing"] spIsInteger := by
  refine ok_of T.d_is_integer sc_is_integer (fun vs H Q E h => ?_) (fun f cdv A outer s H vs Q E hr h => ?_)
  · obtain ⟨v, n, rfl, _⟩ := h
    rfl
  · obtain ⟨v, n, rfl, hn, k⟩ := h
    refine ⟨_, (pss_one (ps_ret (pe_and (pe_callB (id := "isinstance") (call_isN (T := "int")) (by rfl) T.b_isinstance (by decide +kernel) (pa_cons (pv 0) (pa_cons (pe_bltn (v := .ty "int") (u := .type "int") (by rfl) T.b_int (by decide +kernel) rfl) pa_nil))) (pe_one (pe_not (pe_callB (id := "isinstance") (call_isN (T := "bool")) (by rfl) T.b_isinstance (by decide +kernel) (pa_cons (pv 0) (pa_cons (pe_bltn (v := .ty "bool") (u := .type "bool") (by rfl) T.b_bool (by decide +kernel) rfl) pa_nil)))))))), ?_⟩
    refine ⟨_, rfl, _, n, _, rfl, hn, kit7 hn (T := "int") (by simp), _, rfl, ?_⟩
    refine ite2 (fun g => ?_) (fun g => ?_)
    · refine ⟨_, rfl, _, n, _, rfl, hn, kit7 hn (T := "bool") (by simp), _, rfl, ?_⟩
      have e : (!(n == "bool" || n == "bool" && "bool" == "int")) = isI v := by
        rw [← isI_n hn]
        simp only [Bool.or_eq_true, Bool.and_eq_true, beq_iff_eq] at g
        rcases g with g | g
        · subst g; rfl
        · rw [g.1]; rfl
      rw [e]; exact k
    · have e : isI v = false := by
        rw [← isI_n hn]
        simp only [Bool.or_eq_true, Bool.and_eq_true, beq_iff_eq, not_or] at g
        simp [g.1]
      rw [e] at k; exact k
theorem ok_is_natural (T : Top K mg) : Ok P w K mg base 2 "is_natural" ["thing"] spIsNatural := by
  refine ok_of T.d_is_natural sc_is_natural (fun vs H Q E h => ?_) (fun f cdv A outer s H vs Q E hr h => ?_)
  · obtain ⟨v, n, rfl, _⟩ := h
    rfl
  · obtain ⟨v, n, rfl, hn, k⟩ := h
    obtain ⟨f_is_integer, fd_is_integer, m_is_integer, k_is_integer, b_is_integer, G_is_integer⟩ := ok_is_integer (P := P) (w := w) (base := base) T
    have hr_is_integer : Room 1 _ := hr.mono (by decide)
    refine ⟨_, (pss_one (ps_ret (pe_and (pe_call G_is_integer hr_is_integer rfl m_is_integer k_is_integer b_is_integer .nil pass0 (pa_cons (pv 0) pa_nil)) (pe_one (pe_cmpR op_ge (pv 0) pe_int (nomark _)))))), ?_⟩
    refine ⟨_, rfl, _, n, rfl, hn, _, rfl, ?_⟩
    refine ite2 (fun g => ?_) (fun g => ?_)
    · obtain ⟨i, rfl⟩ : ∃ i, v = .int i := by cases v <;> first | exact ⟨_, rfl⟩ | cases g
      walk_at "rr"
      exact k
    · rw [isNat_no (by simpa using g)] at k
      exact k
theorem ok_is_below (T : Top K mg) : Ok P w K mg base 3 "is_below" ["thing", "many"] spIsBelow := by
  refine ok_of T.d_is_below sc_is_below (fun vs H Q E h => ?_) (fun f cdv A outer s H vs Q E hr h => ?_)
  · obtain ⟨v, n, m, rfl, _⟩ := h
    rfl
  · obtain ⟨v, n, m, rfl, hn, k⟩ := h
    obtain ⟨f_is_natural, fd_is_natural, m_is_natural, k_is_natural, b_is_natural, G_is_natural⟩ := ok_is_natural (P := P) (w := w) (base := base) T
    have hr_is_natural : Room 2 _ := hr.mono (by decide)
    refine ⟨_, (pss_one (ps_ret (pe_and (pe_call G_is_natural hr_is_natural rfl m_is_natural k_is_natural b_is_natural .nil pass0 (pa_cons (pv 0) pa_nil)) (pe_one (pe_cmpR op_lt (pv 0) (pv 1) (nomark _)))))), ?_⟩
    refine ⟨_, rfl, _, n, rfl, hn, _, rfl, ?_⟩
    refine ite2 (fun g => ?_) (fun g => ?_)
    · obtain ⟨i, rfl⟩ : ∃ i, v = .int i := by cases v <;> first | exact ⟨_, rfl⟩ | cases g
      have g : 0 ≤ i := of_decide_eq_true g
      walk_at "rr"
      have e : isBelow m (.int i) = decide (i < m) := by
        show decide (0 ≤ i ∧ i < m) = _
        simp [g]
      rw [e] at k; exact k
    · rw [isBelow_no (by simpa using g)] at k
      exact k
theorem ok_is_row (T : Top K mg) : Ok P w K mg base 1 "is_row" ["thing"] spIsRow := by
  refine ok_of T.d_is_row sc_is_row (fun vs H Q E h => ?_) (fun f cdv A outer s H vs Q E hr h => ?_)
  · obtain ⟨v, n, rfl, _⟩ := h
    rfl
  · obtain ⟨v, n, rfl, hn, k⟩ := h
    refine ⟨_, (pss_one (ps_ret (pe_callB (id := "isinstance") (call_isN2 (T := "list") (U := "tuple")) (by rfl) T.b_isinstance (by decide +kernel) (pa_cons (pv 0) (pa_cons (pe_tup (pa_cons (pe_bltn (v := .ty "list") (u := .type "list") (by rfl) T.b_list (by decide +kernel) rfl) (pa_cons (pe_bltn (v := .ty "tuple") (u := .type "tuple") (by rfl) T.b_tuple (by decide +kernel) rfl) pa_nil))) pa_nil))))), ?_⟩
    refine ⟨_, rfl, (by show 2 ≤ sizeLine; decide), fun p hp => ?_⟩
    have hn' := tyN_keep (same_new (o := .tup [.ty "list", .ty "tuple"]) hp) hn
    have hb : (n == "list" || n == "bool" && "list" == "int" || (n == "tuple" || n == "bool" && "tuple" == "int")) = (n == "list" || n == "tuple") := by simp
    refine ⟨_, p, n, n == "list" || n == "tuple", rfl, upd_same, hn', (by rintro rfl; rfl), (by rintro rfl; rfl), ⟨_, _, kit7 hn (by simp), kit7 hn (by simp), hb.symm⟩, ?_⟩
    exact k _ (same_new hp)
theorem ok__is_price (T : Top K mg) : Ok P w K mg base 4 "_is_price" ["thing"] spIsPrice := by
  refine ok_of T.d__is_price sc__is_price (fun vs H Q E h => ?_) (fun f cdv A outer s H vs Q E hr h => ?_)
  · obtain ⟨v, n, rfl, _⟩ := h
    rfl
  · obtain ⟨v, n, rfl, hn, k⟩ := h
    obtain ⟨t_MOST_PRICE, g_MOST_PRICE⟩ := T.g_MOST_PRICE
    obtain ⟨f_is_below, fd_is_below, m_is_below, k_is_below, b_is_below, G_is_below⟩ := ok_is_below (P := P) (w := w) (base := base) T
    have hr_is_below : Room 3 _ := hr.mono (by decide)
    refine ⟨_, (pss_one (ps_ret (pe_call G_is_below hr_is_below rfl m_is_below k_is_below b_is_below .nil pass0 (pa_cons (pv 0) (pa_cons (pe_op op_add (pe_glob (v := .int 9) rfl g_MOST_PRICE ⟨_, rfl⟩) pe_int) pa_nil))))), ?_⟩
    walk_at "rr"
    exact ⟨_, n, _, rfl, hn, k⟩
end
end Toy

namespace Toy
open PySem PySem.Spec PyProof.Rows L2
local macro_rules | `(tactic| walk_at "hp") => `(tactic| first
  | assumption
  | exact upd_same
  | (refine Eq.trans (upd_ne (by first | assumption | (apply Ne.symm; assumption))) ?_; walk_at "hp"))
local macro_rules | `(tactic| walk_at "side") => `(tactic| first
  | exact .inl ⟨by omega, by omega⟩
  | exact .inr ⟨by omega, by omega⟩
  | exact ⟨by omega, by omega⟩
  | (show _ ≤ _; omega)
  | (show (_ : Int) < _; omega)
  | decide
  | assumption)
local macro_rules | `(tactic| walk_at "r") => `(tactic| first
  | refine ⟨_, rfl, ?_⟩
  | refine ⟨_, _, rfl, rfl, ?_⟩
  | refine ⟨_, _, _, _, rfl, rfl, SqL.of (by walk_at "hp"), rfl, ?_⟩
  | refine ⟨_, _, _, _, rfl, rfl, SqT.of (by walk_at "hp"), rfl, ?_⟩
  | refine ⟨_, _, _, _, rfl, rfl, (by walk_at "hp"), rfl, ?_⟩
  | refine And.intro rfl ?_
  | refine ⟨_, _, rfl, SqT.of (by walk_at "hp"), ?_⟩
  | refine ⟨_, _, rfl, SqL.of (by walk_at "hp"), ?_⟩
  | refine .inl ⟨_, rfl, ?_⟩
  | refine ⟨_, _, rfl, .inl (SqL.of (by walk_at "hp")), ?_⟩
  | refine ⟨_, _, rfl, .inr (SqT.of (by walk_at "hp")), ?_⟩
  | refine ⟨_, _, rfl, .inl ⟨SqL.of (by walk_at "hp"), ?_⟩⟩
  | refine And.intro (.inl ⟨rfl, _, SqL.of (by walk_at "hp")⟩) ?_
  | refine ⟨_, _, _, rfl, rfl, (by walk_at "hp"), ?_⟩
  | refine ⟨_, _, rfl, (by walk_at "hp"), ?_⟩
  | refine And.intro (by walk_at "side") ?_)
local macro_rules | `(tactic| walk_at "rr") => `(tactic| (repeat walk_at "r"))
local macro_rules | `(tactic| walk_at "k") => `(tactic| first
  | refine ite2 (fun _ => ?_) (fun g => absurd rfl g)
  | refine ite2 (fun g => absurd g (by decide)) (fun _ => ?_)
  | refine ite2 (fun _ => ?_) (fun g => absurd (decide_eq_true (by omega)) g)
  | refine ite2 (fun g => absurd (of_decide_eq_true g) (by omega)) (fun _ => ?_)
  | refine ite2 (fun g => (nd_t g (by omega)).elim) (fun _ => ?_)
  | refine ite2 (fun _ => ?_) (fun g => absurd (nd_f g) (by omega)))
local macro_rules | `(tactic| walk_at "rk") => `(tactic| (repeat (first | walk_at "r" | walk_at "k")))
section
variable {P : Program} {w : World} {K : PySem.W.Frag} {mg : Str → Option Value} {base : Heap}
theorem ok_is_name (T : Top K mg) : Ok P w K mg base 1 "is_name" ["thing"] spIsName := by
  refine ok_of T.d_is_name sc_is_name (fun vs H Q E h => ?_) (fun f cdv A outer s H vs Q E hr h => ?_)
  · obtain ⟨v, n, rfl, _⟩ := h
    rfl
  · obtain ⟨v, n, rfl, hn, hl, k⟩ := h
    obtain ⟨t_LETTERS, g_LETTERS⟩ := T.g_LETTERS
    refine ⟨_, (pss_one (ps_ret (pe_and (pe_callB (id := "isinstance") (call_isN (T := "str")) (by rfl) T.b_isinstance (by decide +kernel) (pa_cons (pv 0) (pa_cons (pe_bltn (v := .ty "str") (u := .type "str") (by rfl) T.b_str (by decide +kernel) rfl) pa_nil))) (pe_and (pe_chain op_le op_le pe_int (pe_callB call_len_str (by rfl) T.b_len (by decide +kernel) (pa_cons (pv 0) pa_nil)) pe_int) (pe_one (pe_callB (id := "all") (cr_all rfl) (by rfl) T.b_all (by decide +kernel) (pa_cons (pe_lc (own := [("letter", 1)]) (g := gName 1) rfl sc_is_name.nd (pi_str (pv 0)) (blkOk_by (own := [("letter", 1)]) (N := ["thing", "letter"]) (sc := defScope s_is_name) (by decide +kernel)) (fun _ _ _ _ _ => (pg_name (i := 1) sc_is_name.nd rfl (Or.inl rfl))) (fun _ _ _ _ _ => pts_nil) (fun _ _ _ _ _ => (pe_cmpR op_in_sign (pv 1) (pe_glob (v := .str "abcdefghijklmnopqrstuvwxyz") rfl g_LETTERS ⟨_, rfl⟩) rfl))) pa_nil))))))), ?_⟩
    refine ⟨_, rfl, _, n, _, rfl, hn, kit7 hn (T := "str") (by simp), _, rfl, ?_⟩
    have e0 : (n == "str" || n == "bool" && "str" == "int") = (n == "str") := by simp
    rw [e0]
    refine ite2 (fun g => ?_) (fun g => ?_)
    · have g := beq_iff_eq.mp g
      subst g
      obtain ⟨z, rfl⟩ := tyN_str hn
      have hz := hl z rfl
      have dom : isNm (.str z) = decide (1 ≤ z.length ∧ z.length ≤ 8 ∧ ∀ c ∈ z.cps.toList, 97 ≤ c ∧ c ≤ 122) := rfl
      walk_at "rr"
      refine ite2 (fun g => ?_) (fun g => ?_)
      · have g : 1 ≤ (z.length : Int) := of_decide_eq_true g
        walk_at "rr"
        refine ite2 (fun g2 => ?_) (fun g2 => ?_)
        · have g2 : (z.length : Int) ≤ 8 := of_decide_eq_true g2
          walk_at "rr"
          intro D nD
          have hsz : z.cps.size = z.length := rfl
          refine lc_it walk_str (fun i H2 => H2 D = some (.lst (((z.cps.toList.take i).map fun c => decide (97 ≤ c ∧ c ≤ 122)).map V.bl)) ∧ Same H H2) ⟨upd_same, same_new nD⟩ (fun _ _ _ _ => True.intro) ?_ ?_
          · rintro i x H2 H3 hi ⟨e1, e2⟩ ⟨rfl, ch, hc, rfl⟩
            refine ⟨rfl, ?_⟩
            refine yesT ?_
            refine ⟨_, rfl, ch, _, rfl, rfl, _, e1, ?_, ?_, ?_⟩
            · rw [List.length_map, List.length_map, List.length_take]; exact small1000 (by omega)
            · rw [upd_same, abc_mem]
              have hc' : z.cps.toList[i]? = some ch := by rw [Array.getElem?_toList]; exact hc
              rw [List.take_add_one, hc', List.map_append, List.map_append]
              rfl
            · intro b o hb
              rw [upd_ne (ne_of_none hb nD)]
              exact e2 b o hb
          · rintro H2 ⟨e1, e2⟩
            refine ⟨D, _, rfl, SqL.of e1, ?_⟩
            have hall : ((List.take z.cps.size z.cps.toList).map fun c => decide (97 ≤ c ∧ c ≤ 122)).all id = isNm (.str z) := by
              rw [dom, show z.cps.size = z.cps.toList.length from (Array.length_toList).symm, List.take_length]
              rw [List.all_map]
              by_cases hq : ∀ c ∈ z.cps.toList, 97 ≤ c ∧ c ≤ 122
              · rw [decide_eq_true ⟨by omega, by omega, hq⟩, List.all_eq_true]
                intro c hc
                exact decide_eq_true (hq c hc)
              · rw [decide_eq_false fun z => hq z.2.2]
                refine Bool.eq_false_iff.mpr fun hh => hq fun c hc => ?_
                exact of_decide_eq_true (List.all_eq_true.mp hh c hc)
            rw [hall]
            exact k H2 e2
        · have e : isNm (.str z) = false := by
            rw [dom]; exact decide_eq_false fun q => g2 (decide_eq_true (by omega))
          rw [e] at k; exact k _ (Same.refl _)
      · have e : isNm (.str z) = false := by
          rw [dom]; exact decide_eq_false fun q => g (decide_eq_true (by omega))
        rw [e] at k; exact ⟨_, rfl, ite2 (fun q => by cases q) (fun _ => k _ (Same.refl _))⟩
    · have e : isNm v = false := by
        cases v with
        | str z => exact absurd (Option.some.inj hn) (fun q => g (by rw [← q]; rfl))
        | _ => rfl
      rw [e] at k; exact k _ (Same.refl _)
end
end Toy

namespace Toy
open PySem PySem.Spec PyProof.Rows L2
local macro_rules | `(tactic| walk_at "hp") => `(tactic| first
  | assumption
  | exact upd_same
  | (refine Eq.trans (upd_ne (by first | assumption | (apply Ne.symm; assumption))) ?_; walk_at "hp"))
local macro_rules | `(tactic| walk_at "side") => `(tactic| first
  | exact .inl ⟨by omega, by omega⟩
  | exact .inr ⟨by omega, by omega⟩
  | exact ⟨by omega, by omega⟩
  | (show _ ≤ _; omega)
  | (show (_ : Int) < _; omega)
  | decide
  | assumption)
local macro_rules | `(tactic| walk_at "r") => `(tactic| first
  | refine ⟨_, rfl, ?_⟩
  | refine ⟨_, _, rfl, rfl, ?_⟩
  | refine ⟨_, _, _, _, rfl, rfl, SqL.of (by walk_at "hp"), rfl, ?_⟩
  | refine ⟨_, _, _, _, rfl, rfl, SqT.of (by walk_at "hp"), rfl, ?_⟩
  | refine ⟨_, _, _, _, rfl, rfl, (by walk_at "hp"), rfl, ?_⟩
  | refine And.intro rfl ?_
  | refine ⟨_, _, rfl, SqT.of (by walk_at "hp"), ?_⟩
  | refine ⟨_, _, rfl, SqL.of (by walk_at "hp"), ?_⟩
  | refine .inl ⟨_, rfl, ?_⟩
  | refine ⟨_, _, rfl, .inl (SqL.of (by walk_at "hp")), ?_⟩
  | refine ⟨_, _, rfl, .inr (SqT.of (by walk_at "hp")), ?_⟩
  | refine ⟨_, _, rfl, .inl ⟨SqL.of (by walk_at "hp"), ?_⟩⟩
  | refine And.intro (.inl ⟨rfl, _, SqL.of (by walk_at "hp")⟩) ?_
  | refine ⟨_, _, _, rfl, rfl, (by walk_at "hp"), ?_⟩
  | refine ⟨_, _, rfl, (by walk_at "hp"), ?_⟩
  | refine And.intro (by walk_at "side") ?_)
local macro_rules | `(tactic| walk_at "rr") => `(tactic| (repeat walk_at "r"))
local macro_rules | `(tactic| walk_at "k") => `(tactic| first
  | refine ite2 (fun _ => ?_) (fun g => absurd rfl g)
  | refine ite2 (fun g => absurd g (by decide)) (fun _ => ?_)
  | refine ite2 (fun _ => ?_) (fun g => absurd (decide_eq_true (by omega)) g)
  | refine ite2 (fun g => absurd (of_decide_eq_true g) (by omega)) (fun _ => ?_)
  | refine ite2 (fun g => (nd_t g (by omega)).elim) (fun _ => ?_)
  | refine ite2 (fun _ => ?_) (fun g => absurd (nd_f g) (by omega)))
local macro_rules | `(tactic| walk_at "rk") => `(tactic| (repeat (first | walk_at "r" | walk_at "k")))
/-- moves that are in order -/
def MovesOk (rows : List (List Int)) : Prop := 1 ≤ rows.length ∧ rows.length ≤ 6 ∧ Square (rows.length : Nat) 9 rows
def spIsMovesB : Sp := fun vs H Q _ => ∃ (v : V) (rows : List (List Int)), vs = [v] ∧ TupT IntT H v rows ∧ rows.length ≤ 20 ∧ (∀ r ∈ rows, r.length ≤ 100) ∧ ∀ b H', Same H H' → (b = true ↔ MovesOk rows) → Q (.bl b) H'
def spIsPricesB : Sp := fun vs H Q _ => ∃ (v : V) (row : List (Option Int)) (n : Int), vs = [v, .int n] ∧ OptT H v row ∧ row.length ≤ 100 ∧ ∀ b H', Same H H' → (b = true ↔ Prices n 9 row) → Q (.bl b) H'
section
variable {P : Program} {w : World} {K : PySem.W.Frag} {mg : Str → Option Value} {base : Heap}
theorem ok_is_moves (T : Top K mg) : Ok P w K mg base 5 "is_moves" ["thing"] spIsMovesB := by
  refine ok_of T.d_is_moves sc_is_moves (fun vs H Q E h => ?_) (fun f cdv A outer s H vs Q E hr h => ?_)
  · obtain ⟨v, rows, rfl, _⟩ := h
    rfl
  · obtain ⟨v, rows, rfl, ⟨a, vs, rfl, ha, hp⟩, h20, h100, k⟩ := h
    obtain ⟨t_MOST_POSTS, g_MOST_POSTS⟩ := T.g_MOST_POSTS
    obtain ⟨f__is_price, fd__is_price, m__is_price, k__is_price, b__is_price, G__is_price⟩ := ok__is_price (P := P) (w := w) (base := base) T
    have hr__is_price : Room 4 _ := hr.mono (by decide)
    obtain ⟨f_is_tuple_of, fd_is_tuple_of, m_is_tuple_of, k_is_tuple_of, b_is_tuple_of, G_is_tuple_of⟩ := ok_is_tuple_of (P := P) (w := w) (base := base) T
    have hr_is_tuple_of : Room 1 _ := hr.mono (by decide)
    have hl : vs.length = rows.length := prd_len hp
    refine ⟨_, (pss_cons (ps_if (PW.pt (pw_or (pt_not (pt_val (pe_callB (id := "isinstance") (call_isN (T := "tuple")) (by rfl) T.b_isinstance (by decide +kernel) (pa_cons (pv 0) (pa_cons (pe_bltn (v := .ty "tuple") (u := .type "tuple") (by rfl) T.b_tuple (by decide +kernel) rfl) pa_nil))))) (pw_or1 (pt_not (pt_chain op_le op_le pe_int (pe_callB (id := "len") call_len_seq (by rfl) T.b_len (by decide +kernel) (pa_cons (pv 0) pa_nil)) (pe_glob (v := .int 6) rfl g_MOST_POSTS ⟨_, rfl⟩))))))
      (pss_one (ps_ret pe_bl))
      pss_nil)
      (pss_cons (ps_for PassesOwn.never rfl (pi_enumT (by rfl) T.b_enumerate (pa_cons (pv 0) pa_nil)) (pg_tup rfl (pgs_cons (pg_name (i := 1) sc_is_moves.nd rfl (Or.inl rfl)) (pgs_cons (pg_name (i := 2) sc_is_moves.nd rfl (Or.inl rfl)) pgs_nil)))
      (pss_cons (ps_if (PW.pt (pw_or (pt_not (pt_val (pe_call G_is_tuple_of hr_is_tuple_of rfl m_is_tuple_of k_is_tuple_of b_is_tuple_of .nil pass0 (pa_cons (pv 2) (pa_cons (pe_callB (id := "len") call_len_seq (by rfl) T.b_len (by decide +kernel) (pa_cons (pv 0) pa_nil)) pa_nil))))) (pw_or1 (pt_not (pt_val (pe_callB (id := "all") (cr_all rfl) (by rfl) T.b_all (by decide +kernel) (pa_cons (pe_lc (own := [("price", 3)]) (g := gName 3) rfl sc_is_moves.nd (pi_tup (pv 2)) (blkOk_by (own := [("price", 3)]) (N := ["thing", "post", "prices", "price"]) (sc := defScope s_is_moves) (by decide +kernel)) (fun _ _ _ _ _ => (pg_name (i := 3) sc_is_moves.nd rfl (Or.inl rfl))) (fun _ _ _ _ _ => pts_nil) (fun _ _ _ _ _ => (pe_call G__is_price hr__is_price rfl m__is_price k__is_price b__is_price .nil pass0 (pa_cons (pv 3) pa_nil)))) pa_nil)))))))
      (pss_one (ps_ret pe_bl))
      pss_nil)
      (pss_one (ps_if (pt_cmpR op_ne (pe_ix ix_tup (pv 2) (pv 1) (fun _ _ => rfl)) pe_int (nomark _))
      (pss_one (ps_ret pe_bl))
      pss_nil))))
      (pss_one (ps_ret pe_bl)))), ?_⟩
    have hty : tyN H (.ref a) = some "tuple" := by unfold tyN; simp only [ha]
    refine ⟨_, rfl, _, "tuple", _, rfl, hty, kit7 hty (by simp), _, rfl, ?_⟩
    refine ite2 (fun g => by simp at g) (fun _ => ?_)
    refine ⟨_, rfl, a, _, rfl, .inr (SqT.of ha), _, _, rfl, rfl, _, rfl, ?_⟩
    rw [hl]
    have bad : ¬ MovesOk rows → Q (.bl false) H := fun n => k false H (Same.refl _) ⟨(fun e => nomatch e), fun e => absurd e n⟩
    refine ite2 (fun g1 => ?_) (fun g1 => ⟨_, rfl, ite2 (fun _ => bad fun o => g1 (decide_eq_true (by have := o.1; omega))) (fun g => absurd rfl g)⟩)
    have g1 := of_decide_eq_true g1
    refine ⟨_, _, rfl, rfl, _, rfl, ?_⟩
    refine ite2 (fun g2 => bad fun o => ?_) (fun g2 => ?_)
    · rw [decide_eq_true (by have := o.2.1; omega)] at g2
      cases g2
    have g2 : (rows.length : Int) ≤ 6 := by
      refine Classical.byContradiction fun n => g2 ?_
      rw [decide_eq_false n]; rfl
    refine ⟨_, rfl, a, _, rfl, SqT.of ha, ?_⟩
    refine for_it walk_enumT (fun i σ' H2 => Same H H2 ∧ (∀ j, j < i → ((rows.getD j []).length = rows.length ∧ (∀ x ∈ rows.getD j [], 0 ≤ x ∧ x ≤ 9) ∧ (rows.getD j [])[j]? = some 0)) ∧ ∃ o o' : Option V, σ' = [some (.ref a), o, o', none]) ⟨Same.refl _, (fun j h => absurd h (Nat.not_lt_zero _)), none, none, rfl⟩ (fun i σ' H2 _ h2 => SqT.of (h2.1 _ _ ha)) ?_ ?_
    · rintro i x σ' H2 H3 hi ⟨e2, done, o, o', rfl⟩ ⟨p, x', y', rfl, np, rfl, e3, e4⟩
      obtain ⟨row, hrow, b, rfl, hb⟩ := prd_at1 hp e4
      have il : i < rows.length := (List.getElem?_eq_some_iff.mp hrow).1
      have eg : rows.getD i [] = row := by rw [List.getD_eq_getElem?_getD, hrow]; rfl
      have hb2 := e2 _ _ hb
      cases e3
      have s3 : Same H2 (upd H2 p (.tup [.int (i : Nat), .ref b])) := same_new np
      refine ⟨p, _, rfl, SqT.of upd_same, rfl, _, _, rfl, _, _, rfl, rfl, ?_⟩
      have hb3 := s3 _ _ hb2
      have ha3 := s3 _ _ (e2 _ _ ha)
      generalize upd H2 p (.tup [.int (i : Nat), .ref b]) = H3 at *
      have e23 := e2.trans s3
      refine ⟨_, rfl, _, rfl, a, _, rfl, .inr (SqT.of ha3), _, "tuple", _, rfl, ty_tup hb3, ?_⟩
      have bad : ¬ (row.length = rows.length ∧ (∀ x ∈ row, 0 ≤ x ∧ x ≤ 9) ∧ row[i]? = some 0) → ∀ G, Same H G → Q (.bl false) G := fun n G sG => k false G sG ⟨(fun e => nomatch e), fun o => absurd (by
        have m := List.mem_of_getElem? hrow
        have r := o.2.2.row row m
        exact ⟨by have := r.1; omega, r.2, o.2.2.diag i row hrow⟩) n⟩
      refine ⟨_, rfl, ?_⟩
      by_cases hlen : row.length = rows.length
      · rw [tup_isTup hb3 (by rw [List.length_map, hlen, hl])]
        refine ite2 (fun g => nomatch g) (fun _ => ?_)
        refine ⟨_, rfl, b, rfl, ⟨_, SqT.of hb3⟩, fun D nD => ?_⟩
        refine lc_tup (K := K) (a := b) (xs := row.map V.int) (fun j H4 => H4 D = some (.lst (((row.take j).map fun y => decide (0 ≤ y ∧ y < 10)).map V.bl)) ∧ Same H3 H4) ⟨upd_same, same_new nD⟩ (fun j H4 _ h4 => SqT.of (h4.2 _ _ hb3)) ?_ ?_
        · rintro j z H4 hj ⟨q1, q2⟩
          obtain ⟨y, hy, rfl⟩ := map_at hj
          have hjl := (List.getElem?_eq_some_iff.mp hy).1
          refine ⟨rfl, ?_⟩
          refine yesT ?_
          refine ⟨_, rfl, _, "int", rfl, rfl, ?_⟩
          refine ⟨_, q1, ?_, ?_, same_upd q2 nD⟩
          · rw [List.length_map, List.length_map, List.length_take]; exact small1000 (by omega)
          · rw [upd_same, List.take_add_one, hy, List.map_append, List.map_append]; rfl
        · rintro H4 ⟨q1, q2⟩
          rw [List.length_map, List.take_length] at q1
          have e24 := e23.trans q2
          refine ⟨D, _, rfl, SqL.of q1, _, rfl, ?_⟩
          by_cases ha9 : ∀ x ∈ row, 0 ≤ x ∧ x ≤ 9
          · have e : (row.map fun y => decide (0 ≤ y ∧ y < 10)).all id = true := by
              rw [List.all_map, List.all_eq_true]
              exact fun x mx => decide_eq_true ⟨(ha9 x mx).1, by have := (ha9 x mx).2; omega⟩
            rw [e]
            refine ite2 (fun g => nomatch g) (fun _ => ?_)
            obtain ⟨y, hy⟩ : ∃ y, row[i]? = some y := ⟨_, List.getElem?_eq_getElem (by omega)⟩
            refine ⟨_, rfl, _, rfl, b, _, (i : Nat), .int y, rfl, rfl, SqT.of (q2 _ _ hb3), atI_nat (by rw [List.getElem?_map, hy]; rfl), rfl, _, rfl, ?_⟩
            refine ite2 (fun g => bad (fun z => ?_) H4 e24) (fun g => ?_)
            · rw [hy] at z
              obtain ⟨_, _, z⟩ := z
              injection z with z
              subst z
              exact nomatch g
            · have y0 : y = 0 := Classical.byContradiction fun n => g (by
                rw [decide_eq_false (fun e => n (by injection e))]; rfl)
              subst y0
              refine ⟨e24, fun j hj => ?_, _, _, rfl⟩
              by_cases ji : j < i
              · exact done j ji
              · have : j = i := by omega
                subst this
                rw [eg]
                exact ⟨hlen, ha9, hy⟩
          · have e : (row.map fun y => decide (0 ≤ y ∧ y < 10)).all id = false := by
              rw [List.all_map]
              refine Bool.eq_false_iff.mpr fun t => ha9 fun x mx => ?_
              have := of_decide_eq_true (List.all_eq_true.mp t x mx)
              omega
            rw [e]
            exact ite2 (fun _ => bad (fun z => ha9 z.2.1) H4 e24) (fun g => absurd rfl g)
      · have e : isTup H3 (vs.length : Nat) (.ref b) = false := by
          unfold isTup
          simp only [hb3]
          exact decide_eq_false (by rw [List.length_map, hl]; omega)
        rw [e]
        refine ite2 (fun _ => ?_) (fun g => absurd rfl g)
        exact ite2 (fun _ => bad (fun z => hlen z.1) H3 e23) (fun g => absurd rfl g)
    · rintro σ' H2 ⟨e2, done, o, o', rfl⟩
      rw [hl] at done
      refine k true H2 e2 ⟨fun _ => ⟨by omega, by omega, ?_⟩, fun _ => rfl⟩
      have at_ : ∀ {j : Nat} {r : List Int}, rows[j]? = some r → j < rows.length ∧ rows.getD j [] = r := fun {j r} h => ⟨(List.getElem?_eq_some_iff.mp h).1, by rw [List.getD_eq_getElem?_getD, h]; rfl⟩
      refine ⟨rfl, fun r mr => ?_, fun j r hj => ?_⟩
      · obtain ⟨j, hj⟩ := List.getElem?_of_mem mr
        obtain ⟨jl, er⟩ := at_ hj
        obtain ⟨d1, d2, d3⟩ := done j jl
        rw [er] at d1 d2
        exact ⟨by rw [d1], d2⟩
      · obtain ⟨jl, er⟩ := at_ hj
        obtain ⟨d1, d2, d3⟩ := done j jl
        rw [er] at d3
        exact d3
theorem ok__is_prices (T : Top K mg) : Ok P w K mg base 5 "_is_prices" ["thing", "posts"] spIsPricesB := by
  refine ok_of T.d__is_prices sc__is_prices (fun vs H Q E h => ?_) (fun f cdv A outer s H vs Q E hr h => ?_)
  · obtain ⟨v, row, n, rfl, _⟩ := h
    rfl
  · obtain ⟨v, row, n, rfl, ⟨a, rfl, ha⟩, h100, k⟩ := h
    obtain ⟨f_is_tuple_of, fd_is_tuple_of, m_is_tuple_of, k_is_tuple_of, b_is_tuple_of, G_is_tuple_of⟩ := ok_is_tuple_of (P := P) (w := w) (base := base) T
    have hr_is_tuple_of : Room 1 _ := hr.mono (by decide)
    obtain ⟨f__is_price, fd__is_price, m__is_price, k__is_price, b__is_price, G__is_price⟩ := ok__is_price (P := P) (w := w) (base := base) T
    have hr__is_price : Room 4 _ := hr.mono (by decide)
    refine ⟨_, (pss_cons (ps_if (pt_not (pt_val (pe_call G_is_tuple_of hr_is_tuple_of rfl m_is_tuple_of k_is_tuple_of b_is_tuple_of .nil pass0 (pa_cons (pv 0) (pa_cons (pv 1) pa_nil)))))
      (pss_one (ps_ret pe_bl))
      pss_nil)
      (pss_cons (ps_setLc (i := 2) (own := [("price", 3)]) (g := gName 3) rfl sc__is_prices.nd rfl rfl (sw_true rfl rfl rfl (by decide +kernel)) (pi_tup (pv 0)) (blkOk_by (own := [("price", 3)]) (N := ["thing", "posts", "told", "price"]) (sc := defScope s__is_prices) (by decide +kernel)) (fun _ _ _ _ _ => (pg_name (i := 3) sc__is_prices.nd rfl (Or.inl rfl))) (fun _ _ _ _ _ => (pts_one (pt_cmpR op_notN (pv 3) pe_non (nomark _)))) (fun _ _ _ _ _ => (pv 3)))
      (pss_one (ps_ret (pe_and (pe_cmpR op_gt (pe_callB (id := "len") call_len_seq (by rfl) T.b_len (by decide +kernel) (pa_cons (pv 2) pa_nil)) pe_int (nomark _)) (pe_one (pe_callB (id := "all") (cr_all rfl) (by rfl) T.b_all (by decide +kernel) (pa_cons (pe_lc (own := [("price", 3)]) (g := gName 3) rfl sc__is_prices.nd (pi_list (pv 2)) (blkOk_by (own := [("price", 3)]) (N := ["thing", "posts", "told", "price"]) (sc := defScope s__is_prices) (by decide +kernel)) (fun _ _ _ _ _ => (pg_name (i := 3) sc__is_prices.nd rfl (Or.inl rfl))) (fun _ _ _ _ _ => pts_nil) (fun _ _ _ _ _ => (pe_call G__is_price hr__is_price rfl m__is_price k__is_price b__is_price .nil pass0 (pa_cons (pv 3) pa_nil)))) pa_nil)))))))), ?_⟩
    have bad : ¬ Prices n 9 row → ∀ G, Same H G → Q (.bl false) G := fun n G sG => k false G sG ⟨(fun e => nomatch e), fun o => absurd o n⟩
    refine ⟨_, rfl, _, rfl, _, "tuple", _, rfl, ty_tup ha, _, rfl, ?_⟩
    by_cases hlen : (row.length : Int) = n
    · rw [tup_isTup ha (by rw [List.length_map]; exact hlen)]
      refine ite2 (fun g => nomatch g) (fun _ => ?_)
      refine ⟨_, rfl, a, rfl, ⟨_, SqT.of ha⟩, fun D nD => ?_⟩
      refine lc_tup (K := K) (a := a) (xs := row.map vO) (fun i H2 => H2 D = some (.lst (((row.take i).filterMap id).map V.int)) ∧ Same H H2) ⟨upd_same, same_new nD⟩ (fun i H2 _ h2 => SqT.of (h2.2 _ _ ha)) ?_ ?_
      · rintro i x H2 hi ⟨e1, e2⟩
        obtain ⟨o, ho, rfl⟩ := map_at hi
        have hil := (List.getElem?_eq_some_iff.mp ho).1
        refine ⟨rfl, ?_⟩
        cases o with
        | none =>
          refine ⟨_, rfl, rfl, _, rfl, ite2 (fun g => absurd g (by decide)) (fun _ => ⟨?_, e2⟩)⟩
          rw [e1, List.take_add_one, ho, List.filterMap_append]
          simp
        | some y =>
          refine ⟨_, rfl, rfl, _, rfl, ite2 (fun _ => ?_) (fun g => absurd rfl g)⟩
          refine ⟨_, rfl, _, e1, ?_, ?_, same_upd e2 nD⟩
          · rw [List.length_map]
            exact small1000 (Nat.le_trans (List.length_filterMap_le _ _) (by rw [List.length_take]; omega))
          · rw [upd_same, List.take_add_one, ho, List.filterMap_append, List.map_append]
            rfl
      · rintro H2 ⟨e1, e2⟩
        rw [List.length_map, List.take_length] at e1
        obtain ⟨ns, hns⟩ : ∃ ns, row.filterMap id = ns := ⟨_, rfl⟩
        rw [hns] at e1
        have hin : ∀ y, y ∈ ns ↔ some y ∈ row := fun y => by
          rw [← hns, List.mem_filterMap]
          exact ⟨fun ⟨o, ho, e⟩ => by have e : o = some y := e; rw [← e]; exact ho, fun m => ⟨_, m, rfl⟩⟩
        have hlen2 : ns.length ≤ 100 := by
          rw [← hns]
          exact Nat.le_trans (List.length_filterMap_le _ _) (by omega)
        refine ⟨_, rfl, D, _, rfl, .inl (SqL.of e1), _, _, rfl, rfl, _, rfl, ?_⟩
        rw [List.length_map]
        refine ite2 (fun g => ?_) (fun g => ?_)
        · refine ⟨_, rfl, D, rfl, ⟨_, SqL.of e1⟩, fun L nL => ?_⟩
          refine lc_list (K := K) (a := D) (xs := ns.map V.int) (fun j H4 => H4 L = some (.lst (((ns.take j).map fun y => decide (0 ≤ y ∧ y < 10)).map V.bl)) ∧ Same H2 H4) ⟨upd_same, same_new nL⟩ (fun j H4 _ h4 => SqL.of (h4.2 _ _ e1)) ?_ ?_
          · rintro j z H4 hj ⟨q1, q2⟩
            obtain ⟨y, hy, rfl⟩ := map_at hj
            have hjl := (List.getElem?_eq_some_iff.mp hy).1
            refine ⟨rfl, ?_⟩
            refine yesT ?_
            refine ⟨_, rfl, _, "int", rfl, rfl, ?_⟩
            refine ⟨_, q1, ?_, ?_, same_upd q2 nL⟩
            · rw [List.length_map, List.length_map, List.length_take]; exact small1000 (by omega)
            · rw [upd_same, List.take_add_one, hy, List.map_append, List.map_append]; rfl
          · rintro H4 ⟨q1, q2⟩
            rw [List.length_map, List.take_length] at q1
            refine ⟨L, _, rfl, SqL.of q1, ?_⟩
            refine k _ H4 (e2.trans q2) ?_
            have g := of_decide_eq_true g
            rw [List.all_map, List.all_eq_true]
            constructor
            · intro t
              refine ⟨hlen, fun x mx => ?_, ?_⟩
              · have := of_decide_eq_true (t x ((hin x).mpr mx))
                omega
              · obtain ⟨y, hy⟩ : ∃ y, ns[0]? = some y := ⟨_, List.getElem?_eq_getElem (by omega)⟩
                exact ⟨y, (hin y).mp (List.mem_of_getElem? hy)⟩
            · intro o x mx
              have := o.rng x ((hin x).mp mx)
              exact decide_eq_true ⟨this.1, by omega⟩
        · refine bad (fun o => g (decide_eq_true ?_)) H2 e2
          obtain ⟨x, mx⟩ := o.some
          have := List.length_pos_of_mem ((hin x).mpr mx)
          omega
    · have e : isTup H n (.ref a) = false := by
        unfold isTup
        simp only [ha]
        exact decide_eq_false (by rw [List.length_map]; exact hlen)
      rw [e]
      exact ite2 (fun _ => bad (fun o => hlen o.len) H (Same.refl _)) (fun g => absurd rfl g)
end
end Toy

namespace Toy
open PySem PySem.Spec PyProof.Rows L2
local macro_rules | `(tactic| walk_at "hp") => `(tactic| first
  | assumption
  | exact upd_same
  | (refine Eq.trans (upd_ne (by first | assumption | (apply Ne.symm; assumption))) ?_; walk_at "hp"))
local macro_rules | `(tactic| walk_at "side") => `(tactic| first
  | exact .inl ⟨by omega, by omega⟩
  | exact .inr ⟨by omega, by omega⟩
  | exact ⟨by omega, by omega⟩
  | (show _ ≤ _; omega)
  | (show (_ : Int) < _; omega)
  | decide
  | assumption)
local macro_rules | `(tactic| walk_at "r") => `(tactic| first
  | refine ⟨_, rfl, ?_⟩
  | refine ⟨_, _, rfl, rfl, ?_⟩
  | refine ⟨_, _, _, _, rfl, rfl, SqL.of (by walk_at "hp"), rfl, ?_⟩
  | refine ⟨_, _, _, _, rfl, rfl, SqT.of (by walk_at "hp"), rfl, ?_⟩
  | refine ⟨_, _, _, _, rfl, rfl, (by walk_at "hp"), rfl, ?_⟩
  | refine And.intro rfl ?_
  | refine ⟨_, _, rfl, SqT.of (by walk_at "hp"), ?_⟩
  | refine ⟨_, _, rfl, SqL.of (by walk_at "hp"), ?_⟩
  | refine .inl ⟨_, rfl, ?_⟩
  | refine ⟨_, _, rfl, .inl (SqL.of (by walk_at "hp")), ?_⟩
  | refine ⟨_, _, rfl, .inr (SqT.of (by walk_at "hp")), ?_⟩
  | refine ⟨_, _, rfl, .inl ⟨SqL.of (by walk_at "hp"), ?_⟩⟩
  | refine And.intro (.inl ⟨rfl, _, SqL.of (by walk_at "hp")⟩) ?_
  | refine ⟨_, _, _, rfl, rfl, (by walk_at "hp"), ?_⟩
  | refine ⟨_, _, rfl, (by walk_at "hp"), ?_⟩
  | refine And.intro (by walk_at "side") ?_)
local macro_rules | `(tactic| walk_at "rr") => `(tactic| (repeat walk_at "r"))
local macro_rules | `(tactic| walk_at "k") => `(tactic| first
  | refine ite2 (fun _ => ?_) (fun g => absurd rfl g)
  | refine ite2 (fun g => absurd g (by decide)) (fun _ => ?_)
  | refine ite2 (fun _ => ?_) (fun g => absurd (decide_eq_true (by omega)) g)
  | refine ite2 (fun g => absurd (of_decide_eq_true g) (by omega)) (fun _ => ?_)
  | refine ite2 (fun g => (nd_t g (by omega)).elim) (fun _ => ?_)
  | refine ite2 (fun _ => ?_) (fun g => absurd (nd_f g) (by omega)))
local macro_rules | `(tactic| walk_at "rk") => `(tactic| (repeat (first | walk_at "r" | walk_at "k")))
def ReqsOk (n : Int) (rs : List (Str × List (Option Int))) : Prop := 1 ≤ rs.length ∧ rs.length ≤ 5 ∧ ∀ q ∈ rs, Prices n 9 q.2
def spIsReqsB : Sp := fun vs H Q _ => ∃ (d : Addr) (kvs : List (Key × V)) (rs : List (Str × List (Option Int))) (n : Int), vs = [.ref d, .int n] ∧ H d = some (.dK kvs) ∧ DctOf OptT H kvs rs ∧ (rs.map (·.1)).Nodup ∧ rs.length ≤ 20 ∧ (∀ q ∈ rs, Name 8 q.1 ∧ q.2.length ≤ 100) ∧ ∀ b H', Same H H' → (b = true ↔ ReqsOk n rs) → Q (.bl b) H'
section
variable {P : Program} {w : World} {K : PySem.W.Frag} {mg : Str → Option Value} {base : Heap}
theorem ok__is_requests (T : Top K mg) : Ok P w K mg base 6 "_is_requests" ["thing", "posts"] spIsReqsB := by
  refine ok_of T.d__is_requests sc__is_requests (fun vs H Q E h => ?_) (fun f cdv A outer s H vs Q E hr h => ?_)
  · obtain ⟨d, kvs, rs, n, rfl, _⟩ := h
    rfl
  · obtain ⟨d, kvs, rs, n, rfl, hd, hR, nd, h20, hP, k⟩ := h
    obtain ⟨t_MOST_REQUESTS, g_MOST_REQUESTS⟩ := T.g_MOST_REQUESTS
    obtain ⟨f__is_prices, fd__is_prices, m__is_prices, k__is_prices, b__is_prices, G__is_prices⟩ := ok__is_prices (P := P) (w := w) (base := base) T
    have hr__is_prices : Room 5 _ := hr.mono (by decide)
    obtain ⟨f_is_name, fd_is_name, m_is_name, k_is_name, b_is_name, G_is_name⟩ := ok_is_name (P := P) (w := w) (base := base) T
    have hr_is_name : Room 1 _ := hr.mono (by decide)
    have hu := hu_of hr
    have hl : kvs.length = rs.length := dct_len hR
    have bad : ¬ ReqsOk n rs → ∀ G, Same H G → Q (.bl false) G := fun n G sG => k false G sG ⟨(fun e => nomatch e), fun o => absurd o n⟩
    refine ⟨_, (pss_cons (ps_if (PW.pt (pw_or (pt_not (pt_val (pe_callB (id := "isinstance") (call_isN (T := "dict")) (by rfl) T.b_isinstance (by decide +kernel) (pa_cons (pv 0) (pa_cons (pe_bltn (v := .ty "dict") (u := .type "dict") (by rfl) T.b_dict (by decide +kernel) rfl) pa_nil))))) (pw_or1 (pt_not (pt_chain op_le op_le pe_int (pe_callB (id := "len") call_lenD (by rfl) T.b_len (by decide +kernel) (pa_cons (pv 0) pa_nil)) (pe_glob (v := .int 5) rfl g_MOST_REQUESTS ⟨_, rfl⟩))))))
      (pss_one (ps_ret pe_bl))
      pss_nil)
      (pss_one (ps_ret (pe_callB (id := "all") (cr_all rfl) (by rfl) T.b_all (by decide +kernel) (pa_cons (pe_lock (pe_lc (own := [("name", 2)]) (g := gName 2) rfl sc__is_requests.nd (pi_keys (pv 0)) (blkOk_by (own := [("name", 2)]) (N := ["thing", "posts", "name"]) (sc := defScope s__is_requests) (by decide +kernel)) (fun _ _ _ _ _ => (pg_name (i := 2) sc__is_requests.nd rfl (Or.inl rfl))) (fun _ _ _ _ _ => pts_nil) (fun _ _ _ _ _ => (pe_and (pe_call G_is_name hr_is_name rfl m_is_name k_is_name b_is_name .nil pass0 (pa_cons (pv 2) pa_nil)) (pe_one (pe_call G__is_prices hr__is_prices rfl m__is_prices k__is_prices b__is_prices .nil pass0 (pa_cons (pe_dget hu (pv 0) (pv 2) (fun _ _ => rfl)) (pa_cons (pv 1) pa_nil)))))))) pa_nil))))), ?_⟩
    refine ⟨_, rfl, _, "dict", _, rfl, ty_dK hd, kit7 (ty_dK hd) (by simp), _, rfl, ?_⟩
    refine ite2 (fun g => by simp at g) (fun _ => ?_)
    refine ⟨_, rfl, d, _, rfl, hd, _, _, rfl, rfl, _, rfl, ?_⟩
    rw [hl]
    refine ite2 (fun g1 => ?_) (fun g1 => ⟨_, rfl, ite2 (fun _ => bad (fun o => g1 (decide_eq_true (by have := o.1; omega))) H (Same.refl _)) (fun g => absurd rfl g)⟩)
    have g1 := of_decide_eq_true g1
    refine ⟨_, _, rfl, rfl, _, rfl, ?_⟩
    refine ite2 (fun g2 => bad (fun o => ?_) H (Same.refl _)) (fun g2 => ?_)
    · rw [decide_eq_true (by have := o.2.1; omega)] at g2
      cases g2
    have g2 : (rs.length : Int) ≤ 5 := by
      refine Classical.byContradiction fun n => g2 ?_
      rw [decide_eq_false n]; rfl
    refine ⟨d, _, hd, True.intro, fun od => ?_⟩
    refine ⟨_, rfl, d, od, rfl, .inl ⟨kvs, upd_same, fun D nD => ?_⟩⟩
    have nDd : D ≠ d := fun q => by subst q; rw [upd_same] at nD; cases nD
    have nDH : H D = none := by rw [upd_ne nDd] at nD; exact nD
    refine lc_it walk_keys (fun i H2 => ∃ bs : List Bool, H2 D = some (.lst (bs.map V.bl)) ∧ bs.length = i ∧ (bs.all id = true ↔ ∀ q ∈ rs.take i, Prices n 9 q.2) ∧ Same (upd H d (.frz od (.dK kvs))) H2) ⟨[], upd_same, rfl, ⟨(fun _ q m => by simp at m), (fun _ => rfl)⟩, same_new nD⟩ (fun i H2 _ ⟨_, _, _, _, h2⟩ => h2 _ _ upd_same) ?_ ?_
    · rintro i x H2 H3 hi ⟨bs, q1, hbl, hbs, q2⟩ ⟨rfl, ky, v, hkv, rfl⟩
      obtain ⟨⟨z, row⟩, hrow, ek, _⟩ := prd_at1 hR hkv
      have ek : ky = .inr z := ek
      subst ek
      have hm := List.mem_of_getElem? hrow
      have hPz := hP _ hm
      obtain ⟨v', hv', hO⟩ := dct_some hR nd hm
      have hO3 : OptT H3 v' row := OptT.firm H H3 _ _ (fun a xs e => q2 _ _ (by rw [upd_ne (ne_of e hd (by intro z; cases z))]; exact e)) hO
      refine ⟨rfl, ?_⟩
      refine yesT ?_
      refine ⟨_, rfl, .str z, "str", rfl, rfl, (fun y e => by cases e; have h8 : (z.length : Int) ≤ 8 := hPz.1.hi; exact Nat.le_of_lt (small1000 (by omega))), fun H4 s4 => ?_⟩
      rw [nm_of hPz.1]
      refine ⟨true, rfl, ?_⟩
      walk_at "k"
      refine ⟨_, rfl, _, rfl, d, v', rfl, .inl ⟨kvs, .inr z, .inr ⟨od, s4 _ _ (q2 _ _ upd_same)⟩, rfl, hv'.symm⟩, ?_⟩
      walk_at "rr"
      refine ⟨v', row, n, rfl, OptT.firm H3 H4 _ _ (same_tups s4) hO3, hPz.2, fun b H5 s5 hb => ?_⟩
      refine ⟨_, s5 _ _ (s4 _ _ q1), ?_, bs ++ [b], ?_, ?_, ?_, same_upd ((q2.trans s4).trans s5) nD⟩
      · rw [List.length_map, hbl]
        have : i < kvs.length := hi
        exact small1000 (by omega)
      · rw [upd_same, List.map_append]; rfl
      · rw [List.length_append, hbl]; rfl
      · rw [List.all_append, List.take_add_one, hrow, Bool.and_eq_true, hbs]
        constructor
        · rintro ⟨h1, h2⟩ q mq
          rcases List.mem_append.mp mq with m | m
          · exact h1 q m
          · have : q = (z, row) := by simpa using m
            rw [this]
            exact hb.mp (by simpa using h2)
        · intro h
          refine ⟨fun q m => h q (List.mem_append_left _ m), ?_⟩
          have := hb.mpr (h (z, row) (List.mem_append_right _ (by simp)))
          rw [this]; rfl
    · rintro H2 ⟨bs, q1, hbl, hbs, q2⟩
      have hd2 := q2 _ _ upd_same
      refine ⟨hd2, D, bs, rfl, SqL.of ((upd_ne nDd).trans q1), ?_⟩
      rw [hl, List.take_length] at hbs
      refine k _ _ (fun b o e => ?_) ⟨fun t => ⟨by omega, by omega, hbs.mp t⟩, fun o => hbs.mpr o.2.2⟩
      by_cases eb : b = d
      · subst eb; rw [upd_same, ← e, hd]
      · rw [upd_ne eb]
        exact q2 b o (by rw [upd_ne eb]; exact e)
end
end Toy

namespace Toy
open PySem PySem.Spec PyProof.Rows L2
local macro_rules | `(tactic| walk_at "hp") => `(tactic| first
  | assumption
  | exact upd_same
  | (refine Eq.trans (upd_ne (by first | assumption | (apply Ne.symm; assumption))) ?_; walk_at "hp"))
local macro_rules | `(tactic| walk_at "side") => `(tactic| first
  | exact .inl ⟨by omega, by omega⟩
  | exact .inr ⟨by omega, by omega⟩
  | exact ⟨by omega, by omega⟩
  | (show _ ≤ _; omega)
  | (show (_ : Int) < _; omega)
  | decide
  | assumption)
local macro_rules | `(tactic| walk_at "r") => `(tactic| first
  | refine ⟨_, rfl, ?_⟩
  | refine ⟨_, _, rfl, rfl, ?_⟩
  | refine ⟨_, _, _, _, rfl, rfl, SqL.of (by walk_at "hp"), rfl, ?_⟩
  | refine ⟨_, _, _, _, rfl, rfl, SqT.of (by walk_at "hp"), rfl, ?_⟩
  | refine ⟨_, _, _, _, rfl, rfl, (by walk_at "hp"), rfl, ?_⟩
  | refine And.intro rfl ?_
  | refine ⟨_, _, rfl, SqT.of (by walk_at "hp"), ?_⟩
  | refine ⟨_, _, rfl, SqL.of (by walk_at "hp"), ?_⟩
  | refine .inl ⟨_, rfl, ?_⟩
  | refine ⟨_, _, rfl, .inl (SqL.of (by walk_at "hp")), ?_⟩
  | refine ⟨_, _, rfl, .inr (SqT.of (by walk_at "hp")), ?_⟩
  | refine ⟨_, _, rfl, .inl ⟨SqL.of (by walk_at "hp"), ?_⟩⟩
  | refine And.intro (.inl ⟨rfl, _, SqL.of (by walk_at "hp")⟩) ?_
  | refine ⟨_, _, _, rfl, rfl, (by walk_at "hp"), ?_⟩
  | refine ⟨_, _, rfl, (by walk_at "hp"), ?_⟩
  | refine And.intro (by walk_at "side") ?_)
local macro_rules | `(tactic| walk_at "rr") => `(tactic| (repeat walk_at "r"))
local macro_rules | `(tactic| walk_at "k") => `(tactic| first
  | refine ite2 (fun _ => ?_) (fun g => absurd rfl g)
  | refine ite2 (fun g => absurd g (by decide)) (fun _ => ?_)
  | refine ite2 (fun _ => ?_) (fun g => absurd (decide_eq_true (by omega)) g)
  | refine ite2 (fun g => absurd (of_decide_eq_true g) (by omega)) (fun _ => ?_)
  | refine ite2 (fun g => (nd_t g (by omega)).elim) (fun _ => ?_)
  | refine ite2 (fun _ => ?_) (fun g => absurd (nd_f g) (by omega)))
local macro_rules | `(tactic| walk_at "rk") => `(tactic| (repeat (first | walk_at "r" | walk_at "k")))
section
variable {P : Program} {w : World} {K : PySem.W.Frag} {mg : Str → Option Value} {base : Heap}
theorem ok_least_ways (T : Top K mg) : Ok P w K mg base 1 "least_ways" ["moves"] spLeastWays := by
  refine ok_of T.d_least_ways sc_least_ways (fun vs H Q E h => ?_) (fun f cdv A outer s H vs Q E hr h => ?_)
  · obtain ⟨v, rows, n, top, rfl, _⟩ := h
    rfl
  · obtain ⟨v, rows, n, top, rfl, ⟨a, vs, rfl, ha, hp⟩, S, h1, h6, k⟩ := h
    have hl : (vs.length : Int) = n := by rw [prd_len hp]; exact S.len
    refine ⟨_, (pss_cons (ps_setLc (i := 1) (own := [("prices", 6)]) (g := gName 6) rfl sc_least_ways.nd rfl rfl (sw_true rfl rfl rfl (by decide +kernel)) (pi_tup (pv 0)) (blkOk_by (own := [("prices", 6)]) (N := ["moves", "ways", "posts", "middle", "start", "end", "prices", "row"]) (sc := defScope s_least_ways) (by decide +kernel)) (fun _ _ _ _ _ => (pg_name (i := 6) sc_least_ways.nd rfl (Or.inl rfl))) (fun _ _ _ _ _ => pts_nil) (fun _ _ _ _ _ => (pe_callTy (T := "list") (call_list_of : CallR _ _ (rListOf K)) (by rfl) T.b_list (by decide +kernel) (pa_cons (pv 6) pa_nil))))
      (pss_cons (ps_set (i := 2) sc_least_ways.nd rfl (Or.inl rfl) (pe_callTy (T := "range") cr_rng1 (by rfl) T.b_range (by decide +kernel) (pa_cons (pe_callB (id := "len") call_len_seq (by rfl) T.b_len (by decide +kernel) (pa_cons (pv 0) pa_nil)) pa_nil)))
      (pss_cons (ps_for PassesOwn.never rfl (pi_rngV (pv 2)) (pg_name (i := 3) sc_least_ways.nd rfl (Or.inl rfl))
      (pss_one (ps_for PassesOwn.never rfl (pi_rngV (pv 2)) (pg_name (i := 4) sc_least_ways.nd rfl (Or.inl rfl))
      (pss_one (ps_for PassesOwn.never rfl (pi_rngV (pv 2)) (pg_name (i := 5) sc_least_ways.nd rfl (Or.inl rfl))
      (pss_one (ps_asg (pe_callB (id := "min") (call_min2 rfl) (by rfl) T.b_min (by decide +kernel) (pa_cons (pe_ix ix_list (pe_ix ix_list (pv 1) (pv 4) (fun _ _ => rfl)) (pv 5) (fun _ _ => rfl)) (pa_cons (pe_op op_add (pe_ix ix_list (pe_ix ix_list (pv 1) (pv 4) (fun _ _ => rfl)) (pv 3) (fun _ _ => rfl)) (pe_ix ix_list (pe_ix ix_list (pv 1) (pv 3) (fun _ _ => rfl)) (pv 5) (fun _ _ => rfl))) pa_nil))) (pg_sub (pe_ix ix_list (pv 1) (pv 4) (fun _ _ => rfl)) (pv 5) set_list))))))))
      (pss_one (ps_ret (pe_callTy (T := "tuple") call_tuple_of (by rfl) T.b_tuple (by decide +kernel) (pa_cons (pe_lc (own := [("row", 7)]) (g := gName 7) rfl sc_least_ways.nd (pi_list (pv 1)) (blkOk_by (own := [("row", 7)]) (N := ["moves", "ways", "posts", "middle", "start", "end", "prices", "row"]) (sc := defScope s_least_ways) (by decide +kernel)) (fun _ _ _ _ _ => (pg_name (i := 7) sc_least_ways.nd rfl (Or.inl rfl))) (fun _ _ _ _ _ => pts_nil) (fun _ _ _ _ _ => (pe_callTy (T := "tuple") (call_tuple_of : CallR _ _ (rTupOf K)) (by rfl) T.b_tuple (by decide +kernel) (pa_cons (pv 7) pa_nil)))) pa_nil))))))), ?_⟩
    walk_at "rr"
    refine ⟨⟨_, SqT.of ha⟩, ?_⟩
    intro L nL
    have nLa : a ≠ L := ne_of_none ha nL
    refine lc_tup (K := K) (a := a) (xs := vs) (fun i H2 => ∃ as : List Addr, H2 L = some (.lst (as.map V.ref)) ∧ as.length = i ∧ as.Nodup ∧ L ∉ as ∧ (∀ b ∈ as, H b = none) ∧ (∀ (j : Nat) b, as[j]? = some b → H2 b = some (.lst (rowV n.toNat (mat rows j)))) ∧ Same H H2)
      ⟨[], upd_same, rfl, .nil, by simp, by simp, by simp, same_new nL⟩ (fun i H2 _ ⟨_, _, _, _, _, _, _, q⟩ => SqT.of (q _ _ ha)) ?_ ?_
    · rintro i x H2 hi ⟨as, e1, e2, e3, e4, e5, e6, e7⟩
      obtain ⟨row, hrow, b, rfl, hb⟩ := prd_at1 hp hi
      have hb2 := e7 _ _ hb
      refine ⟨rfl, ?_⟩
      refine yesT ?_
      refine ⟨_, rfl, b, _, rfl, .inr (SqT.of hb2), fun t nt => ?_⟩
      have ntL : L ≠ t := ne_of_none e1 nt
      have ntH := e7.free nt
      have ntas : t ∉ as := fun m => by
        obtain ⟨j, hj⟩ := List.mem_iff_getElem?.mp m
        rw [e6 j t hj] at nt; cases nt
      refine ⟨_, (upd_ne ntL).trans e1, ?_, as ++ [t], ?_, ?_, ?_, ?_, ?_, ?_, ?_⟩
      · rw [List.length_map]; have := (List.getElem?_eq_some_iff.mp hi).1; exact small1000 (by omega)
      · rw [upd_same, List.map_append]; rfl
      · rw [List.length_append, e2]; rfl
      · exact nd_snoc e3 ntas
      · intro m
        rcases List.mem_append.mp m with q | q
        · exact e4 q
        · exact ntL (List.mem_singleton.mp q)
      · intro c hc
        rcases List.mem_append.mp hc with q | q
        · exact e5 c q
        · rw [List.mem_singleton.mp q]; exact ntH
      · intro j c hc
        by_cases hj : j < as.length
        · rw [List.getElem?_append_left hj] at hc
          have hcm := List.mem_of_getElem? hc
          have hcL : c ≠ L := fun q => e4 (q ▸ hcm)
          have hct : c ≠ t := fun q => ntas (q ▸ hcm)
          rw [upd_ne hcL, upd_ne hct]
          exact e6 j c hc
        · have hj2 : j = as.length := by
            have := (List.getElem?_eq_some_iff.mp hc).1
            rw [List.length_append] at this
            simp at this
            omega
          subst hj2
          rw [List.getElem?_append_right (Nat.le_refl _), Nat.sub_self] at hc
          obtain rfl := Option.some.inj (show some t = some c from hc)
          rw [upd_ne ntL.symm, upd_same]
          have hrm := S.row row (List.mem_of_getElem? hrow)
          rw [rowV_of (n := n.toNat) (by omega), e2]
          congr 2
          unfold rowV
          apply List.map_congr_left
          intro q _
          rw [mat_at hrow]
      · exact same_upd (same_upd e7 ntH) nL
    · rintro H2 ⟨as, e1, e2, e3, e4, e5, e6, e7⟩
      have ha2 := e7 _ _ ha
      walk_at "rr"
      intro r nr
      have hrH := e7.free nr
      have hrL : r ≠ L := fun q => by subst q; rw [e1] at nr; cases nr
      have en : ((vs.length : Int) - 0).toNat = n.toNat := by omega
      have M0 : MatAt (upd H2 r (.rng 0 vs.length)) L as n.toNat (mat rows) := by
        refine ⟨(upd_ne hrL.symm).trans e1, by omega, e3, e4, fun i b hb => ?_⟩
        have hbm := List.mem_of_getElem? hb
        have hbr : b ≠ r := fun q => by subst q; rw [e6 i b hb] at nr; cases nr
        rw [upd_ne hbr]
        exact e6 i b hb
      have T0 : Tri n.toNat (mat rows) 0 := ⟨S.z, S.nn, fun i j k' _ _ hk => absurd hk (Nat.not_lt_zero _)⟩
      refine ⟨_, rfl, r, 0, _, rfl, upd_same, by omega, by omega, by omega, by omega, ?_⟩
      refine for_range (lo := 0) (n := ((vs.length : Int) - 0).toNat) (fun m σ' H3 => ∃ (M : Nat → Nat → Int) (o3 o4 o5 : Option V), σ' = [some (.ref a), some (.ref L), some (.ref r), o3, o4, o5, none, none] ∧ H3 r = some (.rng 0 vs.length) ∧ MatAt H3 L as n.toNat M ∧
          Tri n.toNat M m ∧ Snd n.toNat (mat rows) M ∧ (∀ i j, i < n.toNat → j < n.toNat → M i j ≤ mat rows i j) ∧ Same H H3)
        ⟨_, none, none, none, rfl, upd_same, M0, T0, Snd.self, fun i j _ _ => Int.le_refl _, same_upd e7 hrH⟩ ?_ ?_
      · rintro m σ' H3 hm ⟨M, o3, o4, o5, rfl, hr3, hM, hT, hS, hle, s3⟩
        have hm' : m < n.toNat := by omega
        refine ⟨_, rfl, r, 0, _, rfl, hr3, by omega, by omega, by omega, by omega, ?_⟩
        refine for_range (lo := 0) (n := ((vs.length : Int) - 0).toNat) (fun st σ' H4 => ∃ (o4 o5 : Option V), σ' = [some (.ref a), some (.ref L), some (.ref r), some (.int (m : Nat)), o4, o5, none, none] ∧ H4 r = some (.rng 0 vs.length) ∧
            MatAt H4 L as n.toNat (fun i j => if i < st then ph M m i j else M i j) ∧ Same H H4)
          ⟨o4, o5, by simp, hr3, hM.ext fun i j _ _ => by simp, s3⟩ ?_ ?_
        · rintro st σ' H4 hst ⟨o4, o5, rfl, hr4, hM4, s4⟩
          have hst' : st < n.toNat := by omega
          refine ⟨_, rfl, r, 0, _, rfl, hr4, by omega, by omega, by omega, by omega, ?_⟩
          refine for_range (lo := 0) (n := ((vs.length : Int) - 0).toNat) (fun e σ' H5 => ∃ (o5 : Option V), σ' = [some (.ref a), some (.ref L), some (.ref r), some (.int (m : Nat)), some (.int (st : Nat)), o5, none, none] ∧ H5 r = some (.rng 0 vs.length) ∧
              MatAt H5 L as n.toNat (fun i j => if i < st ∨ (i = st ∧ j < e) then ph M m i j else M i j) ∧ Same H H5)
            ⟨o5, by simp, hr4, hM4.ext fun i j _ _ => by simp, s4⟩ ?_ ?_
          · rintro e σ' H5 he ⟨o5, rfl, hr5, hM5, s5⟩
            have he' : e < n.toNat := by omega
            obtain ⟨as1, has1⟩ : ∃ b, as[st]? = some b := ⟨_, List.getElem?_eq_getElem (by rw [hM5.len]; omega)⟩
            obtain ⟨am1, ham1⟩ : ∃ b, as[m]? = some b := ⟨_, List.getElem?_eq_getElem (by rw [hM5.len]; omega)⟩
            have r1 := hM5.row st as1 has1
            have r2 := hM5.row m am1 ham1
            have hL5 := hM5.ws
            have p1 : ph M m st m = M st m := by
              have h0 := hT.z m hm'
              unfold ph; rw [h0]; split <;> omega
            have p2 : ph M m m e = M m e := by
              have h0 := hT.z m hm'
              unfold ph; rw [h0]; split <;> omega
            have nas : as1 ≠ r := fun q => by subst q; rw [r1] at hr5; cases hr5
            rw [Int.zero_add]
            refine ⟨_, rfl, _, rfl, L, _, (st : Nat), _, rfl, rfl, SqL.of hL5, atI_nat (by rw [List.getElem?_map, has1]; rfl), _, rfl, as1, _, (e : Nat), _, rfl, rfl, SqL.of r1, atI_nat (rowV_at he'), ?_⟩
            refine ⟨_, rfl, _, rfl, L, _, (st : Nat), _, rfl, rfl, SqL.of hL5, atI_nat (by rw [List.getElem?_map, has1]; rfl), _, rfl, as1, _, (m : Nat), _, rfl, rfl, SqL.of r1, atI_nat (rowV_at hm'), ?_⟩
            refine ⟨_, rfl, _, rfl, L, _, (m : Nat), _, rfl, rfl, SqL.of hL5, atI_nat (by rw [List.getElem?_map, ham1]; rfl), _, rfl, am1, _, (e : Nat), _, rfl, rfl, SqL.of r2, atI_nat (rowV_at he'), ?_⟩
            refine ⟨_, _, rfl, rfl, _, _, rfl, ?_⟩
            refine ⟨_, rfl, _, rfl, L, _, (st : Nat), _, rfl, rfl, SqL.of hL5, atI_nat (by rw [List.getElem?_map, has1]; rfl), _, rfl, as1, _, (e : Nat), e, rfl, rfl, r1, ?_, ?_⟩
            · unfold ixN
              rw [rowV_len, if_pos (by omega), if_pos (by omega)]
              rfl
            rw [rowV_set]
            refine ⟨_, rfl, (upd_ne nas.symm).trans hr5, (hM5.set has1).ext fun i j hi hj => ?_, same_upd s5 (e5 as1 (List.mem_of_getElem? has1))⟩
            have c1 : (if st < st ∨ st = st ∧ e < e then ph M m st e else M st e) = M st e := by simp
            have c2 : (if st < st ∨ st = st ∧ m < e then ph M m st m else M st m) = M st m := by rw [p1]; simp
            have c3 : (if m < st ∨ m = st ∧ e < e then ph M m m e else M m e) = M m e := by rw [p2]; simp
            rw [c1, c2, c3]
            by_cases hij : i = st ∧ j = e
            · obtain ⟨rfl, rfl⟩ := hij
              rw [if_pos ⟨rfl, rfl⟩, if_pos (c := i < i ∨ i = i ∧ j < j + 1) (.inr ⟨rfl, Nat.lt_succ_self _⟩)]
              rfl
            · rw [if_neg hij]
              by_cases hq : i < st ∨ (i = st ∧ j < e)
              · rw [if_pos hq, if_pos (by omega)]
              · rw [if_neg hq, if_neg (by omega)]
          · rintro σ' H5 ⟨o5, rfl, hr5, hM5, s5⟩
            refine ⟨_, _, rfl, hr5, hM5.ext fun i j hi hj => ?_, s5⟩
            by_cases hq : i < st ∨ (i = st ∧ j < ((vs.length : Int) - 0).toNat)
            · rw [if_pos hq, if_pos (by omega)]
            · rw [if_neg hq, if_neg (by omega)]
        · rintro σ' H4 ⟨o4, o5, rfl, hr4, hM4, s4⟩
          refine ⟨ph M m, _, _, _, rfl, hr4, hM4.ext fun i j hi hj => by rw [if_pos (by omega)], hT.ph hm', hS.ph hm', fun i j hi hj => ?_, s4⟩
          exact Int.le_trans (@ph_le M m i j).1 (hle i j hi hj)
      · rintro σ' H3 ⟨M, o3, o4, o5, rfl, hr3, hM, hT, hS, hle, s3⟩
        rw [en] at hT
        have hLst := Least.of hT hS hle
        have hL5 := hM.ws
        refine ⟨_, rfl, L, rfl, ⟨_, SqL.of hL5⟩, fun D nD => ?_⟩
        have hDL : L ≠ D := ne_of_none hL5 nD
        refine lc_list (K := K) (a := L) (xs := as.map V.ref) (fun i H4 => ∃ ts : List V, H4 D = some (.lst ts) ∧ Paired (IntT H4) ts ((List.range i).map fun q => (List.range n.toNat).map (M q)) ∧ MatAt H4 L as n.toNat M ∧ Same H3 H4)
          ⟨[], upd_same, .nil, ?_, same_new nD⟩ (fun i H4 _ ⟨_, _, _, q, _⟩ => SqL.of q.ws) ?_ ?_
        · exact ⟨(upd_ne hDL).trans hL5, hM.len, hM.nd, hM.nw, fun i b hb => (upd_ne (ne_of_none (hM.row i b hb) nD)).trans (hM.row i b hb)⟩
        · rintro i x H4 hi ⟨ts, q1, q2, q3, q4⟩
          obtain ⟨b, hb, rfl⟩ := map_at hi
          have hrow := q3.row i b hb
          have hil := (List.getElem?_eq_some_iff.mp hb).1
          refine ⟨rfl, ?_⟩
          refine yesT ?_
          refine ⟨_, rfl, b, _, rfl, .inl ⟨SqL.of hrow, fun t nt => ?_⟩⟩
          have ntD : t ≠ D := fun q => by subst q; rw [q1] at nt; cases nt
          have hF : ∀ c xs, H4 c = some (.tup xs) → (upd (upd H4 t (.tup (rowV n.toNat (M i)))) D (.lst (ts ++ [V.ref t]))) c = some (.tup xs) := fun c xs e => by
            rw [upd_ne (ne_of e q1 (by intro z; cases z)), upd_ne (ne_of_none e nt)]; exact e
          refine ⟨_, (upd_ne ntD.symm).trans q1, ?_, ts ++ [.ref t], upd_same, ?_, ?_, ?_⟩
          · rw [prd_len q2, List.length_map, List.length_range]
            have := hM.len
            exact small1000 (by omega)
          · rw [List.range_succ, List.map_append]
            refine Paired.snoc (prd_imp q2 fun x y r => IntT.firm H4 _ x y hF r) ⟨t, rfl, ?_⟩
            rw [upd_ne ntD, upd_same, rowV_ints]
          · have hLt : L ≠ t := ne_of_none q3.ws nt
            refine ⟨(upd_ne hDL).trans ((upd_ne hLt).trans q3.ws), q3.len, q3.nd, q3.nw, fun j c hc => ?_⟩
            have hcr := q3.row j c hc
            have hcD : c ≠ D := ne_of_none (hM.row j c hc) nD
            exact (upd_ne hcD).trans ((upd_ne (ne_of_none hcr nt)).trans hcr)
          · exact same_upd (same_upd q4 (q4.free nt)) nD
        · rintro H4 ⟨ts, q1, q2, q3, q4⟩
          refine ⟨D, _, rfl, .inl ⟨SqL.of q1, fun t nt => ?_⟩⟩
          rw [List.length_map, hM.len] at q2
          refine k _ ((List.range n.toNat).map fun q => (List.range n.toNat).map (M q)) _ ((s3.trans q4).trans (same_new nt)) ⟨t, ts, rfl, upd_same, prd_imp q2 fun x y r => IntT.firm H4 _ x y (same_tups (same_new nt)) r⟩ ⟨?_, ?_, ?_⟩
          · rw [List.length_map, List.length_range]; omega
          · intro r hr
            obtain ⟨q, _, rfl⟩ := List.mem_map.mp hr
            rw [List.length_map, List.length_range]; omega
          · have em : ∀ i j, i < n.toNat → j < n.toNat → mat ((List.range n.toNat).map fun q => (List.range n.toNat).map (M q)) i j = M i j := fun i j hi hj => by
              rw [mat_at (r := (List.range n.toNat).map (M i)) (by rw [List.getElem?_map, List.getElem?_range hi]; rfl)]
              rw [List.getD_eq_getElem?_getD, List.getElem?_map, List.getElem?_range hj]
              rfl
            refine ⟨fun i j hi hj => ?_, fun i j l hi hj w => ?_⟩
            · rw [em i j hi hj]; exact hLst.has i j hi hj
            · rw [em i j hi hj]; exact hLst.le i j l hi hj w
end
end Toy

namespace Toy
open PySem PySem.Spec PyProof.Rows L2
local macro_rules | `(tactic| walk_at "hp") => `(tactic| first
  | assumption
  | exact upd_same
  | (refine Eq.trans (upd_ne (by first | assumption | (apply Ne.symm; assumption))) ?_; walk_at "hp"))
local macro_rules | `(tactic| walk_at "side") => `(tactic| first
  | exact .inl ⟨by omega, by omega⟩
  | exact .inr ⟨by omega, by omega⟩
  | exact ⟨by omega, by omega⟩
  | (show _ ≤ _; omega)
  | (show (_ : Int) < _; omega)
  | decide
  | assumption)
local macro_rules | `(tactic| walk_at "r") => `(tactic| first
  | refine ⟨_, rfl, ?_⟩
  | refine ⟨_, _, rfl, rfl, ?_⟩
  | refine ⟨_, _, _, _, rfl, rfl, SqL.of (by walk_at "hp"), rfl, ?_⟩
  | refine ⟨_, _, _, _, rfl, rfl, SqT.of (by walk_at "hp"), rfl, ?_⟩
  | refine ⟨_, _, _, _, rfl, rfl, (by walk_at "hp"), rfl, ?_⟩
  | refine And.intro rfl ?_
  | refine ⟨_, _, rfl, SqT.of (by walk_at "hp"), ?_⟩
  | refine ⟨_, _, rfl, SqL.of (by walk_at "hp"), ?_⟩
  | refine .inl ⟨_, rfl, ?_⟩
  | refine ⟨_, _, rfl, .inl (SqL.of (by walk_at "hp")), ?_⟩
  | refine ⟨_, _, rfl, .inr (SqT.of (by walk_at "hp")), ?_⟩
  | refine ⟨_, _, rfl, .inl ⟨SqL.of (by walk_at "hp"), ?_⟩⟩
  | refine And.intro (.inl ⟨rfl, _, SqL.of (by walk_at "hp")⟩) ?_
  | refine ⟨_, _, _, rfl, rfl, (by walk_at "hp"), ?_⟩
  | refine ⟨_, _, rfl, (by walk_at "hp"), ?_⟩
  | refine And.intro (by walk_at "side") ?_)
local macro_rules | `(tactic| walk_at "rr") => `(tactic| (repeat walk_at "r"))
local macro_rules | `(tactic| walk_at "k") => `(tactic| first
  | refine ite2 (fun _ => ?_) (fun g => absurd rfl g)
  | refine ite2 (fun g => absurd g (by decide)) (fun _ => ?_)
  | refine ite2 (fun _ => ?_) (fun g => absurd (decide_eq_true (by omega)) g)
  | refine ite2 (fun g => absurd (of_decide_eq_true g) (by omega)) (fun _ => ?_)
  | refine ite2 (fun g => (nd_t g (by omega)).elim) (fun _ => ?_)
  | refine ite2 (fun _ => ?_) (fun g => absurd (nd_f g) (by omega)))
local macro_rules | `(tactic| walk_at "rk") => `(tactic| (repeat (first | walk_at "r" | walk_at "k")))
/-- as SysAt, with the dict of the requests told -/
structure SysAtQ (C : Addr) (H : Hp) (p : Addr) (S : Sys) (q : Addr) : Prop where
  ex : ∃ (dx : Addr) (mv : V) (na : Addr) (wv : V) (kvs : List (Key × V)), H p = some (.ins C dx (sfs mv S.n (.ref na) wv q)) ∧ TupT IntT H mv S.rows ∧ H na = some (.tup ((S.rs.map (·.1)).map V.str)) ∧ TupT IntT H wv S.ws ∧ H q = some (.dK kvs) ∧ DctOf OptT H kvs S.rs
theorem SysAtQ.at {C : Addr} {H : Hp} {p : Addr} {S : Sys} {q : Addr} (A : SysAtQ C H p S q) : SysAt C H p S := by
  obtain ⟨dx, mv, na, wv, kvs, h⟩ := A.ex
  exact ⟨dx, mv, na, wv, q, kvs, h⟩
theorem SysAtQ.lock {C : Addr} {H : Hp} {p : Addr} {S : Sys} {q e : Addr} {ekv : List (Key × V)} {o : Obj} (A : SysAtQ C H p S q) (he : H e = some (.dK ekv)) (ne : q ≠ e) : SysAt C (upd H e (.frz o (.dK ekv))) p S := by
  obtain ⟨dx, mv, na, wv, kvs, h1, h2, h3, h4, h5, h6⟩ := A.ex
  have hF : ∀ a xs, H a = some (.tup xs) → (upd H e (.frz o (.dK ekv))) a = some (.tup xs) := fun a xs h => (upd_ne (ne_of h he (by intro z; cases z))).trans h
  exact ⟨dx, mv, na, wv, q, kvs, (upd_ne (ne_of h1 he (by intro z; cases z))).trans h1, TupT.firm IntT.firm _ _ _ _ hF h2, hF _ _ h3, TupT.firm IntT.firm _ _ _ _ hF h4, (upd_ne ne).trans h5, h6.firm OptT.firm hF⟩
theorem SysAtQ.same {C : Addr} {H H' : Hp} {p : Addr} {S : Sys} {q : Addr} (A : SysAtQ C H p S q) (k : Same H H') : SysAtQ C H' p S q := by
  obtain ⟨dx, mv, na, wv, kvs, h1, h2, h3, h4, h5, h6⟩ := A.ex
  exact ⟨dx, mv, na, wv, kvs, k _ _ h1, TupT.firm IntT.firm H H' _ _ (same_tups k) h2, k _ _ h3, TupT.firm IntT.firm H H' _ _ (same_tups k) h4, k _ _ h5, h6.firm OptT.firm (same_tups k)⟩
theorem SysAtQ.keep {C c d : Addr} {H H' : Hp} {p : Addr} {S : Sys} {q : Addr} (A : SysAtQ C H p S q) (D : Dice c H d) (k : Keep d H H') : SysAtQ C H' p S q := by
  obtain ⟨dx, mv, na, wv, kvs, h1, h2, h3, h4, h5, h6⟩ := A.ex
  have hp : p ≠ d := by
    obtain ⟨cells, i, b, s, t, e, _⟩ := D.ex
    exact ne_of h1 e (by intro z; cases z)
  exact ⟨dx, mv, na, wv, kvs, k _ _ hp h1, TupT.firm IntT.firm H H' _ _ (keep_tups k D) h2, k.tup D h3, TupT.firm IntT.firm H H' _ _ (keep_tups k D) h4, k _ _ (D.dK h5) h5, h6.firm OptT.firm (keep_tups k D)⟩
def Lets (E : XK) (C : Addr) (f : Str) (v : V) (H : Hp) : Prop := ∀ d H', Same H H' → H d = none → H' d = some (.xd [(f, v)]) → E (.ref C) (some d) H'
def Lets0 (E : XK) (C : Addr) (H : Hp) : Prop := ∀ H', Same H H' → E (.ref C) none H'
section
variable {P : Program} {w : World} {K : PySem.W.Frag} {mg : Str → Option Value} {base : Heap}
/-- a class whose __init__ may raise -/
theorem okIX_of {x qual : Str} {C : Addr} {st : Stmt} {N ps : List Str} {k : Nat} {sp : Sp} (hm : mg x = some (.ref C)) (D : ClsInit K C qual st ps) (S : FnScope N ps (defScope st)) (len : ∀ vs H Q E, sp vs H Q E → vs.length = ps.length)
    (hbody : ∀ (f : Addr) (cdv : Value) (A : Around) (outer : List Env) (s : Shared) (H : Hp) (vs : List V) (Q : VK) (E : XK), Room k (A.deeper (envOfC qual (defScope st) s.heap.objs.size f cdv)) → sp vs H Q E →
      ∃ t, PSs (cxOf (L2.CX P w) P w K mg base N qual (defScope st) f cdv A outer s H E) (defBody st) t ∧ t { nx := fun _ H' => Q .non H', rt := Q } (start N vs) H) : OkI P w K mg base (L2.CX P w) (k + 1) x C ps sp := by
  obtain ⟨f, fd, M, F, b⟩ := D.h
  exact ⟨f, fd, hm, M, b, F.okX S len fun cdv A outer s H vs Q E hr h => hbody f cdv A outer s H vs Q E hr h⟩
end
def spSystemE (C cB : Addr) : Sp := fun vs H Q E => ∃ (p dx : Addr) (mv : V) (d : Addr) (rows : List (List Int)) (kvs : List (Key × V)) (rs : List (Str × List (Option Int))), vs = [.ref p, mv, .ref d] ∧ H p = some (.ins C dx []) ∧
  TupT IntT H mv rows ∧ rows.length ≤ 20 ∧ (∀ r ∈ rows, r.length ≤ 100) ∧ H d = some (.dK kvs) ∧ DctOf OptT H kvs rs ∧ (rs.map (·.1)).Nodup ∧ rs.length ≤ 20 ∧ (∀ q ∈ rs, Name 8 q.1 ∧ q.2.length ≤ 100) ∧
  (¬ MovesOk rows → ∀ G, Same H G → Lets E cB "part" (.str "moves") G) ∧ (MovesOk rows → ¬ ReqsOk (rows.length : Nat) rs → ∀ G, Same H G → Lets E cB "part" (.str "requests") G) ∧
  ∀ (S : Sys) (H' : Hp) (q : Addr), MovesOk rows → ReqsOk (rows.length : Nat) rs → SysOk S → S.n = (rows.length : Nat) → S.rows = rows → S.rs.Perm rs → SysAtQ C H' p S q → (∀ e o, H e = some o → q ≠ e) → (∀ b o, b ≠ p → H b = some o → H' b = some o) → Q .non H'
section
variable {P : Program} {w : World} {K : PySem.W.Frag} {mg : Str → Option Value} {base : Heap}
theorem ok_BadTextZ_initZ (T : Top K mg) : ∃ (fI : Addr) (fd : FuncData), PySem.W.findIn K (.ref T.c_BadText) "__init__" = some (some (.ref fI)) ∧ PySem.W.typeIn K (.ref fI) = some (.type "function") ∧ Binds K fd ["self", "line"] [] ∧ FnOk P w K mg base CX0 1 fI fd ["self", "line"] (spInitF K "line") := by
  obtain ⟨fI, fd, q, i, t, F, b⟩ := T.x_BadText.h
  refine ⟨fI, fd, i, t, b, F.ok sc_BadTextZ_initZ (fun vs H Q E h => ?_) (fun cdv A outer s H vs Q E hr h => ?_)⟩
  · obtain ⟨a, C, v, rfl, _⟩ := h
    rfl
  · obtain ⟨a, C, v, rfl, hT, hno, ha, k⟩ := h
    refine ⟨_, pss_one (ps_ost (pv 0) (pv 1)), ?_⟩
    exact ⟨_, rfl, _, rfl, a, C, rfl, hT, hno, .inl ⟨ha, k⟩⟩
theorem ok_BadSystemZ_initZ (T : Top K mg) : ∃ (fI : Addr) (fd : FuncData), PySem.W.findIn K (.ref T.c_BadSystem) "__init__" = some (some (.ref fI)) ∧ PySem.W.typeIn K (.ref fI) = some (.type "function") ∧ Binds K fd ["self", "part"] [] ∧ FnOk P w K mg base CX0 1 fI fd ["self", "part"] (spInitF K "part") := by
  obtain ⟨fI, fd, q, i, t, F, b⟩ := T.x_BadSystem.h
  refine ⟨fI, fd, i, t, b, F.ok sc_BadSystemZ_initZ (fun vs H Q E h => ?_) (fun cdv A outer s H vs Q E hr h => ?_)⟩
  · obtain ⟨a, C, v, rfl, _⟩ := h
    rfl
  · obtain ⟨a, C, v, rfl, hT, hno, ha, k⟩ := h
    refine ⟨_, pss_one (ps_ost (pv 0) (pv 1)), ?_⟩
    exact ⟨_, rfl, _, rfl, a, C, rfl, hT, hno, .inl ⟨ha, k⟩⟩
theorem ok_SystemZ_initZ (T : Top K mg) : OkI P w K mg base (L2.CX P w) 7 "System" T.c_System ["self", "moves", "requests"] (spSystemE T.c_System T.c_BadSystem) := by
  refine okIX_of T.mg_System T.i_System sc_SystemZ_initZ (fun vs H Q E h => ?_) (fun f cdv A outer s H vs Q E hr h => ?_)
  · obtain ⟨p, dx, mv, d, rows, kvs, rs, rfl, _⟩ := h
    rfl
  · obtain ⟨p, dx, mv, d, rows, kvs, rs, rfl, hp, hmv, r20, r100, hd, hR, nd, q20, hN, km, kr, k⟩ := h
    obtain ⟨f_is_moves, fd_is_moves, m_is_moves, k_is_moves, b_is_moves, G_is_moves⟩ := ok_is_moves (P := P) (w := w) (base := base) T
    have hr_is_moves : Room 5 _ := hr.mono (by decide)
    obtain ⟨f_BadSystem, fd_BadSystem, i_BadSystem, t_BadSystem, b_BadSystem, G_BadSystem⟩ := ok_BadSystemZ_initZ (P := P) (w := w) (base := base) T
    have hr_BadSystem : Room 2 _ := hr.mono (by decide)
    obtain ⟨f__is_requests, fd__is_requests, m__is_requests, k__is_requests, b__is_requests, G__is_requests⟩ := ok__is_requests (P := P) (w := w) (base := base) T
    have hr__is_requests : Room 6 _ := hr.mono (by decide)
    obtain ⟨f_least_ways, fd_least_ways, m_least_ways, k_least_ways, b_least_ways, G_least_ways⟩ := ok_least_ways (P := P) (w := w) (base := base) T
    have hr_least_ways : Room 1 _ := hr.mono (by decide)
    have hu := hu_of hr
    refine ⟨_, (pss_cons (ps_if (pt_not (pt_val (pe_call G_is_moves hr_is_moves rfl m_is_moves k_is_moves b_is_moves .nil pass0 (pa_cons (pv 1) pa_nil))))
      (pss_one (ps_raise rfl (takes_of rfl rfl rfl rfl) (pmk_oex T.x_BadSystem.T i_BadSystem t_BadSystem G_BadSystem hr_BadSystem b_BadSystem .nil pass0 (by rfl) T.x_BadSystem.mg (pa_cons pe_str pa_nil))))
      pss_nil)
      (pss_cons (ps_if (pt_not (pt_val (pe_call G__is_requests hr__is_requests rfl m__is_requests k__is_requests b__is_requests .nil pass0 (pa_cons (pv 2) (pa_cons (pe_callB (id := "len") call_len_seq (by rfl) T.b_len (by decide +kernel) (pa_cons (pv 1) pa_nil)) pa_nil)))))
      (pss_one (ps_raise rfl (takes_of rfl rfl rfl rfl) (pmk_oex T.x_BadSystem.T i_BadSystem t_BadSystem G_BadSystem hr_BadSystem b_BadSystem .nil pass0 (by rfl) T.x_BadSystem.mg (pa_cons pe_str pa_nil))))
      pss_nil)
      (pss_cons (ps_fld (pv 0) (pv 1) rfl)
      (pss_cons (ps_fld (pv 0) (pe_callB (id := "len") call_len_seq (by rfl) T.b_len (by decide +kernel) (pa_cons (pv 1) pa_nil)) rfl)
      (pss_cons (ps_fld (pv 0) (pe_callTy (T := "tuple") call_tuple_of (by rfl) T.b_tuple (by decide +kernel) (pa_cons (pe_callB (id := "sorted") (call_sortedD rfl) (by rfl) T.b_sorted (by decide +kernel) (pa_cons (pv 2) pa_nil)) pa_nil)) rfl)
      (pss_cons (ps_fld (pv 0) (pe_call G_least_ways hr_least_ways rfl m_least_ways k_least_ways b_least_ways .nil pass0 (pa_cons (pv 1) pa_nil)) rfl)
      (pss_one (ps_fld (pv 0) (pe_dc (own := [("name", 3)]) (g := gName 3) rfl sc_SystemZ_initZ.nd (pi_tup (pe_fld (pv 0) rfl)) (blkOk_by (own := [("name", 3)]) (N := ["self", "moves", "requests", "name"]) (sc := defScope s_SystemZ_initZ) (by decide +kernel)) (fun _ _ _ _ _ => (pg_name (i := 3) sc_SystemZ_initZ.nd rfl (Or.inl rfl))) (fun _ _ _ _ _ => pts_nil) (fun _ _ _ _ _ => (pv 3)) (fun _ _ _ _ _ => (pe_dget hu (pv 2) (pv 3) (fun _ _ => rfl)))) rfl)))))))), ?_⟩
    refine ⟨_, rfl, mv, rows, rfl, hmv, r20, r100, fun b H1 s1 hb => ⟨_, rfl, ?_⟩⟩
    refine ite2 (fun g => ?_) (fun g => ?_)
    · have no : ¬ MovesOk rows := fun o => by rw [hb.mpr o] at g; cases g
      exact ⟨(by show 1 ≤ 1000; decide), init_raise T.x_BadSystem.T T.x_BadSystem.no (km no H1 s1)⟩
    have mok : MovesOk rows := hb.mp (by cases e : b with | true => rfl | false => rw [e] at g; exact absurd rfl g)
    obtain ⟨h1, h6, sq⟩ := _root_.id mok
    obtain ⟨n, en⟩ : ∃ n : Int, n = (rows.length : Nat) := ⟨_, rfl⟩
    rw [← en] at sq
    have h1 : 1 ≤ n := by omega
    have h6 : n ≤ 6 := by omega
    obtain ⟨ma, mvs, rfl, hma, hmp⟩ := hmv
    have hml : (mvs.length : Int) = n := by rw [prd_len hmp]; exact sq.len
    have hma1 := s1 _ _ hma
    have hd1 := s1 _ _ hd
    refine ⟨_, rfl, _, rfl, ma, _, rfl, .inr (SqT.of hma1), ?_⟩
    refine ⟨d, kvs, rs, n, ?_, hd1, hR.firm OptT.firm (same_tups s1), nd, q20, hN, fun b2 H2 s2 hb2 => ⟨_, rfl, ?_⟩⟩
    · rw [hml]; rfl
    refine ite2 (fun g2 => ?_) (fun g2 => ?_)
    · have no : ¬ ReqsOk n rs := fun o => by rw [hb2.mpr o] at g2; cases g2
      exact ⟨(by show 1 ≤ 1000; decide), init_raise T.x_BadSystem.T T.x_BadSystem.no (kr mok (by rw [← en]; exact no) H2 (s1.trans s2))⟩
    have rok : ReqsOk n rs := hb2.mp (by cases e : b2 with | true => rfl | false => rw [e] at g2; exact absurd rfl g2)
    obtain ⟨r1, r5, hP0⟩ := _root_.id rok
    have hP : ∀ q ∈ rs, Prices n 9 q.2 ∧ Name 8 q.1 := fun q m => ⟨hP0 q m, (hN q m).1⟩
    have hp2 := s2 _ _ (s1 _ _ hp)
    have hma2 := s2 _ _ hma1
    have hd2 := s2 _ _ hd1
    have hR2 : DctOf OptT H2 kvs rs := hR.firm OptT.firm (same_tups (s1.trans s2))
    have nma : ma ≠ p := ne_of hma hp (by intro z; cases z)
    have ndp : d ≠ p := ne_of hd hp (by intro z; cases z)
    -- the attributes
    refine ⟨_, rfl, _, rfl, ?_⟩
    refine ⟨p, T.c_System, dx, _, rfl, hp2, T.cl_System, T.na_System_moves, (by show 0 < 1000; decide), ?_⟩
    walk_at "rr"
    refine ⟨p, T.c_System, dx, _, rfl, upd_same, T.cl_System, T.na_System_posts, (by have := putF_len "moves" (.ref ma) []; exact Nat.lt_of_le_of_lt this (by decide)), ?_⟩
    rw [upd_upd]
    refine ⟨_, rfl, d, kvs, rs.map (·.1), rfl, .inl ((upd_ne ndp).trans hd2), dct_keys hR, (by rw [List.length_map]; omega), fun ys l hperm hsort nl => ?_⟩
    have npl : p ≠ l := fun q => by subst q; rw [upd_same] at nl; cases nl
    have nl2 : H2 l = none := by rw [upd_ne npl.symm] at nl; exact nl
    refine ⟨l, _, rfl, .inl ⟨SqL.of upd_same, fun t nt => ?_⟩⟩
    have ntl : t ≠ l := fun q => by subst q; rw [upd_same] at nt; cases nt
    rw [upd_ne ntl] at nt
    have npt : p ≠ t := fun q => by subst q; rw [upd_same] at nt; cases nt
    have nt2 : H2 t = none := by rw [upd_ne npt.symm] at nt; exact nt
    refine ⟨_, rfl, p, T.c_System, dx, _, rfl, (upd_ne npt).trans ((upd_ne npl).trans upd_same), T.cl_System, T.na_System_names, (by
      have q1 := putF_len "posts" (.int mvs.length) (putF "moves" (.ref ma) [])
      have q2 := putF_len "moves" (.ref ma) []
      have q3 : ([] : List (Str × V)).length = 0 := rfl
      omega), ?_⟩
    have hmv3 : ∀ {a b c d' : HO}, TupT IntT (upd (upd (upd (upd H2 p a) l b) t c) p d') (.ref ma) rows := fun {a b c d'} =>
      ⟨ma, mvs, rfl, keep4 nl2 nt2 _ _ nma hma2, prd_imp hmp fun x y r => IntT.firm H _ x y (fun e xs q => keep4 nl2 nt2 _ _ (ne_of q hp (by intro z; cases z)) (s2 _ _ (s1 _ _ q))) r⟩
    refine ⟨_, rfl, .ref ma, rows, n, 9, rfl, hmv3, sq, h1, by omega, fun wv ws H4 s4 hwv hW => ?_⟩
    have q2 := putF_len "moves" (.ref ma) []
    have q1 := putF_len "posts" (.int mvs.length) (putF "moves" (.ref ma) [])
    have q0 := putF_len "names" (.ref t) (putF "posts" (.int mvs.length) (putF "moves" (.ref ma) []))
    have q9 := putF_len "ways" wv (putF "names" (.ref t) (putF "posts" (.int mvs.length) (putF "moves" (.ref ma) [])))
    have q3 : ([] : List (Str × V)).length = 0 := rfl
    refine ⟨_, rfl, p, T.c_System, dx, _, rfl, s4 _ _ upd_same, T.cl_System, T.na_System_ways, by omega, ?_⟩
    have ht4 : H4 t = some (.tup (ys.map V.str)) := s4 _ _ ((upd_ne npt.symm).trans upd_same)
    have hd4 : H4 d = some (.dK kvs) := s4 _ _ (keep4 nl2 nt2 _ _ ndp hd2)
    have hR4 : DctOf OptT H4 kvs rs := hR2.firm OptT.firm fun e xs q => s4 _ _ (keep4 nl2 nt2 _ _ (ne_of q hp2 (by intro z; cases z)) q)
    have hmv4 : TupT IntT H4 (.ref ma) rows := TupT.firm IntT.firm _ _ _ _ (same_tups s4) hmv3
    have hp4 := s4 _ _ (show _ = _ from upd_same)
    obtain ⟨rs', hk', hperm'⟩ := reorder nd hperm
    have ndy : ys.Nodup := sortedS_perm_nd hperm nd
    have hlen' : rs'.length = rs.length := hperm'.length_eq
    have hly : ys.length = rs'.length := by rw [← hk', List.length_map]
    refine ⟨_, rfl, p, T.c_System, dx, _, .ref t, rfl, upd_same, T.cl_System, T.na_System_names, (by rw [lookup_putF, if_neg (by decide +kernel), lookup_putF, if_pos rfl]), t, rfl, ⟨_, SqT.of ((upd_ne npt.symm).trans ht4)⟩, fun D nD => ?_⟩
    have nDp : D ≠ p := fun q => by subst q; rw [upd_same] at nD; cases nD
    have nD4 : H4 D = none := by rw [upd_ne nDp] at nD; exact nD
    refine dc_tup (K := K) (a := t) (xs := ys.map V.str) (fun i H5 => ∃ kv', H5 D = some (.dK kv') ∧ DctOf OptT H5 kv' (rs'.take i) ∧ Same (upd H4 p (.ins T.c_System dx (putF "ways" wv (putF "names" (.ref t) (putF "posts" (.int mvs.length) (putF "moves" (.ref ma) [])))))) H5)
      ⟨[], upd_same, .nil, same_new nD⟩ (fun i H5 _ ⟨_, _, _, q⟩ => SqT.of (q _ _ ((upd_ne npt.symm).trans ht4))) ?_ ?_
    · rintro i x H5 hi ⟨kv', e1, e2, e3⟩
      obtain ⟨z, hz, rfl⟩ := map_at hi
      have hil : i < rs'.length := by rw [← hly]; exact (List.getElem?_eq_some_iff.mp hz).1
      obtain ⟨⟨z', row⟩, hzr⟩ : ∃ q, rs'[i]? = some q := ⟨_, List.getElem?_eq_getElem hil⟩
      have ezz : z' = z := by
        have : (rs'.map (·.1))[i]? = some z := by rw [hk']; exact hz
        rw [List.getElem?_map, hzr] at this
        exact Option.some.inj this
      subst ezz
      have hm : (z', row) ∈ rs := hperm'.mem_iff.mp (List.mem_of_getElem? hzr)
      obtain ⟨v, hv, hO⟩ := dct_some hR4 nd hm
      have hk5 : ∀ e xs, H4 e = some (.tup xs) → H5 e = some (.tup xs) := fun e xs q => e3 _ _ ((upd_ne (ne_of q hp4 (by intro z; cases z))).trans q)
      have hd5 : H5 d = some (.dK kvs) := e3 _ _ ((upd_ne ndp).trans hd4)
      refine ⟨rfl, ?_⟩
      refine yesT ?_
      refine ⟨_, rfl, _, rfl, _, rfl, d, v, rfl, (by rw [← hv]; exact DGet.k (k := Sum.inr z') hd5), ?_⟩
      have hno : ¬ z' ∈ (rs'.take i).map (·.1) := by
        rw [List.map_take, hk']; exact take_nmem ndy hz
      refine ⟨kv', .inr z', rfl, e1, ?_, ?_⟩
      · rw [dct_len e2, List.length_take]; exact small1000 (by omega)
      rw [putK_new _ (dct_none e2 hno)]
      have hF : ∀ e xs, H5 e = some (.tup xs) → (upd H5 D (.dK (kv' ++ [(Sum.inr z', v)]))) e = some (.tup xs) := fun e xs q => (upd_ne (ne_of q e1 (by intro z; cases z))).trans q
      refine ⟨_, upd_same, ?_, same_upd e3 nD⟩
      rw [List.take_add_one, hzr]
      exact Paired.snoc (e2.firm OptT.firm hF) ⟨rfl, OptT.firm H5 _ _ _ hF (OptT.firm H4 _ _ _ hk5 hO)⟩
    · rintro H5 ⟨kv', e1, e2, e3⟩
      rw [List.length_map, hly, List.take_length] at e2
      have hp5 := e3 _ _ (show _ = _ from upd_same)
      refine ⟨_, rfl, p, T.c_System, dx, _, rfl, hp5, T.cl_System, T.na_System__requests, by omega, ?_⟩
      have hF : ∀ e xs, H4 e = some (.tup xs) → (upd H5 p (.ins T.c_System dx (putF "_requests" (.ref D) (putF "ways" wv (putF "names" (.ref t) (putF "posts" (.int mvs.length) (putF "moves" (.ref ma) []))))))) e = some (.tup xs) := fun e xs q =>
        (upd_ne (ne_of q hp4 (by intro z; cases z))).trans (e3 _ _ ((upd_ne (ne_of q hp4 (by intro z; cases z))).trans q))
      have hF5 : ∀ e xs, H5 e = some (.tup xs) → (upd H5 p (.ins T.c_System dx (putF "_requests" (.ref D) (putF "ways" wv (putF "names" (.ref t) (putF "posts" (.int mvs.length) (putF "moves" (.ref ma) []))))))) e = some (.tup xs) := fun e xs q =>
        (upd_ne (ne_of q hp5 (by intro z; cases z))).trans q
      have SQ : SysAtQ T.c_System (upd H5 p (.ins T.c_System dx (putF "_requests" (.ref D) (putF "ways" wv (putF "names" (.ref t) (putF "posts" (.int mvs.length) (putF "moves" (.ref ma) []))))))) p ⟨n, rows, ws, rs'⟩ D := by
        refine ⟨dx, .ref ma, t, wv, kv', ?_, ?_, ?_, ?_, ?_, ?_⟩
        · rw [upd_same]
          show some (HO.ins T.c_System dx (putF "_requests" (.ref D) (putF "ways" wv (putF "names" (.ref t) (putF "posts" (.int mvs.length) (putF "moves" (.ref ma) [])))))) = some (HO.ins T.c_System dx (sfs (.ref ma) n (.ref t) wv D))
          rw [hml]; rfl
        · exact TupT.firm IntT.firm _ _ _ _ hF hmv4
        · show _ = some (HO.tup ((rs'.map (·.1)).map V.str))
          rw [hk']; exact hF t _ ht4
        · exact TupT.firm IntT.firm _ _ _ _ hF hwv
        · rw [upd_ne nDp]; exact e1
        · exact e2.firm OptT.firm hF5
      refine k ⟨n, rows, ws, rs'⟩ _ D mok (by rw [← en]; exact rok) ⟨h1, h6, sq, hW, ?_, ?_, ?_, ?_, ?_⟩ en rfl hperm' SQ ?_ ?_
      · show (rs'.map (·.1)).Nodup
        rw [hk']; exact ndy
      · show sortedS (rs'.map (·.1)) = true
        rw [hk']; exact hsort
      · show 1 ≤ rs'.length
        omega
      · show rs'.length ≤ 5
        omega
      · exact fun q hq => hP q (hperm'.mem_iff.mp hq)
      · intro b o e z
        subst z
        by_cases nb : D = p
        · exact nDp nb
        · rw [s4 _ _ (keep4 nl2 nt2 _ _ nb (s2 _ _ (s1 _ _ e)))] at nD4
          cases nD4
      · intro b o nb e
        rw [upd_ne nb]
        exact e3 _ _ ((upd_ne nb).trans (s4 _ _ (keep4 nl2 nt2 _ _ nb (s2 _ _ (s1 _ _ e)))))
end
end Toy

namespace Toy
open PySem PySem.Spec PyProof.Rows L2
local macro_rules | `(tactic| walk_at "hp") => `(tactic| first
  | assumption
  | exact upd_same
  | (refine Eq.trans (upd_ne (by first | assumption | (apply Ne.symm; assumption))) ?_; walk_at "hp"))
local macro_rules | `(tactic| walk_at "side") => `(tactic| first
  | exact .inl ⟨by omega, by omega⟩
  | exact .inr ⟨by omega, by omega⟩
  | exact ⟨by omega, by omega⟩
  | (show _ ≤ _; omega)
  | (show (_ : Int) < _; omega)
  | decide
  | assumption)
local macro_rules | `(tactic| walk_at "r") => `(tactic| first
  | refine ⟨_, rfl, ?_⟩
  | refine ⟨_, _, rfl, rfl, ?_⟩
  | refine ⟨_, _, _, _, rfl, rfl, SqL.of (by walk_at "hp"), rfl, ?_⟩
  | refine ⟨_, _, _, _, rfl, rfl, SqT.of (by walk_at "hp"), rfl, ?_⟩
  | refine ⟨_, _, _, _, rfl, rfl, (by walk_at "hp"), rfl, ?_⟩
  | refine And.intro rfl ?_
  | refine ⟨_, _, rfl, SqT.of (by walk_at "hp"), ?_⟩
  | refine ⟨_, _, rfl, SqL.of (by walk_at "hp"), ?_⟩
  | refine .inl ⟨_, rfl, ?_⟩
  | refine ⟨_, _, rfl, .inl (SqL.of (by walk_at "hp")), ?_⟩
  | refine ⟨_, _, rfl, .inr (SqT.of (by walk_at "hp")), ?_⟩
  | refine ⟨_, _, rfl, .inl ⟨SqL.of (by walk_at "hp"), ?_⟩⟩
  | refine And.intro (.inl ⟨rfl, _, SqL.of (by walk_at "hp")⟩) ?_
  | refine ⟨_, _, _, rfl, rfl, (by walk_at "hp"), ?_⟩
  | refine ⟨_, _, rfl, (by walk_at "hp"), ?_⟩
  | refine And.intro (by walk_at "side") ?_)
local macro_rules | `(tactic| walk_at "rr") => `(tactic| (repeat walk_at "r"))
local macro_rules | `(tactic| walk_at "k") => `(tactic| first
  | refine ite2 (fun _ => ?_) (fun g => absurd rfl g)
  | refine ite2 (fun g => absurd g (by decide)) (fun _ => ?_)
  | refine ite2 (fun _ => ?_) (fun g => absurd (decide_eq_true (by omega)) g)
  | refine ite2 (fun g => absurd (of_decide_eq_true g) (by omega)) (fun _ => ?_)
  | refine ite2 (fun g => (nd_t g (by omega)).elim) (fun _ => ?_)
  | refine ite2 (fun _ => ?_) (fun g => absurd (nd_f g) (by omega)))
local macro_rules | `(tactic| walk_at "rk") => `(tactic| (repeat (first | walk_at "r" | walk_at "k")))
/-- turns of any numbers -/
structure TurnsR (ts : List (List (Str × Int))) : Prop where
  hi : ts.length ≤ 20
  row : ∀ r ∈ ts, 1 ≤ r.length ∧ r.length ≤ 15 ∧ (r.map (·.1)).Nodup ∧ ∀ p ∈ r, Name 8 p.1 ∧ 0 ≤ p.2
def TurnsOk (ts : List (List (Str × Int))) : Prop := 1 ≤ ts.length ∧ ts.length ≤ 4 ∧ ∀ r ∈ ts, ∀ p ∈ r, p.2 < ts.length
theorem TurnsR.ok {ts : List (List (Str × Int))} (a : TurnsR ts) (b : TurnsOk ts) : Turns ts := ⟨b.1, b.2.1, fun r m => by
  obtain ⟨h1, h2, h3, h4⟩ := a.row r m
  exact ⟨h1, h2, h3, fun p mp => ⟨(h4 p mp).1, (h4 p mp).2, b.2.2 r m p mp⟩⟩⟩
def spIsTurnB : Sp := fun vs H Q _ => ∃ (d : Addr) (r : List (Str × Int)) (n : Int), vs = [.ref d, .int n] ∧ H d = some (.dK (tkv r)) ∧ 1 ≤ r.length ∧ r.length ≤ 15 ∧ (r.map (·.1)).Nodup ∧ (∀ p ∈ r, Name 8 p.1 ∧ 0 ≤ p.2) ∧ ∀ b G, Same H G → (b = true ↔ ∀ p ∈ r, p.2 < n) → Q (.bl b) G
def spIsTurnsB : Sp := fun vs H Q _ => ∃ (ta : Addr) (ds : List Addr) (ts : List (List (Str × Int))), vs = [.ref ta] ∧ TurnsAt H ta ds ts ∧ TurnsR ts ∧ ∀ b G, Same H G → (b = true ↔ TurnsOk ts) → Q (.bl b) G
section
variable {P : Program} {w : World} {K : PySem.W.Frag} {mg : Str → Option Value} {base : Heap}
theorem ok__is_turn (T : Top K mg) : Ok P w K mg base 4 "_is_turn" ["thing", "states"] spIsTurnB := by
  refine ok_of T.d__is_turn sc__is_turn (fun vs H Q E h => ?_) (fun f cdv A outer s H vs Q E hr h => ?_)
  · obtain ⟨d, r, n, rfl, _⟩ := h
    rfl
  · obtain ⟨d, r, n, rfl, hd, lo, hi, nd, hP, k⟩ := h
    obtain ⟨f_is_below, fd_is_below, m_is_below, k_is_below, b_is_below, G_is_below⟩ := ok_is_below (P := P) (w := w) (base := base) T
    have hr_is_below : Room 3 _ := hr.mono (by decide)
    obtain ⟨f_is_name, fd_is_name, m_is_name, k_is_name, b_is_name, G_is_name⟩ := ok_is_name (P := P) (w := w) (base := base) T
    have hr_is_name : Room 1 _ := hr.mono (by decide)
    have hu := hu_of hr
    refine ⟨_, (pss_cons (ps_if (PW.pt (pw_or (pt_not (pt_val (pe_callB (id := "isinstance") (call_isN (T := "dict")) (by rfl) T.b_isinstance (by decide +kernel) (pa_cons (pv 0) (pa_cons (pe_bltn (v := .ty "dict") (u := .type "dict") (by rfl) T.b_dict (by decide +kernel) rfl) pa_nil))))) (pw_or1 (pt_cmpR op_eq (pe_callB (id := "len") call_lenD (by rfl) T.b_len (by decide +kernel) (pa_cons (pv 0) pa_nil)) pe_int (nomark _)))))
      (pss_one (ps_ret pe_bl))
      pss_nil)
      (pss_one (ps_ret (pe_callB (id := "all") (cr_all rfl) (by rfl) T.b_all (by decide +kernel) (pa_cons (pe_lock (pe_lc (own := [("name", 2)]) (g := gName 2) rfl sc__is_turn.nd (pi_keys (pv 0)) (blkOk_by (own := [("name", 2)]) (N := ["thing", "states", "name"]) (sc := defScope s__is_turn) (by decide +kernel)) (fun _ _ _ _ _ => (pg_name (i := 2) sc__is_turn.nd rfl (Or.inl rfl))) (fun _ _ _ _ _ => pts_nil) (fun _ _ _ _ _ => (pe_and (pe_call G_is_name hr_is_name rfl m_is_name k_is_name b_is_name .nil pass0 (pa_cons (pv 2) pa_nil)) (pe_one (pe_call G_is_below hr_is_below rfl m_is_below k_is_below b_is_below .nil pass0 (pa_cons (pe_dget hu (pv 0) (pv 2) (fun _ _ => rfl)) (pa_cons (pv 1) pa_nil)))))))) pa_nil))))), ?_⟩
    refine ⟨_, rfl, _, "dict", _, rfl, ty_dK hd, kit7 (ty_dK hd) (by simp), _, rfl, ?_⟩
    refine ite2 (fun g => nomatch g) (fun _ => ?_)
    refine ⟨_, rfl, d, _, rfl, hd, rfl, _, rfl, ?_⟩
    refine ite2 (fun g => ?_) (fun _ => ?_)
    · have g := of_decide_eq_true g
      injection g with g
      rw [tkv_len] at g
      omega
    refine ⟨d, _, hd, True.intro, fun od => ?_⟩
    refine ⟨_, rfl, d, od, rfl, .inl ⟨tkv r, upd_same, fun D nD => ?_⟩⟩
    have nDd : D ≠ d := fun q => by subst q; rw [upd_same] at nD; cases nD
    have nDH : H D = none := by rw [upd_ne nDd] at nD; exact nD
    refine lc_it walk_keys (fun i H2 => H2 D = some (.lst (((r.take i).map fun p => decide (0 ≤ p.2 ∧ p.2 < n)).map V.bl)) ∧ Same (upd H d (.frz od (.dK (tkv r)))) H2) ⟨upd_same, same_new nD⟩ (fun i H2 _ h2 => h2.2 _ _ upd_same) ?_ ?_
    · rintro i x H2 H3 hi ⟨q1, q2⟩ ⟨rfl, ky, v, hkv, rfl⟩
      obtain ⟨pr, hpr, rfl, rfl⟩ := tkv_at hkv
      have m := List.mem_of_getElem? hpr
      obtain ⟨p1, p2⟩ := hP pr m
      refine ⟨rfl, ?_⟩
      refine yesT ?_
      refine ⟨_, rfl, .str pr.1, "str", rfl, rfl, (fun y e => by cases e; have h8 : (pr.1.length : Int) ≤ 8 := p1.hi; exact Nat.le_of_lt (small1000 (by omega))), fun H4 s4 => ?_⟩
      rw [nm_of p1]
      refine ⟨true, rfl, ?_⟩
      walk_at "k"
      refine ⟨_, rfl, _, rfl, d, .int pr.2, rfl, .inl ⟨tkv r, .inr pr.1, .inr ⟨od, s4 _ _ (q2 _ _ upd_same)⟩, rfl, (tkv_val nd m).symm⟩, ?_⟩
      refine ⟨_, rfl, .int pr.2, "int", n, rfl, rfl, ?_⟩
      refine ⟨_, s4 _ _ q1, ?_, ?_, same_upd (q2.trans s4) nD⟩
      · rw [List.length_map, List.length_map, List.length_take]
        exact small1000 (by omega)
      · rw [upd_same, List.take_add_one, hpr, List.map_append, List.map_append]; rfl
    · rintro H2 ⟨q1, q2⟩
      have hd2 := q2 _ _ upd_same
      rw [tkv_len, List.take_length] at q1
      refine ⟨hd2, D, _, rfl, SqL.of ((upd_ne nDd).trans q1), ?_⟩
      refine k _ _ (fun b o e => ?_) ?_
      · by_cases eb : b = d
        · subst eb; rw [upd_same, ← e, hd]
        · rw [upd_ne eb]
          exact q2 b o (by rw [upd_ne eb]; exact e)
      · rw [List.all_map, List.all_eq_true]
        exact ⟨fun t p m => (of_decide_eq_true (t p m)).2, fun t p m => decide_eq_true ⟨(hP p m).2, t p m⟩⟩
theorem ok__is_turns (T : Top K mg) : Ok P w K mg base 5 "_is_turns" ["thing"] spIsTurnsB := by
  refine ok_of T.d__is_turns sc__is_turns (fun vs H Q E h => ?_) (fun f cdv A outer s H vs Q E hr h => ?_)
  · obtain ⟨ta, ds, ts, rfl, _⟩ := h
    rfl
  · obtain ⟨ta, ds, ts, rfl, hT, hts, k⟩ := h
    obtain ⟨t_MOST_STATES, g_MOST_STATES⟩ := T.g_MOST_STATES
    obtain ⟨f__is_turn, fd__is_turn, m__is_turn, k__is_turn, b__is_turn, G__is_turn⟩ := ok__is_turn (P := P) (w := w) (base := base) T
    have hr__is_turn : Room 4 _ := hr.mono (by decide)
    have hi := hts.hi
    have len : ds.length = ts.length := Paired.length hT.each
    have lenr : (ds.map V.ref).length = ts.length := by rw [List.length_map]; exact len
    have bad : ¬ TurnsOk ts → Q (.bl false) H := fun n => k false H (Same.refl _) ⟨(fun e => nomatch e), fun o => absurd o n⟩
    refine ⟨_, (pss_cons (ps_if (PW.pt (pw_or (pt_not (pt_val (pe_callB (id := "isinstance") (call_isN (T := "tuple")) (by rfl) T.b_isinstance (by decide +kernel) (pa_cons (pv 0) (pa_cons (pe_bltn (v := .ty "tuple") (u := .type "tuple") (by rfl) T.b_tuple (by decide +kernel) rfl) pa_nil))))) (pw_or1 (pt_not (pt_chain op_le op_le pe_int (pe_callB (id := "len") call_len_seq (by rfl) T.b_len (by decide +kernel) (pa_cons (pv 0) pa_nil)) (pe_glob (v := .int 4) rfl g_MOST_STATES ⟨_, rfl⟩))))))
      (pss_one (ps_ret pe_bl))
      pss_nil)
      (pss_one (ps_ret (pe_callB (id := "all") (cr_all rfl) (by rfl) T.b_all (by decide +kernel) (pa_cons (pe_lc (own := [("turn", 1)]) (g := gName 1) rfl sc__is_turns.nd (pi_tup (pv 0)) (blkOk_by (own := [("turn", 1)]) (N := ["thing", "turn"]) (sc := defScope s__is_turns) (by decide +kernel)) (fun _ _ _ _ _ => (pg_name (i := 1) sc__is_turns.nd rfl (Or.inl rfl))) (fun _ _ _ _ _ => pts_nil) (fun _ _ _ _ _ => (pe_call G__is_turn hr__is_turn rfl m__is_turn k__is_turn b__is_turn .nil pass0 (pa_cons (pv 1) (pa_cons (pe_callB (id := "len") (call_len_seq : CallR _ _ (rLenSeq K)) (by rfl) T.b_len (by decide +kernel) (pa_cons (pv 0) pa_nil)) pa_nil))))) pa_nil))))), ?_⟩
    refine ⟨_, rfl, _, "tuple", _, rfl, ty_tup hT.tup, kit7 (ty_tup hT.tup) (by simp), _, rfl, ?_⟩
    refine ite2 (fun g => nomatch g) (fun _ => ?_)
    refine ⟨_, rfl, ta, _, rfl, .inr (SqT.of hT.tup), _, _, rfl, rfl, _, rfl, ?_⟩
    rw [lenr]
    refine ite2 (fun g1 => ?_) (fun g1 => ⟨_, rfl, ite2 (fun _ => bad fun o => g1 (decide_eq_true (by have := o.1; omega))) (fun g => absurd rfl g)⟩)
    have g1 := of_decide_eq_true g1
    refine ⟨_, _, rfl, rfl, _, rfl, ?_⟩
    refine ite2 (fun g2 => bad fun o => ?_) (fun g2 => ?_)
    · rw [decide_eq_true (by have := o.2.1; omega)] at g2
      cases g2
    have g2 : (ts.length : Int) ≤ 4 := by
      refine Classical.byContradiction fun n => g2 ?_
      rw [decide_eq_false n]; rfl
    refine ⟨_, rfl, ta, rfl, ⟨_, SqT.of hT.tup⟩, fun D nD => ?_⟩
    refine lc_tup (K := K) (a := ta) (xs := ds.map V.ref) (fun j G => ∃ bs : List Bool, G D = some (.lst (bs.map V.bl)) ∧ bs.length = j ∧ (bs.all id = true ↔ ∀ r ∈ ts.take j, ∀ p ∈ r, p.2 < ts.length) ∧ Same H G) ⟨[], upd_same, rfl, ⟨(fun _ q m => by simp at m), (fun _ => rfl)⟩, same_new nD⟩ (fun j G _ ⟨_, _, _, _, h⟩ => SqT.of (h _ _ hT.tup)) ?_ ?_
    · rintro j x G hj ⟨bs, q1, hbl, hbs, q2⟩
      obtain ⟨d, hd, rfl⟩ := map_at hj
      obtain ⟨r, hr, ed⟩ := prd_at1 hT.each hd
      obtain ⟨a1, a2, a3, a4⟩ := hts.row r (List.mem_of_getElem? hr)
      refine ⟨rfl, ?_⟩
      refine yesT ?_
      refine ⟨_, rfl, _, rfl, ta, _, rfl, .inr (SqT.of (q2 _ _ hT.tup)), d, r, _, rfl, q2 _ _ ed, a1, a2, a3, a4, fun b G2 s2 hb => ?_⟩
      rw [lenr] at hb
      refine ⟨_, s2 _ _ q1, ?_, bs ++ [b], ?_, ?_, ?_, same_upd (q2.trans s2) nD⟩
      · rw [List.length_map, hbl]
        have := (List.getElem?_eq_some_iff.mp hr).1
        exact small1000 (by omega)
      · rw [upd_same, List.map_append]; rfl
      · rw [List.length_append, hbl]; rfl
      · rw [List.all_append, List.take_add_one, hr, Bool.and_eq_true, hbs]
        constructor
        · rintro ⟨h1, h2⟩ q mq
          rcases List.mem_append.mp mq with m | m
          · exact h1 q m
          · have : q = r := by simpa using m
            rw [this]
            exact hb.mp (by simpa using h2)
        · intro h
          refine ⟨fun q m => h q (List.mem_append_left _ m), ?_⟩
          have := hb.mpr (h r (List.mem_append_right _ (by simp)))
          rw [this]; rfl
    · rintro G ⟨bs, q1, hbl, hbs, q2⟩
      refine ⟨D, bs, rfl, SqL.of q1, ?_⟩
      rw [lenr, List.take_length] at hbs
      exact k _ _ q2 ⟨fun t => ⟨by omega, by omega, hbs.mp t⟩, fun o => hbs.mpr o.2.2⟩
end
end Toy

namespace Toy
open PySem PySem.Spec PyProof.Rows L2
local macro_rules | `(tactic| walk_at "hp") => `(tactic| first
  | assumption
  | exact upd_same
  | (refine Eq.trans (upd_ne (by first | assumption | (apply Ne.symm; assumption))) ?_; walk_at "hp"))
local macro_rules | `(tactic| walk_at "side") => `(tactic| first
  | exact .inl ⟨by omega, by omega⟩
  | exact .inr ⟨by omega, by omega⟩
  | exact ⟨by omega, by omega⟩
  | (show _ ≤ _; omega)
  | (show (_ : Int) < _; omega)
  | decide
  | assumption)
local macro_rules | `(tactic| walk_at "r") => `(tactic| first
  | refine ⟨_, rfl, ?_⟩
  | refine ⟨_, _, rfl, rfl, ?_⟩
  | refine ⟨_, _, _, _, rfl, rfl, SqL.of (by walk_at "hp"), rfl, ?_⟩
  | refine ⟨_, _, _, _, rfl, rfl, SqT.of (by walk_at "hp"), rfl, ?_⟩
  | refine ⟨_, _, _, _, rfl, rfl, (by walk_at "hp"), rfl, ?_⟩
  | refine And.intro rfl ?_
  | refine ⟨_, _, rfl, SqT.of (by walk_at "hp"), ?_⟩
  | refine ⟨_, _, rfl, SqL.of (by walk_at "hp"), ?_⟩
  | refine .inl ⟨_, rfl, ?_⟩
  | refine ⟨_, _, rfl, .inl (SqL.of (by walk_at "hp")), ?_⟩
  | refine ⟨_, _, rfl, .inr (SqT.of (by walk_at "hp")), ?_⟩
  | refine ⟨_, _, rfl, .inl ⟨SqL.of (by walk_at "hp"), ?_⟩⟩
  | refine And.intro (.inl ⟨rfl, _, SqL.of (by walk_at "hp")⟩) ?_
  | refine ⟨_, _, _, rfl, rfl, (by walk_at "hp"), ?_⟩
  | refine ⟨_, _, rfl, (by walk_at "hp"), ?_⟩
  | refine And.intro (by walk_at "side") ?_)
local macro_rules | `(tactic| walk_at "rr") => `(tactic| (repeat walk_at "r"))
local macro_rules | `(tactic| walk_at "k") => `(tactic| first
  | refine ite2 (fun _ => ?_) (fun g => absurd rfl g)
  | refine ite2 (fun g => absurd g (by decide)) (fun _ => ?_)
  | refine ite2 (fun _ => ?_) (fun g => absurd (decide_eq_true (by omega)) g)
  | refine ite2 (fun g => absurd (of_decide_eq_true g) (by omega)) (fun _ => ?_)
  | refine ite2 (fun g => (nd_t g (by omega)).elim) (fun _ => ?_)
  | refine ite2 (fun _ => ?_) (fun g => absurd (nd_f g) (by omega)))
local macro_rules | `(tactic| walk_at "rk") => `(tactic| (repeat (first | walk_at "r" | walk_at "k")))
theorem TurnsAt.keep {p : Addr} {H G : Hp} {ta : Addr} {ds : List Addr} {ts : List (List (Str × Int))} (t : TurnsAt H ta ds ts) {C dx : Addr} {fs : List (Str × V)} (hp : H p = some (.ins C dx fs)) (k : Keep p H G) : TurnsAt G ta ds ts := by
  refine ⟨k _ _ (ne_of t.tup hp (by intro z; cases z)) t.tup, t.nd, paired_snoc_at t.each fun d m o e => k _ _ (fun z => ?_) e⟩
  subst z
  obtain ⟨i, hi⟩ := List.getElem?_of_mem m
  obtain ⟨r, _, e2⟩ := prd_at1 t.each hi
  rw [hp] at e2; cases e2
/-- copies of the dicts of some turns -/
structure Copied (H G : Hp) (D : Addr) (es : List Addr) (ts : List (List (Str × Int))) : Prop where
  lst : G D = some (.lst (es.map V.ref))
  each : Paired (fun d r => G d = some (.dK (tkv r))) es ts
  nd : es.Nodup
  new : ∀ e ∈ es, H e = none ∧ e ≠ D
  same : Same H G
theorem Copied.more {H G : Hp} {D : Addr} {es : List Addr} {ts : List (List (Str × Int))} {i : Nat} {r : List (Str × Int)} (c : Copied H G D es (ts.take i)) (hr : ts[i]? = some r) {e : Addr} (ne : G e = none) (nD : H D = none) :
    Copied H (upd (upd G e (.dK (tkv r))) D (.lst (es.map V.ref ++ [.ref e]))) D (es ++ [e]) (ts.take (i + 1)) := by
  have eD : D ≠ e := ne_of_none c.lst ne
  refine ⟨?_, ?_, ?_, ?_, same_upd (same_upd c.same (c.same.free ne)) nD⟩
  · rw [upd_same, List.map_append]; rfl
  · rw [List.take_add_one, hr]
    refine Paired.snoc (paired_snoc_at c.each fun d m o h => ?_) ?_
    · have d1 : d ≠ e := ne_of_none h ne
      rw [upd_ne (c.new d m).2, upd_ne d1]; exact h
    · rw [upd_ne eD.symm, upd_same]
  · rw [List.nodup_append]
    refine ⟨c.nd, by simp, fun a m b mb => ?_⟩
    rw [List.mem_singleton.mp mb]
    intro z
    subst z
    obtain ⟨j, hj⟩ := List.getElem?_of_mem m
    obtain ⟨r2, _, h2⟩ := prd_at1 c.each hj
    rw [ne] at h2; cases h2
  · intro d m
    rcases List.mem_append.mp m with m | m
    · exact c.new d m
    · rw [List.mem_singleton.mp m]
      exact ⟨c.same.free ne, eD.symm⟩
def spMachineE (C cB : Addr) : Sp := fun vs H Q E => ∃ (p dx ta : Addr) (ds : List Addr) (ts : List (List (Str × Int))), vs = [.ref p, .ref ta] ∧ H p = some (.ins C dx []) ∧ TurnsAt H ta ds ts ∧ TurnsR ts ∧ (¬ TurnsOk ts → ∀ G, Same H G → Lets0 E cB G) ∧
  ∀ M G, TurnsOk ts → McOk M → M.ts = ts → McAt C G p M → (∀ b o, b ≠ p → H b = some o → G b = some o) → Q .non G
section
variable {P : Program} {w : World} {K : PySem.W.Frag} {mg : Str → Option Value} {base : Heap}
theorem ok_MachineZ_initZ (T : Top K mg) : OkI P w K mg base (L2.CX P w) 6 "Machine" T.c_Machine ["self", "turns"] (spMachineE T.c_Machine T.c_BadMachine) := by
  refine okIX_of T.mg_Machine T.i_Machine sc_MachineZ_initZ (fun vs H Q E h => ?_) (fun f cdv A outer s H vs Q E hr h => ?_)
  · obtain ⟨p, dx, ta, ds, ts, rfl, _⟩ := h
    rfl
  · obtain ⟨p, dx, ta, ds, ts, rfl, hp, hT, htr, kb, k0⟩ := h
    obtain ⟨f__is_turns, fd__is_turns, m__is_turns, k__is_turns, b__is_turns, G__is_turns⟩ := ok__is_turns (P := P) (w := w) (base := base) T
    have hr__is_turns : Room 5 _ := hr.mono (by decide)
    have len : ds.length = ts.length := Paired.length hT.each
    refine ⟨_, (pss_cons (ps_if (pt_not (pt_val (pe_call G__is_turns hr__is_turns rfl m__is_turns k__is_turns b__is_turns .nil pass0 (pa_cons (pv 1) pa_nil))))
      (pss_one (ps_raise rfl (takes_of rfl rfl rfl rfl) (pmk_ret rfl (pe_err0 PySem.F.excBase_ValueError T.y_BadMachine.ex T.mg_BadMachine T.y_BadMachine.kp rfl))))
      pss_nil)
      (pss_cons (ps_fld (pv 0) (pe_callTy (T := "tuple") call_tuple_of (by rfl) T.b_tuple (by decide +kernel) (pa_cons (pe_lc (own := [("turn", 2)]) (g := gName 2) rfl sc_MachineZ_initZ.nd (pi_tup (pv 1)) (blkOk_by (own := [("turn", 2)]) (N := ["self", "turns", "turn", "name"]) (sc := defScope s_MachineZ_initZ) (by decide +kernel)) (fun _ _ _ _ _ => (pg_name (i := 2) sc_MachineZ_initZ.nd rfl (Or.inl rfl))) (fun _ _ _ _ _ => pts_nil) (fun _ _ _ _ _ => (pe_callTy (T := "dict") call_dictD (by rfl) T.b_dict (by decide +kernel) (pa_cons (pv 2) pa_nil)))) pa_nil)) rfl)
      (pss_cons (ps_fld (pv 0) (pe_callB (id := "len") call_len_seq (by rfl) T.b_len (by decide +kernel) (pa_cons (pv 1) pa_nil)) rfl)
      (pss_one (ps_fld (pv 0) (pe_callTy (T := "tuple") call_tuple_of (by rfl) T.b_tuple (by decide +kernel) (pa_cons (pe_callB (id := "sorted") (cr_sortedTx rfl) (by rfl) T.b_sorted (by decide +kernel) (pa_cons (pe_locks (pe_sc2 (own := [("turn", 2), ("name", 3)]) (vs1 := [3]) rfl sc_MachineZ_initZ.nd (pi_tup (pv 1)) (blkOk_by (own := [("turn", 2), ("name", 3)]) (N := ["self", "turns", "turn", "name"]) (sc := defScope s_MachineZ_initZ) (by decide +kernel)) (by decide) (fun _ _ _ _ _ => (pg_name (i := 2) sc_MachineZ_initZ.nd rfl (Or.inl rfl))) (fun _ _ _ _ _ => (pi_keys (pv 2))) (fun _ _ _ _ _ => (pg_name (i := 3) sc_MachineZ_initZ.nd rfl (Or.inl rfl))) (fun _ _ _ _ _ => (pv 3)))) pa_nil)) pa_nil)) rfl))))), ?_⟩
    refine ⟨_, rfl, ta, ds, ts, rfl, hT, htr, fun b H1 s1 hb => ⟨_, rfl, ?_⟩⟩
    refine ite2 (fun g => ?_) (fun g => ?_)
    · have no : ¬ TurnsOk ts := fun o => by rw [hb.mpr o] at g; cases g
      refine fun a na => ⟨a, _, rfl, upd_same, fr0_none (s1.free na), raises_own T.y_BadMachine.er.x.exC T.y_BadMachine.ty, ?_⟩
      rw [delH_new na]
      exact kb no H1 s1 _ (Same.refl _)
    have tk : TurnsOk ts := hb.mp (by cases e : b with | true => rfl | false => rw [e] at g; exact absurd rfl g)
    have hts := htr.ok tk
    have hi := hts.hi
    have k := fun M G => k0 M G tk
    have T1 := hT.same s1
    have hp1 := s1 _ _ hp
    refine ⟨_, rfl, ta, rfl, ⟨_, SqT.of T1.tup⟩, fun D nD => ?_⟩
    refine lc_tup (K := K) (a := ta) (xs := ds.map V.ref) (fun j G => ∃ es, Copied H1 G D es (ts.take j)) ⟨[], upd_same, .nil, .nil, by simp, same_new nD⟩ (fun j G _ ⟨es, c⟩ => SqT.of (c.same _ _ T1.tup)) ?_ ?_
    · rintro j x G hj ⟨es, c⟩
      obtain ⟨d, hd, rfl⟩ := map_at hj
      obtain ⟨r, hr', ed⟩ := prd_at1 T1.each hd
      refine ⟨rfl, ?_⟩
      refine yesT ?_
      refine ⟨_, rfl, d, tkv r, rfl, .inl (c.same _ _ ed), fun e ne => ?_⟩
      have eD : D ≠ e := ne_of_none c.lst ne
      refine ⟨_, (upd_ne eD).trans c.lst, ?_, _, c.more hr' ne nD⟩
      rw [List.length_map, Paired.length c.each, List.length_take]
      exact small1000 (by omega)
    · rintro G ⟨es, c⟩
      rw [List.length_map, len, List.take_length] at c
      refine ⟨D, _, rfl, .inl ⟨SqL.of c.lst, fun t nt => ?_⟩⟩
      have t1 : Same H1 (upd G t (.tup (es.map V.ref))) := same_upd c.same (c.same.free nt)
      have T2 : TurnsAt (upd G t (.tup (es.map V.ref))) t es ts := ⟨upd_same, c.nd, paired_snoc_at c.each fun d _ o h => by rw [upd_ne (ne_of_none h nt)]; exact h⟩
      generalize upd G t (.tup (es.map V.ref)) = H2 at *
      have hp2 := t1 _ _ hp1
      refine ⟨_, rfl, p, T.c_Machine, dx, _, rfl, hp2, T.cl_Machine, T.na_Machine__turns, (by show 0 < 1000; decide), ?_⟩
      have k2 : Keep p H2 (upd H2 p (.ins T.c_Machine dx (putF "_turns" (.ref t) []))) := Keep.upd
      have p3 : (upd H2 p (.ins T.c_Machine dx (putF "_turns" (.ref t) []))) p = some (.ins T.c_Machine dx (putF "_turns" (.ref t) [])) := upd_same
      generalize upd H2 p (.ins T.c_Machine dx (putF "_turns" (.ref t) [])) = H3 at *
      have A3 := ((hT.same s1).same t1).keep hp2 k2
      refine ⟨_, rfl, ta, _, rfl, .inr (SqT.of A3.tup), ?_⟩
      rw [List.length_map, len]
      have f1 : (putF "_turns" (V.ref t) []).length ≤ 1 := putF_len "_turns" (V.ref t) []
      refine ⟨_, rfl, p, T.c_Machine, dx, _, rfl, p3, T.cl_Machine, T.na_Machine_states, by omega, ?_⟩
      have k3 : Keep p H3 (upd H3 p (.ins T.c_Machine dx (putF "states" (.int ts.length) (putF "_turns" (.ref t) [])))) := Keep.upd
      have p4 : (upd H3 p (.ins T.c_Machine dx (putF "states" (.int ts.length) (putF "_turns" (.ref t) [])))) p = some (.ins T.c_Machine dx (putF "states" (.int ts.length) (putF "_turns" (.ref t) []))) := upd_same
      generalize upd H3 p (.ins T.c_Machine dx (putF "states" (.int ts.length) (putF "_turns" (.ref t) []))) = H4 at *
      have A4 := A3.keep p3 k3
      have few := hts.few
      refine ⟨ds.length, keys_set (P := P) (w := w) (a := 1) (i := 2) (j := 3) rfl A4 (by omega) (by show 2 < 4; decide) (by show 3 < 4; decide) (by decide) fun D2 zs nD2 mem le => ?_⟩
      refine ⟨D2, zs, rfl, upd_same, by omega, fun ys q nd srt mem2 nq => ?_⟩
      have s5 : Same H4 (upd (upd H4 D2 (TxO P w D2 zs)) q (.lst (ys.map V.str))) := same_upd (same_new nD2) (by
        cases e : H4 q with
        | none => rfl
        | some o => rw [same_new nD2 _ _ e] at nq; cases nq)
      have q5 : (upd (upd H4 D2 (TxO P w D2 zs)) q (.lst (ys.map V.str))) q = some (.lst (ys.map V.str)) := upd_same
      generalize upd (upd H4 D2 (TxO P w D2 zs)) q (.lst (ys.map V.str)) = H5 at *
      refine ⟨q, _, rfl, .inl ⟨SqL.of q5, fun t2 nt2 => ?_⟩⟩
      have s6 : Same H5 (upd H5 t2 (.tup (ys.map V.str))) := same_new nt2
      have q6 : (upd H5 t2 (.tup (ys.map V.str))) t2 = some (.tup (ys.map V.str)) := upd_same
      generalize upd H5 t2 (.tup (ys.map V.str)) = H6 at *
      have p6 := s6 _ _ (s5 _ _ p4)
      have f3 := putF_len "states" (.int ts.length) (putF "_turns" (.ref t) [])
      refine ⟨_, rfl, p, T.c_Machine, dx, _, rfl, p6, T.cl_Machine, T.na_Machine_names, by omega, ?_⟩
      have T6 := (((T2.keep hp2 k2).keep p3 k3).same s5).same s6
      refine k ⟨ts, ys⟩ _ ⟨hts, srt, nd, fun z => (mem2 z).trans (mem z)⟩ rfl ⟨⟨dx, t, t2, es, upd_same, T6.keep p6 Keep.upd, (upd_ne (ne_of q6 p6 (by intro z; cases z))).trans q6⟩⟩ fun b o nb e => ?_
      rw [upd_ne nb]
      exact s6 _ _ (s5 _ _ (k3 _ _ nb (k2 _ _ nb (t1 _ _ (s1 _ _ e)))))
theorem ok_Machine_turns (T : Top K mg) : OkP P w K mg base 1 T.c_Machine "turns" (spTurnsP T.c_Machine) := by
  refine okP_of T.p_Machine_turns sc_Machine_turns (fun vs H Q E h => ?_) (fun f cdv A outer s H vs Q E hr h => ?_)
  · obtain ⟨p, M, rfl, _⟩ := h
    rfl
  · obtain ⟨p, M, rfl, MA, ok, k⟩ := h
    obtain ⟨dm, ta, nm, ds, hm, hT, hn⟩ := MA.ex
    have len : ds.length = M.ts.length := Paired.length hT.each
    have hi := ok.ts.hi
    refine ⟨_, (pss_one (ps_ret (pe_callTy (T := "tuple") call_tuple_of (by rfl) T.b_tuple (by decide +kernel) (pa_cons (pe_lc (own := [("turn", 1)]) (g := gName 1) rfl sc_Machine_turns.nd (pi_tup (pe_fld (pv 0) rfl)) (blkOk_by (own := [("turn", 1)]) (N := ["self", "turn"]) (sc := defScope s_Machine_turns) (by decide +kernel)) (fun _ _ _ _ _ => (pg_name (i := 1) sc_Machine_turns.nd rfl (Or.inl rfl))) (fun _ _ _ _ _ => pts_nil) (fun _ _ _ _ _ => (pe_callTy (T := "dict") call_dictD (by rfl) T.b_dict (by decide +kernel) (pa_cons (pv 1) pa_nil)))) pa_nil)))), ?_⟩
    refine ⟨_, rfl, p, T.c_Machine, dm, _, _, rfl, hm, T.cl_Machine, T.na_Machine__turns, mfs_turns, ta, rfl, ⟨_, SqT.of hT.tup⟩, fun D nD => ?_⟩
    refine lc_tup (K := K) (a := ta) (xs := ds.map V.ref) (fun j G => ∃ es, Copied H G D es (M.ts.take j)) ⟨[], upd_same, .nil, .nil, by simp, same_new nD⟩ (fun j G _ ⟨es, c⟩ => SqT.of (c.same _ _ hT.tup)) ?_ ?_
    · rintro j x G hj ⟨es, c⟩
      obtain ⟨d, hd, rfl⟩ := map_at hj
      obtain ⟨r, hr', ed⟩ := prd_at1 hT.each hd
      refine ⟨rfl, ?_⟩
      refine yesT ?_
      refine ⟨_, rfl, d, tkv r, rfl, .inl (c.same _ _ ed), fun e ne => ?_⟩
      have eD : D ≠ e := ne_of_none c.lst ne
      refine ⟨_, (upd_ne eD).trans c.lst, ?_, _, c.more hr' ne nD⟩
      rw [List.length_map, Paired.length c.each, List.length_take]
      exact small1000 (by omega)
    · rintro G ⟨es, c⟩
      rw [List.length_map, len, List.take_length] at c
      refine ⟨D, _, rfl, .inl ⟨SqL.of c.lst, fun t nt => ?_⟩⟩
      refine k t es _ (same_upd c.same (c.same.free nt)) ⟨upd_same, c.nd, paired_snoc_at c.each fun d _ o h => by rw [upd_ne (ne_of_none h nt)]; exact h⟩ fun d m => (c.new d m).1
end
end Toy

namespace Toy
open PySem PySem.Spec PyProof.Rows L2
local macro_rules | `(tactic| walk_at "hp") => `(tactic| first
  | assumption
  | exact upd_same
  | (refine Eq.trans (upd_ne (by first | assumption | (apply Ne.symm; assumption))) ?_; walk_at "hp"))
local macro_rules | `(tactic| walk_at "side") => `(tactic| first
  | exact .inl ⟨by omega, by omega⟩
  | exact .inr ⟨by omega, by omega⟩
  | exact ⟨by omega, by omega⟩
  | (show _ ≤ _; omega)
  | (show (_ : Int) < _; omega)
  | decide
  | assumption)
local macro_rules | `(tactic| walk_at "r") => `(tactic| first
  | refine ⟨_, rfl, ?_⟩
  | refine ⟨_, _, rfl, rfl, ?_⟩
  | refine ⟨_, _, _, _, rfl, rfl, SqL.of (by walk_at "hp"), rfl, ?_⟩
  | refine ⟨_, _, _, _, rfl, rfl, SqT.of (by walk_at "hp"), rfl, ?_⟩
  | refine ⟨_, _, _, _, rfl, rfl, (by walk_at "hp"), rfl, ?_⟩
  | refine And.intro rfl ?_
  | refine ⟨_, _, rfl, SqT.of (by walk_at "hp"), ?_⟩
  | refine ⟨_, _, rfl, SqL.of (by walk_at "hp"), ?_⟩
  | refine .inl ⟨_, rfl, ?_⟩
  | refine ⟨_, _, rfl, .inl (SqL.of (by walk_at "hp")), ?_⟩
  | refine ⟨_, _, rfl, .inr (SqT.of (by walk_at "hp")), ?_⟩
  | refine ⟨_, _, rfl, .inl ⟨SqL.of (by walk_at "hp"), ?_⟩⟩
  | refine And.intro (.inl ⟨rfl, _, SqL.of (by walk_at "hp")⟩) ?_
  | refine ⟨_, _, _, rfl, rfl, (by walk_at "hp"), ?_⟩
  | refine ⟨_, _, rfl, (by walk_at "hp"), ?_⟩
  | refine And.intro (by walk_at "side") ?_)
local macro_rules | `(tactic| walk_at "rr") => `(tactic| (repeat walk_at "r"))
local macro_rules | `(tactic| walk_at "k") => `(tactic| first
  | refine ite2 (fun _ => ?_) (fun g => absurd rfl g)
  | refine ite2 (fun g => absurd g (by decide)) (fun _ => ?_)
  | refine ite2 (fun _ => ?_) (fun g => absurd (decide_eq_true (by omega)) g)
  | refine ite2 (fun g => absurd (of_decide_eq_true g) (by omega)) (fun _ => ?_)
  | refine ite2 (fun g => (nd_t g (by omega)).elim) (fun _ => ?_)
  | refine ite2 (fun _ => ?_) (fun g => absurd (nd_f g) (by omega)))
local macro_rules | `(tactic| walk_at "rk") => `(tactic| (repeat (first | walk_at "r" | walk_at "k")))
open TL (numL tl_num numL_lt numL_step numL_ne numL_len numL_digits numL_free)
theorem numS_nat (n : Nat) : (numS (n : Int)).cps.toList = numL n := tl_num n
theorem numL_head : ∀ n : Nat, 1 ≤ n → ∃ c r, numL n = c :: r ∧ 49 ≤ c := by
  intro n
  induction n using Nat.strongRecOn with
  | _ n ih =>
    intro h1
    by_cases h : n < 10
    · exact ⟨48 + n, [], numL_lt h, by omega⟩
    · obtain ⟨c, r, e, hc⟩ := ih (n / 10) (by omega) (by omega)
      exact ⟨c, r ++ [48 + n % 10], by rw [numL_step (by omega), e]; rfl, hc⟩
theorem numS_len9 {i : Int} (h0 : 0 ≤ i) (h9 : i ≤ 999999999) : 1 ≤ (numS i).length ∧ (numS i).length ≤ 9 := by
  obtain ⟨n, rfl⟩ : ∃ n : Nat, i = n := ⟨i.toNat, by omega⟩
  have e : (numS (n : Int)).length = (numL n).length := by rw [← numS_nat]; rfl
  rw [e]
  refine ⟨List.length_pos_iff.mpr (numL_ne n), numL_len (by decide) (by omega)⟩
theorem dig_mem (c : Nat) (h1 : 48 ≤ c) (h2 : c ≤ 57) : decide (c ∈ ("0123456789" : Str).cps.toList) = true := by
  have e : ∀ i : _root_.Fin 10, decide (48 + i.val ∈ ("0123456789" : Str).cps.toList) = true := by decide +kernel
  have := e ⟨c - 48, by omega⟩
  simp only [show 48 + (c - 48) = c by omega] at this
  exact this
def spIsNumber : Sp := fun vs H Q _ => ∃ i : Int, vs = [.str (numS i)] ∧ 0 ≤ i ∧ i ≤ 999999999 ∧ ∀ H', Same H H' → Q (.bl true) H'
section
variable {P : Program} {w : World} {K : PySem.W.Frag} {mg : Str → Option Value} {base : Heap}
theorem ok_is_number (T : Top K mg) : Ok P w K mg base 1 "is_number" ["word"] spIsNumber := by
  refine ok_of T.d_is_number sc_is_number (fun vs H Q E h => ?_) (fun f cdv A outer s H vs Q E hr h => ?_)
  · obtain ⟨i, rfl, _⟩ := h
    rfl
  · obtain ⟨i, rfl, h0, h9, k⟩ := h
    obtain ⟨t_DIGITS, g_DIGITS⟩ := T.g_DIGITS
    obtain ⟨t_MOST_DIGITS, g_MOST_DIGITS⟩ := T.g_MOST_DIGITS
    obtain ⟨l1, l9⟩ := numS_len9 h0 h9
    obtain ⟨n, rfl⟩ : ∃ n : Nat, i = n := ⟨i.toNat, by omega⟩
    have dig := numL_digits n
    rw [← numS_nat] at dig
    refine ⟨_, (pss_cons (ps_if (PW.pt (pw_or (pt_not (pt_chain op_le op_le pe_int (pe_callB (id := "len") call_len_str (by rfl) T.b_len (by decide +kernel) (pa_cons (pv 0) pa_nil)) (pe_glob (v := .int 9) rfl g_MOST_DIGITS ⟨_, rfl⟩))) (pw_or1 (pt_not (pt_val (pe_callB (id := "all") (cr_all rfl) (by rfl) T.b_all (by decide +kernel) (pa_cons (pe_lc (own := [("letter", 1)]) (g := gName 1) rfl sc_is_number.nd (pi_str (pv 0)) (blkOk_by (own := [("letter", 1)]) (N := ["word", "letter"]) (sc := defScope s_is_number) (by decide +kernel)) (fun _ _ _ _ _ => (pg_name (i := 1) sc_is_number.nd rfl (Or.inl rfl))) (fun _ _ _ _ _ => pts_nil) (fun _ _ _ _ _ => (pe_cmpR op_in_sign (pv 1) (pe_glob (v := .str "0123456789") rfl g_DIGITS ⟨_, rfl⟩) rfl))) pa_nil)))))))
      (pss_one (ps_ret pe_bl))
      pss_nil)
      (pss_one (ps_ret (pe_or (pe_cmpR op_eq (pv 0) pe_str (nomark _)) (pe_one (pe_cmpR op_ne (pe_item_str (pv 0) pe_int (fun _ _ => rfl)) pe_str (nomark _))))))), ?_⟩
    refine ⟨_, rfl, _, rfl, Nat.le_of_lt (small1000 (by omega)), _, _, rfl, rfl, _, rfl, ?_⟩
    refine ite2 (fun _ => ?_) (fun g => absurd (decide_eq_true (by omega)) g)
    refine ⟨_, _, rfl, rfl, _, rfl, ?_⟩
    refine ite2 (fun g => ?_) (fun _ => ?_)
    · rw [decide_eq_true (by omega)] at g; cases g
    refine ⟨_, rfl, _, rfl, fun D nD => ?_⟩
    generalize ez : numS (n : Int) = z at *
    have hsz : z.cps.size = z.length := rfl
    refine lc_it walk_str (fun i H2 => H2 D = some (.lst ((List.replicate i true).map V.bl)) ∧ Same H H2) ⟨upd_same, same_new nD⟩ (fun _ _ _ _ => True.intro) ?_ ?_
    · rintro i x H2 H3 hi ⟨e1, e2⟩ ⟨rfl, ch, hc, rfl⟩
      refine ⟨rfl, ?_⟩
      refine yesT ?_
      refine ⟨_, rfl, ch, _, rfl, rfl, _, e1, ?_, ?_, same_upd e2 nD⟩
      · rw [List.length_map, List.length_replicate]; exact small1000 (by omega)
      · have hc' : z.cps.toList[i]? = some ch := by rw [Array.getElem?_toList]; exact hc
        have := dig ch (List.mem_of_getElem? hc')
        rw [upd_same, dig_mem ch this.1 this.2, ← rep_snoc]
    · rintro H2 ⟨e1, e2⟩
      refine ⟨D, _, rfl, SqL.of e1, ?_⟩
      rw [rep_all]
      refine ⟨_, rfl, ?_⟩
      refine ite2 (fun g => nomatch g) (fun _ => ?_)
      refine ⟨_, rfl, rfl, _, rfl, ?_⟩
      refine ite2 (fun _ => k H2 e2) (fun g => ?_)
      have n1 : 1 ≤ n := Classical.byContradiction fun h => g (by
        have : n = 0 := by omega
        subst this
        rw [← ez]
        decide +kernel)
      obtain ⟨c, r, ec, hc⟩ := numL_head n n1
      have ec : z.cps.toList = c :: r := by rw [← ez, numS_nat]; exact ec
      have hg : z.cps[(0 : Int).toNat]? = some c := by
        rw [← Array.getElem?_toList, ec]; rfl
      refine ⟨_, rfl, z, 0, c, rfl, rfl, by decide, by decide, by omega, hg, rfl, ?_⟩
      have ne : ¬ V.str ⟨#[c]⟩ = V.str "0" := fun e => by
        injection e with e
        have e2 := congrArg (fun q : Str => q.cps.toList) e
        have : [c] = [48] := e2
        injection this with this
        omega
      rw [decide_eq_false ne]
      exact k H2 e2
end
end Toy

namespace Toy
open PySem PySem.Spec PyProof.Rows L2
local macro_rules | `(tactic| walk_at "hp") => `(tactic| first
  | assumption
  | exact upd_same
  | (refine Eq.trans (upd_ne (by first | assumption | (apply Ne.symm; assumption))) ?_; walk_at "hp"))
local macro_rules | `(tactic| walk_at "side") => `(tactic| first
  | exact .inl ⟨by omega, by omega⟩
  | exact .inr ⟨by omega, by omega⟩
  | exact ⟨by omega, by omega⟩
  | (show _ ≤ _; omega)
  | (show (_ : Int) < _; omega)
  | decide
  | assumption)
local macro_rules | `(tactic| walk_at "r") => `(tactic| first
  | refine ⟨_, rfl, ?_⟩
  | refine ⟨_, _, rfl, rfl, ?_⟩
  | refine ⟨_, _, _, _, rfl, rfl, SqL.of (by walk_at "hp"), rfl, ?_⟩
  | refine ⟨_, _, _, _, rfl, rfl, SqT.of (by walk_at "hp"), rfl, ?_⟩
  | refine ⟨_, _, _, _, rfl, rfl, (by walk_at "hp"), rfl, ?_⟩
  | refine And.intro rfl ?_
  | refine ⟨_, _, rfl, SqT.of (by walk_at "hp"), ?_⟩
  | refine ⟨_, _, rfl, SqL.of (by walk_at "hp"), ?_⟩
  | refine .inl ⟨_, rfl, ?_⟩
  | refine ⟨_, _, rfl, .inl (SqL.of (by walk_at "hp")), ?_⟩
  | refine ⟨_, _, rfl, .inr (SqT.of (by walk_at "hp")), ?_⟩
  | refine ⟨_, _, rfl, .inl ⟨SqL.of (by walk_at "hp"), ?_⟩⟩
  | refine And.intro (.inl ⟨rfl, _, SqL.of (by walk_at "hp")⟩) ?_
  | refine ⟨_, _, _, rfl, rfl, (by walk_at "hp"), ?_⟩
  | refine ⟨_, _, rfl, (by walk_at "hp"), ?_⟩
  | refine And.intro (by walk_at "side") ?_)
local macro_rules | `(tactic| walk_at "rr") => `(tactic| (repeat walk_at "r"))
local macro_rules | `(tactic| walk_at "k") => `(tactic| first
  | refine ite2 (fun _ => ?_) (fun g => absurd rfl g)
  | refine ite2 (fun g => absurd g (by decide)) (fun _ => ?_)
  | refine ite2 (fun _ => ?_) (fun g => absurd (decide_eq_true (by omega)) g)
  | refine ite2 (fun g => absurd (of_decide_eq_true g) (by omega)) (fun _ => ?_)
  | refine ite2 (fun g => (nd_t g (by omega)).elim) (fun _ => ?_)
  | refine ite2 (fun _ => ?_) (fun g => absurd (nd_f g) (by omega)))
local macro_rules | `(tactic| walk_at "rk") => `(tactic| (repeat (first | walk_at "r" | walk_at "k")))
open TL (numL tl_num numL_lt numL_step numL_ne numL_len numL_digits numL_free int_num)
theorem atI_neg1 {ts : List V} {z : V} (h : ts[ts.length - 1]? = some z) : atI ts (-1) = some z := by
  have hl := (List.getElem?_eq_some_iff.mp h).1
  have e : ts = ts.dropLast ++ [z] := by
    have hne : ts ≠ [] := by intro q; subst q; simp at hl
    have := List.dropLast_concat_getLast hne
    rw [List.getLast_eq_getElem] at this
    rw [(List.getElem?_eq_some_iff.mp h).2] at this
    exact this.symm
  rw [e]
  exact atI_last _ _
def InN (i : Int) : Prop := 0 ≤ i ∧ i ≤ 999999999
theorem numS_dig {i : Int} (h : 0 ≤ i) : ∀ c ∈ (numS i).cps.toList, 48 ≤ c ∧ c ≤ 57 := by
  obtain ⟨n, rfl⟩ : ∃ n : Nat, i = n := ⟨i.toNat, by omega⟩
  rw [numS_nat]
  exact numL_digits n
theorem numS_ne {i : Int} (h : 0 ≤ i) (z : Str) (c : Nat) (hc : c ∈ z.cps.toList) (n : ¬ (48 ≤ c ∧ c ≤ 57)) : numS i ≠ z := fun e => n (numS_dig h c (by rw [e]; exact hc))
theorem numS_int {i : Int} (h : InN i) : PySem.intText? (numS i) = some i := by
  obtain ⟨n, rfl⟩ : ∃ n : Nat, i = n := ⟨i.toNat, by have := h.1; omega⟩
  have l := (numS_len9 h.1 h.2).2
  exact int_num (by rw [← numS_nat]; show (numS (n : Int)).length ≤ 4300; omega)
def spLinesOf : Sp := fun vs H Q _ => ∃ z : Str, vs = [.str z] ∧ z.length ≤ 1000000 ∧ ∀ l G, Same H G → G l = some (.lst ((Txt.split z "\n").map V.str)) → Q (.ref l) G
def spClosed : Sp := fun vs H Q _ => ∃ (a : Addr) (zs : List Str), vs = [.ref a] ∧ H a = some (.lst ((zs ++ [("" : Str)]).map V.str)) ∧ Q .non H
def spAllNum : Sp := fun vs H Q _ => ∃ (a : Addr) (is : List Int), vs = [.ref a] ∧ H a = some (.lst ((is.map numS).map V.str)) ∧ (∀ i ∈ is, InN i) ∧ is.length ≤ 100 ∧ ∀ G, Same H G → Q (.bl (decide (0 < is.length))) G
def spPriceR : Sp := fun vs H Q _ => ∃ o : Option Int, vs = [.str (priS o)] ∧ (∀ i, o = some i → InN i) ∧ Q (vO o) H
section
variable {P : Program} {w : World} {K : PySem.W.Frag} {mg : Str → Option Value} {base : Heap}
theorem ok_lines_of (T : Top K mg) : OkX P w K mg base 3 "lines_of" ["text"] spLinesOf := by
  refine okX_of T.d_lines_of sc_lines_of (fun vs H Q E h => ?_) (fun f cdv A outer s H vs Q E hr h => ?_)
  · obtain ⟨z, rfl, _⟩ := h
    rfl
  · obtain ⟨z, rfl, hz, k⟩ := h
    obtain ⟨f_BadText, fd_BadText, i_BadText, t_BadText, b_BadText, G_BadText⟩ := ok_BadTextZ_initZ (P := P) (w := w) (base := base) T
    have hr_BadText : Room 2 _ := hr.mono (by decide)
    refine ⟨_, (pss_cons (ps_if (pt_not (pt_val (pe_callB (id := "isinstance") (call_isN (T := "str")) (by rfl) T.b_isinstance (by decide +kernel) (pa_cons (pv 0) (pa_cons (pe_bltn (v := .ty "str") (u := .type "str") (by rfl) T.b_str (by decide +kernel) rfl) pa_nil)))))
      (pss_one (ps_raise rfl (takes_of rfl rfl rfl rfl) (pmk_oex T.x_BadText.T i_BadText t_BadText G_BadText hr_BadText b_BadText .nil pass0 (by rfl) T.x_BadText.mg (pa_cons pe_int pa_nil))))
      pss_nil)
      (pss_one (ps_ret (pe_split (pv 0) pe_str)))), ?_⟩
    have hty : tyN H (.str z) = some "str" := rfl
    refine ⟨_, rfl, _, "str", _, rfl, hty, kit7 hty (by simp), _, rfl, ?_⟩
    refine ite2 (fun g => nomatch g) (fun _ => ?_)
    refine ⟨_, rfl, ⟨z, rfl⟩, z, "\n", rfl, rfl, by decide +kernel, by show z.length + 2 ≤ 16777216; omega, fun p np => ?_⟩
    exact k p _ (same_new np) upd_same
theorem ok_check_closed (T : Top K mg) : OkX P w K mg base 3 "check_closed" ["lines"] spClosed := by
  refine okX_of T.d_check_closed sc_check_closed (fun vs H Q E h => ?_) (fun f cdv A outer s H vs Q E hr h => ?_)
  · obtain ⟨a, zs, rfl, _⟩ := h
    rfl
  · obtain ⟨a, zs, rfl, ha, k⟩ := h
    obtain ⟨f_BadText, fd_BadText, i_BadText, t_BadText, b_BadText, G_BadText⟩ := ok_BadTextZ_initZ (P := P) (w := w) (base := base) T
    have hr_BadText : Room 2 _ := hr.mono (by decide)
    refine ⟨_, (pss_one (ps_if (pt_cmpR op_ne (pe_ix ix_list (pv 0) (pe_un un_neg pe_int) (fun _ _ => rfl)) pe_str (nomark _))
      (pss_one (ps_raise rfl (takes_of rfl rfl rfl rfl) (pmk_oex T.x_BadText.T i_BadText t_BadText G_BadText hr_BadText b_BadText .nil pass0 (by rfl) T.x_BadText.mg (pa_cons (pe_callB (id := "len") call_len_seq (by rfl) T.b_len (by decide +kernel) (pa_cons (pv 0) pa_nil)) pa_nil))))
      pss_nil)), ?_⟩
    have hat : atI ((zs ++ [("" : Str)]).map V.str) (-1) = some (.str "") := by
      refine atI_neg1 ?_
      rw [List.length_map, List.length_append, List.map_append]
      show (zs.map V.str ++ [V.str ""])[zs.length + 1 - 1]? = _
      rw [List.getElem?_append_right (by rw [List.length_map]; omega), List.length_map]
      simp
    refine ⟨_, rfl, _, rfl, a, _, -1, _, rfl, rfl, SqL.of ha, hat, rfl, _, rfl, ?_⟩
    exact ite2 (fun g => absurd g (by decide +kernel)) (fun _ => k)
theorem ok__all_numbers (T : Top K mg) : Ok P w K mg base 2 "_all_numbers" ["words"] spAllNum := by
  refine ok_of T.d__all_numbers sc__all_numbers (fun vs H Q E h => ?_) (fun f cdv A outer s H vs Q E hr h => ?_)
  · obtain ⟨a, is, rfl, _⟩ := h
    rfl
  · obtain ⟨a, is, rfl, ha, hin, h100, k⟩ := h
    obtain ⟨f_is_number, fd_is_number, m_is_number, k_is_number, b_is_number, G_is_number⟩ := ok_is_number (P := P) (w := w) (base := base) T
    have hr_is_number : Room 1 _ := hr.mono (by decide)
    refine ⟨_, (pss_one (ps_ret (pe_and (pe_cmpR op_gt (pe_callB (id := "len") call_len_seq (by rfl) T.b_len (by decide +kernel) (pa_cons (pv 0) pa_nil)) pe_int (nomark _)) (pe_one (pe_callB (id := "all") (cr_all rfl) (by rfl) T.b_all (by decide +kernel) (pa_cons (pe_lc (own := [("word", 1)]) (g := gName 1) rfl sc__all_numbers.nd (pi_list (pv 0)) (blkOk_by (own := [("word", 1)]) (N := ["words", "word"]) (sc := defScope s__all_numbers) (by decide +kernel)) (fun _ _ _ _ _ => (pg_name (i := 1) sc__all_numbers.nd rfl (Or.inl rfl))) (fun _ _ _ _ _ => pts_nil) (fun _ _ _ _ _ => (pe_call G_is_number hr_is_number rfl m_is_number k_is_number b_is_number .nil pass0 (pa_cons (pv 1) pa_nil)))) pa_nil)))))), ?_⟩
    refine ⟨_, rfl, a, _, rfl, .inl (SqL.of ha), _, _, rfl, rfl, _, rfl, ?_⟩
    rw [List.length_map, List.length_map]
    refine ite2 (fun g => ?_) (fun g => ?_)
    · have g : (0 : Int) < is.length := of_decide_eq_true g
      refine ⟨_, rfl, a, rfl, ⟨_, SqL.of ha⟩, fun L nL => ?_⟩
      refine lc_list (K := K) (a := a) (xs := (is.map numS).map V.str) (fun j H4 => H4 L = some (.lst ((List.replicate j true).map V.bl)) ∧ Same H H4) ⟨upd_same, same_new nL⟩ (fun j H4 _ h4 => SqL.of (h4.2 _ _ ha)) ?_ ?_
      · rintro j z H4 hj ⟨q1, q2⟩
        obtain ⟨y, hy, rfl⟩ := map_at hj
        obtain ⟨i, hi, rfl⟩ : ∃ i, is[j]? = some i ∧ y = numS i := by
          rw [List.getElem?_map] at hy
          cases e : is[j]? with
          | none => rw [e] at hy; cases hy
          | some i => rw [e] at hy; exact ⟨i, rfl, (Option.some.inj hy).symm⟩
        have hjl := (List.getElem?_eq_some_iff.mp hi).1
        have := hin i (List.mem_of_getElem? hi)
        refine ⟨rfl, ?_⟩
        refine yesT ?_
        refine ⟨_, rfl, i, rfl, this.1, this.2, fun H5 s5 => ?_⟩
        refine ⟨_, s5 _ _ q1, ?_, ?_, same_upd (q2.trans s5) nL⟩
        · rw [List.length_map, List.length_replicate]; exact small1000 (by omega)
        · rw [upd_same, rep_snoc]
      · rintro H4 ⟨q1, q2⟩
        refine ⟨L, _, rfl, SqL.of q1, ?_⟩
        rw [rep_all]
        have := k H4 q2
        rw [decide_eq_true (by omega)] at this
        exact this
    · have g : ¬ (0 : Int) < is.length := fun e => g (decide_eq_true e)
      have := k H (Same.refl _)
      rw [decide_eq_false (by omega)] at this
      exact this
theorem ok__price (T : Top K mg) : Ok P w K mg base 1 "_price" ["word"] spPriceR := by
  refine ok_of T.d__price sc__price (fun vs H Q E h => ?_) (fun f cdv A outer s H vs Q E hr h => ?_)
  · obtain ⟨o, rfl, _⟩ := h
    rfl
  · obtain ⟨o, rfl, ho, k⟩ := h
    obtain ⟨t_NO_NAME, g_NO_NAME⟩ := T.g_NO_NAME
    refine ⟨_, (pss_one (ps_ret (pe_ifExp (pt_cmpR op_eq (pv 0) (pe_glob (v := .str "-") rfl g_NO_NAME ⟨_, rfl⟩) (nomark _)) pe_non (pe_callTy (T := "int") call_int_str (by rfl) T.b_int (by decide +kernel) (pa_cons (pv 0) pa_nil))))), ?_⟩
    refine ⟨_, rfl, rfl, _, rfl, ?_⟩
    cases o with
    | none => exact ite2 (fun _ => k) (fun g => absurd (by decide +kernel) g)
    | some i =>
      have hi := ho i rfl
      refine ite2 (fun g => ?_) (fun _ => ?_)
      · have g := of_decide_eq_true g
        injection g with g
        exact absurd g (numS_ne hi.1 "-" 45 (by decide +kernel) (by decide))
      · refine ⟨_, rfl, _, _, rfl, numS_int hi, ?_, k⟩
        have := (numS_len9 hi.1 hi.2).2
        show (numS i).length ≤ 640
        omega
end
end Toy

namespace Toy
open PySem PySem.Spec PyProof.Rows L2
local macro_rules | `(tactic| walk_at "hp") => `(tactic| first
  | assumption
  | exact upd_same
  | (refine Eq.trans (upd_ne (by first | assumption | (apply Ne.symm; assumption))) ?_; walk_at "hp"))
local macro_rules | `(tactic| walk_at "side") => `(tactic| first
  | exact .inl ⟨by omega, by omega⟩
  | exact .inr ⟨by omega, by omega⟩
  | exact ⟨by omega, by omega⟩
  | (show _ ≤ _; omega)
  | (show (_ : Int) < _; omega)
  | decide
  | assumption)
local macro_rules | `(tactic| walk_at "r") => `(tactic| first
  | refine ⟨_, rfl, ?_⟩
  | refine ⟨_, _, rfl, rfl, ?_⟩
  | refine ⟨_, _, _, _, rfl, rfl, SqL.of (by walk_at "hp"), rfl, ?_⟩
  | refine ⟨_, _, _, _, rfl, rfl, SqT.of (by walk_at "hp"), rfl, ?_⟩
  | refine ⟨_, _, _, _, rfl, rfl, (by walk_at "hp"), rfl, ?_⟩
  | refine And.intro rfl ?_
  | refine ⟨_, _, rfl, SqT.of (by walk_at "hp"), ?_⟩
  | refine ⟨_, _, rfl, SqL.of (by walk_at "hp"), ?_⟩
  | refine .inl ⟨_, rfl, ?_⟩
  | refine ⟨_, _, rfl, .inl (SqL.of (by walk_at "hp")), ?_⟩
  | refine ⟨_, _, rfl, .inr (SqT.of (by walk_at "hp")), ?_⟩
  | refine ⟨_, _, rfl, .inl ⟨SqL.of (by walk_at "hp"), ?_⟩⟩
  | refine And.intro (.inl ⟨rfl, _, SqL.of (by walk_at "hp")⟩) ?_
  | refine ⟨_, _, _, rfl, rfl, (by walk_at "hp"), ?_⟩
  | refine ⟨_, _, rfl, (by walk_at "hp"), ?_⟩
  | refine And.intro (by walk_at "side") ?_)
local macro_rules | `(tactic| walk_at "rr") => `(tactic| (repeat walk_at "r"))
local macro_rules | `(tactic| walk_at "k") => `(tactic| first
  | refine ite2 (fun _ => ?_) (fun g => absurd rfl g)
  | refine ite2 (fun g => absurd g (by decide)) (fun _ => ?_)
  | refine ite2 (fun _ => ?_) (fun g => absurd (decide_eq_true (by omega)) g)
  | refine ite2 (fun g => absurd (of_decide_eq_true g) (by omega)) (fun _ => ?_)
  | refine ite2 (fun g => (nd_t g (by omega)).elim) (fun _ => ?_)
  | refine ite2 (fun _ => ?_) (fun g => absurd (nd_f g) (by omega)))
local macro_rules | `(tactic| walk_at "rk") => `(tactic| (repeat (first | walk_at "r" | walk_at "k")))
theorem cut_from {xs : List V} {n : Nat} (h : n ≤ xs.length) : cutV xs (some n) none = xs.drop n := by
  unfold cutV
  have e1 : HT.sIx xs.length 0 (some (n : Int)) = n := by
    have h0 : ¬ ((n : Int) < 0) := by omega
    simp only [HT.sIx, if_neg h0]
    omega
  have e2 : HT.sIx xs.length xs.length none = xs.length := by simp [HT.sIx]
  rw [e1, e2, List.take_of_length_le (by rw [List.length_drop]; omega)]
theorem dec_strN {a b : Str} : (!decide (V.str a = V.str b)) = !decide (a = b) := by
  congr 1
  rw [Bool.eq_iff_iff, decide_eq_true_iff, decide_eq_true_iff]
  exact ⟨fun z => by injection z, fun z => by rw [z]⟩
def spIsRequest : Sp := fun vs H Q _ => ∃ (a : Addr) (ws : List Str) (last : Str) (b : Bool), vs = [.ref a, .str last] ∧ H a = some (.lst (ws.map V.str)) ∧ 1 ≤ ws.length ∧ ws.length ≤ 100 ∧ last.length ≤ 8 ∧ (∀ y ∈ ws, y.length ≤ 1000) ∧
  ((b = true ∧ ∃ (nm : Str) (os : List (Option Int)), ws = ("request" : Str) :: nm :: os.map priS ∧ 1 ≤ os.length ∧ Name 8 nm ∧ last.cps.toList < nm.cps.toList ∧ ∀ o ∈ os, ∀ i, o = some i → InN i) ∨ (b = false ∧ (ws[0]? ≠ some ("request" : Str) ∨ ws.length < 3 ∨ ∃ y, ws[1]? = some y ∧ isNm (.str y) = false))) ∧ ∀ G, Same H G → Q (.bl b) G
section
variable {P : Program} {w : World} {K : PySem.W.Frag} {mg : Str → Option Value} {base : Heap}
theorem ok__is_request (T : Top K mg) : Ok P w K mg base 2 "_is_request" ["words", "last"] spIsRequest := by
  refine ok_of T.d__is_request sc__is_request (fun vs H Q E h => ?_) (fun f cdv A outer s H vs Q E hr h => ?_)
  · obtain ⟨a, ws, last, b, rfl, _⟩ := h
    rfl
  · obtain ⟨a, ws, last, b, rfl, ha, l1, l100, ll, wl, hb, k⟩ := h
    obtain ⟨t_NO_NAME, g_NO_NAME⟩ := T.g_NO_NAME
    obtain ⟨f_is_name, fd_is_name, m_is_name, k_is_name, b_is_name, G_is_name⟩ := ok_is_name (P := P) (w := w) (base := base) T
    have hr_is_name : Room 1 _ := hr.mono (by decide)
    obtain ⟨f_is_number, fd_is_number, m_is_number, k_is_number, b_is_number, G_is_number⟩ := ok_is_number (P := P) (w := w) (base := base) T
    have hr_is_number : Room 1 _ := hr.mono (by decide)
    refine ⟨_, (pss_cons (ps_if (PW.pt (pw_or (pt_cmpR op_ne (pe_ix ix_list (pv 0) pe_int (fun _ _ => rfl)) pe_str (nomark _)) (pw_or (pt_cmpR op_lt (pe_callB (id := "len") call_len_seq (by rfl) T.b_len (by decide +kernel) (pa_cons (pv 0) pa_nil)) pe_int (nomark _)) (pw_or (pt_not (pt_val (pe_call G_is_name hr_is_name rfl m_is_name k_is_name b_is_name .nil pass0 (pa_cons (pe_ix ix_list (pv 0) pe_int (fun _ _ => rfl)) pa_nil)))) (pw_or1 (pt_cmpR op_le_str (pe_ix ix_list (pv 0) pe_int (fun _ _ => rfl)) (pv 1) (nomark _)))))))
      (pss_one (ps_ret pe_bl))
      pss_nil)
      (pss_one (ps_ret (pe_callB (id := "all") (cr_all rfl) (by rfl) T.b_all (by decide +kernel) (pa_cons (pe_lc (own := [("word", 2)]) (g := gName 2) rfl sc__is_request.nd (pi_list (pe_slice sl_list (pv 0) (po_some pe_int) po_none)) (blkOk_by (own := [("word", 2)]) (N := ["words", "last", "word"]) (sc := defScope s__is_request) (by decide +kernel)) (fun _ _ _ _ _ => (pg_name (i := 2) sc__is_request.nd rfl (Or.inl rfl))) (fun _ _ _ _ _ => pts_nil) (fun _ _ _ _ _ => (pe_or (pe_cmpR op_eq (pv 2) (pe_glob (v := .str "-") rfl g_NO_NAME ⟨_, rfl⟩) (nomark _)) (pe_one (pe_call G_is_number hr_is_number rfl m_is_number k_is_number b_is_number .nil pass0 (pa_cons (pv 2) pa_nil)))))) pa_nil))))), ?_⟩
    obtain ⟨w0, hw0⟩ : ∃ y, ws[0]? = some y := ⟨_, List.getElem?_eq_getElem (by omega)⟩
    refine ⟨_, rfl, a, _, 0, _, rfl, rfl, SqL.of ha, atI_nat (j := 0) (by rw [List.getElem?_map, hw0]; rfl), rfl, _, rfl, ?_⟩
    have bad : b = false → ∀ G, Same H G → Q (.bl false) G := fun e G s => e ▸ k G s
    rw [dec_strN]
    refine ite2 (fun g => ite2 (fun _ => ?_) (fun g => absurd rfl g)) (fun g => ?_)
    · refine bad ?_ H (Same.refl _)
      rcases hb with ⟨_, nm, os, e, _⟩ | ⟨e, _⟩
      · rw [e] at hw0
        have : ("request" : Str) = w0 := Option.some.inj hw0
        subst this
        simp at g
      · exact e
    have e0 : w0 = "request" := Classical.byContradiction fun n => g (by rw [decide_eq_false n]; rfl)
    subst e0
    refine ⟨_, rfl, a, _, rfl, .inl (SqL.of ha), _, _, rfl, rfl, _, rfl, ?_⟩
    rw [List.length_map]
    refine ite2 (fun g2 => ite2 (fun _ => ?_) (fun g => absurd rfl g)) (fun g2 => ?_)
    · refine bad ?_ H (Same.refl _)
      rcases hb with ⟨_, nm, os, e, o1, _⟩ | ⟨e, _⟩
      · have g2 := of_decide_eq_true g2
        rw [e, List.length_cons, List.length_cons, List.length_map] at g2
        omega
      · exact e
    have l3 : 3 ≤ ws.length := Classical.byContradiction fun n => g2 (decide_eq_true (by omega))
    obtain ⟨w1, hw1⟩ : ∃ y, ws[1]? = some y := ⟨_, List.getElem?_eq_getElem (by omega)⟩
    have a1 : atI (ws.map V.str) 1 = some (.str w1) := atI_nat (j := 1) (by rw [List.getElem?_map, hw1]; rfl)
    have w1l := wl w1 (List.mem_of_getElem? hw1)
    refine ⟨_, rfl, a, _, 1, _, rfl, rfl, SqL.of ha, a1, .str w1, "str", rfl, rfl, (fun y e => by cases e; exact Nat.le_of_lt (small1000 (by omega))), fun H1 s1 => ⟨_, rfl, ?_⟩⟩
    refine ite2 (fun g3 => ite2 (fun _ => ?_) (fun g => absurd rfl g)) (fun g3 => ?_)
    · refine bad ?_ H1 s1
      rcases hb with ⟨_, nm, os, e, o1, n8, _⟩ | ⟨e, _⟩
      · rw [e] at hw1
        have : nm = w1 := Option.some.inj hw1
        subst this
        rw [nm_of n8] at g3
        cases g3
      · exact e
    have n1 : isNm (.str w1) = true := by
      cases e : isNm (.str w1) with
      | true => rfl
      | false => rw [e] at g3; exact absurd rfl g3
    obtain ⟨hbt, nm, os, ew, o1, n8, lt, hos⟩ : b = true ∧ ∃ (nm : Str) (os : List (Option Int)), ws = ("request" : Str) :: nm :: os.map priS ∧ 1 ≤ os.length ∧ Name 8 nm ∧ last.cps.toList < nm.cps.toList ∧ ∀ o ∈ os, ∀ i, o = some i → InN i := by
      rcases hb with h | ⟨_, h | h | ⟨y, h, h2⟩⟩
      · exact h
      · exact absurd hw0 h
      · omega
      · rw [hw1] at h
        have := Option.some.inj h
        subst this
        rw [n1] at h2; cases h2
    subst hbt
    have e1 : nm = w1 := by rw [ew] at hw1; exact Option.some.inj hw1
    subst e1
    refine ⟨_, rfl, a, _, 1, _, rfl, rfl, SqL.of (s1 _ _ ha), a1, _, rfl, _, last, rfl, rfl, _, rfl, ?_⟩
    rw [decide_eq_true lt]
    refine ite2 (fun g => nomatch g) (fun _ => ?_)
    refine ⟨_, rfl, 2, rfl, a, _, rfl, SqL.of (s1 _ _ ha), fun D2 nD2 => ?_⟩
    have ecut : cutV (ws.map V.str) (some 2) none = (os.map priS).map V.str := by
      rw [show (2 : Int) = ((2 : Nat) : Int) from rfl, cut_from (by rw [List.length_map]; omega), ew]
      rfl
    rw [ecut]
    have s2 : Same H1 (upd H1 D2 (.lst ((os.map priS).map V.str))) := same_new nD2
    have d2 : (upd H1 D2 (.lst ((os.map priS).map V.str))) D2 = some (.lst ((os.map priS).map V.str)) := upd_same
    generalize upd H1 D2 (.lst ((os.map priS).map V.str)) = H2 at *
    refine ⟨D2, rfl, ⟨_, SqL.of d2⟩, fun L nL => ?_⟩
    refine lc_list (K := K) (a := D2) (xs := (os.map priS).map V.str) (fun j H4 => H4 L = some (.lst ((List.replicate j true).map V.bl)) ∧ Same H2 H4) ⟨upd_same, same_new nL⟩ (fun j H4 _ h4 => SqL.of (h4.2 _ _ d2)) ?_ ?_
    · rintro j z H4 hj ⟨q1, q2⟩
      obtain ⟨y, hy, rfl⟩ := map_at hj
      obtain ⟨o, ho, rfl⟩ : ∃ o, os[j]? = some o ∧ y = priS o := by
        rw [List.getElem?_map] at hy
        cases e : os[j]? with
        | none => rw [e] at hy; cases hy
        | some i => rw [e] at hy; exact ⟨i, rfl, (Option.some.inj hy).symm⟩
      have hjl := (List.getElem?_eq_some_iff.mp ho).1
      have hio := hos o (List.mem_of_getElem? ho)
      have o100 : os.length ≤ 100 := by rw [ew, List.length_cons, List.length_cons, List.length_map] at l100; omega
      refine ⟨rfl, ?_⟩
      refine yesT ?_
      have fin : ∀ H5, Same H4 H5 → ∃ acc, H5 L = some (.lst acc) ∧ acc.length < sizeLine ∧ (upd H5 L (.lst (acc ++ [.bl true]))) L = some (.lst ((List.replicate (j + 1) true).map V.bl)) ∧ Same H2 (upd H5 L (.lst (acc ++ [.bl true]))) := fun H5 s5 =>
        ⟨_, s5 _ _ q1, by rw [List.length_map, List.length_replicate]; exact small1000 (by omega), by rw [upd_same, rep_snoc], same_upd (q2.trans s5) nL⟩
      refine ⟨_, rfl, rfl, _, rfl, ?_⟩
      cases o with
      | none => exact ite2 (fun _ => fin H4 (Same.refl _)) (fun g => absurd (by decide +kernel) g)
      | some i =>
        have hi := hio i rfl
        refine ite2 (fun g => ?_) (fun _ => ?_)
        · have g := of_decide_eq_true g
          injection g with g
          exact absurd g (numS_ne hi.1 "-" 45 (by decide +kernel) (by decide))
        · exact ⟨_, rfl, i, rfl, hi.1, hi.2, fun H5 s5 => fin H5 s5⟩
    · rintro H4 ⟨q1, q2⟩
      refine ⟨L, _, rfl, SqL.of q1, ?_⟩
      rw [rep_all]
      exact k H4 (s1.trans (s2.trans q2))
end
end Toy

namespace Toy
open PySem PySem.Spec PyProof.Rows L2
local macro_rules | `(tactic| walk_at "hp") => `(tactic| first
  | assumption
  | exact upd_same
  | (refine Eq.trans (upd_ne (by first | assumption | (apply Ne.symm; assumption))) ?_; walk_at "hp"))
local macro_rules | `(tactic| walk_at "side") => `(tactic| first
  | exact .inl ⟨by omega, by omega⟩
  | exact .inr ⟨by omega, by omega⟩
  | exact ⟨by omega, by omega⟩
  | (show _ ≤ _; omega)
  | (show (_ : Int) < _; omega)
  | decide
  | assumption)
local macro_rules | `(tactic| walk_at "r") => `(tactic| first
  | refine ⟨_, rfl, ?_⟩
  | refine ⟨_, _, rfl, rfl, ?_⟩
  | refine ⟨_, _, _, _, rfl, rfl, SqL.of (by walk_at "hp"), rfl, ?_⟩
  | refine ⟨_, _, _, _, rfl, rfl, SqT.of (by walk_at "hp"), rfl, ?_⟩
  | refine ⟨_, _, _, _, rfl, rfl, (by walk_at "hp"), rfl, ?_⟩
  | refine And.intro rfl ?_
  | refine ⟨_, _, rfl, SqT.of (by walk_at "hp"), ?_⟩
  | refine ⟨_, _, rfl, SqL.of (by walk_at "hp"), ?_⟩
  | refine .inl ⟨_, rfl, ?_⟩
  | refine ⟨_, _, rfl, .inl (SqL.of (by walk_at "hp")), ?_⟩
  | refine ⟨_, _, rfl, .inr (SqT.of (by walk_at "hp")), ?_⟩
  | refine ⟨_, _, rfl, .inl ⟨SqL.of (by walk_at "hp"), ?_⟩⟩
  | refine And.intro (.inl ⟨rfl, _, SqL.of (by walk_at "hp")⟩) ?_
  | refine ⟨_, _, _, rfl, rfl, (by walk_at "hp"), ?_⟩
  | refine ⟨_, _, rfl, (by walk_at "hp"), ?_⟩
  | refine And.intro (by walk_at "side") ?_)
local macro_rules | `(tactic| walk_at "rr") => `(tactic| (repeat walk_at "r"))
local macro_rules | `(tactic| walk_at "k") => `(tactic| first
  | refine ite2 (fun _ => ?_) (fun g => absurd rfl g)
  | refine ite2 (fun g => absurd g (by decide)) (fun _ => ?_)
  | refine ite2 (fun _ => ?_) (fun g => absurd (decide_eq_true (by omega)) g)
  | refine ite2 (fun g => absurd (of_decide_eq_true g) (by omega)) (fun _ => ?_)
  | refine ite2 (fun g => (nd_t g (by omega)).elim) (fun _ => ?_)
  | refine ite2 (fun _ => ?_) (fun g => absurd (nd_f g) (by omega)))
local macro_rules | `(tactic| walk_at "rk") => `(tactic| (repeat (first | walk_at "r" | walk_at "k")))
open TL (numL tl_num numL_lt numL_step numL_ne numL_len numL_digits numL_free int_num split_join)
def postLn (r : List Int) : Str := Txt.join " " (("post" : Str) :: r.map numS)
def reqLn (q : Str × List (Option Int)) : Str := Txt.join " " (("request" : Str) :: q.1 :: q.2.map priS)
/-- what a system's lines say -/
structure SysLn (ps : List (List Int)) (rs : List (Str × List (Option Int))) : Prop where
  p20 : ps.length ≤ 20
  row : ∀ r ∈ ps, 1 ≤ r.length ∧ r.length ≤ 50 ∧ ∀ i ∈ r, InN i
  r20 : rs.length ≤ 20
  req : ∀ q ∈ rs, Name 8 q.1 ∧ 1 ≤ q.2.length ∧ q.2.length ≤ 50 ∧ ∀ o ∈ q.2, ∀ i, o = some i → InN i
  asc : ∀ i a b, rs[i]? = some a → rs[i + 1]? = some b → a.1.cps.toList < b.1.cps.toList
  nd : (rs.map (·.1)).Nodup
def sysLns (ps : List (List Int)) (rs : List (Str × List (Option Int))) : List Str := ps.map postLn ++ rs.map reqLn
/-- a line that is no line of a system -/
def OddS (z : Str) : Prop := ((Txt.split z " ")[0]? ≠ some ("post" : Str) ∨ (Txt.split z " ").length = 1) ∧ 1 ≤ (Txt.split z " ").length ∧ (Txt.split z " ").length ≤ 100 ∧ (∀ y ∈ Txt.split z " ", y.length ≤ 1000) ∧ z.length ≤ 1000 ∧ ((Txt.split z " ")[0]? ≠ some ("request" : Str) ∨ (Txt.split z " ").length < 3 ∨ ∃ y, (Txt.split z " ")[1]? = some y ∧ isNm (.str y) = false)
theorem numS_nosp {i : Int} (h : 0 ≤ i) : ¬ 32 ∈ (numS i).cps.toList := fun m => by have := numS_dig h 32 m; omega
theorem priS_nosp {o : Option Int} (h : ∀ i, o = some i → InN i) : ¬ 32 ∈ (priS o).cps.toList := by
  cases o with
  | none => decide +kernel
  | some i => exact numS_nosp (h i rfl).1
theorem name_nosp {z : Str} (h : Name 8 z) : ¬ 32 ∈ z.cps.toList := fun m => by have := h.low.c 32 m; omega
theorem post_split {r : List Int} (h : ∀ i ∈ r, InN i) : Txt.split (postLn r) " " = ("post" : Str) :: r.map numS := by
  refine split_join (s := 32) (S := []) (by decide +kernel) (by decide +kernel) (by simp) fun p m => ?_
  rcases List.mem_cons.mp m with rfl | m
  · decide +kernel
  · obtain ⟨i, hi, rfl⟩ := List.mem_map.mp m
    exact numS_nosp (h i hi).1
theorem req_split {q : Str × List (Option Int)} (n : Name 8 q.1) (h : ∀ o ∈ q.2, ∀ i, o = some i → InN i) : Txt.split (reqLn q) " " = ("request" : Str) :: q.1 :: q.2.map priS := by
  refine split_join (s := 32) (S := []) (by decide +kernel) (by decide +kernel) (by simp) fun p m => ?_
  rcases List.mem_cons.mp m with rfl | m
  · decide +kernel
  rcases List.mem_cons.mp m with rfl | m
  · exact name_nosp n
  · obtain ⟨o, ho, rfl⟩ := List.mem_map.mp m
    exact priS_nosp (h o ho)
theorem postLn_len {r : List Int} (h : ∀ i ∈ r, InN i) (l : r.length ≤ 50) : (postLn r).length ≤ 1000 := by
  have h1 := len_join " " (("post" : Str) :: r.map numS)
  have h2 := sum_le (f := fun x : Str => x.length) (m := 9) (l := r.map numS) fun x m => by
    obtain ⟨i, hi, rfl⟩ := List.mem_map.mp m
    exact (numS_len9 (h i hi).1 (h i hi).2).2
  have h3 : ("post" : Str).length = 4 := by decide +kernel
  have h4 : (" " : Str).length = 1 := by decide +kernel
  rw [List.map_cons, List.sum_cons, List.length_cons, h3, h4, List.length_map] at h1
  rw [List.length_map] at h2
  unfold postLn
  omega
theorem priS_len9 {o : Option Int} (h : ∀ i, o = some i → InN i) : (priS o).length ≤ 9 := by
  cases o with
  | none => decide +kernel
  | some i => exact (numS_len9 (h i rfl).1 (h i rfl).2).2
theorem reqLn_len {q : Str × List (Option Int)} (n : Name 8 q.1) (h : ∀ o ∈ q.2, ∀ i, o = some i → InN i) (l : q.2.length ≤ 50) : (reqLn q).length ≤ 1000 := by
  have h1 := len_join " " (("request" : Str) :: q.1 :: q.2.map priS)
  have h2 := sum_le (f := fun x : Str => x.length) (m := 9) (l := q.2.map priS) fun x m => by
    obtain ⟨i, hi, rfl⟩ := List.mem_map.mp m
    exact priS_len9 (h i hi)
  have h3 : ("request" : Str).length = 7 := by decide +kernel
  have h4 : (" " : Str).length = 1 := by decide +kernel
  have h5 := n.hi
  rw [List.map_cons, List.sum_cons, List.map_cons, List.sum_cons, List.length_cons, List.length_cons, h3, h4, List.length_map] at h1
  rw [List.length_map] at h2
  unfold reqLn
  omega
theorem sysLns_len {ps : List (List Int)} {rs : List (Str × List (Option Int))} : (sysLns ps rs).length = ps.length + rs.length := by
  unfold sysLns; rw [List.length_append, List.length_map, List.length_map]
theorem sysLns_post {ps : List (List Int)} {rs : List (Str × List (Option Int))} {i : Nat} (h : i < ps.length) : ∃ r, ps[i]? = some r ∧ (sysLns ps rs)[i]? = some (postLn r) := by
  refine ⟨ps[i], List.getElem?_eq_getElem h, ?_⟩
  unfold sysLns
  rw [List.getElem?_append_left (by rw [List.length_map]; exact h), List.getElem?_map, List.getElem?_eq_getElem h]; rfl
theorem sysLns_req {ps : List (List Int)} {rs : List (Str × List (Option Int))} {i : Nat} (h : ps.length ≤ i) (h2 : i < ps.length + rs.length) : ∃ q, rs[i - ps.length]? = some q ∧ (sysLns ps rs)[i]? = some (reqLn q) := by
  have hl : i - ps.length < rs.length := by omega
  refine ⟨rs[i - ps.length], List.getElem?_eq_getElem hl, ?_⟩
  unfold sysLns
  rw [List.getElem?_append_right (by rw [List.length_map]; exact h), List.length_map, List.getElem?_map, List.getElem?_eq_getElem hl]; rfl
/-- the last name that was read -/
def lastN (ps : List (List Int)) (rs : List (Str × List (Option Int))) (i : Nat) : Str := if i ≤ ps.length then "" else ((rs[i - ps.length - 1]?).map (·.1)).getD ""
theorem lastN_len {ps : List (List Int)} {rs : List (Str × List (Option Int))} (L : SysLn ps rs) (i : Nat) : (lastN ps rs i).length ≤ 8 := by
  unfold lastN
  split
  · decide +kernel
  · cases hb : rs[i - ps.length - 1]? with
    | none => decide +kernel
    | some b =>
      have := (L.req b (List.mem_of_getElem? hb)).1.hi
      show b.1.length ≤ 8
      omega
def spReadSys (C cB cT : Addr) : Sp := fun vs H Q E => ∃ (z : Str) (ps : List (List Int)) (rs : List (Str × List (Option Int))) (lns : List Str) (m : Nat), vs = [.str z] ∧ z.length ≤ 1000000 ∧ SysLn ps rs ∧ Txt.split z "\n" = lns ++ [("" : Str)] ∧ lns.length ≤ 100 ∧ m ≤ lns.length ∧ m ≤ ps.length + rs.length ∧ (∀ i, i < m → lns[i]? = (sysLns ps rs)[i]?) ∧
  ((∃ odd, lns[m]? = some odd ∧ OddS odd ∧ ∀ G, Same H G → Lets E cT "line" (.int ((m : Nat) + 1)) G) ∨
   (m = lns.length ∧ m = ps.length + rs.length ∧ (¬ MovesOk ps → ∀ G, Same H G → Lets E cB "part" (.str "moves") G) ∧ (MovesOk ps → ¬ ReqsOk (ps.length : Nat) rs → ∀ G, Same H G → Lets E cB "part" (.str "requests") G) ∧
    ∀ S G r, MovesOk ps → ReqsOk (ps.length : Nat) rs → SysOk S → S.n = (ps.length : Nat) → S.rows = ps → S.rs.Perm rs → SysAt C G r S → Same H G → Q (.ref r) G))
section
variable {P : Program} {w : World} {K : PySem.W.Frag} {mg : Str → Option Value} {base : Heap}
theorem ok_read_system (T : Top K mg) : OkX P w K mg base 9 "read_system" ["text"] (spReadSys T.c_System T.c_BadSystem T.c_BadText) := by
  refine okX_of T.d_read_system sc_read_system (fun vs H Q E h => ?_) (fun f cdv A outer s H vs Q E hr h => ?_)
  · obtain ⟨z, ps, rs, lns, m, rfl, _⟩ := h
    rfl
  · obtain ⟨z, ps, rs, lns, m, rfl, hz, L, hsp, l100, ml, mtot, hgood, hout⟩ := h
    obtain ⟨f_lines_of, fd_lines_of, m_lines_of, k_lines_of, b_lines_of, G_lines_of⟩ := ok_lines_of (P := P) (w := w) (base := base) T
    have hr_lines_of : Room 3 _ := hr.mono (by decide)
    obtain ⟨f__all_numbers, fd__all_numbers, m__all_numbers, k__all_numbers, b__all_numbers, G__all_numbers⟩ := ok__all_numbers (P := P) (w := w) (base := base) T
    have hr__all_numbers : Room 2 _ := hr.mono (by decide)
    obtain ⟨f__is_request, fd__is_request, m__is_request, k__is_request, b__is_request, G__is_request⟩ := ok__is_request (P := P) (w := w) (base := base) T
    have hr__is_request : Room 2 _ := hr.mono (by decide)
    obtain ⟨f__price, fd__price, m__price, k__price, b__price, G__price⟩ := ok__price (P := P) (w := w) (base := base) T
    have hr__price : Room 1 _ := hr.mono (by decide)
    obtain ⟨f_BadText, fd_BadText, i_BadText, t_BadText, b_BadText, G_BadText⟩ := ok_BadTextZ_initZ (P := P) (w := w) (base := base) T
    have hr_BadText : Room 2 _ := hr.mono (by decide)
    obtain ⟨f_check_closed, fd_check_closed, m_check_closed, k_check_closed, b_check_closed, G_check_closed⟩ := ok_check_closed (P := P) (w := w) (base := base) T
    have hr_check_closed : Room 3 _ := hr.mono (by decide)
    obtain ⟨f_System, fd_System, m_System, M_System, b_System, G_System⟩ := ok_SystemZ_initZ (P := P) (w := w) (base := base) T
    have hr_System : Room 8 _ := hr.mono (by decide)
    have hu := hu_of hr
    refine ⟨_, (pss_cons (ps_set (i := 1) sc_read_system.nd rfl (Or.inl rfl) (pe_call G_lines_of hr_lines_of rfl m_lines_of k_lines_of b_lines_of .nil (passes_call (takes_of rfl rfl rfl rfl) (fun _ _ _ _ h => h)) (pa_cons (pv 0) pa_nil)))
      (pss_cons (ps_set (i := 2) sc_read_system.nd rfl (Or.inl rfl) (pe_lst pa_nil))
      (pss_cons (ps_set (i := 3) sc_read_system.nd rfl (Or.inl rfl) pe_dnewK)
      (pss_cons (ps_set (i := 4) sc_read_system.nd rfl (Or.inl rfl) pe_str)
      (pss_cons (ps_for (passes_of rfl) rfl (pi_enum (by rfl) T.b_enumerate (pa_cons (pe_slice sl_list (pv 1) po_none (po_some (pe_un un_neg pe_int))) pa_nil)) (pg_tup rfl (pgs_cons (pg_name (i := 5) sc_read_system.nd rfl (Or.inl rfl)) (pgs_cons (pg_name (i := 6) sc_read_system.nd rfl (Or.inl rfl)) pgs_nil)))
      (pss_cons (ps_set (i := 7) sc_read_system.nd rfl (Or.inl rfl) (pe_split (pv 6) pe_str))
      (pss_one (ps_if (PW.pt (pw_and (pt_cmpR op_eq (pe_ix ix_list (pv 7) pe_int (fun _ _ => rfl)) pe_str (nomark _)) (pw_and (pt_cmpR op_eq (pv 4) pe_str (nomark _)) (pw_and1 (pt_val (pe_call G__all_numbers hr__all_numbers rfl m__all_numbers k__all_numbers b__all_numbers .nil pass0 (pa_cons (pe_slice sl_list (pv 7) (po_some pe_int) po_none) pa_nil)))))))
      (pss_one (ps_expr (pe_bm PySem.F.plainAttrs_list PySem.F.slot_list_append PySem.F.type_list_append mt_append (pv 2) (pa_cons (pe_callTy (T := "tuple") call_tuple_of (by rfl) T.b_tuple (by decide +kernel) (pa_cons (pe_lc (own := [("word", 8)]) (g := gName 8) rfl sc_read_system.nd (pi_list (pe_slice sl_list (pv 7) (po_some pe_int) po_none)) (blkOk_by (own := [("word", 8)]) (N := ["text", "lines", "moves", "requests", "last", "index", "line", "words", "word"]) (sc := defScope s_read_system) (by decide +kernel)) (fun _ _ _ _ _ => (pg_name (i := 8) sc_read_system.nd rfl (Or.inl rfl))) (fun _ _ _ _ _ => pts_nil) (fun _ _ _ _ _ => (pe_callTy (T := "int") call_int_str (by rfl) T.b_int (by decide +kernel) (pa_cons (pv 8) pa_nil)))) pa_nil)) pa_nil))))
      (pss_one (ps_if (pt_val (pe_call G__is_request hr__is_request rfl m__is_request k__is_request b__is_request .nil pass0 (pa_cons (pv 7) (pa_cons (pv 4) pa_nil))))
      (pss_cons (ps_set (i := 4) sc_read_system.nd rfl (Or.inl rfl) (pe_ix ix_list (pv 7) pe_int (fun _ _ => rfl)))
      (pss_one (ps_dput hu (pv 3) (pv 4) (pe_callTy (T := "tuple") call_tuple_of (by rfl) T.b_tuple (by decide +kernel) (pa_cons (pe_lc (own := [("word", 8)]) (g := gName 8) rfl sc_read_system.nd (pi_list (pe_slice sl_list (pv 7) (po_some pe_int) po_none)) (blkOk_by (own := [("word", 8)]) (N := ["text", "lines", "moves", "requests", "last", "index", "line", "words", "word"]) (sc := defScope s_read_system) (by decide +kernel)) (fun _ _ _ _ _ => (pg_name (i := 8) sc_read_system.nd rfl (Or.inl rfl))) (fun _ _ _ _ _ => pts_nil) (fun _ _ _ _ _ => (pe_call G__price hr__price rfl m__price k__price b__price .nil pass0 (pa_cons (pv 8) pa_nil)))) pa_nil)) rfl)))
      (pss_one (ps_raise rfl (takes_of rfl rfl rfl rfl) (pmk_oex T.x_BadText.T i_BadText t_BadText G_BadText hr_BadText b_BadText .nil pass0 (by rfl) T.x_BadText.mg (pa_cons (pe_op op_add (pv 5) pe_int) pa_nil))))))))))
      (pss_cons (ps_expr (pe_call G_check_closed hr_check_closed rfl m_check_closed k_check_closed b_check_closed .nil (passes_call (takes_of rfl rfl rfl rfl) (fun _ _ _ _ h => h)) (pa_cons (pv 1) pa_nil)))
      (pss_one (ps_ret (pe_make M_System G_System hr_System rfl m_System b_System .nil (passes_call (takes_of rfl rfl rfl rfl) (fun _ _ _ _ h => h)) (pa_cons (pe_callTy (T := "tuple") call_tuple_of (by rfl) T.b_tuple (by decide +kernel) (pa_cons (pv 2) pa_nil)) (pa_cons (pv 3) pa_nil))))))))))), ?_⟩
    refine ⟨_, rfl, z, rfl, hz, fun l H1 s1 hl => ?_⟩
    rw [hsp] at hl
    refine ⟨(by show 0 ≤ sizeLine; decide), fun A nA => ?_⟩
    have s2 : Same H1 (upd H1 A (.lst [])) := same_new nA
    have hA : (upd H1 A (.lst [])) A = some (.lst []) := upd_same
    generalize upd H1 A (.lst []) = H2 at *
    intro D nD
    have nDA : A ≠ D := ne_of_none hA nD
    have s3 : Same H2 (upd H2 D (.dK [])) := same_new nD
    have hD : (upd H2 D (.dK [])) D = some (.dK []) := upd_same
    generalize upd H2 D (.dK []) = H3 at *
    have nD1 : H1 D = none := s2.free nD
    have s13 := s2.trans s3
    refine ⟨_, rfl, _, rfl, _, rfl, l, _, rfl, SqL.of (s13 _ _ hl), fun l2 nl2 => ?_⟩
    have ecut : cutV ((lns ++ [("" : Str)]).map V.str) none (some (-1)) = lns.map V.str := by
      unfold cutV
      have e1 : HT.sIx ((lns ++ [("" : Str)]).map V.str).length 0 none = 0 := rfl
      have e2 : HT.sIx ((lns ++ [("" : Str)]).map V.str).length ((lns ++ [("" : Str)]).map V.str).length (some (-1)) = lns.length := by
        simp only [HT.sIx, List.length_map, List.length_append, List.length_singleton]
        simp
        omega
      rw [e1, e2, List.drop_zero, Nat.sub_zero, List.map_append]
      exact List.take_left' (by rw [List.length_map])
    rw [ecut]
    have s4 : Same H3 (upd H3 l2 (.lst (lns.map V.str))) := same_new nl2
    have hl2 : (upd H3 l2 (.lst (lns.map V.str))) l2 = some (.lst (lns.map V.str)) := upd_same
    have nAl : A ≠ l2 := ne_of_none (s3 _ _ hA) nl2
    have nDl : D ≠ l2 := ne_of_none hD nl2
    generalize upd H3 l2 (.lst (lns.map V.str)) = H4 at *
    refine ⟨l2, _, rfl, SqL.of hl2, ?_⟩
    refine for_it walk_enum (fun i σ' G => i ≤ m ∧ ∃ (us : List V) (kvs : List (Key × V)) (o5 o6 o7 o8 : Option V), σ' = [some (.str z), some (.ref l), some (.ref A), some (.ref D), some (.str (lastN ps rs i)), o5, o6, o7, o8] ∧ G A = some (.lst us) ∧ Paired (IntT G) us (ps.take i) ∧ G D = some (.dK kvs) ∧ DctOf OptT G kvs (rs.take (i - ps.length)) ∧ Same H1 G ∧ G l2 = some (.lst (lns.map V.str)))
      ⟨Nat.zero_le _, [], [], none, none, none, none, rfl, s4 _ _ (s3 _ _ hA), .nil, s4 _ _ hD, (by rw [Nat.zero_sub]; exact .nil), s13.trans s4, hl2⟩ (fun i σ' G _ ⟨_, _, _, _, _, _, _, _, _, _, _, _, _, h⟩ => SqL.of h) ?_ ?_
    · rintro i x σ' G G2 hi ⟨im, us, kvs, o5, o6, o7, o8, rfl, gA, gP, gD, gR, sG, gl2⟩ ⟨tp, x', y', rfl, np, rfl, g3, g4⟩
      cases g3
      obtain ⟨line, hline, rfl⟩ := map_at g4
      have s5 : Same G (upd G tp (.tup [.int (i : Nat), .str line])) := same_new np
      refine ⟨tp, _, rfl, SqT.of upd_same, rfl, _, _, rfl, _, _, rfl, rfl, ?_⟩
      generalize upd G tp (.tup [.int (i : Nat), .str line]) = G5 at *
      have il : i < lns.length := (List.getElem?_eq_some_iff.mp hline).1
      have lok : line.length ≤ 1000 := by
        rcases Nat.lt_or_eq_of_le im with lt | rfl
        · have e := hgood i lt
          rw [hline] at e
          by_cases ip : i < ps.length
          · obtain ⟨r, hr1, hr2⟩ := sysLns_post (rs := rs) ip
            rw [hr2] at e
            obtain ⟨_, a2, a3⟩ := L.row r (List.mem_of_getElem? hr1)
            rw [Option.some.inj e]
            exact postLn_len a3 a2
          · obtain ⟨q, hq1, hq2⟩ := sysLns_req (ps := ps) (rs := rs) (i := i) (by omega) (by omega)
            rw [hq2] at e
            obtain ⟨a1, _, a3, a4⟩ := L.req q (List.mem_of_getElem? hq1)
            rw [Option.some.inj e]
            exact reqLn_len a1 a4 a3
        · rcases hout with ⟨odd, ho, hO, _⟩ | ⟨e, _⟩
          · rw [hline] at ho
            rw [Option.some.inj ho]
            exact hO.2.2.2.2.1
          · omega
      refine ⟨_, rfl, ⟨line, rfl⟩, line, " ", rfl, rfl, by decide +kernel, by show line.length + 2 ≤ 16777216; omega, fun wl nwl => ?_⟩
      have s6 : Same G5 (upd G5 wl (.lst ((Txt.split line " ").map V.str))) := same_new nwl
      have hwl : (upd G5 wl (.lst ((Txt.split line " ").map V.str))) wl = some (.lst ((Txt.split line " ").map V.str)) := upd_same
      generalize upd G5 wl (.lst ((Txt.split line " ").map V.str)) = G6 at *
      have s56 := s5.trans s6
      have nAw : A ≠ wl := ne_of_none (s5 _ _ gA) nwl
      have nDw : D ≠ wl := ne_of_none (s5 _ _ gD) nwl
      have gA := s56 _ _ gA
      have gP := prd_imp gP fun a b h => IntT.firm _ _ a b (same_tups s56) h
      have gD := s56 _ _ gD
      have gR := gR.firm OptT.firm (same_tups s56)
      have sG := sG.trans s56
      have gl2 := s56 _ _ gl2
      clear s5 s6 s56 np nwl
      rcases Nat.lt_or_eq_of_le im with lt | rfl
      · have e := hgood i lt
        rw [hline] at e
        by_cases ip : i < ps.length
        · obtain ⟨r, hr1, hr2⟩ := sysLns_post (rs := rs) ip
          rw [hr2] at e
          obtain ⟨r1, r50, rin⟩ := L.row r (List.mem_of_getElem? hr1)
          have e := Option.some.inj e
          subst e
          rw [post_split rin] at hwl
          have hlast : lastN ps rs i = "" := by unfold lastN; rw [if_pos (by omega)]
          rw [hlast]
          refine ⟨_, rfl, wl, _, 0, .str "post", rfl, rfl, SqL.of hwl, atI_nat (j := 0) rfl, rfl, _, rfl, ?_⟩
          refine ite2 (fun _ => ?_) (fun g => absurd (decide_eq_true rfl) g)
          refine ⟨_, rfl, rfl, _, rfl, ?_⟩
          refine ite2 (fun _ => ?_) (fun g => absurd (decide_eq_true rfl) g)
          have ecut1 : cutV ((("post" : Str) :: r.map numS).map V.str) (some 1) none = (r.map numS).map V.str := by
            rw [show (1 : Int) = ((1 : Nat) : Int) from rfl, cut_from (by simp)]; rfl
          refine ⟨_, rfl, 1, rfl, wl, _, rfl, SqL.of hwl, fun l3 n3 => ?_⟩
          rw [ecut1]
          have s7 : Same G6 (upd G6 l3 (.lst ((r.map numS).map V.str))) := same_new n3
          have h3 : (upd G6 l3 (.lst ((r.map numS).map V.str))) l3 = some (.lst ((r.map numS).map V.str)) := upd_same
          generalize upd G6 l3 (.lst ((r.map numS).map V.str)) = G7 at *
          refine ⟨l3, r, rfl, h3, rin, by omega, fun G8 s8 => ⟨_, rfl, ?_⟩⟩
          rw [decide_eq_true (by omega)]
          refine ite2 (fun _ => ?_) (fun g => absurd rfl g)
          have s68 := s7.trans s8
          refine ⟨_, rfl, .inl ⟨rfl, _, SqL.of (s68 _ _ gA)⟩, _, rfl, 1, rfl, wl, _, rfl, SqL.of (s68 _ _ hwl), fun l4 n4 => ?_⟩
          rw [ecut1]
          have s9 : Same G8 (upd G8 l4 (.lst ((r.map numS).map V.str))) := same_new n4
          have h4 : (upd G8 l4 (.lst ((r.map numS).map V.str))) l4 = some (.lst ((r.map numS).map V.str)) := upd_same
          generalize upd G8 l4 (.lst ((r.map numS).map V.str)) = G9 at *
          refine ⟨l4, rfl, ⟨_, SqL.of h4⟩, fun M nM => ?_⟩
          refine lc_list (K := K) (a := l4) (xs := (r.map numS).map V.str) (fun j G => G M = some (.lst ((r.take j).map V.int)) ∧ Same G9 G) ⟨upd_same, same_new nM⟩ (fun j G _ h => SqL.of (h.2 _ _ h4)) ?_ ?_
          · rintro j x G hj ⟨q1, q2⟩
            obtain ⟨y, hy, rfl⟩ := map_at hj
            obtain ⟨v, hv, rfl⟩ : ∃ v, r[j]? = some v ∧ y = numS v := by
              rw [List.getElem?_map] at hy
              cases e : r[j]? with
              | none => rw [e] at hy; cases hy
              | some v => rw [e] at hy; exact ⟨v, rfl, (Option.some.inj hy).symm⟩
            have hiv := rin v (List.mem_of_getElem? hv)
            have jl := (List.getElem?_eq_some_iff.mp hv).1
            refine ⟨rfl, ?_⟩
            refine yesT ?_
            refine ⟨_, rfl, _, v, rfl, numS_int hiv, by have := (numS_len9 hiv.1 hiv.2).2; show (numS v).length ≤ 640; omega, ?_⟩
            refine ⟨_, q1, ?_, ?_, same_upd q2 nM⟩
            · rw [List.length_map, List.length_take]; exact small1000 (by omega)
            · rw [upd_same, List.take_add_one, hv, List.map_append]; rfl
          · rintro Ga ⟨q1, q2⟩
            rw [List.length_map, List.length_map, List.take_length] at q1
            refine ⟨M, _, rfl, .inl ⟨SqL.of q1, fun t nt => ?_⟩⟩
            have sa : Same Ga (upd Ga t (.tup (r.map V.int))) := same_new nt
            have ht : (upd Ga t (.tup (r.map V.int))) t = some (.tup (r.map V.int)) := upd_same
            generalize upd Ga t (.tup (r.map V.int)) = Gb at *
            have s6b := s68.trans (s9.trans (q2.trans sa))
            have gAb := s6b _ _ gA
            have ul : us.length ≤ 20 := by
              have := Paired.length gP
              rw [List.length_take] at this
              have := L.p20
              omega
            have hl1 : lastN ps rs (i + 1) = "" := by unfold lastN; rw [if_pos (by omega)]
            have tups : ∀ {e xs}, Gb e = some (.tup xs) → (upd Gb A (.lst (us ++ [.ref t]))) e = some (.tup xs) := fun {e xs} q => (upd_ne (ne_of q gAb (by intro z; cases z))).trans q
            refine ⟨A, us, _, rfl, rfl, gAb, small1000 (by omega), by omega, us ++ [.ref t], kvs, _, _, _, _, by rw [hl1]; rfl, upd_same, ?_, (upd_ne nDA.symm).trans (s6b _ _ gD), ?_, same_upd (sG.trans s6b) nA, (upd_ne nAl.symm).trans (s6b _ _ gl2)⟩
            · rw [List.take_add_one, hr1]
              exact Paired.snoc (prd_imp gP fun a b h => IntT.firm _ _ a b (fun e xs q => tups (s6b _ _ q)) h) ⟨t, rfl, tups ht⟩
            · rw [show i + 1 - ps.length = i - ps.length by omega]
              exact gR.firm OptT.firm fun e xs q => tups (s6b _ _ q)
        · obtain ⟨q, hq1, hq2⟩ := sysLns_req (ps := ps) (rs := rs) (i := i) (by omega) (by omega)
          rw [hq2] at e
          obtain ⟨n8, r1, r50, rin⟩ := L.req q (List.mem_of_getElem? hq1)
          have e := Option.some.inj e
          subst e
          rw [req_split n8 rin] at hwl
          have lt2 : (lastN ps rs i).cps.toList < q.1.cps.toList := by
            unfold lastN
            by_cases h0 : i ≤ ps.length
            · rw [if_pos h0]
              obtain ⟨c, t, e⟩ : ∃ c t, q.1.cps.toList = c :: t := by
                cases e : q.1.cps.toList with
                | nil =>
                  have := n8.lo
                  have e2 : q.1.length = 0 := by show q.1.cps.size = 0; rw [← Array.length_toList, e]; rfl
                  omega
                | cons c t => exact ⟨c, t, rfl⟩
              rw [e]
              exact List.Lex.nil
            · rw [if_neg h0]
              obtain ⟨b, hb⟩ : ∃ b, rs[i - ps.length - 1]? = some b := ⟨_, List.getElem?_eq_getElem (by have := (List.getElem?_eq_some_iff.mp hq1).1; omega)⟩
              rw [hb]
              exact L.asc _ b q hb (by rw [show i - ps.length - 1 + 1 = i - ps.length by omega]; exact hq1)
          have ll8 : (lastN ps rs i).length ≤ 8 := by
            unfold lastN
            split
            · decide +kernel
            · cases hb : rs[i - ps.length - 1]? with
              | none => decide +kernel
              | some b =>
                have := (L.req b (List.mem_of_getElem? hb)).1.hi
                show b.1.length ≤ 8
                omega
          refine ⟨_, rfl, wl, _, 0, .str "request", rfl, rfl, SqL.of hwl, atI_nat (j := 0) rfl, rfl, _, rfl, ?_⟩
          refine ite2 (fun g => absurd g (by decide +kernel)) (fun _ => ?_)
          refine ite2 (fun g => nomatch g) (fun _ => ?_)
          refine ⟨_, rfl, _, rfl, wl, _, _, true, rfl, hwl, by simp, by rw [List.length_cons, List.length_cons, List.length_map]; omega, ll8, fun y my => ?_, .inl ⟨rfl, q.1, q.2, rfl, r1, n8, lt2, rin⟩, fun G7 s7 => ⟨_, rfl, ?_⟩⟩
          · rcases List.mem_cons.mp my with rfl | my
            · decide +kernel
            rcases List.mem_cons.mp my with rfl | my
            · have := n8.hi; omega
            · obtain ⟨o, ho, rfl⟩ := List.mem_map.mp my
              have := priS_len9 (rin o ho)
              omega
          refine ite2 (fun _ => ?_) (fun g => absurd rfl g)
          refine ⟨_, rfl, wl, _, 1, .str q.1, rfl, rfl, SqL.of (s7 _ _ hwl), atI_nat (j := 1) rfl, ?_⟩
          have ecut2 : cutV ((("request" : Str) :: q.1 :: q.2.map priS).map V.str) (some 2) none = (q.2.map priS).map V.str := by
            rw [show (2 : Int) = ((2 : Nat) : Int) from rfl, cut_from (by simp)]; rfl
          refine ⟨_, rfl, 2, rfl, wl, _, rfl, SqL.of (s7 _ _ hwl), fun l4 n4 => ?_⟩
          rw [ecut2]
          have s9 : Same G7 (upd G7 l4 (.lst ((q.2.map priS).map V.str))) := same_new n4
          have h4 : (upd G7 l4 (.lst ((q.2.map priS).map V.str))) l4 = some (.lst ((q.2.map priS).map V.str)) := upd_same
          generalize upd G7 l4 (.lst ((q.2.map priS).map V.str)) = G9 at *
          refine ⟨l4, rfl, ⟨_, SqL.of h4⟩, fun M nM => ?_⟩
          refine lc_list (K := K) (a := l4) (xs := (q.2.map priS).map V.str) (fun j G => G M = some (.lst ((q.2.take j).map vO)) ∧ Same G9 G) ⟨upd_same, same_new nM⟩ (fun j G _ h => SqL.of (h.2 _ _ h4)) ?_ ?_
          · rintro j x G hj ⟨q1, q2⟩
            obtain ⟨y, hy, rfl⟩ := map_at hj
            obtain ⟨o, ho, rfl⟩ : ∃ o, q.2[j]? = some o ∧ y = priS o := by
              rw [List.getElem?_map] at hy
              cases e : q.2[j]? with
              | none => rw [e] at hy; cases hy
              | some v => rw [e] at hy; exact ⟨v, rfl, (Option.some.inj hy).symm⟩
            have jl := (List.getElem?_eq_some_iff.mp ho).1
            refine ⟨rfl, ?_⟩
            refine yesT ?_
            refine ⟨_, rfl, o, rfl, rin o (List.mem_of_getElem? ho), ?_⟩
            refine ⟨_, q1, ?_, ?_, same_upd q2 nM⟩
            · rw [List.length_map, List.length_take]; exact small1000 (by omega)
            · rw [upd_same, List.take_add_one, ho, List.map_append]; rfl
          · rintro Ga ⟨q1, q2⟩
            rw [List.length_map, List.length_map, List.take_length] at q1
            refine ⟨M, _, rfl, .inl ⟨SqL.of q1, fun t nt => ?_⟩⟩
            have sa : Same Ga (upd Ga t (.tup (q.2.map vO))) := same_new nt
            have ht : (upd Ga t (.tup (q.2.map vO))) t = some (.tup (q.2.map vO)) := upd_same
            generalize upd Ga t (.tup (q.2.map vO)) = Gb at *
            have s6b := s7.trans (s9.trans (q2.trans sa))
            have gDb := s6b _ _ gD
            have gRb := gR.firm OptT.firm (same_tups s6b)
            have kl : kvs.length ≤ 20 := by
              have := dct_len gR
              rw [List.length_take] at this
              have := L.r20
              omega
            have hno : ¬ q.1 ∈ (rs.take (i - ps.length)).map (·.1) := by
              rw [List.map_take]
              exact take_nmem L.nd (by rw [List.getElem?_map, hq1]; rfl)
            have hl1 : lastN ps rs (i + 1) = q.1 := by
              unfold lastN
              rw [if_neg (by omega), show i + 1 - ps.length - 1 = i - ps.length by omega, hq1]; rfl
            refine ⟨_, rfl, _, rfl, D, _, rfl, DPut.k (k := Sum.inr q.1) gDb (small1000 (by omega)), ?_⟩
            rw [putK_new _ (dct_none gRb hno)]
            have tups : ∀ {e xs}, Gb e = some (.tup xs) → (upd Gb D (.dK (kvs ++ [(Sum.inr q.1, .ref t)]))) e = some (.tup xs) := fun {e xs} q => (upd_ne (ne_of q gDb (by intro z; cases z))).trans q
            refine ⟨by omega, us, kvs ++ [(Sum.inr q.1, .ref t)], _, _, _, _, by rw [hl1]; rfl, (upd_ne nDA).trans (s6b _ _ gA), ?_, upd_same, ?_, same_upd (sG.trans s6b) nD1, (upd_ne nDl.symm).trans (s6b _ _ gl2)⟩
            · rw [List.take_of_length_le (by omega)]
              rw [List.take_of_length_le (by omega)] at gP
              exact prd_imp gP fun a b h => IntT.firm _ _ a b (fun e xs q => tups (s6b _ _ q)) h
            · rw [show i + 1 - ps.length = (i - ps.length) + 1 by omega, List.take_add_one, hq1]
              exact Paired.snoc (gRb.firm OptT.firm fun e xs q => tups q) ⟨rfl, t, rfl, tups ht⟩
      · obtain ⟨odd, ho, ⟨hp, h1, h100, hy, _, hq⟩, kT⟩ : ∃ odd, lns[i]? = some odd ∧ OddS odd ∧ ∀ G, Same H G → Lets E T.c_BadText "line" (.int ((i : Nat) + 1)) G := by
          rcases hout with h | ⟨e, _⟩
          · exact h
          · omega
        have e : odd = line := by rw [hline] at ho; exact (Option.some.inj ho).symm
        subst e
        obtain ⟨w0, hw0⟩ : ∃ y, (Txt.split odd " ")[0]? = some y := ⟨_, List.getElem?_eq_getElem (by omega)⟩
        refine ⟨_, rfl, wl, _, 0, .str w0, rfl, rfl, SqL.of hwl, atI_nat (j := 0) (by rw [List.getElem?_map, hw0]; rfl), rfl, _, rfl, ?_⟩
        refine ite2 (fun g => ?_) (fun _ => ?_)
        · have g := of_decide_eq_true g
          injection g with g
          subst g
          have one : (Txt.split odd " ").length = 1 := by
            rcases hp with h | h
            · exact absurd hw0 h
            · exact h
          refine ⟨_, rfl, rfl, _, rfl, ?_⟩
          refine ite2 (fun _ => ?_) (fun _ => ?_)
          · refine ⟨_, rfl, 1, rfl, wl, _, rfl, SqL.of hwl, fun l3 n3 => ?_⟩
            have ecut1 : cutV ((Txt.split odd " ").map V.str) (some 1) none = (([] : List Int).map numS).map V.str := by
              rw [show (1 : Int) = ((1 : Nat) : Int) from rfl, cut_from (by rw [List.length_map]; omega), List.drop_eq_nil_of_le (by rw [List.length_map]; omega)]; rfl
            rw [ecut1]
            have s7 : Same G6 (upd G6 l3 (.lst ((([] : List Int).map numS).map V.str))) := same_new n3
            have h3 : (upd G6 l3 (.lst ((([] : List Int).map numS).map V.str))) l3 = some (.lst ((([] : List Int).map numS).map V.str)) := upd_same
            generalize upd G6 l3 (.lst ((([] : List Int).map numS).map V.str)) = G7 at *
            refine ⟨l3, [], rfl, h3, by simp, by simp, fun Gx sx => ⟨_, rfl, ?_⟩⟩
            refine ite2 (fun g => absurd (of_decide_eq_true g) (by simp)) (fun _ => ?_)
            have s6G := s7.trans sx
            have hwlG := s6G _ _ hwl
            refine ⟨_, rfl, _, rfl, wl, _, _, false, rfl, hwlG, h1, h100, lastN_len L _, hy, .inr ⟨rfl, hq⟩, fun G8 s8 => ⟨_, rfl, ?_⟩⟩
            refine ite2 (fun g => nomatch g) (fun _ => ?_)
            exact ⟨_, rfl, _, _, rfl, rfl, (by show 1 ≤ 1000; decide), init_raise T.x_BadText.T T.x_BadText.no (kT G8 ((s1.trans sG).trans (s6G.trans s8)))⟩
          · refine ite2 (fun g => nomatch g) (fun _ => ?_)
            have s6G := Same.refl G6
            have hwlG := hwl
            refine ⟨_, rfl, _, rfl, wl, _, _, false, rfl, hwlG, h1, h100, lastN_len L _, hy, .inr ⟨rfl, hq⟩, fun G8 s8 => ⟨_, rfl, ?_⟩⟩
            refine ite2 (fun g => nomatch g) (fun _ => ?_)
            exact ⟨_, rfl, _, _, rfl, rfl, (by show 1 ≤ 1000; decide), init_raise T.x_BadText.T T.x_BadText.no (kT G8 ((s1.trans sG).trans (s6G.trans s8)))⟩
        · refine ite2 (fun g => nomatch g) (fun _ => ?_)
          have s6G := Same.refl G6
          have hwlG := hwl
          refine ⟨_, rfl, _, rfl, wl, _, _, false, rfl, hwlG, h1, h100, lastN_len L _, hy, .inr ⟨rfl, hq⟩, fun G8 s8 => ⟨_, rfl, ?_⟩⟩
          refine ite2 (fun g => nomatch g) (fun _ => ?_)
          exact ⟨_, rfl, _, _, rfl, rfl, (by show 1 ≤ 1000; decide), init_raise T.x_BadText.T T.x_BadText.no (kT G8 ((s1.trans sG).trans (s6G.trans s8)))⟩
    · rintro σ' G ⟨im, us, kvs, o5, o6, o7, o8, rfl, gA, gP, gD, gR, sG, gl2⟩
      rw [List.length_map] at im gP gR
      obtain ⟨em, etot, km, kr, k⟩ : m = lns.length ∧ m = ps.length + rs.length ∧ (¬ MovesOk ps → ∀ G, Same H G → Lets E T.c_BadSystem "part" (.str "moves") G) ∧ (MovesOk ps → ¬ ReqsOk (ps.length : Nat) rs → ∀ G, Same H G → Lets E T.c_BadSystem "part" (.str "requests") G) ∧
          ∀ S G r, MovesOk ps → ReqsOk (ps.length : Nat) rs → SysOk S → S.n = (ps.length : Nat) → S.rows = ps → S.rs.Perm rs → SysAt T.c_System G r S → Same H G → Q (.ref r) G := by
        rcases hout with ⟨odd, ho, _⟩ | h
        · have := (List.getElem?_eq_some_iff.mp ho).1
          omega
        · exact h
      rw [List.take_of_length_le (by omega)] at gP gR
      refine ⟨_, rfl, l, lns, rfl, sG _ _ hl, ?_⟩
      refine ⟨_, rfl, A, _, rfl, .inl ⟨SqL.of gA, fun t nt => ?_⟩⟩
      have st : Same G (upd G t (.tup us)) := same_new nt
      have ht : (upd G t (.tup us)) t = some (.tup us) := upd_same
      generalize upd G t (.tup us) = G1 at *
      refine ⟨_, rfl, ?_⟩
      intro r dx nr ndx ndr
      have sx : Same G1 (upd (upd G1 dx (.own r)) r (.ins T.c_System dx [])) := fun b o e => by
        rw [upd_ne (ne_of_none e nr), upd_ne (ne_of_none e ndx)]
        exact e
      have sGx := st.trans sx
      have sHx := (s1.trans sG).trans sGx
      refine ⟨r, dx, .ref t, D, ps, kvs, rs, rfl, upd_same, ⟨t, us, rfl, sx _ _ ht, prd_imp gP fun a b h => IntT.firm _ _ a b (same_tups sGx) h⟩, L.p20, fun r m => by have := (L.row r m).2.1; omega, sGx _ _ gD, gR.firm OptT.firm (same_tups sGx), L.nd, L.r20, fun q m => ⟨(L.req q m).1, by have := (L.req q m).2.2.1; omega⟩, fun no G2 s2 => km no G2 (sHx.trans s2), fun o no G2 s2 => kr o no G2 (sHx.trans s2), fun S G2 qq o1 o2 ok en er pm SA nq kp => ⟨rfl, ?_⟩⟩
      exact k S G2 r o1 o2 ok en er pm SA.at fun b o e => kp b o (ne_of_none (st _ _ (sG _ _ (s1 _ _ e))) nr) (sHx _ _ e)
end
end Toy

namespace Toy
open PySem PySem.Spec PyProof.Rows L2
local macro_rules | `(tactic| walk_at "hp") => `(tactic| first
  | assumption
  | exact upd_same
  | (refine Eq.trans (upd_ne (by first | assumption | (apply Ne.symm; assumption))) ?_; walk_at "hp"))
local macro_rules | `(tactic| walk_at "side") => `(tactic| first
  | exact .inl ⟨by omega, by omega⟩
  | exact .inr ⟨by omega, by omega⟩
  | exact ⟨by omega, by omega⟩
  | (show _ ≤ _; omega)
  | (show (_ : Int) < _; omega)
  | decide
  | assumption)
local macro_rules | `(tactic| walk_at "r") => `(tactic| first
  | refine ⟨_, rfl, ?_⟩
  | refine ⟨_, _, rfl, rfl, ?_⟩
  | refine ⟨_, _, _, _, rfl, rfl, SqL.of (by walk_at "hp"), rfl, ?_⟩
  | refine ⟨_, _, _, _, rfl, rfl, SqT.of (by walk_at "hp"), rfl, ?_⟩
  | refine ⟨_, _, _, _, rfl, rfl, (by walk_at "hp"), rfl, ?_⟩
  | refine And.intro rfl ?_
  | refine ⟨_, _, rfl, SqT.of (by walk_at "hp"), ?_⟩
  | refine ⟨_, _, rfl, SqL.of (by walk_at "hp"), ?_⟩
  | refine .inl ⟨_, rfl, ?_⟩
  | refine ⟨_, _, rfl, .inl (SqL.of (by walk_at "hp")), ?_⟩
  | refine ⟨_, _, rfl, .inr (SqT.of (by walk_at "hp")), ?_⟩
  | refine ⟨_, _, rfl, .inl ⟨SqL.of (by walk_at "hp"), ?_⟩⟩
  | refine And.intro (.inl ⟨rfl, _, SqL.of (by walk_at "hp")⟩) ?_
  | refine ⟨_, _, _, rfl, rfl, (by walk_at "hp"), ?_⟩
  | refine ⟨_, _, rfl, (by walk_at "hp"), ?_⟩
  | refine And.intro (by walk_at "side") ?_)
local macro_rules | `(tactic| walk_at "rr") => `(tactic| (repeat walk_at "r"))
local macro_rules | `(tactic| walk_at "k") => `(tactic| first
  | refine ite2 (fun _ => ?_) (fun g => absurd rfl g)
  | refine ite2 (fun g => absurd g (by decide)) (fun _ => ?_)
  | refine ite2 (fun _ => ?_) (fun g => absurd (decide_eq_true (by omega)) g)
  | refine ite2 (fun g => absurd (of_decide_eq_true g) (by omega)) (fun _ => ?_)
  | refine ite2 (fun g => (nd_t g (by omega)).elim) (fun _ => ?_)
  | refine ite2 (fun _ => ?_) (fun g => absurd (nd_f g) (by omega)))
local macro_rules | `(tactic| walk_at "rk") => `(tactic| (repeat (first | walk_at "r" | walk_at "k")))
open TL (numL tl_num numL_lt numL_step numL_ne numL_len numL_digits numL_free int_num split_join)
def pairT (p : Str × Int) : Str := p.1 ++ ":" ++ numS p.2
def stateLn (r : List (Str × Int)) : Str := Txt.join " " (("state" : Str) :: r.map pairT)
/-- a row of turns as a line tells it: names rising -/
structure RowT (r : List (Str × Int)) : Prop where
  lo : 1 ≤ r.length
  hi : r.length ≤ 15
  row : ∀ p ∈ r, Name 8 p.1 ∧ InN p.2
  asc : ∀ i a b, r[i]? = some a → r[i + 1]? = some b → a.1.cps.toList < b.1.cps.toList
  nd : (r.map (·.1)).Nodup
/-- words that are no line of a machine -/
def OddM (ws : List Str) : Prop := 1 ≤ ws.length ∧ ws.length ≤ 100 ∧ (∀ y ∈ ws, y.length ≤ 1000) ∧ (ws[0]? ≠ some ("state" : Str) ∨ ws.length < 2 ∨ ∃ y, ws[1]? = some y ∧ (Txt.split y ":").length ≠ 2)
theorem pair_split {p : Str × Int} (n : Name 8 p.1) (h : InN p.2) : Txt.split (pairT p) ":" = [p.1, numS p.2] := by
  have e : pairT p = Txt.join ":" [p.1, numS p.2] := by
    rw [join_cons, join_one, ← str_assoc]; rfl
  rw [e]
  refine split_join (s := 58) (S := []) (by decide +kernel) (by decide +kernel) (by simp) fun q m => ?_
  rcases List.mem_cons.mp m with rfl | m
  · intro q
    have := n.low.c 58 q
    omega
  · rw [List.mem_singleton.mp m]
    intro q
    have := numS_dig h.1 58 q
    omega
theorem pair_nosp {p : Str × Int} (n : Name 8 p.1) (h : InN p.2) : ¬ 32 ∈ (pairT p).cps.toList := by
  unfold pairT
  intro m
  change 32 ∈ TL.tl (p.1 ++ ":" ++ numS p.2) at m
  rw [TL.tl_append, TL.tl_append] at m
  rcases List.mem_append.mp m with m | m
  · rcases List.mem_append.mp m with m | m
    · exact name_nosp n m
    · exact absurd m (by decide +kernel)
  · exact numS_nosp h.1 m
theorem state_split {r : List (Str × Int)} (h : RowT r) : Txt.split (stateLn r) " " = ("state" : Str) :: r.map pairT := by
  refine split_join (s := 32) (S := []) (by decide +kernel) (by decide +kernel) (by simp) fun p m => ?_
  rcases List.mem_cons.mp m with rfl | m
  · decide +kernel
  · obtain ⟨i, hi, rfl⟩ := List.mem_map.mp m
    exact pair_nosp (h.row i hi).1 (h.row i hi).2
theorem pairT_len {p : Str × Int} (n : Name 8 p.1) (h : InN p.2) : (pairT p).length ≤ 18 := by
  unfold pairT
  have h1 := n.hi
  have h2 := (numS_len9 h.1 h.2).2
  have h3 : (":" : Str).length = 1 := by decide +kernel
  rw [PySem.Str.length_append, PySem.Str.length_append, h3]
  omega
theorem stateLn_len {r : List (Str × Int)} (h : RowT r) : (stateLn r).length ≤ 1000 := by
  have h1 := len_join " " (("state" : Str) :: r.map pairT)
  have h2 := sum_le (f := fun x : Str => x.length) (m := 18) (l := r.map pairT) fun x m => by
    obtain ⟨i, hi, rfl⟩ := List.mem_map.mp m
    exact pairT_len (h.row i hi).1 (h.row i hi).2
  have h3 : ("state" : Str).length = 5 := by decide +kernel
  have h4 : (" " : Str).length = 1 := by decide +kernel
  have h5 := h.hi
  rw [List.map_cons, List.sum_cons, List.length_cons, h3, h4, List.length_map] at h1
  rw [List.length_map] at h2
  unfold stateLn
  omega
def lastT (r : List (Str × Int)) (i : Nat) : Str := if i = 0 then "" else ((r[i - 1]?).map (·.1)).getD ""
def spTurn : Sp := fun vs H Q _ => ∃ (a : Addr) (ws : List Str), vs = [.ref a] ∧ H a = some (.lst (ws.map V.str)) ∧
  ((∃ r, RowT r ∧ ws = ("state" : Str) :: r.map pairT ∧ ∀ d G, Same H G → H d = none → G d = some (.dK (tkv r)) → Q (.ref d) G) ∨ (OddM ws ∧ ∀ G, Same H G → Q .non G))
section
variable {P : Program} {w : World} {K : PySem.W.Frag} {mg : Str → Option Value} {base : Heap}
theorem ok__turn (T : Top K mg) : Ok P w K mg base 2 "_turn" ["words"] spTurn := by
  refine ok_of T.d__turn sc__turn (fun vs H Q E h => ?_) (fun f cdv A outer s H vs Q E hr h => ?_)
  · obtain ⟨a, ws, rfl, _⟩ := h
    rfl
  · obtain ⟨a, ws, rfl, ha, hb⟩ := h
    obtain ⟨f_is_number, fd_is_number, m_is_number, k_is_number, b_is_number, G_is_number⟩ := ok_is_number (P := P) (w := w) (base := base) T
    have hr_is_number : Room 1 _ := hr.mono (by decide)
    obtain ⟨f_is_name, fd_is_name, m_is_name, k_is_name, b_is_name, G_is_name⟩ := ok_is_name (P := P) (w := w) (base := base) T
    have hr_is_name : Room 1 _ := hr.mono (by decide)
    have hu := hu_of hr
    refine ⟨_, (pss_cons (ps_if (PW.pt (pw_or (pt_cmpR op_ne (pe_ix ix_list (pv 0) pe_int (fun _ _ => rfl)) pe_str (nomark _)) (pw_or1 (pt_cmpR op_lt (pe_callB (id := "len") call_len_seq (by rfl) T.b_len (by decide +kernel) (pa_cons (pv 0) pa_nil)) pe_int (nomark _)))))
      (pss_one (ps_ret pe_non))
      pss_nil)
      (pss_cons (ps_set (i := 1) sc__turn.nd rfl (Or.inl rfl) pe_dnewK)
      (pss_cons (ps_set (i := 2) sc__turn.nd rfl (Or.inl rfl) pe_str)
      (pss_cons (ps_for PassesOwn.never rfl (pi_list (pe_slice sl_list (pv 0) (po_some pe_int) po_none)) (pg_name (i := 3) sc__turn.nd rfl (Or.inl rfl))
      (pss_cons (ps_set (i := 4) sc__turn.nd rfl (Or.inl rfl) (pe_split (pv 3) pe_str))
      (pss_cons (ps_if (PW.pt (pw_or (pt_cmpR op_ne (pe_callB (id := "len") call_len_seq (by rfl) T.b_len (by decide +kernel) (pa_cons (pv 4) pa_nil)) pe_int (nomark _)) (pw_or (pt_not (pt_val (pe_call G_is_name hr_is_name rfl m_is_name k_is_name b_is_name .nil pass0 (pa_cons (pe_ix ix_list (pv 4) pe_int (fun _ _ => rfl)) pa_nil)))) (pw_or (pt_not (pt_val (pe_call G_is_number hr_is_number rfl m_is_number k_is_number b_is_number .nil pass0 (pa_cons (pe_ix ix_list (pv 4) pe_int (fun _ _ => rfl)) pa_nil)))) (pw_or1 (pt_cmpR op_le_str (pe_ix ix_list (pv 4) pe_int (fun _ _ => rfl)) (pv 2) (nomark _)))))))
      (pss_one (ps_ret pe_non))
      pss_nil)
      (pss_cons (ps_set (i := 2) sc__turn.nd rfl (Or.inl rfl) (pe_ix ix_list (pv 4) pe_int (fun _ _ => rfl)))
      (pss_one (ps_dput hu (pv 1) (pv 2) (pe_callTy (T := "int") call_int_str (by rfl) T.b_int (by decide +kernel) (pa_cons (pe_ix ix_list (pv 4) pe_int (fun _ _ => rfl)) pa_nil)) rfl))))))
      (pss_one (ps_ret (pv 1))))))), ?_⟩
    have l1 : 1 ≤ ws.length := by
      rcases hb with ⟨r, _, e, _⟩ | ⟨o, _⟩
      · rw [e]; simp
      · exact o.1
    obtain ⟨w0, hw0⟩ : ∃ y, ws[0]? = some y := ⟨_, List.getElem?_eq_getElem (by omega)⟩
    refine ⟨_, rfl, a, _, 0, .str w0, rfl, rfl, SqL.of ha, atI_nat (j := 0) (by rw [List.getElem?_map, hw0]; rfl), rfl, _, rfl, ?_⟩
    rw [dec_strN]
    refine ite2 (fun g => ite2 (fun _ => ?_) (fun g => absurd rfl g)) (fun g => ?_)
    · rcases hb with ⟨r, _, e, _⟩ | ⟨_, k⟩
      · rw [e] at hw0
        have : ("state" : Str) = w0 := Option.some.inj hw0
        subst this
        simp at g
      · exact k H (Same.refl _)
    have e0 : w0 = "state" := Classical.byContradiction fun n => g (by rw [decide_eq_false n]; rfl)
    subst e0
    refine ⟨_, rfl, a, _, rfl, .inl (SqL.of ha), _, _, rfl, rfl, _, rfl, ?_⟩
    rw [List.length_map]
    refine ite2 (fun g2 => ?_) (fun g2 => ?_)
    · rcases hb with ⟨r, R, e, _⟩ | ⟨_, k⟩
      · have g2 := of_decide_eq_true g2
        have := R.lo
        rw [e, List.length_cons, List.length_map] at g2
        omega
      · exact k H (Same.refl _)
    have l2 : 2 ≤ ws.length := Classical.byContradiction fun n => g2 (decide_eq_true (by omega))
    intro D nD
    have s1 : Same H (upd H D (.dK [])) := same_new nD
    have hD : (upd H D (.dK [])) D = some (.dK []) := upd_same
    generalize upd H D (.dK []) = H1 at *
    refine ⟨_, rfl, 1, rfl, a, _, rfl, SqL.of (s1 _ _ ha), fun l3 n3 => ?_⟩
    have ecut1 : cutV (ws.map V.str) (some 1) none = (ws.drop 1).map V.str := by
      rw [show (1 : Int) = ((1 : Nat) : Int) from rfl, cut_from (by rw [List.length_map]; omega), List.map_drop]
    rw [ecut1]
    have s2 : Same H1 (upd H1 l3 (.lst ((ws.drop 1).map V.str))) := same_new n3
    have h3 : (upd H1 l3 (.lst ((ws.drop 1).map V.str))) l3 = some (.lst ((ws.drop 1).map V.str)) := upd_same
    have n3D : l3 ≠ D := fun e => by rw [e, hD] at n3; cases n3
    generalize upd H1 l3 (.lst ((ws.drop 1).map V.str)) = H2 at *
    have s12 := s1.trans s2
    have hD2 := s2 _ _ hD
    refine ⟨l3, rfl, ⟨_, SqL.of h3⟩, ?_⟩
    rcases hb with ⟨r, R, ew, k⟩ | ⟨o, k⟩
    · have ed : ws.drop 1 = r.map pairT := by rw [ew]; rfl
      rw [ed] at h3
      refine for_list (K := K) (a := l3) (xs := (r.map pairT).map V.str) (fun i σ' G => ∃ (o3 o4 : Option V), σ' = [some (.ref a), some (.ref D), some (.str (lastT r i)), o3, o4] ∧ G D = some (.dK (tkv (r.take i))) ∧ Same H G ∧ G l3 = some (.lst ((r.map pairT).map V.str))) ⟨none, none, rfl, hD2, s12, h3⟩ (fun i σ' G _ ⟨_, _, _, _, _, h⟩ => SqL.of h) ?_ ?_
      · rintro i x σ' G hi ⟨o3, o4, rfl, gD, sG, gl⟩
        obtain ⟨y, hy, rfl⟩ := map_at hi
        obtain ⟨p, hp, rfl⟩ : ∃ p, r[i]? = some p ∧ y = pairT p := by
          rw [List.getElem?_map] at hy
          cases e : r[i]? with
          | none => rw [e] at hy; cases hy
          | some v => rw [e] at hy; exact ⟨v, rfl, (Option.some.inj hy).symm⟩
        obtain ⟨n8, hin⟩ := R.row p (List.mem_of_getElem? hp)
        refine ⟨_, rfl, ⟨_, rfl⟩, _, ":", rfl, rfl, by decide +kernel, by have := pairT_len n8 hin; show (pairT p).length + 2 ≤ 16777216; omega, fun wl nwl => ?_⟩
        rw [pair_split n8 hin]
        have s3 : Same G (upd G wl (.lst (([p.1, numS p.2] : List Str).map V.str))) := same_new nwl
        have hwl : (upd G wl (.lst (([p.1, numS p.2] : List Str).map V.str))) wl = some (.lst (([p.1, numS p.2] : List Str).map V.str)) := upd_same
        generalize upd G wl (.lst (([p.1, numS p.2] : List Str).map V.str)) = G1 at *
        refine ⟨_, rfl, wl, _, rfl, .inl (SqL.of hwl), rfl, _, rfl, ?_⟩
        refine ite2 (fun g => absurd (show (!decide (V.int ((2 : Nat) : Int) = V.int 2)) = true from g) (by decide)) (fun _ => ?_)
        refine ⟨_, rfl, wl, _, 0, .str p.1, rfl, rfl, SqL.of hwl, atI_nat (j := 0) rfl, .str p.1, "str", rfl, rfl, (fun y e => by cases e; have := n8.hi; exact Nat.le_of_lt (small1000 (by omega))), fun G2 s4 => ⟨_, rfl, ?_⟩⟩
        rw [nm_of n8]
        refine ite2 (fun g => nomatch g) (fun _ => ?_)
        refine ⟨_, rfl, wl, _, 1, .str (numS p.2), rfl, rfl, SqL.of (s4 _ _ hwl), atI_nat (j := 1) rfl, p.2, rfl, hin.1, hin.2, fun G3 s5 => ⟨_, rfl, ?_⟩⟩
        refine ite2 (fun g => nomatch g) (fun _ => ?_)
        have hwl3 := s5 _ _ (s4 _ _ hwl)
        have lt2 : (lastT r i).cps.toList < p.1.cps.toList := by
          unfold lastT
          by_cases h0 : i = 0
          · rw [if_pos h0]
            obtain ⟨c, t, e⟩ : ∃ c t, p.1.cps.toList = c :: t := by
              cases e : p.1.cps.toList with
              | nil =>
                have := n8.lo
                have e2 : p.1.length = 0 := by show p.1.cps.size = 0; rw [← Array.length_toList, e]; rfl
                omega
              | cons c t => exact ⟨c, t, rfl⟩
            rw [e]
            exact List.Lex.nil
          · rw [if_neg h0]
            obtain ⟨b, hb⟩ : ∃ b, r[i - 1]? = some b := ⟨_, List.getElem?_eq_getElem (by have := (List.getElem?_eq_some_iff.mp hp).1; omega)⟩
            rw [hb]
            exact R.asc _ b p hb (by rw [show i - 1 + 1 = i by omega]; exact hp)
        refine ⟨_, rfl, wl, _, 0, .str p.1, rfl, rfl, SqL.of hwl3, atI_nat (j := 0) rfl, _, rfl, p.1, lastT r i, rfl, rfl, _, rfl, ?_⟩
        rw [decide_eq_true lt2]
        refine ite2 (fun g => nomatch g) (fun _ => ?_)
        refine ⟨_, rfl, wl, _, 0, .str p.1, rfl, rfl, SqL.of hwl3, atI_nat (j := 0) rfl, ?_⟩
        have s35 := s3.trans (s4.trans s5)
        have hno : valV (tkv (r.take i)) (Sum.inr p.1 : Key) = none := by
          refine tkv_none fun m => ?_
          rw [List.map_take] at m
          exact take_nmem R.nd (by rw [List.getElem?_map, hp]; rfl) m
        have hl1 : lastT r (i + 1) = p.1 := by
          unfold lastT
          rw [if_neg (by omega), show i + 1 - 1 = i by omega, hp]; rfl
        have r15 := R.hi
        refine ⟨_, rfl, wl, _, 1, .str (numS p.2), rfl, rfl, SqL.of hwl3, atI_nat (j := 1) rfl, _, p.2, rfl, numS_int hin, by have := (numS_len9 hin.1 hin.2).2; show (numS p.2).length ≤ 640; omega, _, rfl, _, rfl, D, _, rfl, DPut.k (k := Sum.inr p.1) (s35 _ _ gD) (small1000 (by rw [tkv_len, List.length_take]; omega)), ?_⟩
        rw [putK_new _ hno]
        refine ⟨_, _, by rw [hl1]; rfl, ?_, same_upd (sG.trans s35) nD, (upd_ne n3D).trans (s35 _ _ gl)⟩
        rw [upd_same, List.take_add_one, hp]
        unfold tkv
        rw [List.map_append]
        rfl
      · rintro σ' G ⟨o3, o4, rfl, gD, sG, gl⟩
        rw [List.length_map, List.length_map, List.take_length] at gD
        exact ⟨_, rfl, k D G sG nD gD⟩
    · obtain ⟨y, hy1, hy2⟩ : ∃ y, ws[1]? = some y ∧ (Txt.split y ":").length ≠ 2 := by
        rcases o.2.2.2 with h | h | h
        · exact absurd hw0 h
        · omega
        · exact h
      have hd0 : (ws.drop 1)[0]? = some y := by rw [List.getElem?_drop]; exact hy1
      have ly := o.2.2.1 y (List.mem_of_getElem? hy1)
      refine for_list (K := K) (a := l3) (xs := (ws.drop 1).map V.str) (fun i σ' G => i = 0 ∧ ∃ (o3 o4 : Option V), σ' = [some (.ref a), some (.ref D), some (.str ""), o3, o4] ∧ G = H2) ⟨rfl, none, none, rfl, rfl⟩ (fun i σ' G _ ⟨_, _, _, _, h⟩ => SqL.of (by rw [h]; exact h3)) ?_ ?_
      · rintro i x σ' G hi ⟨rfl, o3, o4, rfl, rfl⟩
        obtain ⟨y2, hy, rfl⟩ := map_at hi
        have : y = y2 := by rw [hd0] at hy; exact Option.some.inj hy
        subst this
        refine ⟨_, rfl, ⟨_, rfl⟩, _, ":", rfl, rfl, by decide +kernel, by show y.length + 2 ≤ 16777216; omega, fun wl nwl => ?_⟩
        have s3 : Same G (upd G wl (.lst ((Txt.split y ":").map V.str))) := same_new nwl
        have hwl : (upd G wl (.lst ((Txt.split y ":").map V.str))) wl = some (.lst ((Txt.split y ":").map V.str)) := upd_same
        generalize upd G wl (.lst ((Txt.split y ":").map V.str)) = G1 at *
        refine ⟨_, rfl, wl, _, rfl, .inl (SqL.of hwl), rfl, _, rfl, ?_⟩
        rw [List.length_map]
        refine ite2 (fun _ => ite2 (fun _ => k G1 (s12.trans s3)) (fun g => absurd rfl g)) (fun g => ?_)
        refine absurd ?_ g
        rw [decide_eq_false (fun e => hy2 (by injection e with e; omega))]; rfl
      · rintro σ' G ⟨e, _⟩
        rw [List.length_map, List.length_drop] at e
        omega
end
end Toy

namespace Toy
open PySem PySem.Spec PyProof.Rows L2
local macro_rules | `(tactic| walk_at "hp") => `(tactic| first
  | assumption
  | exact upd_same
  | (refine Eq.trans (upd_ne (by first | assumption | (apply Ne.symm; assumption))) ?_; walk_at "hp"))
local macro_rules | `(tactic| walk_at "side") => `(tactic| first
  | exact .inl ⟨by omega, by omega⟩
  | exact .inr ⟨by omega, by omega⟩
  | exact ⟨by omega, by omega⟩
  | (show _ ≤ _; omega)
  | (show (_ : Int) < _; omega)
  | decide
  | assumption)
local macro_rules | `(tactic| walk_at "r") => `(tactic| first
  | refine ⟨_, rfl, ?_⟩
  | refine ⟨_, _, rfl, rfl, ?_⟩
  | refine ⟨_, _, _, _, rfl, rfl, SqL.of (by walk_at "hp"), rfl, ?_⟩
  | refine ⟨_, _, _, _, rfl, rfl, SqT.of (by walk_at "hp"), rfl, ?_⟩
  | refine ⟨_, _, _, _, rfl, rfl, (by walk_at "hp"), rfl, ?_⟩
  | refine And.intro rfl ?_
  | refine ⟨_, _, rfl, SqT.of (by walk_at "hp"), ?_⟩
  | refine ⟨_, _, rfl, SqL.of (by walk_at "hp"), ?_⟩
  | refine .inl ⟨_, rfl, ?_⟩
  | refine ⟨_, _, rfl, .inl (SqL.of (by walk_at "hp")), ?_⟩
  | refine ⟨_, _, rfl, .inr (SqT.of (by walk_at "hp")), ?_⟩
  | refine ⟨_, _, rfl, .inl ⟨SqL.of (by walk_at "hp"), ?_⟩⟩
  | refine And.intro (.inl ⟨rfl, _, SqL.of (by walk_at "hp")⟩) ?_
  | refine ⟨_, _, _, rfl, rfl, (by walk_at "hp"), ?_⟩
  | refine ⟨_, _, rfl, (by walk_at "hp"), ?_⟩
  | refine And.intro (by walk_at "side") ?_)
local macro_rules | `(tactic| walk_at "rr") => `(tactic| (repeat walk_at "r"))
local macro_rules | `(tactic| walk_at "k") => `(tactic| first
  | refine ite2 (fun _ => ?_) (fun g => absurd rfl g)
  | refine ite2 (fun g => absurd g (by decide)) (fun _ => ?_)
  | refine ite2 (fun _ => ?_) (fun g => absurd (decide_eq_true (by omega)) g)
  | refine ite2 (fun g => absurd (of_decide_eq_true g) (by omega)) (fun _ => ?_)
  | refine ite2 (fun g => (nd_t g (by omega)).elim) (fun _ => ?_)
  | refine ite2 (fun _ => ?_) (fun g => absurd (nd_f g) (by omega)))
local macro_rules | `(tactic| walk_at "rk") => `(tactic| (repeat (first | walk_at "r" | walk_at "k")))
def spReadMac (C cB cT : Addr) : Sp := fun vs H Q E => ∃ (z : Str) (ts : List (List (Str × Int))) (lns : List Str) (m : Nat), vs = [.str z] ∧ z.length ≤ 1000000 ∧ (∀ r ∈ ts, RowT r) ∧ ts.length ≤ 20 ∧ Txt.split z "\n" = lns ++ [("" : Str)] ∧ lns.length ≤ 100 ∧ m ≤ lns.length ∧ m ≤ ts.length ∧ (∀ i, i < m → lns[i]? = (ts.map stateLn)[i]?) ∧
  ((∃ odd, lns[m]? = some odd ∧ OddM (Txt.split odd " ") ∧ odd.length ≤ 1000 ∧ ∀ G, Same H G → Lets E cT "line" (.int ((m : Nat) + 1)) G) ∨
   (m = lns.length ∧ m = ts.length ∧ (¬ TurnsOk ts → ∀ G, Same H G → Lets0 E cB G) ∧ ∀ M G r, TurnsOk ts → McOk M → M.ts = ts → McAt C G r M → Same H G → Q (.ref r) G))
section
variable {P : Program} {w : World} {K : PySem.W.Frag} {mg : Str → Option Value} {base : Heap}
theorem ok_read_machine (T : Top K mg) : OkX P w K mg base 8 "read_machine" ["text"] (spReadMac T.c_Machine T.c_BadMachine T.c_BadText) := by
  refine okX_of T.d_read_machine sc_read_machine (fun vs H Q E h => ?_) (fun f cdv A outer s H vs Q E hr h => ?_)
  · obtain ⟨z, ts, lns, m, rfl, _⟩ := h
    rfl
  · obtain ⟨z, ts, lns, m, rfl, hz, R, t20, hsp, l100, ml, mt, hgood, hout⟩ := h
    obtain ⟨f_lines_of, fd_lines_of, m_lines_of, k_lines_of, b_lines_of, G_lines_of⟩ := ok_lines_of (P := P) (w := w) (base := base) T
    have hr_lines_of : Room 3 _ := hr.mono (by decide)
    obtain ⟨f__turn, fd__turn, m__turn, k__turn, b__turn, G__turn⟩ := ok__turn (P := P) (w := w) (base := base) T
    have hr__turn : Room 2 _ := hr.mono (by decide)
    obtain ⟨f_BadText, fd_BadText, i_BadText, t_BadText, b_BadText, G_BadText⟩ := ok_BadTextZ_initZ (P := P) (w := w) (base := base) T
    have hr_BadText : Room 2 _ := hr.mono (by decide)
    obtain ⟨f_check_closed, fd_check_closed, m_check_closed, k_check_closed, b_check_closed, G_check_closed⟩ := ok_check_closed (P := P) (w := w) (base := base) T
    have hr_check_closed : Room 3 _ := hr.mono (by decide)
    obtain ⟨f_Machine, fd_Machine, m_Machine, M_Machine, b_Machine, G_Machine⟩ := ok_MachineZ_initZ (P := P) (w := w) (base := base) T
    have hr_Machine : Room 7 _ := hr.mono (by decide)
    have hu := hu_of hr
    refine ⟨_, (pss_cons (ps_set (i := 1) sc_read_machine.nd rfl (Or.inl rfl) (pe_call G_lines_of hr_lines_of rfl m_lines_of k_lines_of b_lines_of .nil (passes_call (takes_of rfl rfl rfl rfl) (fun _ _ _ _ h => h)) (pa_cons (pv 0) pa_nil)))
      (pss_cons (ps_set (i := 2) sc_read_machine.nd rfl (Or.inl rfl) (pe_lst pa_nil))
      (pss_cons (ps_for (passes_of rfl) rfl (pi_enum (by rfl) T.b_enumerate (pa_cons (pe_slice sl_list (pv 1) po_none (po_some (pe_un un_neg pe_int))) pa_nil)) (pg_tup rfl (pgs_cons (pg_name (i := 3) sc_read_machine.nd rfl (Or.inl rfl)) (pgs_cons (pg_name (i := 4) sc_read_machine.nd rfl (Or.inl rfl)) pgs_nil)))
      (pss_cons (ps_set (i := 5) sc_read_machine.nd rfl (Or.inl rfl) (pe_call G__turn hr__turn rfl m__turn k__turn b__turn .nil pass0 (pa_cons (pe_split (pv 4) pe_str) pa_nil)))
      (pss_cons (ps_if (pt_cmpR op_isN (pv 5) pe_non (nomark _))
      (pss_one (ps_raise rfl (takes_of rfl rfl rfl rfl) (pmk_oex T.x_BadText.T i_BadText t_BadText G_BadText hr_BadText b_BadText .nil pass0 (by rfl) T.x_BadText.mg (pa_cons (pe_op op_add (pv 3) pe_int) pa_nil))))
      pss_nil)
      (pss_one (ps_expr (pe_bm PySem.F.plainAttrs_list PySem.F.slot_list_append PySem.F.type_list_append mt_append (pv 2) (pa_cons (pv 5) pa_nil)))))))
      (pss_cons (ps_expr (pe_call G_check_closed hr_check_closed rfl m_check_closed k_check_closed b_check_closed .nil (passes_call (takes_of rfl rfl rfl rfl) (fun _ _ _ _ h => h)) (pa_cons (pv 1) pa_nil)))
      (pss_one (ps_ret (pe_make M_Machine G_Machine hr_Machine rfl m_Machine b_Machine .nil (passes_call (takes_of rfl rfl rfl rfl) (fun _ _ _ _ h => h)) (pa_cons (pe_callTy (T := "tuple") call_tuple_of (by rfl) T.b_tuple (by decide +kernel) (pa_cons (pv 2) pa_nil)) pa_nil)))))))), ?_⟩
    refine ⟨_, rfl, z, rfl, hz, fun l H1 s1 hl => ?_⟩
    rw [hsp] at hl
    refine ⟨(by show 0 ≤ sizeLine; decide), fun A nA => ?_⟩
    have s2 : Same H1 (upd H1 A (.lst [])) := same_new nA
    have hA : (upd H1 A (.lst [])) A = some (.lst []) := upd_same
    generalize upd H1 A (.lst []) = H2 at *
    refine ⟨_, rfl, _, rfl, _, rfl, l, _, rfl, SqL.of (s2 _ _ hl), fun l2 nl2 => ?_⟩
    have ecut : cutV ((lns ++ [("" : Str)]).map V.str) none (some (-1)) = lns.map V.str := by
      unfold cutV
      have e1 : HT.sIx ((lns ++ [("" : Str)]).map V.str).length 0 none = 0 := rfl
      have e2 : HT.sIx ((lns ++ [("" : Str)]).map V.str).length ((lns ++ [("" : Str)]).map V.str).length (some (-1)) = lns.length := by
        simp only [HT.sIx, List.length_map, List.length_append, List.length_singleton]
        simp
        omega
      rw [e1, e2, List.drop_zero, Nat.sub_zero, List.map_append]
      exact List.take_left' (by rw [List.length_map])
    rw [ecut]
    have s4 : Same H2 (upd H2 l2 (.lst (lns.map V.str))) := same_new nl2
    have hl2 : (upd H2 l2 (.lst (lns.map V.str))) l2 = some (.lst (lns.map V.str)) := upd_same
    have nAl : A ≠ l2 := ne_of_none hA nl2
    generalize upd H2 l2 (.lst (lns.map V.str)) = H4 at *
    refine ⟨l2, _, rfl, SqL.of hl2, ?_⟩
    refine for_it walk_enum (fun i σ' G => i ≤ m ∧ ∃ (ds : List Addr) (o3 o4 o5 : Option V), σ' = [some (.str z), some (.ref l), some (.ref A), o3, o4, o5] ∧ G A = some (.lst (ds.map V.ref)) ∧ Paired (fun d r => G d = some (.dK (tkv r))) ds (ts.take i) ∧ ds.Nodup ∧ Same H1 G ∧ G l2 = some (.lst (lns.map V.str)))
      ⟨Nat.zero_le _, [], none, none, none, rfl, s4 _ _ hA, .nil, .nil, s2.trans s4, hl2⟩ (fun i σ' G _ ⟨_, _, _, _, _, _, _, _, _, _, h⟩ => SqL.of h) ?_ ?_
    · rintro i x σ' G G2 hi ⟨im, ds, o3, o4, o5, rfl, gA, gP, nds, sG, gl2⟩ ⟨tp, x', y', rfl, np, rfl, g3, g4⟩
      cases g3
      obtain ⟨line, hline, rfl⟩ := map_at g4
      have s5 : Same G (upd G tp (.tup [.int (i : Nat), .str line])) := same_new np
      refine ⟨tp, _, rfl, SqT.of upd_same, rfl, _, _, rfl, _, _, rfl, rfl, ?_⟩
      generalize upd G tp (.tup [.int (i : Nat), .str line]) = G5 at *
      have il : i < lns.length := (List.getElem?_eq_some_iff.mp hline).1
      have good : i < m → ∃ r, ts[i]? = some r ∧ line = stateLn r := fun lt => by
        have e := hgood i lt
        rw [hline, List.getElem?_map, List.getElem?_eq_getElem (by omega : i < ts.length)] at e
        exact ⟨ts[i], List.getElem?_eq_getElem (by omega), Option.some.inj e⟩
      have lok : line.length ≤ 1000 := by
        rcases Nat.lt_or_eq_of_le im with lt | rfl
        · obtain ⟨r, hr1, rfl⟩ := good lt
          exact stateLn_len (R r (List.mem_of_getElem? hr1))
        · rcases hout with ⟨odd, ho, _, hO, _⟩ | ⟨e, _⟩
          · rw [hline] at ho
            rw [Option.some.inj ho]
            exact hO
          · omega
      refine ⟨_, rfl, ⟨line, rfl⟩, line, " ", rfl, rfl, by decide +kernel, by show line.length + 2 ≤ 16777216; omega, fun wl nwl => ?_⟩
      have nAw : A ≠ wl := ne_of_none (s5 _ _ gA) nwl
      have s6 : Same G5 (upd G5 wl (.lst ((Txt.split line " ").map V.str))) := same_new nwl
      have hwl : (upd G5 wl (.lst ((Txt.split line " ").map V.str))) wl = some (.lst ((Txt.split line " ").map V.str)) := upd_same
      generalize upd G5 wl (.lst ((Txt.split line " ").map V.str)) = G6 at *
      have s56 := s5.trans s6
      have gA := s56 _ _ gA
      have gP := prd_imp gP fun a b h => s56 _ _ h
      have sG := sG.trans s56
      have gl2 := s56 _ _ gl2
      clear s5 s6 s56 np nwl
      rcases Nat.lt_or_eq_of_le im with lt | rfl
      · obtain ⟨r, hr1, rfl⟩ := good lt
        have Rr := R r (List.mem_of_getElem? hr1)
        rw [state_split Rr] at hwl
        refine ⟨wl, _, rfl, hwl, .inl ⟨r, Rr, rfl, fun d G7 s7 nd hd => ?_⟩⟩
        have nAd : A ≠ d := ne_of_none gA nd
        have gA7 := s7 _ _ gA
        have dl : ds.length ≤ 20 := by
          have := Paired.length gP
          rw [List.length_take] at this
          omega
        refine ⟨_, rfl, rfl, _, rfl, ?_⟩
        refine ite2 (fun g => absurd (of_decide_eq_true g) (fun e => nomatch e)) (fun _ => ?_)
        refine ⟨_, rfl, .inl ⟨rfl, _, SqL.of gA7⟩, _, rfl, A, _, _, rfl, rfl, gA7, ?_, by omega, ds ++ [d], _, _, _, rfl, ?_, ?_, ?_, same_upd (sG.trans s7) nA, (upd_ne nAl.symm).trans (s7 _ _ gl2)⟩
        · rw [List.length_map]; exact small1000 (by omega)
        · rw [upd_same, List.map_append]; rfl
        · rw [List.take_add_one, hr1]
          exact Paired.snoc (prd_imp gP fun a b h => (upd_ne (ne_of (s7 _ _ h) gA7 (by intro z; cases z))).trans (s7 _ _ h)) ((upd_ne nAd.symm).trans hd)
        · rw [List.nodup_append]
          refine ⟨nds, by simp, fun a ma b mb e => ?_⟩
          rw [List.mem_singleton.mp mb] at e
          subst e
          obtain ⟨j, hj⟩ := List.getElem?_of_mem ma
          obtain ⟨r2, _, h2⟩ := prd_at1 gP hj
          rw [nd] at h2; cases h2
      · obtain ⟨odd, ho, hO, _, kT⟩ : ∃ odd, lns[i]? = some odd ∧ OddM (Txt.split odd " ") ∧ odd.length ≤ 1000 ∧ ∀ G, Same H G → Lets E T.c_BadText "line" (.int ((i : Nat) + 1)) G := by
          rcases hout with h | ⟨e, _⟩
          · exact h
          · omega
        have e : odd = line := by rw [hline] at ho; exact (Option.some.inj ho).symm
        subst e
        refine ⟨wl, _, rfl, hwl, .inr ⟨hO, fun G7 s7 => ?_⟩⟩
        refine ⟨_, rfl, rfl, _, rfl, ?_⟩
        refine ite2 (fun _ => ?_) (fun g => absurd (decide_eq_true rfl) g)
        exact ⟨_, rfl, _, _, rfl, rfl, (by show 1 ≤ 1000; decide), init_raise T.x_BadText.T T.x_BadText.no (kT G7 ((s1.trans sG).trans s7))⟩
    · rintro σ' G ⟨im, ds, o3, o4, o5, rfl, gA, gP, nds, sG, gl2⟩
      rw [List.length_map] at im gP
      obtain ⟨em, etot, kb, k⟩ : m = lns.length ∧ m = ts.length ∧ (¬ TurnsOk ts → ∀ G, Same H G → Lets0 E T.c_BadMachine G) ∧ ∀ M G r, TurnsOk ts → McOk M → M.ts = ts → McAt T.c_Machine G r M → Same H G → Q (.ref r) G := by
        rcases hout with ⟨odd, ho, _⟩ | h
        · have := (List.getElem?_eq_some_iff.mp ho).1
          omega
        · exact h
      rw [List.take_of_length_le (by omega)] at gP
      refine ⟨_, rfl, l, lns, rfl, sG _ _ hl, ?_⟩
      refine ⟨_, rfl, A, _, rfl, .inl ⟨SqL.of gA, fun t nt => ?_⟩⟩
      have st : Same G (upd G t (.tup (ds.map V.ref))) := same_new nt
      have ht : (upd G t (.tup (ds.map V.ref))) t = some (.tup (ds.map V.ref)) := upd_same
      generalize upd G t (.tup (ds.map V.ref)) = G1 at *
      intro r dx nr ndx ndr
      have sx : Same G1 (upd (upd G1 dx (.own r)) r (.ins T.c_Machine dx [])) := fun b o e => by
        rw [upd_ne (ne_of_none e nr), upd_ne (ne_of_none e ndx)]
        exact e
      have sGx := st.trans sx
      have sHx := (s1.trans sG).trans sGx
      refine ⟨r, dx, t, ds, ts, rfl, upd_same, ⟨sx _ _ ht, nds, prd_imp gP fun a b h => sGx _ _ h⟩, ⟨t20, fun q mq => ⟨(R q mq).lo, (R q mq).hi, (R q mq).nd, fun p mp => ⟨((R q mq).row p mp).1, ((R q mq).row p mp).2.1⟩⟩⟩, fun no G2 s2 => kb no G2 (sHx.trans s2), fun M G2 tk mok em MA kp => ⟨rfl, ?_⟩⟩
      exact k M G2 r tk mok em MA fun b o e => kp b o (ne_of_none (st _ _ (sG _ _ (s1 _ _ e))) nr) (sHx _ _ e)
end
end Toy

namespace Toy
open PySem PySem.Spec PyProof.Rows L2
local macro_rules | `(tactic| walk_at "hp") => `(tactic| first
  | assumption
  | exact upd_same
  | (refine Eq.trans (upd_ne (by first | assumption | (apply Ne.symm; assumption))) ?_; walk_at "hp"))
local macro_rules | `(tactic| walk_at "side") => `(tactic| first
  | exact .inl ⟨by omega, by omega⟩
  | exact .inr ⟨by omega, by omega⟩
  | exact ⟨by omega, by omega⟩
  | (show _ ≤ _; omega)
  | (show (_ : Int) < _; omega)
  | decide
  | assumption)
local macro_rules | `(tactic| walk_at "r") => `(tactic| first
  | refine ⟨_, rfl, ?_⟩
  | refine ⟨_, _, rfl, rfl, ?_⟩
  | refine ⟨_, _, _, _, rfl, rfl, SqL.of (by walk_at "hp"), rfl, ?_⟩
  | refine ⟨_, _, _, _, rfl, rfl, SqT.of (by walk_at "hp"), rfl, ?_⟩
  | refine ⟨_, _, _, _, rfl, rfl, (by walk_at "hp"), rfl, ?_⟩
  | refine And.intro rfl ?_
  | refine ⟨_, _, rfl, SqT.of (by walk_at "hp"), ?_⟩
  | refine ⟨_, _, rfl, SqL.of (by walk_at "hp"), ?_⟩
  | refine .inl ⟨_, rfl, ?_⟩
  | refine ⟨_, _, rfl, .inl (SqL.of (by walk_at "hp")), ?_⟩
  | refine ⟨_, _, rfl, .inr (SqT.of (by walk_at "hp")), ?_⟩
  | refine ⟨_, _, rfl, .inl ⟨SqL.of (by walk_at "hp"), ?_⟩⟩
  | refine And.intro (.inl ⟨rfl, _, SqL.of (by walk_at "hp")⟩) ?_
  | refine ⟨_, _, _, rfl, rfl, (by walk_at "hp"), ?_⟩
  | refine ⟨_, _, rfl, (by walk_at "hp"), ?_⟩
  | refine And.intro (by walk_at "side") ?_)
local macro_rules | `(tactic| walk_at "rr") => `(tactic| (repeat walk_at "r"))
local macro_rules | `(tactic| walk_at "k") => `(tactic| first
  | refine ite2 (fun _ => ?_) (fun g => absurd rfl g)
  | refine ite2 (fun g => absurd g (by decide)) (fun _ => ?_)
  | refine ite2 (fun _ => ?_) (fun g => absurd (decide_eq_true (by omega)) g)
  | refine ite2 (fun g => absurd (of_decide_eq_true g) (by omega)) (fun _ => ?_)
  | refine ite2 (fun g => (nd_t g (by omega)).elim) (fun _ => ?_)
  | refine ite2 (fun _ => ?_) (fun g => absurd (nd_f g) (by omega)))
local macro_rules | `(tactic| walk_at "rk") => `(tactic| (repeat (first | walk_at "r" | walk_at "k")))
theorem prd_mem {α β : Type} {F G : α → β → Prop} : ∀ {xs : List α} {ys : List β}, Paired F xs ys → (∀ a ∈ xs, ∀ b, F a b → G a b) → Paired G xs ys
  | _, _, .nil, _ => .nil
  | _, _, .cons h t, k => .cons (k _ List.mem_cons_self _ h) (prd_mem t fun a m => k a (List.mem_cons_of_mem _ m))
/-- a list of rows -/
structure RowsL (H : Hp) (l : Addr) (as : List Addr) (rows : List (List Int)) : Prop where
  lst : H l = some (.lst (as.map V.ref))
  each : Paired (fun a r => H a = some (.lst (r.map V.int))) as rows
/-- rows of numbers as the law draws them -/
def RowsOk (rows : List (List Int)) : Prop := ∀ r ∈ rows, 1 ≤ r.length ∧ r.length ≤ 9 ∧ ∀ x ∈ r, InN x
def ItemsOk (r : List (Option Int)) : Prop := 1 ≤ r.length ∧ r.length ≤ 9 ∧ ∀ o ∈ r, ∀ i, o = some i → InN i
theorem in_log {i : Int} (h : InN i) : i.natAbs.log2 < 1920 := by
  have h := h
  unfold InN at h
  by_cases e : i.natAbs = 0
  · rw [e]; decide
  · rw [Nat.log2_lt e]
    exact Nat.lt_of_le_of_lt (by omega : i.natAbs ≤ 2 ^ 30) (Nat.pow_lt_pow_right (by decide) (by decide))
def spReqsP (C : Addr) : Sp := fun vs H Q _ => ∃ (p : Addr) (S : Sys), vs = [.ref p] ∧ SysOk S ∧ SysAt C H p S ∧ ∀ D kvs G, Same H G → H D = none → G D = some (.dK kvs) → DctOf OptT G kvs S.rs → Q (.ref D) G
def spSize : Sp := fun vs H Q _ => ∃ (d c : Addr) (m n : Int), vs = [.ref d, .int m, .int n] ∧ Dice c H d ∧ 0 < n ∧ n ≤ 8 ∧ 0 ≤ m ∧ m ≤ 8 ∧ ∀ v H', 1 ≤ v → (v ≤ n ∨ v ≤ m + 1) → Keep d H H' → Dice c H' d → Q (.int v) H'
def spPriceD : Sp := fun vs H Q _ => ∃ (d c : Addr), vs = [.ref d] ∧ Dice c H d ∧ ∀ v H', InN v → Keep d H H' → Dice c H' d → Q (.int v) H'
def spPostsD : Sp := fun vs H Q _ => ∃ (d c : Addr) (n : Int), vs = [.ref d, .int n] ∧ Dice c H d ∧ 0 ≤ n ∧ n ≤ 8 ∧
  ∀ l as rows H', Keep d H H' → Dice c H' d → H l = none → RowsL H' l as rows → (∀ a ∈ as, H a = none) → (rows.length : Int) = n → RowsOk rows → Q (.ref l) H'
def spItemsD : Sp := fun vs H Q _ => ∃ (d c : Addr) (n : Int), vs = [.ref d, .int n] ∧ Dice c H d ∧ 0 ≤ n ∧ n ≤ 8 ∧
  ∀ l r H', Keep d H H' → Dice c H' d → H l = none → H' l = some (.lst (r.map vO)) → ItemsOk r → Q (.ref l) H'
def spItemI : Sp := fun vs H Q _ => ∃ o : Option Int, vs = [vO o] ∧ (∀ i, o = some i → InN i) ∧ Q (.str (priS o)) H
section
variable {P : Program} {w : World} {K : PySem.W.Frag} {mg : Str → Option Value} {base : Heap}
theorem ok__law_item (T : Top K mg) : Ok P w K mg base 1 "_law_item" ["item"] spItemI := by
  refine ok_of T.d__law_item sc__law_item (fun vs H Q E h => ?_) (fun f cdv A outer s H vs Q E hr h => ?_)
  · obtain ⟨x, rfl, _⟩ := h
    rfl
  · obtain ⟨x, rfl, hx, k⟩ := h
    refine ⟨_, (pss_cons (ps_if (pt_cmpR op_isN (pv 0) pe_non (nomark _))
      (pss_one (ps_ret pe_str))
      pss_nil)
      (pss_one (ps_ret (pe_callTy (T := "str") (call_str_int.or SkE.call_str_str) (by rfl) T.b_str (by decide +kernel) (pa_cons (pv 0) pa_nil))))), ?_⟩
    cases x with
    | none =>
      refine ⟨_, rfl, rfl, _, rfl, ?_⟩
      exact ite2 (fun _ => k) (fun g => absurd rfl g)
    | some i =>
      refine ⟨_, rfl, rfl, _, rfl, ?_⟩
      refine ite2 (fun g => nomatch of_decide_eq_true g) (fun _ => ?_)
      have := hx i rfl
      exact ⟨_, rfl, .inl ⟨i, rfl, in_log this, k⟩⟩
theorem ok__law_size (T : Top K mg) : Ok P w K mg base 2 "_law_size" ["stock", "due", "most"] spSize := by
  refine ok_of T.d__law_size sc__law_size (fun vs H Q E h => ?_) (fun f cdv A outer s H vs Q E hr h => ?_)
  · obtain ⟨d, c, m, n, rfl, _⟩ := h
    rfl
  · obtain ⟨d, c, m, n, rfl, D, n0, n8, m0, m8, k⟩ := h
    obtain ⟨f__law_draw, fd__law_draw, m__law_draw, k__law_draw, b__law_draw, G__law_draw⟩ := ok__law_draw (P := P) (w := w) (base := base) T
    have hr__law_draw : Room 1 _ := hr.mono (by decide)
    refine ⟨_, (pss_cons (ps_set (i := 3) sc__law_size.nd rfl (Or.inl rfl) (pe_call G__law_draw hr__law_draw rfl m__law_draw k__law_draw b__law_draw .nil pass0 (pa_cons (pv 0) (pa_cons pe_int pa_nil))))
      (pss_cons (ps_if (pt_cmpR op_eq (pv 3) pe_int (nomark _))
      (pss_one (ps_ret (pe_op op_add pe_int (pe_call G__law_draw hr__law_draw rfl m__law_draw k__law_draw b__law_draw .nil pass0 (pa_cons (pv 0) (pa_cons (pv 2) pa_nil))))))
      pss_nil)
      (pss_cons (ps_if (pt_cmpR op_eq (pv 3) pe_int (nomark _))
      (pss_one (ps_ret (pe_op op_add (pv 1) pe_int)))
      pss_nil)
      (pss_cons (ps_if (PW.pt (pw_and (pt_cmpR op_eq (pv 3) pe_int (nomark _)) (pw_and1 (pt_cmpR op_gt (pv 1) pe_int (nomark _)))))
      (pss_one (ps_ret (pe_op op_sub (pv 1) pe_int)))
      pss_nil)
      (pss_one (ps_ret (pe_callB (id := "max") (call_max2 rfl) (by rfl) T.b_max (by decide +kernel) (pa_cons pe_int (pa_cons (pv 1) pa_nil))))))))), ?_⟩
    refine ⟨_, rfl, d, c, 50, rfl, D, by decide, by decide, fun v H1 v0 v1 k1 D1 => ?_⟩
    walk_at "rr"
    refine ite2 (fun g => ?_) (fun g => ?_)
    · walk_at "rr"
      refine ⟨d, c, n, rfl, D1, n0, by omega, fun u H2 u0 u1 k2 D2 => ?_⟩
      walk_at "rr"
      exact k _ _ (by omega) (.inl (by omega)) (k1.trans k2) D2
    walk_at "rr"
    refine ite2 (fun g => ?_) (fun g => ?_)
    · walk_at "rr"
      exact k _ _ (by omega) (.inr (by omega)) k1 D1
    walk_at "rr"
    have last : ∀ {z : Int}, z = max 1 m → Q (.int z) H1 := fun {z} e => k _ _ (by omega) (.inr (by omega)) k1 D1
    refine ite2 (fun g => ?_) (fun g => ?_)
    · walk_at "rr"
      refine ite2 (fun g => ?_) (fun g => ?_)
      · have g := of_decide_eq_true g
        walk_at "rr"
        exact k _ _ (by omega) (.inr (by omega)) k1 D1
      · walk_at "rr"
        exact ⟨1, m, rfl, last (by split <;> omega)⟩
    · refine ite2 (fun g => nomatch g) (fun _ => ?_)
      walk_at "rr"
      exact ⟨1, m, rfl, last (by split <;> omega)⟩
theorem ok__law_price (T : Top K mg) : Ok P w K mg base 2 "_law_price" ["stock"] spPriceD := by
  refine ok_of T.d__law_price sc__law_price (fun vs H Q E h => ?_) (fun f cdv A outer s H vs Q E hr h => ?_)
  · obtain ⟨d, c, rfl, _⟩ := h
    rfl
  · obtain ⟨d, c, rfl, D, k⟩ := h
    obtain ⟨f__law_draw, fd__law_draw, m__law_draw, k__law_draw, b__law_draw, G__law_draw⟩ := ok__law_draw (P := P) (w := w) (base := base) T
    have hr__law_draw : Room 1 _ := hr.mono (by decide)
    refine ⟨_, (pss_cons (ps_set (i := 1) sc__law_price.nd rfl (Or.inl rfl) (pe_call G__law_draw hr__law_draw rfl m__law_draw k__law_draw b__law_draw .nil pass0 (pa_cons (pv 0) (pa_cons pe_int pa_nil))))
      (pss_cons (ps_set (i := 2) sc__law_price.nd rfl (Or.inl rfl) (pe_call G__law_draw hr__law_draw rfl m__law_draw k__law_draw b__law_draw .nil pass0 (pa_cons (pv 0) (pa_cons pe_int pa_nil))))
      (pss_cons (ps_if (pt_cmpR op_lt (pv 1) pe_int (nomark _))
      (pss_one (ps_ret (pe_ix ix_list (pe_lst (pa_cons pe_int (pa_cons pe_int (pa_cons pe_int pa_nil)))) (pv 1) (fun _ _ => rfl))))
      pss_nil)
      (pss_one (ps_ret (pv 2)))))), ?_⟩
    refine ⟨_, rfl, d, c, 160, rfl, D, by decide, by decide, fun v H1 v0 v1 k1 D1 => ?_⟩
    walk_at "rr"
    refine ⟨d, c, 10, rfl, D1, by decide, by decide, fun u H2 u0 u1 k2 D2 => ?_⟩
    walk_at "rr"
    refine ite2 (fun g => ?_) (fun g => ?_)
    · have g := of_decide_eq_true g
      refine ⟨(by show 3 ≤ sizeLine; decide), fun p np => ?_⟩
      obtain ⟨x, hx, hin⟩ : ∃ x, atI [V.int 10, .int 99, .int 999999999] v = some (.int x) ∧ InN x := by
        rcases (by omega : v = 0 ∨ v = 1 ∨ v = 2) with rfl | rfl | rfl
        · exact ⟨10, rfl, by decide, by decide⟩
        · exact ⟨99, rfl, by decide, by decide⟩
        · exact ⟨999999999, rfl, by decide, by decide⟩
      have k12 := k1.trans k2
      exact ⟨_, rfl, p, _, _, _, rfl, rfl, SqL.of upd_same, hx, k _ _ hin (k12.mut (k12.free (D2.ne np) np)) (D2.upd (D2.ne np) (D2.nc np))⟩
    · walk_at "rr"
      exact k _ _ ⟨u0, by omega⟩ (k1.trans k2) D2
theorem ok__law_posts (T : Top K mg) : Ok P w K mg base 3 "_law_posts" ["stock", "many"] spPostsD := by
  refine ok_of T.d__law_posts sc__law_posts (fun vs H Q E h => ?_) (fun f cdv A outer s H vs Q E hr h => ?_)
  · obtain ⟨d, c, n, rfl, _⟩ := h
    rfl
  · obtain ⟨d, c, n, rfl, D, n0, n8, k⟩ := h
    obtain ⟨f__law_size, fd__law_size, m__law_size, k__law_size, b__law_size, G__law_size⟩ := ok__law_size (P := P) (w := w) (base := base) T
    have hr__law_size : Room 2 _ := hr.mono (by decide)
    obtain ⟨f__law_price, fd__law_price, m__law_price, k__law_price, b__law_price, G__law_price⟩ := ok__law_price (P := P) (w := w) (base := base) T
    have hr__law_price : Room 2 _ := hr.mono (by decide)
    obtain ⟨f__law_draw, fd__law_draw, m__law_draw, k__law_draw, b__law_draw, G__law_draw⟩ := ok__law_draw (P := P) (w := w) (base := base) T
    have hr__law_draw : Room 1 _ := hr.mono (by decide)
    refine ⟨_, (pss_cons (ps_set (i := 2) sc__law_posts.nd rfl (Or.inl rfl) (pe_lst pa_nil))
      (pss_cons (ps_for PassesOwn.never rfl (pi_range1 (by rfl) T.b_range (pa_cons (pv 1) pa_nil)) (pg_name (i := 3) sc__law_posts.nd rfl (Or.inl rfl))
      (pss_cons (ps_set (i := 4) sc__law_posts.nd rfl (Or.inl rfl) (pe_lst pa_nil))
      (pss_cons (ps_for PassesOwn.never rfl (pi_range1 (by rfl) T.b_range (pa_cons (pe_call G__law_size hr__law_size rfl m__law_size k__law_size b__law_size .nil pass0 (pa_cons (pv 0) (pa_cons (pv 1) (pa_cons pe_int pa_nil)))) pa_nil)) (pg_name (i := 5) sc__law_posts.nd rfl (Or.inl rfl))
      (pss_cons (ps_set (i := 6) sc__law_posts.nd rfl (Or.inl rfl) (pe_call G__law_price hr__law_price rfl m__law_price k__law_price b__law_price .nil pass0 (pa_cons (pv 0) pa_nil)))
      (C8.pss_cut (ps_if (PW.pt (pw_and (pt_cmpR op_eq (pv 3) (pv 5) (nomark _)) (pw_and1 (pt_cmpR op_gt (pe_call G__law_draw hr__law_draw rfl m__law_draw k__law_draw b__law_draw .nil pass0 (pa_cons (pv 0) (pa_cons pe_int pa_nil))) pe_int (nomark _)))))
      (pss_one (ps_set (i := 6) sc__law_posts.nd rfl (Or.inl rfl) pe_int))
      pss_nil)
      (pss_one (ps_expr (pe_bm PySem.F.plainAttrs_list PySem.F.slot_list_append PySem.F.type_list_append mt_append (pv 4) (pa_cons (pv 6) pa_nil)))))))
      (pss_one (ps_expr (pe_bm PySem.F.plainAttrs_list PySem.F.slot_list_append PySem.F.type_list_append mt_append (pv 2) (pa_cons (pv 4) pa_nil)))))))
      (pss_one (ps_ret (pv 2))))), ?_⟩
    refine ⟨(by show 0 ≤ sizeLine; decide), fun l nl => ?_⟩
    have nld := D.ne nl
    have nlc := D.nc nl
    walk_at "rr"
    refine for_range (lo := 0) (n := n.toNat) (fun i σ' G => ∃ (as : List Addr) (rows : List (List Int)) (o3 o4 o5 o6 : Option V), σ' = [some (.ref d), some (.int n), some (.ref l), o3, o4, o5, o6] ∧ RowsL G l as rows ∧ (∀ a ∈ as, H a = none) ∧ (∀ a ∈ as, a ≠ l) ∧ rows.length = i ∧ RowsOk rows ∧ Keep d H G ∧ Dice c G d)
      ⟨[], [], none, none, none, none, rfl, ⟨upd_same, .nil⟩, by simp, by simp, rfl, by simp [RowsOk], same_keep (same_new nl), D.upd nld nlc⟩ ?_ ?_
    · rintro i σ' G hi ⟨as, rows, o3, o4, o5, o6, rfl, RL, hf, hal, hl, rok, kG, DG⟩
      refine ⟨(by show 0 ≤ sizeLine; decide), fun e ne => ?_⟩
      have ned := DG.ne ne
      have neH := kG.free ned ne
      have RL1 : RowsL (upd G e (.lst [])) l as rows := ⟨(upd_ne (ne_of_none RL.lst ne)).trans RL.lst, prd_imp RL.each fun a b h => (upd_ne (ne_of_none h ne)).trans h⟩
      have nea : ∀ a ∈ as, a ≠ e := fun a m z => by
        obtain ⟨j, hj⟩ := List.getElem?_of_mem m
        obtain ⟨r, _, h2⟩ := prd_at1 RL.each hj
        rw [z, ne] at h2; cases h2
      have nel : l ≠ e := ne_of_none RL.lst ne
      have he : (upd G e (.lst [])) e = some (.lst (([] : List Int).map V.int)) := upd_same
      have kG1 : Keep d H (upd G e (.lst [])) := kG.mut neH
      have DG1 : Dice c (upd G e (.lst [])) d := DG.upd ned (DG.nc ne)
      generalize upd G e (.lst []) = G1 at *
      refine ⟨_, rfl, _, rfl, d, c, n, 8, rfl, DG1, by decide, by decide, n0, n8, fun v G2 v1 v2 k2 D2 => ?_⟩
      walk_at "rr"
      have he2 := k2 _ _ ned he
      have RL2 : RowsL G2 l as rows := ⟨k2 _ _ nld RL1.lst, prd_mem RL1.each fun a m r h => k2 _ _ (fun z => by obtain ⟨o, q⟩ := D.some; rw [← z, hf a m] at q; cases q) h⟩
      refine for_range (lo := 0) (n := v.toNat) (fun j σ' G => ∃ (r : List Int) (o5 o6 : Option V), σ' = [some (.ref d), some (.int n), some (.ref l), some (.int (0 + (i : Nat))), some (.ref e), o5, o6] ∧ G e = some (.lst (r.map V.int)) ∧ r.length = j ∧ (∀ x ∈ r, InN x) ∧ RowsL G l as rows ∧ Keep d H G ∧ Dice c G d)
        ⟨[], _, _, rfl, he2, rfl, by simp, RL2, kG1.trans k2, D2⟩ ?_ ?_
      · rintro j σ' G3 hj ⟨r, o5, o6, rfl, he3, rl, rin, RL3, k3, D3⟩
        refine ⟨_, rfl, d, c, rfl, D3, fun x G4 hx k4 D4 => ?_⟩
        have he4 := k4 _ _ ned he3
        have RL4 : RowsL G4 l as rows := ⟨k4 _ _ nld RL3.lst, prd_mem RL3.each fun a m r h => k4 _ _ (fun z => by obtain ⟨o, q⟩ := D.some; rw [← z, hf a m] at q; cases q) h⟩
        have k34 := k3.trans k4
        refine ⟨fun σ' G => (∃ (x : Int), σ' = [some (.ref d), some (.int n), some (.ref l), some (.int (0 + (i : Nat))), some (.ref e), some (.int (0 + (j : Nat))), some (.int x)] ∧ InN x) ∧ G e = some (.lst (r.map V.int)) ∧ RowsL G l as rows ∧ Keep d H G ∧ Dice c G d, ?_, ?_⟩
        · walk_at "rr"
          refine ite2 (fun g => ?_) (fun g => ?_)
          · refine ⟨_, rfl, d, c, 60, rfl, D4, by decide, by decide, fun u G5 u0 u1 k5 D5 => ?_⟩
            have he5 := k5 _ _ ned he4
            have RL5 : RowsL G5 l as rows := ⟨k5 _ _ nld RL4.lst, prd_mem RL4.each fun a m r h => k5 _ _ (fun z => by obtain ⟨o, q⟩ := D.some; rw [← z, hf a m] at q; cases q) h⟩
            walk_at "rr"
            refine ite2 (fun g => ?_) (fun g => ?_)
            · exact ⟨⟨_, rfl, by decide, by decide⟩, he5, RL5, k34.trans k5, D5⟩
            · exact ⟨⟨_, rfl, hx⟩, he5, RL5, k34.trans k5, D5⟩
          · refine ite2 (fun g => nomatch g) (fun _ => ?_)
            exact ⟨⟨_, rfl, hx⟩, he4, RL4, k34, D4⟩
        rintro σ' G6 ⟨⟨y, rfl, hy⟩, he6, RL6, k6, D6⟩
        refine ⟨_, rfl, .inl ⟨rfl, _, SqL.of he6⟩, _, rfl, e, _, _, rfl, rfl, he6, ?_, r ++ [y], _, _, rfl, ?_, ?_, ?_, ⟨(upd_ne nel).trans RL6.lst, prd_mem RL6.each fun a m r h => (upd_ne (nea a m)).trans h⟩, k6.mut neH, D6.upd ned (by rw [show c = d by obtain ⟨_, _, _, _, _, _, q, _⟩ := D.ex; exact q]; exact ned)⟩
        · rw [List.length_map]; exact small1000 (by omega)
        · rw [upd_same, List.map_append]; rfl
        · rw [List.length_append, rl]; rfl
        · intro x mx
          rcases List.mem_append.mp mx with q | q
          · exact rin x q
          · rw [List.mem_singleton.mp q]; exact hy
      · rintro σ' G3 ⟨r, o5, o6, rfl, he3, rl, rin, RL3, k3, D3⟩
        refine ⟨_, rfl, .inl ⟨rfl, _, SqL.of RL3.lst⟩, _, rfl, l, _, _, rfl, rfl, RL3.lst, ?_, as ++ [e], rows ++ [r], _, _, _, _, rfl, ⟨?_, ?_⟩, ?_, ?_, ?_, ?_, k3.mut nl, D3.upd nld nlc⟩
        · rw [List.length_map, Paired.length RL3.each]; exact small1000 (by omega)
        · rw [upd_same, List.map_append]; rfl
        · refine Paired.snoc (prd_mem RL3.each fun a m r h => (upd_ne (hal a m)).trans h) ((upd_ne nel.symm).trans he3)
        · intro a m
          rcases List.mem_append.mp m with q | q
          · exact hf a q
          · rw [List.mem_singleton.mp q]; exact neH
        · intro a m
          rcases List.mem_append.mp m with q | q
          · exact hal a q
          · rw [List.mem_singleton.mp q]; exact nel.symm
        · rw [List.length_append, hl]; rfl
        · intro x mx
          rcases List.mem_append.mp mx with q | q
          · exact rok x q
          · rw [List.mem_singleton.mp q]; exact ⟨by omega, by omega, rin⟩
    · rintro σ' G ⟨as, rows, o3, o4, o5, o6, rfl, RL, hf, hal, hl, rok, kG, DG⟩
      walk_at "rr"
      exact k l as rows G kG DG nl RL hf (by omega) rok
theorem ok__law_items (T : Top K mg) : Ok P w K mg base 3 "_law_items" ["stock", "posts"] spItemsD := by
  refine ok_of T.d__law_items sc__law_items (fun vs H Q E h => ?_) (fun f cdv A outer s H vs Q E hr h => ?_)
  · obtain ⟨d, c, n, rfl, _⟩ := h
    rfl
  · obtain ⟨d, c, n, rfl, D, n0, n8, k⟩ := h
    obtain ⟨f__law_draw, fd__law_draw, m__law_draw, k__law_draw, b__law_draw, G__law_draw⟩ := ok__law_draw (P := P) (w := w) (base := base) T
    have hr__law_draw : Room 1 _ := hr.mono (by decide)
    obtain ⟨f__law_size, fd__law_size, m__law_size, k__law_size, b__law_size, G__law_size⟩ := ok__law_size (P := P) (w := w) (base := base) T
    have hr__law_size : Room 2 _ := hr.mono (by decide)
    obtain ⟨f__law_price, fd__law_price, m__law_price, k__law_price, b__law_price, G__law_price⟩ := ok__law_price (P := P) (w := w) (base := base) T
    have hr__law_price : Room 2 _ := hr.mono (by decide)
    refine ⟨_, (pss_cons (ps_set (i := 2) sc__law_items.nd rfl (Or.inl rfl) (pe_call G__law_draw hr__law_draw rfl m__law_draw k__law_draw b__law_draw .nil pass0 (pa_cons (pv 0) (pa_cons pe_int pa_nil))))
      (pss_cons (ps_set (i := 3) sc__law_items.nd rfl (Or.inl rfl) (pe_lst pa_nil))
      (pss_cons (ps_for PassesOwn.never rfl (pi_range1 (by rfl) T.b_range (pa_cons (pe_call G__law_size hr__law_size rfl m__law_size k__law_size b__law_size .nil pass0 (pa_cons (pv 0) (pa_cons (pv 1) (pa_cons pe_int pa_nil)))) pa_nil)) (pg_name (i := 4) sc__law_items.nd rfl (Or.inl rfl))
      (pss_cons (ps_set (i := 5) sc__law_items.nd rfl (Or.inl rfl) (pe_call G__law_price hr__law_price rfl m__law_price k__law_price b__law_price .nil pass0 (pa_cons (pv 0) pa_nil)))
      (C8.pss_cut (ps_if (pt_cmpR op_lt (pe_call G__law_draw hr__law_draw rfl m__law_draw k__law_draw b__law_draw .nil pass0 (pa_cons (pv 0) (pa_cons pe_int pa_nil))) (pv 2) (nomark _))
      (pss_one (ps_set (i := 5) sc__law_items.nd rfl (Or.inl rfl) pe_non))
      pss_nil)
      (pss_one (ps_expr (pe_bm PySem.F.plainAttrs_list PySem.F.slot_list_append PySem.F.type_list_append mt_append (pv 3) (pa_cons (pv 5) pa_nil)))))))
      (pss_one (ps_ret (pv 3)))))), ?_⟩
    refine ⟨_, rfl, d, c, 4, rfl, D, by decide, by decide, fun h4 H1 h0 h1 k1 D1 => ?_⟩
    refine ⟨(by show 0 ≤ sizeLine; decide), fun e ne => ?_⟩
    have ned := D1.ne ne
    have neH := k1.free ned ne
    have he : (upd H1 e (.lst [])) e = some (.lst (([] : List (Option Int)).map vO)) := upd_same
    have kG1 : Keep d H (upd H1 e (.lst [])) := k1.mut neH
    have DG1 : Dice c (upd H1 e (.lst [])) d := D1.upd ned (D1.nc ne)
    generalize upd H1 e (.lst []) = G1 at *
    refine ⟨_, rfl, _, rfl, d, c, n, 8, rfl, DG1, by decide, by decide, n0, n8, fun v G2 v1 v2 k2 D2 => ?_⟩
    walk_at "rr"
    have he2 := k2 _ _ ned he
    refine for_range (lo := 0) (n := v.toNat) (fun j σ' G => ∃ (r : List (Option Int)) (o4 o5 : Option V), σ' = [some (.ref d), some (.int n), some (.int h4), some (.ref e), o4, o5] ∧ G e = some (.lst (r.map vO)) ∧ r.length = j ∧ (∀ o ∈ r, ∀ i, o = some i → InN i) ∧ Keep d H G ∧ Dice c G d)
      ⟨[], _, _, rfl, he2, rfl, by simp, kG1.trans k2, D2⟩ ?_ ?_
    · rintro j σ' G3 hj ⟨r, o4, o5, rfl, he3, rl, rin, k3, D3⟩
      refine ⟨_, rfl, d, c, rfl, D3, fun x G4 hx k4 D4 => ?_⟩
      have he4 := k4 _ _ ned he3
      have k34 := k3.trans k4
      refine ⟨fun σ' G => (∃ (o : Option Int), σ' = [some (.ref d), some (.int n), some (.int h4), some (.ref e), some (.int (0 + (j : Nat))), some (vO o)] ∧ ∀ i, o = some i → InN i) ∧ G e = some (.lst (r.map vO)) ∧ Keep d H G ∧ Dice c G d, ?_, ?_⟩
      · refine ⟨_, rfl, d, c, 4, rfl, D4, by decide, by decide, fun u G5 u0 u1 k5 D5 => ?_⟩
        have he5 := k5 _ _ ned he4
        walk_at "rr"
        refine ite2 (fun g => ?_) (fun g => ?_)
        · exact ⟨⟨none, rfl, fun i e => nomatch e⟩, he5, k34.trans k5, D5⟩
        · exact ⟨⟨some x, rfl, fun i e => by cases e; exact hx⟩, he5, k34.trans k5, D5⟩
      rintro σ' G6 ⟨⟨y, rfl, hy⟩, he6, k6, D6⟩
      refine ⟨_, rfl, .inl ⟨rfl, _, SqL.of he6⟩, _, rfl, e, _, _, rfl, rfl, he6, ?_, r ++ [y], _, _, rfl, ?_, ?_, ?_, k6.mut neH, D6.upd ned (by rw [show c = d by obtain ⟨_, _, _, _, _, _, q, _⟩ := D.ex; exact q]; exact ned)⟩
      · rw [List.length_map]; exact small1000 (by omega)
      · rw [upd_same, List.map_append]; rfl
      · rw [List.length_append, rl]; rfl
      · intro x mx
        rcases List.mem_append.mp mx with q | q
        · exact rin x q
        · rw [List.mem_singleton.mp q]; exact hy
    · rintro σ' G3 ⟨r, o4, o5, rfl, he3, rl, rin, k3, D3⟩
      walk_at "rr"
      exact k e r G3 k3 D3 neH he3 ⟨by omega, by omega, rin⟩
theorem ok_System_requests (T : Top K mg) : OkP P w K mg base 1 T.c_System "requests" (spReqsP T.c_System) := by
  refine okP_of T.p_System_requests sc_System_requests (fun vs H Q E h => ?_) (fun f cdv A outer s H vs Q E hr h => ?_)
  · obtain ⟨p, S, rfl, _⟩ := h
    rfl
  · obtain ⟨p, S, rfl, ok, SA, k⟩ := h
    skip
    have hu := hu_of hr
    obtain ⟨dx, mv, na, wv, q, kvs, hp, h2, h3, h4, hq, hR⟩ := SA.ex
    have r5 := ok.r5
    have ndy := ok.nd
    refine ⟨_, (pss_one (ps_ret (pe_dc (own := [("name", 1)]) (g := gName 1) rfl sc_System_requests.nd (pi_tup (pe_fld (pv 0) rfl)) (blkOk_by (own := [("name", 1)]) (N := ["self", "name"]) (sc := defScope s_System_requests) (by decide +kernel)) (fun _ _ _ _ _ => (pg_name (i := 1) sc_System_requests.nd rfl (Or.inl rfl))) (fun _ _ _ _ _ => pts_nil) (fun _ _ _ _ _ => (pv 1)) (fun _ _ _ _ _ => (pe_dget hu (pe_fld (pv 0) rfl : PE _ _ (tFld K _ _)) (pv 1) (fun _ _ => rfl)))))), ?_⟩
    refine ⟨_, rfl, p, T.c_System, dx, _, _, rfl, hp, T.cl_System, T.na_System_names, sfs_names, na, rfl, ⟨_, SqT.of h3⟩, fun D nD => ?_⟩
    refine dc_tup (K := K) (a := na) (xs := (S.rs.map (·.1)).map V.str) (fun i G => ∃ kv', G D = some (.dK kv') ∧ DctOf OptT G kv' (S.rs.take i) ∧ Same H G) ⟨[], upd_same, .nil, same_new nD⟩ (fun i G _ ⟨_, _, _, s⟩ => SqT.of (s _ _ h3)) ?_ ?_
    · rintro i x G hi ⟨kv', e1, e2, e3⟩
      obtain ⟨z, hz, rfl⟩ := map_at hi
      rw [List.getElem?_map] at hz
      obtain ⟨⟨z', row⟩, hzr, rfl⟩ := Option.map_eq_some_iff.mp hz
      have il := (List.getElem?_eq_some_iff.mp hzr).1
      obtain ⟨v, hv, hO⟩ := dct_some hR ndy (List.mem_of_getElem? hzr)
      have hG : ∀ e xs, H e = some (.tup xs) → G e = some (.tup xs) := fun e xs h => e3 _ _ h
      refine ⟨rfl, ?_⟩
      refine yesT ?_
      refine ⟨_, rfl, _, rfl, p, T.c_System, dx, _, _, rfl, e3 _ _ hp, T.cl_System, T.na_System__requests, sfs_requests, _, rfl, q, v, rfl, (by rw [← hv]; exact DGet.k (k := Sum.inr z') (e3 _ _ hq)), ?_⟩
      have hno : ¬ z' ∈ (S.rs.take i).map (·.1) := by
        rw [List.map_take]; exact take_nmem ndy (by rw [List.getElem?_map, hzr]; rfl)
      refine ⟨kv', .inr z', rfl, e1, ?_, ?_⟩
      · rw [dct_len e2, List.length_take]; exact small1000 (by omega)
      rw [putK_new _ (dct_none e2 hno)]
      have hF : ∀ e xs, G e = some (.tup xs) → (upd G D (.dK (kv' ++ [(Sum.inr z', v)]))) e = some (.tup xs) := fun e xs q => (upd_ne (ne_of q e1 (by intro z; cases z))).trans q
      refine ⟨_, upd_same, ?_, same_upd e3 nD⟩
      rw [List.take_add_one, hzr]
      exact Paired.snoc (e2.firm OptT.firm hF) ⟨rfl, OptT.firm G _ _ _ hF (OptT.firm H _ _ _ hG hO)⟩
    · rintro G ⟨kv', e1, e2, e3⟩
      rw [List.length_map, List.length_map, List.take_length] at e2
      exact k D kv' G e3 nD e1 e2
end
end Toy

namespace Toy
open PySem PySem.Spec PyProof.Rows L2
local macro_rules | `(tactic| walk_at "hp") => `(tactic| first
  | assumption
  | exact upd_same
  | (refine Eq.trans (upd_ne (by first | assumption | (apply Ne.symm; assumption))) ?_; walk_at "hp"))
local macro_rules | `(tactic| walk_at "side") => `(tactic| first
  | exact .inl ⟨by omega, by omega⟩
  | exact .inr ⟨by omega, by omega⟩
  | exact ⟨by omega, by omega⟩
  | (show _ ≤ _; omega)
  | (show (_ : Int) < _; omega)
  | decide
  | assumption)
local macro_rules | `(tactic| walk_at "r") => `(tactic| first
  | refine ⟨_, rfl, ?_⟩
  | refine ⟨_, _, rfl, rfl, ?_⟩
  | refine ⟨_, _, _, _, rfl, rfl, SqL.of (by walk_at "hp"), rfl, ?_⟩
  | refine ⟨_, _, _, _, rfl, rfl, SqT.of (by walk_at "hp"), rfl, ?_⟩
  | refine ⟨_, _, _, _, rfl, rfl, (by walk_at "hp"), rfl, ?_⟩
  | refine And.intro rfl ?_
  | refine ⟨_, _, rfl, SqT.of (by walk_at "hp"), ?_⟩
  | refine ⟨_, _, rfl, SqL.of (by walk_at "hp"), ?_⟩
  | refine .inl ⟨_, rfl, ?_⟩
  | refine ⟨_, _, rfl, .inl (SqL.of (by walk_at "hp")), ?_⟩
  | refine ⟨_, _, rfl, .inr (SqT.of (by walk_at "hp")), ?_⟩
  | refine ⟨_, _, rfl, .inl ⟨SqL.of (by walk_at "hp"), ?_⟩⟩
  | refine And.intro (.inl ⟨rfl, _, SqL.of (by walk_at "hp")⟩) ?_
  | refine ⟨_, _, _, rfl, rfl, (by walk_at "hp"), ?_⟩
  | refine ⟨_, _, rfl, (by walk_at "hp"), ?_⟩
  | refine And.intro (by walk_at "side") ?_)
local macro_rules | `(tactic| walk_at "rr") => `(tactic| (repeat walk_at "r"))
local macro_rules | `(tactic| walk_at "k") => `(tactic| first
  | refine ite2 (fun _ => ?_) (fun g => absurd rfl g)
  | refine ite2 (fun g => absurd g (by decide)) (fun _ => ?_)
  | refine ite2 (fun _ => ?_) (fun g => absurd (decide_eq_true (by omega)) g)
  | refine ite2 (fun g => absurd (of_decide_eq_true g) (by omega)) (fun _ => ?_)
  | refine ite2 (fun g => (nd_t g (by omega)).elim) (fun _ => ?_)
  | refine ite2 (fun _ => ?_) (fun g => absurd (nd_f g) (by omega)))
local macro_rules | `(tactic| walk_at "rk") => `(tactic| (repeat (first | walk_at "r" | walk_at "k")))
open Classical in
/-- what a system's parts deserve -/
noncomputable def dueS (ps : List (List Int)) (rs : List (Str × List (Option Int))) : Str := if MovesOk ps then (if ReqsOk (ps.length : Nat) rs then "" else "requests") else "moves"
open Classical in
noncomputable def dueM (ts : List (List (Str × Int))) : Str := if TurnsOk ts then "" else "machine"
theorem dueS_m {ps : List (List Int)} {rs : List (Str × List (Option Int))} (h : ¬ MovesOk ps) : dueS ps rs = "moves" := by unfold dueS; rw [if_neg h]
theorem dueS_r {ps : List (List Int)} {rs : List (Str × List (Option Int))} (h : MovesOk ps) (g : ¬ ReqsOk (ps.length : Nat) rs) : dueS ps rs = "requests" := by unfold dueS; rw [if_pos h, if_neg g]
theorem dueS_ok {ps : List (List Int)} {rs : List (Str × List (Option Int))} (h : MovesOk ps) (g : ReqsOk (ps.length : Nat) rs) : dueS ps rs = "" := by unfold dueS; rw [if_pos h, if_pos g]
/-- requests whose items stand in lists -/
def OptL (H : Hp) (v : V) (xs : List (Option Int)) : Prop := ∃ a, v = .ref a ∧ H a = some (.lst (xs.map vO))
structure ReqsR (rs : List (Str × List (Option Int))) : Prop where
  nd : (rs.map (·.1)).Nodup
  hi : rs.length ≤ 6
  row : ∀ p ∈ rs, Name 8 p.1 ∧ ItemsOk p.2
def spDueS : Sp := fun vs H Q _ => ∃ (l q : Addr) (as : List Addr) (rows : List (List Int)) (kvs : List (Key × V)) (rs : List (Str × List (Option Int))), vs = [.ref l, .ref q] ∧ RowsL H l as rows ∧ RowsOk rows ∧ rows.length ≤ 8 ∧
  H q = some (.dK kvs) ∧ DctOf OptL H kvs rs ∧ ReqsR rs ∧ ∀ G, Same H G → Q (.str (dueS rows rs)) G
def spDueM : Sp := fun vs H Q _ => ∃ (l : Addr) (ds : List Addr) (ts : List (List (Str × Int))), vs = [.ref l] ∧ H l = some (.lst (ds.map V.ref)) ∧ Paired (fun d r => H d = some (.dK (tkv r))) ds ts ∧ TurnsR ts ∧ ∀ G, Same H G → Q (.str (dueM ts)) G
def RowFine (n i : Nat) (r : List Int) : Prop := r.length = n ∧ r[i]? = some 0 ∧ ∀ x ∈ r, x ≤ 9
theorem eqv_none (ns : List Int) : PyData.eqv (.list ((ns.map some).map optD)) (.list (([] : List (Option Int)).map optD)) = decide (ns = []) := by
  cases ns <;> rfl
section
variable {P : Program} {w : World} {K : PySem.W.Frag} {mg : Str → Option Value} {base : Heap}
theorem ok__law_due (T : Top K mg) : Ok P w K mg base 1 "_law_due" ["moves", "requests"] spDueS := by
  refine ok_of T.d__law_due sc__law_due (fun vs H Q E h => ?_) (fun f cdv A outer s H vs Q E hr h => ?_)
  · obtain ⟨l, q, as, rows, kvs, rs, rfl, _⟩ := h
    rfl
  · obtain ⟨l, q, as, rows, kvs, rs, rfl, RL, rok, r8, hq, hR, R, k⟩ := h
    skip
    have hu := hu_of hr
    have hu64 := hr.units
    have al : as.length = rows.length := Paired.length RL.each
    refine ⟨_, (pss_cons (ps_set (i := 2) sc__law_due.nd rfl (Or.inl rfl) (pe_callB (id := "len") call_len_seq (by rfl) T.b_len (by decide +kernel) (pa_cons (pv 0) pa_nil)))
      (pss_cons (ps_if (pt_not (pt_chain op_le op_le pe_int (pv 2) pe_int))
      (pss_one (ps_ret pe_str))
      pss_nil)
      (pss_cons (ps_for PassesOwn.never rfl (pi_range1 (by rfl) T.b_range (pa_cons (pv 2) pa_nil)) (pg_name (i := 3) sc__law_due.nd rfl (Or.inl rfl))
      (pss_one (ps_if (PW.pt (pw_or (pt_cmpR op_ne (pe_callB (id := "len") call_len_seq (by rfl) T.b_len (by decide +kernel) (pa_cons (pe_ix ix_list (pv 0) (pv 3) (fun _ _ => rfl)) pa_nil)) (pv 2) (nomark _)) (pw_or (pt_cmpR op_ne (pe_ix ix_list (pe_ix ix_list (pv 0) (pv 3) (fun _ _ => rfl)) (pv 3) (fun _ _ => rfl)) pe_int (nomark _)) (pw_or1 (pt_cmpR op_gt (pe_callB (id := "max") (cr_max rfl) (by rfl) T.b_max (by decide +kernel) (pa_cons (pe_ix ix_list (pv 0) (pv 3) (fun _ _ => rfl)) pa_nil)) pe_int (nomark _))))))
      (pss_one (ps_ret pe_str))
      pss_nil)))
      (pss_cons (ps_if (pt_not (pt_chain op_le op_le pe_int (pe_callB (id := "len") call_lenD (by rfl) T.b_len (by decide +kernel) (pa_cons (pv 1) pa_nil)) pe_int))
      (pss_one (ps_ret pe_str))
      pss_nil)
      (pss_cons (ps_lock (ps_for PassesOwn.never rfl (pi_keys (pv 1)) (pg_name (i := 4) sc__law_due.nd rfl (Or.inl rfl))
      (pss_cons (ps_setLc (i := 5) (own := [("item", 6)]) (g := gName 6) rfl sc__law_due.nd rfl rfl (sw_true rfl rfl rfl (by decide +kernel)) (pi_list (pe_dget hu (pv 1) (pv 4) (fun _ _ => rfl))) (blkOk_by (own := [("item", 6)]) (N := ["moves", "requests", "posts", "a", "name", "prices", "item"]) (sc := defScope s__law_due) (by decide +kernel)) (fun _ _ _ _ _ => (pg_name (i := 6) sc__law_due.nd rfl (Or.inl rfl))) (fun _ _ _ _ _ => (pts_one (pt_cmpR op_notN (pv 6) pe_non (nomark _)))) (fun _ _ _ _ _ => (pv 6)))
      (pss_one (ps_if (PW.pt (pw_or (pt_cmpR op_ne (pe_callB (id := "len") call_len_seq (by rfl) T.b_len (by decide +kernel) (pa_cons (pe_dget hu (pv 1) (pv 4) (fun _ _ => rfl)) pa_nil)) (pv 2) (nomark _)) (pw_or (pt_cmpR (op_eqD hu64) (pv 5) (pe_lst pa_nil) (nomark _)) (pw_or1 (pt_cmpR op_gt (pe_callB (id := "max") (cr_max rfl) (by rfl) T.b_max (by decide +kernel) (pa_cons (pv 5) pa_nil)) pe_int (nomark _))))))
      (pss_one (ps_ret pe_str))
      pss_nil)))))
      (pss_one (ps_ret pe_str))))))), ?_⟩
    refine ⟨_, rfl, l, _, rfl, .inl (SqL.of RL.lst), ?_⟩
    rw [List.length_map, al]
    walk_at "rr"
    have big : 1 ≤ rows.length ∧ rows.length ≤ 6 ∨ ¬ MovesOk rows := by
      by_cases h : 1 ≤ rows.length ∧ rows.length ≤ 6
      · exact .inl h
      · exact .inr fun m => h ⟨m.1, m.2.1⟩
    have outM : ∀ {G : Hp}, Same H G → ¬ MovesOk rows → Q (.str "moves") G := fun {G} s n => by
      have := k G s
      rw [dueS_m n] at this
      exact this
    have outR : ∀ {G : Hp}, Same H G → MovesOk rows → ¬ ReqsOk (rows.length : Nat) rs → Q (.str "requests") G := fun {G} s m n => by
      have := k G s
      rw [dueS_r m n] at this
      exact this
    have outO : ∀ {G : Hp}, Same H G → MovesOk rows → ReqsOk (rows.length : Nat) rs → Q (.str "") G := fun {G} s m n => by
      have := k G s
      rw [dueS_ok m n] at this
      exact this
    refine ite2 (fun g => ?_) (fun g => ?no)
    case no =>
      have g : ¬ (1 : Int) ≤ rows.length := fun e => g (decide_eq_true e)
      refine ⟨_, rfl, ?_⟩
      refine ite2 (fun _ => ?_) (fun g => absurd rfl g)
      exact outM (Same.refl _) fun m => g (by have := m.1; omega)
    have g1 : (1 : Int) ≤ rows.length := of_decide_eq_true g
    clear g
    refine ⟨_, _, rfl, rfl, _, rfl, ?_⟩
    refine ite2 (fun g => ?_) (fun g => ?_)
    · have g : ¬ (rows.length : Int) ≤ 6 := fun e => by rw [decide_eq_true e] at g; cases g
      exact outM (Same.refl _) fun m => g (by have := m.2.1; omega)
    have g6 : (rows.length : Int) ≤ 6 := by
      by_cases e : (rows.length : Int) ≤ 6
      · exact e
      · exact absurd (by rw [decide_eq_false e]; rfl) g
    clear g
    walk_at "rr"
    refine for_range (lo := 0) (n := (rows.length : Int).toNat) (fun i σ' G => G = H ∧ (∃ o3 : Option V, σ' = [some (.ref l), some (.ref q), some (.int rows.length), o3, none, none, none]) ∧ ∀ j r, j < i → rows[j]? = some r → RowFine rows.length j r)
      ⟨rfl, ⟨none, rfl⟩, fun j r h => absurd h (Nat.not_lt_zero _)⟩ ?_ ?_
    · rintro i σ' G hi ⟨rfl, ⟨o3, rfl⟩, hf⟩
      obtain ⟨row, hrow⟩ : ∃ r, rows[i]? = some r := ⟨_, List.getElem?_eq_getElem (by omega)⟩
      obtain ⟨a, ha, era⟩ := prd_at2 RL.each hrow
      obtain ⟨rl1, rl9, rin⟩ := rok row (List.mem_of_getElem? hrow)
      have hat : atI (as.map V.ref) ((i : Nat) : Int) = some (.ref a) := atI_nat (by rw [List.getElem?_map, ha]; rfl)
      have no : ¬ RowFine rows.length i row → ¬ MovesOk rows := fun n m => n ⟨by
        have := (m.2.2.row row (List.mem_of_getElem? hrow)).1
        omega, m.2.2.diag i row hrow, fun x mx => ((m.2.2.row row (List.mem_of_getElem? hrow)).2 x mx).2⟩
      rw [Int.zero_add]
      refine ⟨_, rfl, _, rfl, l, _, (i : Nat), .ref a, rfl, rfl, SqL.of RL.lst, hat, ?_⟩
      refine ⟨a, _, rfl, .inl (SqL.of era), ?_⟩
      walk_at "rr"
      rw [List.length_map]
      refine ite2 (fun g => ?_) (fun g => ?_)
      · exact outM (Same.refl _) (no fun F => nd_t g (congrArg V.int (by have := F.1; omega)))
      have eln : (row.length : Int) = rows.length := V.int.inj (nd_f g)
      obtain ⟨z, hz⟩ : ∃ z, row[i]? = some z := ⟨_, List.getElem?_eq_getElem (by omega)⟩
      have haz : atI (row.map V.int) ((i : Nat) : Int) = some (.int z) := atI_nat (by rw [List.getElem?_map, hz]; rfl)
      refine ⟨_, rfl, _, rfl, l, _, (i : Nat), .ref a, rfl, rfl, SqL.of RL.lst, hat, _, rfl, a, _, (i : Nat), .int z, rfl, rfl, SqL.of era, haz, ?_⟩
      walk_at "rr"
      refine ite2 (fun g2 => ?_) (fun g2 => ?_)
      · exact outM (Same.refl _) (no fun F => nd_t g2 (congrArg V.int (by have := F.2.1; rw [hz] at this; exact Option.some.inj this)))
      have ez : z = 0 := V.int.inj (nd_f g2)
      refine ⟨_, rfl, _, rfl, l, _, (i : Nat), .ref a, rfl, rfl, SqL.of RL.lst, hat, a, row, rfl, SqL.of era, by omega, fun m mm mx => ?_⟩
      walk_at "rr"
      refine ite2 (fun g3 => ?_) (fun g3 => ?_)
      · have g3 := of_decide_eq_true g3
        exact outM (Same.refl _) (no fun F => by have := F.2.2 m mm; omega)
      refine ⟨rfl, ⟨_, rfl⟩, fun j r hj hjr => ?_⟩
      rcases Nat.lt_or_eq_of_le (Nat.le_of_lt_succ hj) with lt | rfl
      · exact hf j r lt hjr
      · have er : row = r := by rw [hrow] at hjr; exact Option.some.inj hjr
        subst er
        refine ⟨by omega, by rw [hz, ez], fun x mxx => ?_⟩
        have h1 := mx x mxx
        have h2 : ¬ m > 9 := fun e => g3 (decide_eq_true e)
        omega
    · rintro σ' G ⟨rfl, ⟨o3, rfl⟩, hf⟩
      have mok : MovesOk rows := by
        refine ⟨by omega, by omega, rfl, fun r mr => ?_, fun i r hi => ?_⟩
        · obtain ⟨j, hj⟩ := List.getElem?_of_mem mr
          have jl := (List.getElem?_eq_some_iff.mp hj).1
          have := hf j r (by omega) hj
          obtain ⟨_, _, rin⟩ := rok r mr
          exact ⟨by rw [this.1], fun x mx => ⟨(rin x mx).1, this.2.2 x mx⟩⟩
        · have jl := (List.getElem?_eq_some_iff.mp hi).1
          exact (hf i r (by omega) hi).2.1
      have kl := dct_len hR
      have r6 := R.hi
      walk_at "rr"
      refine ite2 (fun g => ?_) (fun g => ?no)
      case no =>
        have g : ¬ (1 : Int) ≤ kvs.length := fun e => g (decide_eq_true e)
        refine ⟨_, rfl, ?_⟩
        refine ite2 (fun _ => ?_) (fun g => absurd rfl g)
        exact outR (Same.refl _) mok fun m => g (by have := m.1; omega)
      have q1 : (1 : Int) ≤ kvs.length := of_decide_eq_true g
      clear g
      refine ⟨_, _, rfl, rfl, _, rfl, ?_⟩
      refine ite2 (fun g => ?_) (fun g => ?_)
      · have g : ¬ (kvs.length : Int) ≤ 5 := fun e => by rw [decide_eq_true e] at g; cases g
        exact outR (Same.refl _) mok fun m => g (by have := m.2.1; omega)
      have q5 : (kvs.length : Int) ≤ 5 := by
        by_cases e : (kvs.length : Int) ≤ 5
        · exact e
        · exact absurd (by rw [decide_eq_false e]; rfl) g
      clear g
      refine ⟨q, _, hq, True.intro, fun od => ?_⟩
      have hback : Same G (upd (upd G q (.frz od (.dK kvs))) q (.dK kvs)) := fun b o e => by
        rw [upd_upd]
        by_cases eb : b = q
        · subst eb; rw [upd_same, ← e, hq]
        · rw [upd_ne eb]; exact e
      have hfd : (upd G q (.frz od (.dK kvs))) q = some (.frz od (.dK kvs)) := upd_same
      have hR1 : DctOf OptL (upd G q (.frz od (.dK kvs))) kvs rs := prd_imp hR fun x y ⟨e, a, ea, h⟩ => ⟨e, a, ea, (upd_ne (ne_of h hq (by intro z; cases z))).trans h⟩
      have hback2 : ∀ {G2 : Hp}, Same (upd G q (.frz od (.dK kvs))) G2 → Same G (upd G2 q (.dK kvs)) := fun {G2} s b o e => by
        by_cases eb : b = q
        · subst eb; rw [upd_same, ← e, hq]
        · rw [upd_ne eb]; exact s _ _ ((upd_ne eb).trans e)
      generalize upd G q (.frz od (.dK kvs)) = G1 at *
      refine ⟨_, rfl, q, od, rfl, .inl ⟨kvs, hfd, ?_⟩⟩
      refine for_it walk_keys (fun i σ' G2 => Same G1 G2 ∧ (∃ o3 o4 o5 : Option V, σ' = [some (.ref l), some (.ref q), some (.int rows.length), o3, o4, o5, none]) ∧ ∀ p ∈ rs.take i, Prices (rows.length : Nat) 9 p.2) ⟨Same.refl _, ⟨_, _, _, rfl⟩, by simp⟩ (fun i σ' G2 _ h => h.1 _ _ hfd) ?_ ?_
      · rintro i x σ' G2 G3 hi ⟨s2, ⟨o3, o4, o5, rfl⟩, hp⟩ ⟨rfl, ky, v, hkv, rfl⟩
        obtain ⟨⟨z, row⟩, hrow, ek, _⟩ := prd_at1 hR1 hkv
        have ek : ky = .inr z := ek
        subst ek
        have hm := List.mem_of_getElem? hrow
        obtain ⟨nm, it1, it9, itin⟩ := R.row _ hm
        have it9 : row.length ≤ 9 := it9
        obtain ⟨v', hv', ra, rfl, hra1⟩ := dct_some hR1 R.nd hm
        have hra := s2 _ _ hra1
        have hfd2 := s2 _ _ hfd
        have no : ¬ Prices (rows.length : Nat) 9 row → ¬ ReqsOk (rows.length : Nat) rs := fun n m => n (m.2.2 _ hm)
        have get : ∀ {G : Hp}, Same G1 G → G q = some (.frz od (.dK kvs)) := fun {G} s => s _ _ hfd
        refine ⟨_, rfl, _, rfl, q, .ref ra, rfl, .inl ⟨kvs, .inr z, .inr ⟨od, hfd2⟩, rfl, hv'.symm⟩, ra, rfl, ⟨_, SqL.of hra⟩, fun D nD => ?_⟩
        refine lc_list (K := K) (a := ra) (xs := row.map vO) (fun i H2 => H2 D = some (.lst (((row.take i).filterMap id).map V.int)) ∧ Same G3 H2) ⟨upd_same, same_new nD⟩ (fun i H2 _ h2 => SqL.of (h2.2 _ _ hra)) ?_ ?_
        · rintro i x H2 hi ⟨e1, e2⟩
          obtain ⟨o, ho, rfl⟩ := map_at hi
          have hil := (List.getElem?_eq_some_iff.mp ho).1
          refine ⟨rfl, ?_⟩
          cases o with
          | none =>
            refine ⟨_, rfl, rfl, _, rfl, ite2 (fun g => absurd g (by decide)) (fun _ => ⟨?_, e2⟩)⟩
            rw [e1, List.take_add_one, ho, List.filterMap_append]
            simp
          | some y =>
            refine ⟨_, rfl, rfl, _, rfl, ite2 (fun _ => ?_) (fun g => absurd rfl g)⟩
            refine ⟨_, rfl, _, e1, ?_, ?_, same_upd e2 nD⟩
            · rw [List.length_map]
              exact small1000 (Nat.le_trans (List.length_filterMap_le _ _) (by rw [List.length_take]; omega))
            · rw [upd_same, List.take_add_one, ho, List.filterMap_append, List.map_append]
              rfl
        rintro G4 ⟨f1, f2⟩
        rw [List.length_map, List.take_length] at f1
        obtain ⟨ns, hns⟩ : ∃ ns, row.filterMap id = ns := ⟨_, rfl⟩
        rw [hns] at f1
        have mem : ∀ y, y ∈ ns ↔ some y ∈ row := fun y => by
          rw [← hns, List.mem_filterMap]
          exact ⟨fun ⟨o, ho, e⟩ => by cases e; exact ho, fun h => ⟨_, h, rfl⟩⟩
        have s4 := s2.trans f2
        refine ⟨_, rfl, _, rfl, q, .ref ra, rfl, .inl ⟨kvs, .inr z, .inr ⟨od, s4 _ _ hfd⟩, rfl, hv'.symm⟩, ra, _, rfl, .inl (SqL.of (s4 _ _ hra1)), _, rfl, rfl, _, rfl, ?_⟩
        rw [List.length_map]
        refine ite2 (fun g => ?_) (fun g => ?_)
        · exact ⟨s4 _ _ hfd, outR (hback2 s4) mok (no fun F => nd_t g (congrArg V.int F.len))⟩
        have eln : (row.length : Int) = rows.length := V.int.inj (nd_f g)
        refine ⟨_, rfl, (by show 0 ≤ sizeLine; decide), fun e ne => ?_⟩
        have s5 : Same G4 (upd G4 e (.lst [])) := same_new ne
        have he : (upd G4 e (.lst [])) e = some (.lst (([] : List (Option Int)).map vO)) := upd_same
        generalize upd G4 e (.lst []) = G5 at *
        have f1' : G5 D = some (.lst ((ns.map some).map vO)) := by
          rw [List.map_map]
          exact s5 _ _ f1
        have s45 := s4.trans s5
        refine ⟨_, _, .lst (SqL.of f1') (tdp_opts _), .lst (SqL.of he) (tdp_opts _), tshaped_opts _, tshaped_opts _, _, rfl, ?_⟩
        rw [eqv_none]
        refine ite2 (fun g => ?_) (fun g => ?_)
        · have g := of_decide_eq_true g
          refine ⟨s45 _ _ hfd, outR (hback2 s45) mok (no fun F => ?_)⟩
          obtain ⟨x, hx⟩ := F.some
          have := (mem x).mpr hx
          rw [g] at this; cases this
        have nne : ns ≠ [] := fun e => g (decide_eq_true e)
        refine ⟨_, rfl, D, ns, rfl, SqL.of (s5 _ _ f1), List.length_pos_iff.mpr nne, fun m mm mx => ?_⟩
        walk_at "rr"
        refine ite2 (fun g3 => ?_) (fun g3 => ?_)
        · have g3 := of_decide_eq_true g3
          exact ⟨s45 _ _ hfd, outR (hback2 s45) mok (no fun F => by have := F.rng m ((mem m).mp mm); omega)⟩
        refine ⟨s45, ⟨_, _, _, rfl⟩, fun p mp => ?_⟩
        rw [List.take_add_one, hrow] at mp
        rcases List.mem_append.mp mp with h | h
        · exact hp p h
        · rw [List.mem_singleton.mp h]
          refine ⟨eln, fun x mx' => ⟨(itin _ mx' x rfl).1, ?_⟩, ⟨m, (mem m).mp mm⟩⟩
          have h1 := mx x ((mem x).mpr mx')
          have h2 : ¬ m > 9 := fun e => g3 (decide_eq_true e)
          omega
      · rintro σ' G2 ⟨s2, ⟨o3, o4, o5, rfl⟩, hp⟩
        refine ⟨s2 _ _ hfd, outO (hback2 s2) mok ⟨by omega, by omega, fun p mp => hp p ?_⟩⟩
        rw [List.take_of_length_le (by omega)]
        exact mp
theorem ok__law_due_machine (T : Top K mg) : Ok P w K mg base 1 "_law_due_machine" ["turns"] spDueM := by
  refine ok_of T.d__law_due_machine sc__law_due_machine (fun vs H Q E h => ?_) (fun f cdv A outer s H vs Q E hr h => ?_)
  · obtain ⟨l, ds, ts, rfl, _⟩ := h
    rfl
  · obtain ⟨l, ds, ts, rfl, hl, hd, R, k⟩ := h
    skip
    have hu := hu_of hr
    have len : ds.length = ts.length := Paired.length hd
    have t20 := R.hi
    have outM : ∀ {G : Hp}, Same H G → ¬ TurnsOk ts → Q (.str "machine") G := fun {G} s n => by
      have := k G s
      rw [show dueM ts = "machine" by unfold dueM; rw [if_neg n]] at this
      exact this
    have outO : ∀ {G : Hp}, Same H G → TurnsOk ts → Q (.str "") G := fun {G} s n => by
      have := k G s
      rw [show dueM ts = "" by unfold dueM; rw [if_pos n]] at this
      exact this
    refine ⟨_, (pss_cons (ps_if (pt_not (pt_chain op_le op_le pe_int (pe_callB (id := "len") call_len_seq (by rfl) T.b_len (by decide +kernel) (pa_cons (pv 0) pa_nil)) pe_int))
      (pss_one (ps_ret pe_str))
      pss_nil)
      (pss_cons (ps_for PassesOwn.never rfl (pi_list (pv 0)) (pg_name (i := 1) sc__law_due_machine.nd rfl (Or.inl rfl))
      (pss_one (ps_lock (ps_for PassesOwn.never rfl (pi_keys (pv 1)) (pg_name (i := 2) sc__law_due_machine.nd rfl (Or.inl rfl))
      (pss_one (ps_if (pt_cmpR op_ge (pe_dget hu (pv 1) (pv 2) (fun _ _ => rfl)) (pe_callB (id := "len") call_len_seq (by rfl) T.b_len (by decide +kernel) (pa_cons (pv 0) pa_nil)) (nomark _))
      (pss_one (ps_ret pe_str))
      pss_nil))))))
      (pss_one (ps_ret pe_str)))), ?_⟩
    walk_at "rr"
    rw [List.length_map, len]
    refine ite2 (fun g => ?_) (fun g => ?no)
    case no =>
      have g : ¬ (1 : Int) ≤ ts.length := fun e => g (decide_eq_true e)
      refine ⟨_, rfl, ?_⟩
      refine ite2 (fun _ => ?_) (fun g => absurd rfl g)
      exact outM (Same.refl _) fun m => g (by have := m.1; omega)
    have g1 : (1 : Int) ≤ ts.length := of_decide_eq_true g
    clear g
    refine ⟨_, _, rfl, rfl, _, rfl, ?_⟩
    refine ite2 (fun g => ?_) (fun g => ?_)
    · have g : ¬ (ts.length : Int) ≤ 4 := fun e => by rw [decide_eq_true e] at g; cases g
      exact outM (Same.refl _) fun m => g (by have := m.2.1; omega)
    have g4 : (ts.length : Int) ≤ 4 := by
      by_cases e : (ts.length : Int) ≤ 4
      · exact e
      · exact absurd (by rw [decide_eq_false e]; rfl) g
    clear g
    refine ⟨_, rfl, l, rfl, ⟨_, SqL.of hl⟩, ?_⟩
    refine for_list (K := K) (a := l) (xs := ds.map V.ref) (fun i σ' G => Same H G ∧ (∃ o1 o2 : Option V, σ' = [some (.ref l), o1, o2]) ∧ ∀ r ∈ ts.take i, ∀ p ∈ r, p.2 < ts.length) ⟨Same.refl _, ⟨none, none, rfl⟩, by simp⟩ (fun i σ' G _ h => SqL.of (h.1 _ _ hl)) ?_ ?_
    · rintro i x σ' G hi ⟨s1, ⟨o1, o2, rfl⟩, hf⟩
      obtain ⟨d, hdi, rfl⟩ := map_at hi
      obtain ⟨r, hr', ed0⟩ := prd_at1 hd hdi
      have ed := s1 _ _ ed0
      obtain ⟨r1, r15, rnd, rok⟩ := R.row r (List.mem_of_getElem? hr')
      have mr := List.mem_of_getElem? hr'
      refine ⟨d, _, ed, True.intro, fun od => ?_⟩
      have hback2 : ∀ {G2 : Hp}, Same (upd G d (.frz od (.dK (tkv r)))) G2 → Same G (upd G2 d (.dK (tkv r))) := fun {G2} s b o e => by
        by_cases eb : b = d
        · subst eb; rw [upd_same, ← e, ed]
        · rw [upd_ne eb]; exact s _ _ ((upd_ne eb).trans e)
      have hfd : (upd G d (.frz od (.dK (tkv r)))) d = some (.frz od (.dK (tkv r))) := upd_same
      have hlf : (upd G d (.frz od (.dK (tkv r)))) l = some (.lst (ds.map V.ref)) := (upd_ne (ne_of (s1 _ _ hl) ed (by intro z; cases z))).trans (s1 _ _ hl)
      generalize upd G d (.frz od (.dK (tkv r))) = G1 at *
      refine ⟨_, rfl, d, od, rfl, .inl ⟨tkv r, hfd, ?_⟩⟩
      refine for_it walk_keys (fun j σ' G2 => G2 = G1 ∧ (∃ o2 : Option V, σ' = [some (.ref l), some (.ref d), o2]) ∧ ∀ p ∈ r.take j, p.2 < ts.length) ⟨rfl, ⟨_, rfl⟩, by simp⟩ (fun i σ' G2 _ h => by rw [h.1]; exact hfd) ?_ ?_
      · rintro j x σ' G2 G3 hj ⟨rfl, ⟨o2, rfl⟩, hp⟩ ⟨rfl, ky, v, hkv, rfl⟩
        unfold tkv at hkv
        rw [List.getElem?_map] at hkv
        obtain ⟨p, hp1, e⟩ := Option.map_eq_some_iff.mp hkv
        injection e with e1 e2
        subst e1 e2
        have mp := List.mem_of_getElem? hp1
        refine ⟨_, rfl, _, rfl, d, .int p.2, rfl, .inl ⟨tkv r, .inr p.1, .inr ⟨od, hfd⟩, rfl, (tkv_val rnd mp).symm⟩, _, rfl, l, _, rfl, .inl (SqL.of hlf), ?_⟩
        rw [List.length_map, len]
        walk_at "rr"
        refine ite2 (fun g => ?_) (fun g => ?_)
        · have g := of_decide_eq_true g
          exact ⟨hfd, outM (s1.trans (hback2 (Same.refl _))) fun m => by have := m.2.2 r mr p mp; omega⟩
        refine ⟨rfl, ⟨_, rfl⟩, fun p' mp' => ?_⟩
        rw [List.take_add_one, hp1] at mp'
        rcases List.mem_append.mp mp' with h | h
        · exact hp p' h
        · rw [List.mem_singleton.mp h]
          have h2 : ¬ p.2 ≥ ts.length := fun e => g (decide_eq_true e)
          omega
      · rintro σ' G2 ⟨rfl, ⟨o2, rfl⟩, hp⟩
        rw [tkv_len, List.take_length] at hp
        refine ⟨hfd, s1.trans (hback2 (Same.refl _)), ⟨_, _, rfl⟩, fun r' mr' => ?_⟩
        rw [List.take_add_one, hr'] at mr'
        rcases List.mem_append.mp mr' with h | h
        · exact hf r' h
        · rw [List.mem_singleton.mp h]; exact hp
    · rintro σ' G ⟨s1, ⟨o1, o2, rfl⟩, hf⟩
      rw [List.length_map, len, List.take_length] at hf
      exact outO s1 ⟨by omega, by omega, hf⟩
end
end Toy

namespace Toy
open PySem PySem.Spec PyProof.Rows L2
local macro_rules | `(tactic| walk_at "hp") => `(tactic| first
  | assumption
  | exact upd_same
  | (refine Eq.trans (upd_ne (by first | assumption | (apply Ne.symm; assumption))) ?_; walk_at "hp"))
local macro_rules | `(tactic| walk_at "side") => `(tactic| first
  | exact .inl ⟨by omega, by omega⟩
  | exact .inr ⟨by omega, by omega⟩
  | exact ⟨by omega, by omega⟩
  | (show _ ≤ _; omega)
  | (show (_ : Int) < _; omega)
  | decide
  | assumption)
local macro_rules | `(tactic| walk_at "r") => `(tactic| first
  | refine ⟨_, rfl, ?_⟩
  | refine ⟨_, _, rfl, rfl, ?_⟩
  | refine ⟨_, _, _, _, rfl, rfl, SqL.of (by walk_at "hp"), rfl, ?_⟩
  | refine ⟨_, _, _, _, rfl, rfl, SqT.of (by walk_at "hp"), rfl, ?_⟩
  | refine ⟨_, _, _, _, rfl, rfl, (by walk_at "hp"), rfl, ?_⟩
  | refine And.intro rfl ?_
  | refine ⟨_, _, rfl, SqT.of (by walk_at "hp"), ?_⟩
  | refine ⟨_, _, rfl, SqL.of (by walk_at "hp"), ?_⟩
  | refine .inl ⟨_, rfl, ?_⟩
  | refine ⟨_, _, rfl, .inl (SqL.of (by walk_at "hp")), ?_⟩
  | refine ⟨_, _, rfl, .inr (SqT.of (by walk_at "hp")), ?_⟩
  | refine ⟨_, _, rfl, .inl ⟨SqL.of (by walk_at "hp"), ?_⟩⟩
  | refine And.intro (.inl ⟨rfl, _, SqL.of (by walk_at "hp")⟩) ?_
  | refine ⟨_, _, _, rfl, rfl, (by walk_at "hp"), ?_⟩
  | refine ⟨_, _, rfl, (by walk_at "hp"), ?_⟩
  | refine And.intro (by walk_at "side") ?_)
local macro_rules | `(tactic| walk_at "rr") => `(tactic| (repeat walk_at "r"))
local macro_rules | `(tactic| walk_at "k") => `(tactic| first
  | refine ite2 (fun _ => ?_) (fun g => absurd rfl g)
  | refine ite2 (fun g => absurd g (by decide)) (fun _ => ?_)
  | refine ite2 (fun _ => ?_) (fun g => absurd (decide_eq_true (by omega)) g)
  | refine ite2 (fun g => absurd (of_decide_eq_true g) (by omega)) (fun _ => ?_)
  | refine ite2 (fun g => (nd_t g (by omega)).elim) (fun _ => ?_)
  | refine ite2 (fun _ => ?_) (fun g => absurd (nd_f g) (by omega)))
local macro_rules | `(tactic| walk_at "rk") => `(tactic| (repeat (first | walk_at "r" | walk_at "k")))
structure SysIn (z : Str) (ps : List (List Int)) (rs : List (Str × List (Option Int))) (lns : List Str) (m : Nat) : Prop where
  len : z.length ≤ 1000000
  ln : SysLn ps rs
  sp : Txt.split z "\n" = lns ++ [("" : Str)]
  l100 : lns.length ≤ 100
  ml : m ≤ lns.length
  mtot : m ≤ ps.length + rs.length
  good : ∀ i, i < m → lns[i]? = (sysLns ps rs)[i]?
structure MacIn (z : Str) (ts : List (List (Str × Int))) (lns : List Str) (m : Nat) : Prop where
  len : z.length ≤ 1000000
  row : ∀ r ∈ ts, RowT r
  t20 : ts.length ≤ 20
  sp : Txt.split z "\n" = lns ++ [("" : Str)]
  l100 : lns.length ≤ 100
  ml : m ≤ lns.length
  mtot : m ≤ ts.length
  good : ∀ i, i < m → lns[i]? = (ts.map stateLn)[i]?
/-- what is told -/
def LnT (m : Nat) : Hp → Addr → Prop := fun G t => G t = some (.tup [.str "line", .int ((m : Nat) + 1), .bl true])
def PaT (p : Str) : Hp → Addr → Prop := fun G t => G t = some (.tup [.str "part", .str p, .bl true])
def RdS (ps : List (List Int)) (rs : List (Str × List (Option Int))) : Hp → Addr → Prop := fun G t => ∃ (mv : V) (q : Addr) (kvs : List (Key × V)) (rs' : List (Str × List (Option Int))), G t = some (.tup [.str "read", mv, .ref q]) ∧ TupT IntT G mv ps ∧ G q = some (.dK kvs) ∧ DctOf OptT G kvs rs' ∧ rs'.Perm rs
def RdM (ts : List (List (Str × Int))) : Hp → Addr → Prop := fun G t => ∃ (tu : Addr) (ds : List Addr), G t = some (.tup [.str "read", .ref tu]) ∧ TurnsAt G tu ds ts
inductive Reads (z : Str) : Bool → (Hp → Addr → Prop) → Prop
  | oddS {ps rs lns m odd} : SysIn z ps rs lns m → lns[m]? = some odd → OddS odd → Reads z true (LnT m)
  | moves {ps rs lns m} : SysIn z ps rs lns m → m = lns.length → m = ps.length + rs.length → ¬ MovesOk ps → Reads z true (PaT "moves")
  | reqs {ps rs lns m} : SysIn z ps rs lns m → m = lns.length → m = ps.length + rs.length → MovesOk ps → ¬ ReqsOk (ps.length : Nat) rs → Reads z true (PaT "requests")
  | okS {ps rs lns m} : SysIn z ps rs lns m → m = lns.length → m = ps.length + rs.length → MovesOk ps → ReqsOk (ps.length : Nat) rs → Reads z true (RdS ps rs)
  | oddM {ts lns m odd} : MacIn z ts lns m → lns[m]? = some odd → OddM (Txt.split odd " ") → odd.length ≤ 1000 → Reads z false (LnT m)
  | badM {ts lns m} : MacIn z ts lns m → m = lns.length → m = ts.length → ¬ TurnsOk ts → Reads z false (PaT "machine")
  | okM {ts lns m} : MacIn z ts lns m → m = lns.length → m = ts.length → TurnsOk ts → Reads z false (RdM ts)
def spTold : Sp := fun vs H Q _ => ∃ (z : Str) (b : Bool) (R : Hp → Addr → Prop), vs = [.str z, .bl b] ∧ Reads z b R ∧ ∀ t G, Same H G → H t = none → R G t → Q (.ref t) G
section
variable {P : Program} {w : World} {K : PySem.W.Frag} {mg : Str → Option Value} {base : Heap}
theorem ok__law_told (T : Top K mg) : Ok P w K mg base 10 "_law_told" ["text", "of_system"] spTold := by
  refine ok_of T.d__law_told sc__law_told (fun vs H Q E h => ?_) (fun f cdv A outer s H vs Q E hr h => ?_)
  · obtain ⟨z, b, R, rfl, _⟩ := h
    rfl
  · obtain ⟨z, b, R, rfl, hR, k⟩ := h
    obtain ⟨f_read_system, fd_read_system, m_read_system, k_read_system, b_read_system, G_read_system⟩ := ok_read_system (P := P) (w := w) (base := base) T
    have hr_read_system : Room 9 _ := hr.mono (by decide)
    obtain ⟨p_requests, g_requests, fd_requests, P_requests, b_requests, G_requests⟩ := ok_System_requests (P := P) (w := w) (base := base) T
    have hr_requests : Room 2 _ := hr.mono (by decide)
    obtain ⟨f_read_machine, fd_read_machine, m_read_machine, k_read_machine, b_read_machine, G_read_machine⟩ := ok_read_machine (P := P) (w := w) (base := base) T
    have hr_read_machine : Room 8 _ := hr.mono (by decide)
    obtain ⟨p_turns, g_turns, fd_turns, P_turns, b_turns, G_turns⟩ := ok_Machine_turns (P := P) (w := w) (base := base) T
    have hr_turns : Room 2 _ := hr.mono (by decide)
    refine ⟨_, (pss_cons (ps_set (i := 2) sc__law_told.nd rfl (Or.inl rfl) pe_non)
      (pss_cons (ps_try_manyA rfl rfl sc__law_told.nd takes0 (fun W pn xe tk _ => (pss_one (ps_if (pt_val (pv 1))
      (pss_cons (ps_set (i := 3) sc__law_told.nd rfl (Or.inl rfl) (pe_callS G_read_system hr_read_system rfl m_read_system k_read_system b_read_system (fun σ => passAt tk σ) (pa_cons (pv 0) pa_nil)))
      (pss_one (ps_set (i := 2) sc__law_told.nd rfl (Or.inl rfl) (pe_tup (pa_cons pe_str (pa_cons (pe_fld (pv 3) rfl : PE _ _ (tFld K _ _)) (pa_cons (pe_prop (pv 3) T.cl_System P_requests G_requests hr_requests b_requests .nil pass0 rfl) pa_nil)))))))
      (pss_cons (ps_set (i := 3) sc__law_told.nd rfl (Or.inl rfl) (pe_callS G_read_machine hr_read_machine rfl m_read_machine k_read_machine b_read_machine (fun σ => passAt tk σ) (pa_cons (pv 0) pa_nil)))
      (pss_one (ps_set (i := 2) sc__law_told.nd rfl (Or.inl rfl) (pe_tup (pa_cons pe_str (pa_cons (pe_prop (pv 3) T.cl_Machine P_turns G_turns hr_turns b_turns .nil pass0 rfl) pa_nil))))))))) (HdsA.consA (i := 4) rfl rfl ⟨rfl, by decide, Or.inl T.x_BadText.mg⟩ (fun a oe cls d pn hz hf => (pss_one (ps_set (i := 2) sc__law_told.nd rfl (Or.inl rfl) (pe_tup (pa_cons pe_str (pa_cons (pe_xf T.x_BadText.X T.x_BadText.no hz hf (pv 4)) (pa_cons (pe_and (pe_callB (id := "isinstance") (call_isXV hz hf) (by rfl) T.b_isinstance (by decide +kernel) (pa_cons (pv 4) (pa_cons (pe_glob (v := .ref T.c_HintError) rfl T.mg_HintError rfl) pa_nil))) (pe_one (pe_not (pe_callB (id := "isinstance") (call_isXVT hz hf) (by rfl) T.b_isinstance (by decide +kernel) (pa_cons (pv 4) (pa_cons (pe_tup (pa_cons (pe_glob (v := .ref T.c_BadSystem) rfl T.x_BadSystem.mg rfl) (pa_cons (pe_glob (v := .ref T.c_BadMachine) rfl T.mg_BadMachine rfl) pa_nil))) pa_nil)))))) pa_nil))))))) (HdsA.consA (i := 4) rfl rfl ⟨rfl, by decide, Or.inl T.x_BadSystem.mg⟩ (fun a oe cls d pn hz hf => (pss_one (ps_set (i := 2) sc__law_told.nd rfl (Or.inl rfl) (pe_tup (pa_cons pe_str (pa_cons (pe_xf T.x_BadSystem.X T.x_BadSystem.no hz hf (pv 4)) (pa_cons (pe_and (pe_callB (id := "isinstance") (call_isXV hz hf) (by rfl) T.b_isinstance (by decide +kernel) (pa_cons (pv 4) (pa_cons (pe_glob (v := .ref T.c_HintError) rfl T.mg_HintError rfl) pa_nil))) (pe_one (pe_not (pe_callB (id := "isinstance") (call_isXV hz hf) (by rfl) T.b_isinstance (by decide +kernel) (pa_cons (pv 4) (pa_cons (pe_glob (v := .ref T.c_BadMachine) rfl T.mg_BadMachine rfl) pa_nil)))))) pa_nil))))))) (HdsA.consA (i := 4) rfl rfl ⟨rfl, by decide, Or.inl T.mg_BadMachine⟩ (fun a oe cls d pn hz hf => (pss_one (ps_set (i := 2) sc__law_told.nd rfl (Or.inl rfl) (pe_tup (pa_cons pe_str (pa_cons pe_str (pa_cons (pe_and (pe_callB (id := "isinstance") (call_isXV hz hf) (by rfl) T.b_isinstance (by decide +kernel) (pa_cons (pv 4) (pa_cons (pe_glob (v := .ref T.c_HintError) rfl T.mg_HintError rfl) pa_nil))) (pe_one (pe_callB (id := "isinstance") (call_isXV hz hf) (by rfl) T.b_isinstance (by decide +kernel) (pa_cons (pv 4) (pa_cons (pe_bltn (v := .ty "ValueError") (u := .type "ValueError") (by rfl) T.b_ValueError (by decide +kernel) rfl) pa_nil))))) pa_nil))))))) HdsA.nil))))
      (pss_one (ps_ret (pv 2))))), ?_⟩
    cases hR with
    | @oddS ps rs lns m odd I ho hO =>
      walk_at "rr"
      refine ⟨z, ps, rs, lns, m, rfl, I.len, I.ln, I.sp, I.l100, I.ml, I.mtot, I.good, .inl ⟨odd, ho, hO, fun G sG d H' s nd hd => ?_⟩⟩
      refine ⟨true, T.e_BadText_BadText, fun _ a na => ?_, fun q => nomatch q⟩
      have sH := sG.trans s
      refine ⟨_, rfl, rfl, rfl, _, _, _, rfl, hd, rfl, ?_⟩
      refine ⟨_, rfl, T.c_BadText, _, _, true, rfl, rfl, .inr ⟨_, _, rfl, hd⟩, T.er.val (by simp), .own _, T.er.root (by simp), true, rfl, ?_⟩
      refine ite2 (fun _ => ?_) (fun g => absurd rfl g)
      refine ⟨_, rfl, (by show 2 ≤ sizeLine; decide), fun tp ntp => ?_⟩
      have s2 : Same H' (upd H' tp (.tup [.ref T.c_BadSystem, .ref T.c_BadMachine])) := same_new ntp
      have htp : (upd H' tp (.tup [.ref T.c_BadSystem, .ref T.c_BadMachine])) tp = some (.tup [.ref T.c_BadSystem, .ref T.c_BadMachine]) := upd_same
      generalize upd H' tp (.tup [.ref T.c_BadSystem, .ref T.c_BadMachine]) = H2 at *
      have kit : PySem.W.kitAny K (.ref T.c_BadText) [.ref T.c_BadSystem, .ref T.c_BadMachine] = some false := by
        have k1 : PySem.W.kitOne K (.ref T.c_BadText) (.ref T.c_BadSystem) = some false := T.er.two 0 1 (by show _ < 3; decide) (by show _ < 3; decide)
        have k2 : PySem.W.kitOne K (.ref T.c_BadText) (.ref T.c_BadMachine) = some false := T.er.two 0 2 (by show _ < 3; decide) (by show _ < 3; decide)
        simp [PySem.W.kitAny, k1, k2]
      refine ⟨T.c_BadText, tp, _, [.ref T.c_BadSystem, .ref T.c_BadMachine], false, rfl, rfl, .inr ⟨_, _, rfl, s2 _ _ hd⟩, T.er.val (by simp), htp, .cons (.own _) (.cons (.own _) .nil), kit, _, rfl, ?_⟩
      refine ⟨(by show 3 ≤ sizeLine; decide), fun t nt => ?_⟩
      exact ⟨_, rfl, k t _ ((sH.trans s2).trans (same_new nt)) (sH.free (s2.free nt)) upd_same⟩
    | @moves ps rs lns m I e1 e2 no =>
      walk_at "rr"
      refine ⟨z, ps, rs, lns, m, rfl, I.len, I.ln, I.sp, I.l100, I.ml, I.mtot, I.good, .inr ⟨e1, e2, fun _ G sG d H' s nd hd => ?_, fun o => absurd o no, fun _ _ _ o => absurd o no⟩⟩
      refine ⟨false, T.e_BadSystem_BadText, fun q => (nomatch q), fun _ => ?_⟩
      refine ⟨true, T.e_BadSystem_BadSystem, fun _ a na => ?_, fun q => nomatch q⟩
      have sH := sG.trans s
      refine ⟨_, rfl, rfl, rfl, _, _, _, rfl, hd, rfl, ?_⟩
      refine ⟨_, rfl, T.c_BadSystem, _, _, true, rfl, rfl, .inr ⟨_, _, rfl, hd⟩, T.er.val (by simp), .own _, T.er.root (by simp), true, rfl, ?_⟩
      refine ite2 (fun _ => ?_) (fun g => absurd rfl g)
      refine ⟨_, rfl, T.c_BadSystem, _, _, false, rfl, rfl, .inr ⟨_, _, rfl, hd⟩, T.er.val (by simp), .own _, T.er.two 1 2 (by show _ < 3; decide) (by show _ < 3; decide), _, rfl, ?_⟩
      refine ⟨(by show 3 ≤ sizeLine; decide), fun t nt => ?_⟩
      exact ⟨_, rfl, k t _ (sH.trans (same_new nt)) (sH.free nt) upd_same⟩
    | @reqs ps rs lns m I e1 e2 mok no =>
      walk_at "rr"
      refine ⟨z, ps, rs, lns, m, rfl, I.len, I.ln, I.sp, I.l100, I.ml, I.mtot, I.good, .inr ⟨e1, e2, fun o => absurd mok o, fun _ _ G sG d H' s nd hd => ?_, fun _ _ _ _ o => absurd o no⟩⟩
      refine ⟨false, T.e_BadSystem_BadText, fun q => (nomatch q), fun _ => ?_⟩
      refine ⟨true, T.e_BadSystem_BadSystem, fun _ a na => ?_, fun q => nomatch q⟩
      have sH := sG.trans s
      refine ⟨_, rfl, rfl, rfl, _, _, _, rfl, hd, rfl, ?_⟩
      refine ⟨_, rfl, T.c_BadSystem, _, _, true, rfl, rfl, .inr ⟨_, _, rfl, hd⟩, T.er.val (by simp), .own _, T.er.root (by simp), true, rfl, ?_⟩
      refine ite2 (fun _ => ?_) (fun g => absurd rfl g)
      refine ⟨_, rfl, T.c_BadSystem, _, _, false, rfl, rfl, .inr ⟨_, _, rfl, hd⟩, T.er.val (by simp), .own _, T.er.two 1 2 (by show _ < 3; decide) (by show _ < 3; decide), _, rfl, ?_⟩
      refine ⟨(by show 3 ≤ sizeLine; decide), fun t nt => ?_⟩
      exact ⟨_, rfl, k t _ (sH.trans (same_new nt)) (sH.free nt) upd_same⟩
    | @okS ps rs lns m I e1 e2 mok rok =>
      walk_at "rr"
      refine ⟨z, ps, rs, lns, m, rfl, I.len, I.ln, I.sp, I.l100, I.ml, I.mtot, I.good, .inr ⟨e1, e2, fun o => absurd mok o, fun _ o => absurd rok o, fun S G p _ _ sok en er pm SA sG => ?_⟩⟩
      obtain ⟨dx, mv, na, wv, q, kvs, hp, h2, h3, h4, hq, hR⟩ := id SA.ex
      rw [er] at h2
      refine ⟨_, rfl, p, T.c_System, dx, _, _, rfl, hp, T.cl_System, T.na_System_moves, sfs_moves, ?_⟩
      refine ⟨_, rfl, p, dx, _, rfl, hp, p, S, rfl, sok, SA, fun D kv2 G2 s2 nD hD hR2 => ?_⟩
      refine ⟨(by show 3 ≤ sizeLine; decide), fun t nt => ?_⟩
      have s3 : Same G2 (upd G2 t (.tup [.str "read", mv, .ref D])) := same_new nt
      have sH := sG.trans s2
      exact ⟨_, rfl, k t _ (sH.trans s3) (sH.free nt) ⟨mv, D, kv2, S.rs, upd_same, TupT.firm IntT.firm _ _ _ _ (same_tups (s2.trans s3)) h2, s3 _ _ hD, hR2.firm OptT.firm (same_tups s3), pm⟩⟩
    | @oddM ts lns m odd I ho hO hl =>
      walk_at "rr"
      refine ⟨z, ts, lns, m, rfl, I.len, I.row, I.t20, I.sp, I.l100, I.ml, I.mtot, I.good, .inl ⟨odd, ho, hO, hl, fun G sG d H' s nd hd => ?_⟩⟩
      refine ⟨true, T.e_BadText_BadText, fun _ a na => ?_, fun q => nomatch q⟩
      have sH := sG.trans s
      refine ⟨_, rfl, rfl, rfl, _, _, _, rfl, hd, rfl, ?_⟩
      refine ⟨_, rfl, T.c_BadText, _, _, true, rfl, rfl, .inr ⟨_, _, rfl, hd⟩, T.er.val (by simp), .own _, T.er.root (by simp), true, rfl, ?_⟩
      refine ite2 (fun _ => ?_) (fun g => absurd rfl g)
      refine ⟨_, rfl, (by show 2 ≤ sizeLine; decide), fun tp ntp => ?_⟩
      have s2 : Same H' (upd H' tp (.tup [.ref T.c_BadSystem, .ref T.c_BadMachine])) := same_new ntp
      have htp : (upd H' tp (.tup [.ref T.c_BadSystem, .ref T.c_BadMachine])) tp = some (.tup [.ref T.c_BadSystem, .ref T.c_BadMachine]) := upd_same
      generalize upd H' tp (.tup [.ref T.c_BadSystem, .ref T.c_BadMachine]) = H2 at *
      have kit : PySem.W.kitAny K (.ref T.c_BadText) [.ref T.c_BadSystem, .ref T.c_BadMachine] = some false := by
        have k1 : PySem.W.kitOne K (.ref T.c_BadText) (.ref T.c_BadSystem) = some false := T.er.two 0 1 (by show _ < 3; decide) (by show _ < 3; decide)
        have k2 : PySem.W.kitOne K (.ref T.c_BadText) (.ref T.c_BadMachine) = some false := T.er.two 0 2 (by show _ < 3; decide) (by show _ < 3; decide)
        simp [PySem.W.kitAny, k1, k2]
      refine ⟨T.c_BadText, tp, _, [.ref T.c_BadSystem, .ref T.c_BadMachine], false, rfl, rfl, .inr ⟨_, _, rfl, s2 _ _ hd⟩, T.er.val (by simp), htp, .cons (.own _) (.cons (.own _) .nil), kit, _, rfl, ?_⟩
      refine ⟨(by show 3 ≤ sizeLine; decide), fun t nt => ?_⟩
      exact ⟨_, rfl, k t _ ((sH.trans s2).trans (same_new nt)) (sH.free (s2.free nt)) upd_same⟩
    | @badM ts lns m I e1 e2 no =>
      walk_at "rr"
      refine ⟨z, ts, lns, m, rfl, I.len, I.row, I.t20, I.sp, I.l100, I.ml, I.mtot, I.good, .inr ⟨e1, e2, fun _ G sG H' s => ?_, fun _ _ _ o => absurd o no⟩⟩
      refine ⟨false, T.e_BadMachine_BadText, fun q => (nomatch q), fun _ => ?_⟩
      refine ⟨false, T.e_BadMachine_BadSystem, fun q => (nomatch q), fun _ => ?_⟩
      refine ⟨true, T.e_BadMachine_BadMachine, fun _ a na => ?_, fun q => nomatch q⟩
      have sH := sG.trans s
      refine ⟨_, rfl, T.c_BadMachine, _, _, true, rfl, rfl, .inl rfl, T.er.val (by simp), .own _, T.er.root (by simp), true, rfl, ?_⟩
      refine ite2 (fun _ => ?_) (fun g => absurd rfl g)
      refine ⟨_, rfl, T.c_BadMachine, _, _, true, rfl, rfl, .inl rfl, T.er.val (by simp), .ty _, T.er.isVE (by simp), ?_⟩
      refine ⟨(by show 3 ≤ sizeLine; decide), fun t nt => ?_⟩
      exact ⟨_, rfl, k t _ (sH.trans (same_new nt)) (sH.free nt) upd_same⟩
    | @okM ts lns m I e1 e2 tok =>
      walk_at "rr"
      refine ⟨z, ts, lns, m, rfl, I.len, I.row, I.t20, I.sp, I.l100, I.ml, I.mtot, I.good, .inr ⟨e1, e2, fun o => absurd tok o, fun M G p _ mok em MA sG => ?_⟩⟩
      obtain ⟨dx, ta, na, ds, hp, h2, h3⟩ := id MA.ex
      refine ⟨_, rfl, p, dx, _, rfl, hp, p, M, rfl, MA, mok, fun tu ds2 G2 s2 hT _ => ?_⟩
      refine ⟨(by show 2 ≤ sizeLine; decide), fun t nt => ?_⟩
      have s3 : Same G2 (upd G2 t (.tup [.str "read", .ref tu])) := same_new nt
      have sH := sG.trans s2
      rw [em] at hT
      exact ⟨_, rfl, k t _ (sH.trans s3) (sH.free nt) ⟨tu, ds2, upd_same, hT.same s3⟩⟩
end
end Toy

namespace Toy
open PySem PySem.Spec PyProof.Rows L2
local macro_rules | `(tactic| walk_at "hp") => `(tactic| first
  | assumption
  | exact upd_same
  | (refine Eq.trans (upd_ne (by first | assumption | (apply Ne.symm; assumption))) ?_; walk_at "hp"))
local macro_rules | `(tactic| walk_at "side") => `(tactic| first
  | exact .inl ⟨by omega, by omega⟩
  | exact .inr ⟨by omega, by omega⟩
  | exact ⟨by omega, by omega⟩
  | (show _ ≤ _; omega)
  | (show (_ : Int) < _; omega)
  | decide
  | assumption)
local macro_rules | `(tactic| walk_at "r") => `(tactic| first
  | refine ⟨_, rfl, ?_⟩
  | refine ⟨_, _, rfl, rfl, ?_⟩
  | refine ⟨_, _, _, _, rfl, rfl, SqL.of (by walk_at "hp"), rfl, ?_⟩
  | refine ⟨_, _, _, _, rfl, rfl, SqT.of (by walk_at "hp"), rfl, ?_⟩
  | refine ⟨_, _, _, _, rfl, rfl, (by walk_at "hp"), rfl, ?_⟩
  | refine And.intro rfl ?_
  | refine ⟨_, _, rfl, SqT.of (by walk_at "hp"), ?_⟩
  | refine ⟨_, _, rfl, SqL.of (by walk_at "hp"), ?_⟩
  | refine .inl ⟨_, rfl, ?_⟩
  | refine ⟨_, _, rfl, .inl (SqL.of (by walk_at "hp")), ?_⟩
  | refine ⟨_, _, rfl, .inr (SqT.of (by walk_at "hp")), ?_⟩
  | refine ⟨_, _, rfl, .inl ⟨SqL.of (by walk_at "hp"), ?_⟩⟩
  | refine And.intro (.inl ⟨rfl, _, SqL.of (by walk_at "hp")⟩) ?_
  | refine ⟨_, _, _, rfl, rfl, (by walk_at "hp"), ?_⟩
  | refine ⟨_, _, rfl, (by walk_at "hp"), ?_⟩
  | refine And.intro (by walk_at "side") ?_)
local macro_rules | `(tactic| walk_at "rr") => `(tactic| (repeat walk_at "r"))
local macro_rules | `(tactic| walk_at "k") => `(tactic| first
  | refine ite2 (fun _ => ?_) (fun g => absurd rfl g)
  | refine ite2 (fun g => absurd g (by decide)) (fun _ => ?_)
  | refine ite2 (fun _ => ?_) (fun g => absurd (decide_eq_true (by omega)) g)
  | refine ite2 (fun g => absurd (of_decide_eq_true g) (by omega)) (fun _ => ?_)
  | refine ite2 (fun g => (nd_t g (by omega)).elim) (fun _ => ?_)
  | refine ite2 (fun _ => ?_) (fun g => absurd (nd_f g) (by omega)))
local macro_rules | `(tactic| walk_at "rk") => `(tactic| (repeat (first | walk_at "r" | walk_at "k")))
theorem post_eq {r : List Int} (h : r ≠ []) : "post " ++ Txt.join " " (r.map numS) = postLn r := by
  have e : ("post " : Str) = "post" ++ " " := by decide +kernel
  unfold postLn
  rw [join_more " " "post" (fun q => h (List.map_eq_nil_iff.mp q)), e]
  simp only [str_assoc]
theorem req_eq {q : Str × List (Option Int)} (h : q.2 ≠ []) : "request " ++ q.1 ++ " " ++ Txt.join " " (q.2.map priS) = reqLn q := by
  have e : ("request " : Str) = "request" ++ " " := by decide +kernel
  unfold reqLn
  rw [join_cons, join_more " " q.1 (fun z => h (List.map_eq_nil_iff.mp z)), e]
  simp only [str_assoc]
theorem state_eq {r : List (Str × Int)} (h : r ≠ []) : "state " ++ Txt.join " " (r.map pairT) = stateLn r := by
  have e : ("state " : Str) = "state" ++ " " := by decide +kernel
  unfold stateLn
  rw [join_more " " "state" (fun q => h (List.map_eq_nil_iff.mp q)), e]
  simp only [str_assoc]
theorem rising_lt {l : List Str} (s : sortedS l = true) (nd : l.Nodup) {i : Nat} {a b : Str} (ha : l[i]? = some a) (hb : l[i + 1]? = some b) : a.cps.toList < b.cps.toList := by
  have pw := sorted_pw s
  obtain ⟨h1, e1⟩ := List.getElem?_eq_some_iff.mp ha
  obtain ⟨h2, e2⟩ := List.getElem?_eq_some_iff.mp hb
  have le := List.pairwise_iff_getElem.mp pw i (i + 1) h1 h2 (Nat.lt_succ_self i)
  have ne : a ≠ b := fun e => by
    have := (List.getElem_inj nd).mp (by rw [e1, e2, e] : l[i] = l[i + 1])
    omega
  rw [e1, e2] at le
  have le := leT_iff.mp le
  rcases List.le_iff_lt_or_eq.mp le with h | h
  · exact h
  · exfalso
    refine ne ?_
    cases a; cases b
    simp only at h
    congr 1
    exact Array.toList_inj.mp h
/-- a row of turns, its names rising -/
noncomputable def srtR (r : List (Str × Int)) : List (Str × Int) := (srtN r).map fun z => (z, toOf r z)
structure TurnsW (ts : List (List (Str × Int))) : Prop where
  t20 : ts.length ≤ 20
  row : ∀ r ∈ ts, 1 ≤ r.length ∧ r.length ≤ 15 ∧ (r.map (·.1)).Nodup ∧ ∀ p ∈ r, Name 8 p.1 ∧ InN p.2
theorem TurnsW.r {ts : List (List (Str × Int))} (h : TurnsW ts) : TurnsR ts := ⟨h.t20, fun r m => by
  obtain ⟨h1, h2, h3, h4⟩ := h.row r m
  exact ⟨h1, h2, h3, fun p mp => ⟨(h4 p mp).1, (h4 p mp).2.1⟩⟩⟩
theorem srtN_ln (r : List (Str × Int)) : (srtN r).length = r.length := by rw [(srtN_all r).length_eq, List.length_map]
theorem srtR_rowT {r : List (Str × Int)} (h1 : 1 ≤ r.length) (h2 : r.length ≤ 15) (nd : (r.map (·.1)).Nodup) (h : ∀ p ∈ r, Name 8 p.1 ∧ InN p.2) : RowT (srtR r) := by
  have keys : (srtR r).map (·.1) = srtN r := by
    unfold srtR
    rw [List.map_map]
    conv => rhs; rw [← List.map_id (srtN r)]
    exact List.map_congr_left fun _ _ => rfl
  have nd2 : (srtN r).Nodup := ((srtN_all r).nodup_iff).mpr nd
  have srt : sortedS (srtN r) = true := by
    obtain ⟨ys, p, s⟩ := srt_ex (r.map (·.1))
    rw [← srtN_eq p s]; exact s
  refine ⟨by unfold srtR; rw [List.length_map, srtN_ln]; exact h1, by unfold srtR; rw [List.length_map, srtN_ln]; exact h2, fun p mp => ?_, fun i a b ha hb => ?_, by rw [keys]; exact nd2⟩
  · unfold srtR at mp
    obtain ⟨z, mz, rfl⟩ := List.mem_map.mp mp
    obtain ⟨_, q, mq, e1, e2⟩ := toOf_val nd ((srtN_all r).mem_iff.mp mz)
    have := h q mq
    rw [e1, e2] at this
    exact this
  · have ka : (srtN r)[i]? = some a.1 := by rw [← keys, List.getElem?_map, ha]; rfl
    have kb : (srtN r)[i + 1]? = some b.1 := by rw [← keys, List.getElem?_map, hb]; rfl
    exact rising_lt srt nd2 ka kb
def spMLines : Sp := fun vs H Q _ => ∃ (l : Addr) (ds : List Addr) (ts : List (List (Str × Int))), vs = [.ref l] ∧ H l = some (.lst (ds.map V.ref)) ∧ Paired (fun d r => H d = some (.dK (tkv r))) ds ts ∧ TurnsW ts ∧
  ∀ p G, Same H G → H p = none → G p = some (.lst (((ts.map srtR).map stateLn).map V.str)) → Q (.ref p) G
def spSLines : Sp := fun vs H Q _ => ∃ (l q : Addr) (as : List Addr) (rows : List (List Int)) (kvs : List (Key × V)) (rs : List (Str × List (Option Int))), vs = [.ref l, .ref q] ∧ RowsL H l as rows ∧ RowsOk rows ∧ rows.length ≤ 8 ∧
  H q = some (.dK kvs) ∧ DctOf OptL H kvs rs ∧ ReqsR rs ∧ ∀ p G rs2, Same H G → H p = none → rs2.Perm rs → sortedS (rs2.map (·.1)) = true → G p = some (.lst ((sysLns rows rs2).map V.str)) → Q (.ref p) G
section
variable {P : Program} {w : World} {K : PySem.W.Frag} {mg : Str → Option Value} {base : Heap}
theorem ok__law_machine_lines (T : Top K mg) : Ok P w K mg base 1 "_law_machine_lines" ["turns"] spMLines := by
  refine ok_of T.d__law_machine_lines sc__law_machine_lines (fun vs H Q E h => ?_) (fun f cdv A outer s H vs Q E hr h => ?_)
  · obtain ⟨l, ds, ts, rfl, _⟩ := h
    rfl
  · obtain ⟨l, ds, ts, rfl, hl, hd, TW, k⟩ := h
    skip
    have hu := hu_of hr
    have len : ds.length = ts.length := Paired.length hd
    have t20 := TW.t20
    have sz : (10000 : Nat) ≤ sizeLine := by decide
    refine ⟨_, (pss_cons (ps_set (i := 1) sc__law_machine_lines.nd rfl (Or.inl rfl) (pe_lst pa_nil))
      (pss_cons (ps_for PassesOwn.never rfl (pi_list (pv 0)) (pg_name (i := 2) sc__law_machine_lines.nd rfl (Or.inr rfl))
      (pss_one (ps_expr (pe_bm PySem.F.plainAttrs_list PySem.F.slot_list_append PySem.F.type_list_append mt_append (pv 1) (pa_cons (pe_op op_add_str pe_str (pe_join pe_str (pe_lc (own := [("name", 3)]) (g := gName 3) rfl sc__law_machine_lines.nd (pi_list (pe_callB (id := "sorted") (call_sortedD rfl) (by rfl) T.b_sorted (by decide +kernel) (pa_cons (pv 2) pa_nil))) (blkOk_by (own := [("name", 3)]) (N := ["turns", "lines", "row", "name"]) (sc := defScope s__law_machine_lines) (by decide +kernel)) (fun _ _ _ _ _ => (pg_name (i := 3) sc__law_machine_lines.nd rfl (Or.inl rfl))) (fun _ _ _ _ _ => pts_nil) (fun _ _ _ _ _ => (pe_op op_add_str (pe_op op_add_str (pv 3) pe_str) (pe_callTy (T := "str") call_str_int (by rfl) T.b_str (by decide +kernel) (pa_cons (pe_dget hu (pv 2) (pv 3) (fun _ _ => rfl)) pa_nil))))))) pa_nil)))))
      (pss_one (ps_ret (pv 1))))), ?_⟩
    refine ⟨(by show 0 ≤ sizeLine; decide), fun L nL => ?_⟩
    have s1 : Same H (upd H L (.lst [])) := same_new nL
    have hL : (upd H L (.lst [])) L = some (.lst ((((ts.take 0).map srtR).map stateLn).map V.str)) := upd_same
    generalize upd H L (.lst []) = H1 at *
    refine ⟨_, rfl, l, rfl, ⟨_, SqL.of (s1 _ _ hl)⟩, ?_⟩
    refine for_list (K := K) (a := l) (xs := ds.map V.ref) (fun j σ' G => (∃ o2 : Option V, σ' = [some (.ref l), some (.ref L), o2, none]) ∧ G L = some (.lst ((((ts.take j).map srtR).map stateLn).map V.str)) ∧ Same H G) ⟨⟨none, rfl⟩, hL, s1⟩ (fun j σ' G _ h => SqL.of (h.2.2 _ _ hl)) ?_ ?_
    · rintro j y σ' G hj ⟨⟨o2, rfl⟩, gL, sG⟩
      obtain ⟨e, he, rfl⟩ := map_at hj
      obtain ⟨r, hr', ed0⟩ := prd_at1 hd he
      have ed := sG _ _ ed0
      have mr := List.mem_of_getElem? hr'
      obtain ⟨r1, r15, rnd, rok⟩ := TW.row r mr
      have jl := (List.getElem?_eq_some_iff.mp hr').1
      have hs := srtN_ln r
      have RT := srtR_rowT r1 r15 rnd rok
      refine ⟨_, rfl, .inl ⟨rfl, _, SqL.of gL⟩, ⟨_, rfl⟩, ?_⟩
      refine ⟨_, rfl, e, tkv r, r.map (·.1), rfl, .inl ed, by unfold tkv; rw [List.map_map, List.map_map]; rfl, by rw [List.length_map]; omega, fun ys p py sy np => ?_⟩
      have ey : ys = srtN r := srtN_eq py sy
      subst ey
      have s4 : Same G (upd G p (.lst ((srtN r).map V.str))) := same_new np
      have ep : (upd G p (.lst ((srtN r).map V.str))) p = some (.lst ((srtN r).map V.str)) := upd_same
      generalize upd G p (.lst ((srtN r).map V.str)) = G4 at *
      refine ⟨p, rfl, ⟨_, SqL.of ep⟩, fun e1 ne1 => ?_⟩
      refine lc_list (K := K) (a := p) (xs := (srtN r).map V.str) (fun i G5 => G5 e1 = some (.lst ((((srtR r).take i).map pairT).map V.str)) ∧ Same G4 G5) ⟨upd_same, same_new ne1⟩ (fun i G5 _ h => SqL.of (h.2 _ _ ep)) ?_ ?_
      · rintro i y G5 hi ⟨f1, f2⟩
        obtain ⟨z, hz, rfl⟩ := map_at hi
        have mz := List.mem_of_getElem? hz
        have mz' := (srtN_all r).mem_iff.mp mz
        have il := (List.getElem?_eq_some_iff.mp hz).1
        have hzp : (srtR r)[i]? = some (z, toOf r z) := by unfold srtR; rw [List.getElem?_map, hz]; rfl
        obtain ⟨n8, hin⟩ := RT.row _ (List.mem_of_getElem? hzp)
        have n8h : z.length ≤ 8 := by have := n8.hi; show z.length ≤ 8; exact Int.ofNat_le.mp this
        have l9 := (numS_len9 hin.1 hin.2).2
        have one_co : (":" : Str).length = 1 := by decide +kernel
        have e2 : (z ++ (":" : Str)).length = z.length + 1 := by rw [show (z ++ (":" : Str)).length = _ from PySem.Str.length_append _ _, one_co]
        obtain ⟨tv, _⟩ := toOf_val rnd mz'
        refine ⟨rfl, ?_⟩
        refine yesT ?_
        refine ⟨_, rfl, z, ":", rfl, rfl, by rw [one_co]; exact Nat.le_of_lt (small1000 (by omega)), ?_⟩
        refine ⟨_, rfl, _, rfl, e, .int (toOf r z), rfl, (by rw [← tv]; exact DGet.k (k := Sum.inr z) (f2 _ _ (s4 _ _ ed))), ?_⟩
        refine ⟨_, rfl, in_log hin, _, _, rfl, rfl, by rw [e2]; exact Nat.le_of_lt (small1000 (by show z.length + 1 + (numS (toOf r z)).length ≤ 1000; have : (numS (toOf r z)).length ≤ 9 := l9; omega)), ?_⟩
        refine ⟨_, f1, ?_, ?_, same_upd f2 ne1⟩
        · rw [List.length_map, List.length_map, List.length_take]; exact small1000 (by omega)
        · rw [upd_same, List.take_add_one, hzp, List.map_append, List.map_append]; rfl
      rintro G5 ⟨f1, f2⟩
      have lR : (srtR r).length = r.length := by unfold srtR; rw [List.length_map, hs]
      rw [List.length_map, hs, ← lR, List.take_length] at f1
      have hne : srtR r ≠ [] := fun q => by rw [q] at lR; simp at lR; omega
      have hb := stateLn_len RT
      rw [← state_eq hne] at hb
      have p6 : ("state " : Str).length = 6 := by decide +kernel
      rw [show ("state " ++ Txt.join " " ((srtR r).map pairT) : Str).length = _ from PySem.Str.length_append _ _, p6] at hb
      have s5 := s4.trans f2
      refine ⟨" ", e1, (srtR r).map pairT, rfl, rfl, .inl (SqL.of f1), ?_, ?_⟩
      · have hb2 := sum_le (f := fun x : Str => x.length) (m := 18) (l := (srtR r).map pairT) fun x mx => by
          obtain ⟨q, mq, rfl⟩ := List.mem_map.mp mx
          exact pairT_len (RT.row q mq).1 (RT.row q mq).2
        have one : (" " : Str).length = 1 := by decide +kernel
        rw [List.length_map] at hb2
        rw [one, List.length_map]
        omega
      refine ⟨_, _, rfl, rfl, by rw [p6]; omega, ?_⟩
      rw [state_eq hne]
      refine ⟨L, _, _, rfl, rfl, s5 _ _ gL, ?_, ⟨_, rfl⟩, ?_, same_upd (sG.trans s5) nL⟩
      · rw [List.length_map, List.length_map, List.length_map, List.length_take]; exact small1000 (by omega)
      · rw [upd_same, List.take_add_one, hr', List.map_append, List.map_append, List.map_append]; rfl
    · rintro σ' G ⟨⟨o2, rfl⟩, gL, sG⟩
      rw [List.length_map, len, List.take_length] at gL
      exact ⟨_, rfl, k L G sG nL gL⟩
theorem ok__law_system_lines (T : Top K mg) : Ok P w K mg base 2 "_law_system_lines" ["moves", "requests"] spSLines := by
  refine ok_of T.d__law_system_lines sc__law_system_lines (fun vs H Q E h => ?_) (fun f cdv A outer s H vs Q E hr h => ?_)
  · obtain ⟨l, q, as, rows, kvs, rs, rfl, _⟩ := h
    rfl
  · obtain ⟨l, q, as, rows, kvs, rs, rfl, RL, rok, r8, hq, hR, R, k⟩ := h
    obtain ⟨f__law_item, fd__law_item, m__law_item, k__law_item, b__law_item, G__law_item⟩ := ok__law_item (P := P) (w := w) (base := base) T
    have hr__law_item : Room 1 _ := hr.mono (by decide)
    have hu := hu_of hr
    have al : as.length = rows.length := Paired.length RL.each
    have r6 := R.hi
    have sz : (10000 : Nat) ≤ sizeLine := by decide
    have one : (" " : Str).length = 1 := by decide +kernel
    have p5 : ("post " : Str).length = 5 := by decide +kernel
    have p8 : ("request " : Str).length = 8 := by decide +kernel
    refine ⟨_, (pss_cons (ps_set (i := 2) sc__law_system_lines.nd rfl (Or.inl rfl) (pe_lst pa_nil))
      (pss_cons (ps_for PassesOwn.never rfl (pi_list (pv 0)) (pg_name (i := 3) sc__law_system_lines.nd rfl (Or.inl rfl))
      (pss_one (ps_expr (pe_bm PySem.F.plainAttrs_list PySem.F.slot_list_append PySem.F.type_list_append mt_append (pv 2) (pa_cons (pe_op op_add_str pe_str (pe_join pe_str (pe_lc (own := [("step", 5)]) (g := gName 5) rfl sc__law_system_lines.nd (pi_list (pv 3)) (blkOk_by (own := [("step", 5)]) (N := ["moves", "requests", "lines", "row", "name", "step", "item"]) (sc := defScope s__law_system_lines) (by decide +kernel)) (fun _ _ _ _ _ => (pg_name (i := 5) sc__law_system_lines.nd rfl (Or.inl rfl))) (fun _ _ _ _ _ => pts_nil) (fun _ _ _ _ _ => (pe_callTy (T := "str") call_str_int (by rfl) T.b_str (by decide +kernel) (pa_cons (pv 5) pa_nil)))))) pa_nil)))))
      (pss_cons (ps_for PassesOwn.never rfl (pi_list (pe_callB (id := "sorted") (call_sortedD rfl) (by rfl) T.b_sorted (by decide +kernel) (pa_cons (pv 1) pa_nil))) (pg_name (i := 4) sc__law_system_lines.nd rfl (Or.inl rfl))
      (pss_one (ps_expr (pe_bm PySem.F.plainAttrs_list PySem.F.slot_list_append PySem.F.type_list_append mt_append (pv 2) (pa_cons (pe_op op_add_str (pe_op op_add_str (pe_op op_add_str pe_str (pv 4)) pe_str) (pe_join pe_str (pe_lc (own := [("item", 6)]) (g := gName 6) rfl sc__law_system_lines.nd (pi_list (pe_dget hu (pv 1) (pv 4) (fun _ _ => rfl))) (blkOk_by (own := [("item", 6)]) (N := ["moves", "requests", "lines", "row", "name", "step", "item"]) (sc := defScope s__law_system_lines) (by decide +kernel)) (fun _ _ _ _ _ => (pg_name (i := 6) sc__law_system_lines.nd rfl (Or.inl rfl))) (fun _ _ _ _ _ => pts_nil) (fun _ _ _ _ _ => (pe_call G__law_item hr__law_item rfl m__law_item k__law_item b__law_item .nil pass0 (pa_cons (pv 6) pa_nil)))))) pa_nil)))))
      (pss_one (ps_ret (pv 2)))))), ?_⟩
    refine ⟨(by show 0 ≤ sizeLine; decide), fun L nL => ?_⟩
    have s1 : Same H (upd H L (.lst [])) := same_new nL
    have hL : (upd H L (.lst [])) L = some (.lst (((rows.take 0).map postLn).map V.str)) := upd_same
    generalize upd H L (.lst []) = H1 at *
    refine ⟨_, rfl, l, rfl, ⟨_, SqL.of (s1 _ _ RL.lst)⟩, ?_⟩
    refine for_list (K := K) (a := l) (xs := as.map V.ref) (fun j σ' G => (∃ o3 : Option V, σ' = [some (.ref l), some (.ref q), some (.ref L), o3, none, none, none]) ∧ G L = some (.lst (((rows.take j).map postLn).map V.str)) ∧ Same H G) ⟨⟨none, rfl⟩, hL, s1⟩ (fun j σ' G _ h => SqL.of (h.2.2 _ _ RL.lst)) ?_ ?_
    · rintro j y σ' G hj ⟨⟨o3, rfl⟩, gL, sG⟩
      obtain ⟨e, he, rfl⟩ := map_at hj
      obtain ⟨row, hrow, ed0⟩ := prd_at1 RL.each he
      have ed := sG _ _ ed0
      obtain ⟨l1, l9, lin⟩ := rok row (List.mem_of_getElem? hrow)
      have jl := (List.getElem?_eq_some_iff.mp hrow).1
      refine ⟨_, rfl, .inl ⟨rfl, _, SqL.of gL⟩, ⟨_, rfl⟩, ?_⟩
      refine ⟨_, rfl, e, rfl, ⟨_, SqL.of ed⟩, fun e1 ne1 => ?_⟩
      refine lc_list (K := K) (a := e) (xs := row.map V.int) (fun i G5 => G5 e1 = some (.lst (((row.take i).map numS).map V.str)) ∧ Same G G5) ⟨upd_same, same_new ne1⟩ (fun i G5 _ h => SqL.of (h.2 _ _ ed)) ?_ ?_
      · rintro i y G5 hi ⟨f1, f2⟩
        obtain ⟨x, hx, rfl⟩ := map_at hi
        have il := (List.getElem?_eq_some_iff.mp hx).1
        refine ⟨rfl, ?_⟩
        refine yesT ?_
        refine ⟨_, rfl, x, rfl, in_log (lin x (List.mem_of_getElem? hx)), _, f1, ?_, ?_, same_upd f2 ne1⟩
        · rw [List.length_map, List.length_map, List.length_take]; exact small1000 (by omega)
        · rw [upd_same, List.take_add_one, hx, List.map_append, List.map_append]; rfl
      rintro G5 ⟨f1, f2⟩
      rw [List.length_map, List.take_length] at f1
      have hne : row ≠ [] := fun q => by rw [q] at l1; simp at l1
      have hb := postLn_len lin (by omega : row.length ≤ 50)
      rw [← post_eq hne, show ("post " ++ Txt.join " " (row.map numS) : Str).length = _ from PySem.Str.length_append _ _, p5] at hb
      refine ⟨" ", e1, row.map numS, rfl, rfl, .inl (SqL.of f1), ?_, ?_⟩
      · have hb2 := sum_le (f := fun x : Str => x.length) (m := 9) (l := row.map numS) fun x mx => by
          obtain ⟨q, mq, rfl⟩ := List.mem_map.mp mx
          exact (numS_len9 (lin q mq).1 (lin q mq).2).2
        rw [List.length_map] at hb2
        rw [one, List.length_map]
        omega
      refine ⟨_, _, rfl, rfl, by rw [p5]; omega, ?_⟩
      rw [post_eq hne]
      refine ⟨L, _, _, rfl, rfl, f2 _ _ gL, ?_, ⟨_, rfl⟩, ?_, same_upd (sG.trans f2) nL⟩
      · rw [List.length_map, List.length_map, List.length_take]; exact small1000 (by omega)
      · rw [upd_same, List.take_add_one, hrow, List.map_append, List.map_append]; rfl
    · rintro σ' G ⟨⟨o3, rfl⟩, gL, sG⟩
      rw [List.length_map, al, List.take_length] at gL
      have kl := dct_len hR
      refine ⟨_, rfl, q, kvs, rs.map (·.1), rfl, .inl (sG _ _ hq), dct_keys hR, by rw [List.length_map]; omega, fun ys p py sy np => ?_⟩
      obtain ⟨rs2, ey, pm⟩ := reorder R.nd py
      subst ey
      have l2 := pm.length_eq
      have s2 : Same G (upd G p (.lst ((rs2.map (·.1)).map V.str))) := same_new np
      have ep : (upd G p (.lst ((rs2.map (·.1)).map V.str))) p = some (.lst ((rs2.map (·.1)).map V.str)) := upd_same
      generalize upd G p (.lst ((rs2.map (·.1)).map V.str)) = G2 at *
      refine ⟨p, rfl, ⟨_, SqL.of ep⟩, ?_⟩
      refine for_list (K := K) (a := p) (xs := (rs2.map (·.1)).map V.str) (fun j σ' G3 => (∃ o4 : Option V, σ' = [some (.ref l), some (.ref q), some (.ref L), o3, o4, none, none]) ∧ G3 L = some (.lst ((rows.map postLn ++ (rs2.take j).map reqLn).map V.str)) ∧ Same H G3 ∧ G3 p = some (.lst ((rs2.map (·.1)).map V.str))) ⟨⟨none, rfl⟩, by rw [List.take_zero, List.map_nil, List.append_nil]; exact s2 _ _ gL, sG.trans s2, ep⟩ (fun j σ' G _ h => SqL.of h.2.2.2) ?_ ?_
      · rintro j x σ' G3 hj ⟨⟨o4, rfl⟩, gL3, s3, ep3⟩
        obtain ⟨z, hz, rfl⟩ := map_at hj
        rw [List.getElem?_map] at hz
        obtain ⟨⟨z', row⟩, hrow, rfl⟩ := Option.map_eq_some_iff.mp hz
        have mrow := List.mem_of_getElem? hrow
        have mrow' := pm.mem_iff.mp mrow
        obtain ⟨nm, l1, l9, lin⟩ := R.row _ mrow'
        have l9 : row.length ≤ 9 := l9
        have nh : (z'.length : Int) ≤ 8 := nm.hi
        have jl := (List.getElem?_eq_some_iff.mp hrow).1
        obtain ⟨v, hval, ra, rfl, hra⟩ := dct_some hR R.nd mrow'
        have nLp : p ≠ L := fun e => by rw [e, gL] at np; cases np
        refine ⟨_, rfl, .inl ⟨rfl, _, SqL.of gL3⟩, _, rfl, _, _, rfl, rfl, by rw [p8]; show 8 + z'.length ≤ _; omega, ?_⟩
        have e1' : (("request " : Str) ++ z').length = 8 + z'.length := by rw [show (("request " : Str) ++ z').length = _ from PySem.Str.length_append _ _, p8]
        have e2' : (("request " : Str) ++ z' ++ " ").length = 9 + z'.length := by rw [show (("request " : Str) ++ z' ++ " ").length = _ from PySem.Str.length_append _ _, e1', one]; omega
        refine ⟨_, _, rfl, rfl, by show (("request " : Str) ++ z').length + _ ≤ _; rw [e1', one]; omega, ⟨_, rfl⟩, ?_⟩
        refine ⟨_, rfl, _, rfl, q, .ref ra, rfl, (by rw [← hval]; exact DGet.k (k := Sum.inr z') (s3 _ _ hq)), ra, rfl, ⟨_, SqL.of (s3 _ _ hra)⟩, fun e1 ne1 => ?_⟩
        refine lc_list (K := K) (a := ra) (xs := row.map vO) (fun i G4 => G4 e1 = some (.lst (((row.take i).map priS).map V.str)) ∧ Same G3 G4) ⟨upd_same, same_new ne1⟩ (fun i G3 _ h => SqL.of (h.2 _ _ (s3 _ _ hra))) ?_ ?_
        · rintro i y G4 hi ⟨f1, f2⟩
          obtain ⟨x, hx, rfl⟩ := map_at hi
          have il := (List.getElem?_eq_some_iff.mp hx).1
          refine ⟨rfl, ?_⟩
          refine yesT ?_
          refine ⟨_, rfl, x, rfl, lin x (List.mem_of_getElem? hx), _, f1, ?_, ?_, same_upd f2 ne1⟩
          · rw [List.length_map, List.length_map, List.length_take]; exact small1000 (by omega)
          · rw [upd_same, List.take_add_one, hx, List.map_append, List.map_append]; rfl
        rintro G4 ⟨f1, f2⟩
        rw [List.length_map, List.take_length] at f1
        have hne : row ≠ [] := fun q => by rw [q] at l1; simp at l1
        have hb := reqLn_len (q := (z', row)) nm lin (by show row.length ≤ 50; omega)
        rw [← req_eq (q := (z', row)) hne] at hb
        have e9 : ("request " ++ z' ++ " " ++ Txt.join " " (row.map priS) : Str).length = 9 + z'.length + (Txt.join " " (row.map priS)).length := by rw [show ("request " ++ z' ++ " " ++ Txt.join " " (row.map priS) : Str).length = _ from PySem.Str.length_append _ _, e2']
        have hb : ("request " ++ z' ++ " " ++ Txt.join " " (row.map priS) : Str).length ≤ 1000 := hb
        rw [e9] at hb
        refine ⟨" ", e1, row.map priS, rfl, rfl, .inl (SqL.of f1), ?_, ?_⟩
        · have hb2 := sum_le (f := fun x : Str => x.length) (m := 9) (l := row.map priS) fun x mx => by
            obtain ⟨o, mo, rfl⟩ := List.mem_map.mp mx
            exact priS_len9 (lin o mo)
          rw [List.length_map] at hb2
          rw [one, List.length_map]
          omega
        refine ⟨_, _, rfl, rfl, by show (("request " : Str) ++ z' ++ " ").length + _ ≤ _; rw [e2']; omega, ?_⟩
        rw [show ("request " ++ z' ++ " " ++ Txt.join " " (row.map priS) : Str) = reqLn (z', row) from req_eq (q := (z', row)) hne]
        refine ⟨L, _, _, rfl, rfl, f2 _ _ gL3, ?_, ⟨_, rfl⟩, ?_, same_upd (s3.trans f2) nL, (upd_ne nLp).trans (f2 _ _ ep3)⟩
        · rw [List.length_map, List.length_append, List.length_map, List.length_map, List.length_take]; exact small1000 (by omega)
        · rw [upd_same, List.take_add_one, hrow, List.map_append, List.map_append, List.map_append, List.map_append, List.append_assoc]; rfl
      · rintro σ' G3 ⟨⟨o4, rfl⟩, gL3, s3, ep3⟩
        rw [List.length_map, List.length_map, List.take_length] at gL3
        exact ⟨_, rfl, k L G3 rs2 s3 nL pm sy gL3⟩
end
end Toy

namespace Toy
open PySem PySem.Spec PyProof.Rows L2
local macro_rules | `(tactic| walk_at "hp") => `(tactic| first
  | assumption
  | exact upd_same
  | (refine Eq.trans (upd_ne (by first | assumption | (apply Ne.symm; assumption))) ?_; walk_at "hp"))
local macro_rules | `(tactic| walk_at "side") => `(tactic| first
  | exact .inl ⟨by omega, by omega⟩
  | exact .inr ⟨by omega, by omega⟩
  | exact ⟨by omega, by omega⟩
  | (show _ ≤ _; omega)
  | (show (_ : Int) < _; omega)
  | decide
  | assumption)
local macro_rules | `(tactic| walk_at "r") => `(tactic| first
  | refine ⟨_, rfl, ?_⟩
  | refine ⟨_, _, rfl, rfl, ?_⟩
  | refine ⟨_, _, _, _, rfl, rfl, SqL.of (by walk_at "hp"), rfl, ?_⟩
  | refine ⟨_, _, _, _, rfl, rfl, SqT.of (by walk_at "hp"), rfl, ?_⟩
  | refine ⟨_, _, _, _, rfl, rfl, (by walk_at "hp"), rfl, ?_⟩
  | refine And.intro rfl ?_
  | refine ⟨_, _, rfl, SqT.of (by walk_at "hp"), ?_⟩
  | refine ⟨_, _, rfl, SqL.of (by walk_at "hp"), ?_⟩
  | refine .inl ⟨_, rfl, ?_⟩
  | refine ⟨_, _, rfl, .inl (SqL.of (by walk_at "hp")), ?_⟩
  | refine ⟨_, _, rfl, .inr (SqT.of (by walk_at "hp")), ?_⟩
  | refine ⟨_, _, rfl, .inl ⟨SqL.of (by walk_at "hp"), ?_⟩⟩
  | refine And.intro (.inl ⟨rfl, _, SqL.of (by walk_at "hp")⟩) ?_
  | refine ⟨_, _, _, rfl, rfl, (by walk_at "hp"), ?_⟩
  | refine ⟨_, _, rfl, (by walk_at "hp"), ?_⟩
  | refine And.intro (by walk_at "side") ?_)
local macro_rules | `(tactic| walk_at "rr") => `(tactic| (repeat walk_at "r"))
local macro_rules | `(tactic| walk_at "k") => `(tactic| first
  | refine ite2 (fun _ => ?_) (fun g => absurd rfl g)
  | refine ite2 (fun g => absurd g (by decide)) (fun _ => ?_)
  | refine ite2 (fun _ => ?_) (fun g => absurd (decide_eq_true (by omega)) g)
  | refine ite2 (fun g => absurd (of_decide_eq_true g) (by omega)) (fun _ => ?_)
  | refine ite2 (fun g => (nd_t g (by omega)).elim) (fun _ => ?_)
  | refine ite2 (fun _ => ?_) (fun g => absurd (nd_f g) (by omega)))
local macro_rules | `(tactic| walk_at "rk") => `(tactic| (repeat (first | walk_at "r" | walk_at "k")))
def lnS (z : Str) : Str := z ++ "\n"
def txtL (lns : List Str) : Str := catT (lns.map lnS)
def odds : List Str := ["", "post", "request a", "state", "posts 0", "state a", "request A 0"]
/-- the same things, at two places -/
def EqTu (K : PySem.W.Frag) (G : Hp) (t du : Addr) : Prop := ∃ xs ys, SqT K G t xs ∧ SqT K G du ys ∧ xs.length = ys.length ∧ ∀ (j : Nat) x y, xs[j]? = some x → ys[j]? = some y → SameT K G 50 x y
def spHolds (K : PySem.W.Frag) : Sp := fun vs H Q _ => ∃ (d c l : Addr) (lns : List Str) (b : Bool) (p : Str) (du : Addr) (R : Hp → Addr → Prop), vs = [.ref d, .ref l, .bl b, .str p, .ref du] ∧ Dice c H d ∧ l ≠ d ∧ H l = some (.lst (lns.map V.str)) ∧ lns.length ≤ 40 ∧ (∀ y ∈ lns, y.length ≤ 1000) ∧ (∃ o, H du = some o) ∧ du ≠ d ∧
  Reads (txtL lns) b R ∧ (∀ at_ odd, at_ ≤ lns.length → odd ∈ odds → Reads (txtL (lns.take at_ ++ [odd] ++ lns.drop at_)) b (LnT at_)) ∧ (p ≠ "" → R = PaT p) ∧ (p = "" → ∀ G t, Keep d H G → R G t → EqTu K G t du) ∧ ∀ H', Keep d H H' → Q (.bl true) H'
theorem cut_to {xs : List V} {n : Nat} (h : n ≤ xs.length) : cutV xs none (some n) = xs.take n := by
  unfold cutV
  have e1 : HT.sIx xs.length 0 none = 0 := rfl
  have e2 : HT.sIx xs.length xs.length (some (n : Int)) = n := by
    have h0 : ¬ ((n : Int) < 0) := by omega
    simp only [HT.sIx]
    simp [h0]
    omega
  rw [e1, e2, List.drop_zero, Nat.sub_zero]
theorem flat3 {K : PySem.W.Frag} {G : Hp} {n : Nat} {a b c : V} (ha : flatB a = true) (hb : flatB b = true) (hc : flatB c = true) : ∀ (j : Nat) x y, [a, b, c][j]? = some x → [a, b, c][j]? = some y → SameT K G n x y := by
  intro j x y h1 h2
  rw [h1] at h2
  obtain rfl := Option.some.inj h2
  match j, h1 with
  | 0, h1 => cases h1; exact .flat ha
  | 1, h1 => cases h1; exact .flat hb
  | 2, h1 => cases h1; exact .flat hc
section
variable {P : Program} {w : World} {K : PySem.W.Frag} {mg : Str → Option Value} {base : Heap}
theorem join_txt (l : List Str) : Txt.join "" l = catT l := join_cat l
theorem ok__law_holds (T : Top K mg) : Ok P w K mg base 11 "_law_holds" ["stock", "lines", "of_system", "part", "due"] (spHolds K) := by
  refine ok_of T.d__law_holds sc__law_holds (fun vs H Q E h => ?_) (fun f cdv A outer s H vs Q E hr h => ?_)
  · obtain ⟨d, c, l, lns, b, p, du, R, rfl, _⟩ := h
    rfl
  · obtain ⟨d, c, l, lns, b, p, du, R, rfl, D, ld, hl, l40, yl, ⟨ob, hdu⟩, dud, hR, hO, hp, hdue, k⟩ := h
    obtain ⟨f__law_draw, fd__law_draw, m__law_draw, k__law_draw, b__law_draw, G__law_draw⟩ := ok__law_draw (P := P) (w := w) (base := base) T
    have hr__law_draw : Room 1 _ := hr.mono (by decide)
    obtain ⟨f__law_told, fd__law_told, m__law_told, k__law_told, b__law_told, G__law_told⟩ := ok__law_told (P := P) (w := w) (base := base) T
    have hr__law_told : Room 10 _ := hr.mono (by decide)
    have hu64 := hr.units
    have sz : (100000 : Nat) ≤ sizeLine := by decide
    have nl1 : ("\n" : Str).length = 1 := by decide +kernel
    refine ⟨_, (pss_cons (ps_set (i := 5) sc__law_holds.nd rfl (Or.inl rfl) (pe_call G__law_draw hr__law_draw rfl m__law_draw k__law_draw b__law_draw .nil pass0 (pa_cons (pv 0) (pa_cons pe_int pa_nil))))
      (pss_cons (ps_set (i := 6) sc__law_holds.nd rfl (Or.inl rfl) (pe_call G__law_draw hr__law_draw rfl m__law_draw k__law_draw b__law_draw .nil pass0 (pa_cons (pv 0) (pa_cons (pe_op op_add (pe_callB (id := "len") call_len_seq (by rfl) T.b_len (by decide +kernel) (pa_cons (pv 1) pa_nil)) pe_int) pa_nil))))
      (pss_cons (ps_set (i := 7) sc__law_holds.nd rfl (Or.inl rfl) (pe_ix ix_list (pe_lst (pa_cons pe_str (pa_cons pe_str (pa_cons pe_str (pa_cons pe_str (pa_cons pe_str (pa_cons pe_str (pa_cons pe_str pa_nil)))))))) (pe_call G__law_draw hr__law_draw rfl m__law_draw k__law_draw b__law_draw .nil pass0 (pa_cons (pv 0) (pa_cons pe_int pa_nil))) (fun _ _ => rfl)))
      (pss_cons (ps_if (pt_cmpR op_eq (pv 5) pe_int (nomark _))
      (pss_one (ps_set (i := 1) sc__law_holds.nd rfl (Or.inl rfl) (pe_op op_cat (pe_op op_cat (pe_slice sl_list (pv 1) po_none (po_some (pv 6))) (pe_lst (pa_cons (pv 7) pa_nil))) (pe_slice sl_list (pv 1) (po_some (pv 6)) po_none))))
      pss_nil)
      (pss_cons (ps_set (i := 8) sc__law_holds.nd rfl (Or.inl rfl) (pe_call G__law_told hr__law_told rfl m__law_told k__law_told b__law_told .nil pass0 (pa_cons (pe_join pe_str (pe_lc (own := [("line", 9)]) (g := gName 9) rfl sc__law_holds.nd (pi_list (pv 1)) (blkOk_by (own := [("line", 9)]) (N := ["stock", "lines", "of_system", "part", "due", "spoil", "at", "odd", "told", "line"]) (sc := defScope s__law_holds) (by decide +kernel)) (fun _ _ _ _ _ => (pg_name (i := 9) sc__law_holds.nd rfl (Or.inl rfl))) (fun _ _ _ _ _ => pts_nil) (fun _ _ _ _ _ => (pe_op op_add_str (pv 9) pe_str)))) (pa_cons (pv 2) pa_nil))))
      (pss_cons (ps_if (pt_cmpR op_eq (pv 5) pe_int (nomark _))
      (pss_one (ps_ret (pe_cmpR (op_eqTu hu64) (pv 8) (pe_tup (pa_cons pe_str (pa_cons (pe_op op_add (pv 6) pe_int) (pa_cons pe_bl pa_nil)))) (nomark _))))
      pss_nil)
      (pss_cons (ps_if (pt_cmpR op_ne (pv 3) pe_str (nomark _))
      (pss_one (ps_ret (pe_cmpR (op_eqTu hu64) (pv 8) (pe_tup (pa_cons pe_str (pa_cons (pv 3) (pa_cons pe_bl pa_nil)))) (nomark _))))
      pss_nil)
      (pss_one (ps_ret (pe_cmpR (op_eqTu hu64) (pv 8) (pv 4) (nomark _))))))))))), ?_⟩
    refine ⟨_, rfl, d, c, 4, rfl, D, by decide, by decide, fun v1 H1 a1 b1 k1 D1 => ?_⟩
    have hl1 := k1 _ _ ld hl
    refine ⟨_, rfl, _, rfl, l, _, rfl, .inl (SqL.of hl1), ?_⟩
    rw [List.length_map]
    refine ⟨_, _, rfl, rfl, d, c, _, rfl, D1, by omega, by omega, fun v2 H2 a2 b2 k2 D2 => ?_⟩
    refine ⟨(by show 7 ≤ sizeLine; decide), fun po npo => ?_⟩
    have nod := D2.ne npo
    have hl2 := k2 _ _ ld hl1
    have k02 := k1.trans k2
    have k03 : Keep d H (upd H2 po (.lst [.str "", .str "post", .str "request a", .str "state", .str "posts 0", .str "state a", .str "request A 0"])) := k02.mut (k02.free nod npo)
    have D3 : Dice c (upd H2 po (.lst [.str "", .str "post", .str "request a", .str "state", .str "posts 0", .str "state a", .str "request A 0"])) d := D2.upd nod (D2.nc npo)
    have hl3 : (upd H2 po (.lst [.str "", .str "post", .str "request a", .str "state", .str "posts 0", .str "state a", .str "request A 0"])) l = some (.lst (lns.map V.str)) := (upd_ne (ne_of_none hl2 npo)).trans hl2
    have hpo : (upd H2 po (.lst [.str "", .str "post", .str "request a", .str "state", .str "posts 0", .str "state a", .str "request A 0"])) po = some (.lst (odds.map V.str)) := upd_same
    generalize upd H2 po (.lst [.str "", .str "post", .str "request a", .str "state", .str "posts 0", .str "state a", .str "request A 0"]) = H3 at *
    refine ⟨_, rfl, d, c, 7, rfl, D3, by decide, by decide, fun v3 H4 a3 b3 k3 D4 => ?_⟩
    have hl4 := k3 _ _ ld hl3
    have k04 := k03.trans k3
    obtain ⟨odd, hodd⟩ : ∃ odd, odds[v3.toNat]? = some odd := ⟨_, List.getElem?_eq_getElem (by show v3.toNat < 7; omega)⟩
    have modd := List.mem_of_getElem? hodd
    have hat : atI (odds.map V.str) v3 = some (.str odd) := by
      have := atI_nat (xs := odds.map V.str) (j := v3.toNat) (v := .str odd) (by rw [List.getElem?_map, hodd]; rfl)
      rw [Int.toNat_of_nonneg a3] at this
      exact this
    refine ⟨po, _, _, _, rfl, rfl, SqL.of (k3 _ _ nod hpo), hat, ?_⟩
    have hdu4 : H4 du = some ob := k04 _ _ dud hdu
    clear hpo hl1 hl2 hl3 k1 k2 k3 k02 k03 D1 D2 D3 npo
    obtain ⟨n2, rfl⟩ : ∃ n : Nat, v2 = n := ⟨v2.toNat, by omega⟩
    walk_at "rr"
    refine ite2 (fun g => ?_) (fun g => ?_)
    · have g := of_decide_eq_true g
      injection g with g
      subst g
      have n2l : n2 ≤ (lns.map V.str).length := by rw [List.length_map]; omega
      refine ⟨_, rfl, _, rfl, _, rfl, l, _, rfl, SqL.of hl4, fun l1 q1 => ?_⟩
      rw [cut_to n2l, ← List.map_take]
      have s1 : Same H4 (upd H4 l1 (.lst ((lns.take n2).map V.str))) := same_new q1
      have h1 : (upd H4 l1 (.lst ((lns.take n2).map V.str))) l1 = some (.lst ((lns.take n2).map V.str)) := upd_same
      generalize upd H4 l1 (.lst ((lns.take n2).map V.str)) = G1 at *
      refine ⟨_, rfl, (by show 1 ≤ sizeLine; decide), fun l2 q2 => ?_⟩
      have s2 : Same G1 (upd G1 l2 (.lst [.str odd])) := same_new q2
      have h2 : (upd G1 l2 (.lst [.str odd])) l2 = some (.lst [.str odd]) := upd_same
      generalize upd G1 l2 (.lst [.str odd]) = G2 at *
      have tl : (lns.take n2).length ≤ 40 := by rw [List.length_take]; omega
      refine ⟨l1, l2, _, _, rfl, rfl, s2 _ _ h1, h2, by rw [List.length_map]; show (lns.take n2).length + 1 ≤ _; omega, fun l3 q3 => ?_⟩
      have s3 : Same G2 (upd G2 l3 (.lst ((lns.take n2).map V.str ++ [.str odd]))) := same_new q3
      have h3 : (upd G2 l3 (.lst ((lns.take n2).map V.str ++ [.str odd]))) l3 = some (.lst ((lns.take n2).map V.str ++ [.str odd])) := upd_same
      generalize upd G2 l3 (.lst ((lns.take n2).map V.str ++ [.str odd])) = G3 at *
      refine ⟨_, rfl, _, rfl, _, rfl, l, _, rfl, SqL.of (s3 _ _ (s2 _ _ (s1 _ _ hl4))), fun l4 q4 => ?_⟩
      rw [cut_from n2l, ← List.map_drop]
      have s4 : Same G3 (upd G3 l4 (.lst ((lns.drop n2).map V.str))) := same_new q4
      have h4 : (upd G3 l4 (.lst ((lns.drop n2).map V.str))) l4 = some (.lst ((lns.drop n2).map V.str)) := upd_same
      generalize upd G3 l4 (.lst ((lns.drop n2).map V.str)) = G4 at *
      refine ⟨l3, l4, _, _, rfl, rfl, s4 _ _ h3, h4, by rw [List.length_append, List.length_map, List.length_map, List.length_drop]; show (lns.take n2).length + 1 + _ ≤ _; omega, fun L qL => ?_⟩
      have e5 : (lns.take n2).map V.str ++ [.str odd] ++ (lns.drop n2).map V.str = (lns.take n2 ++ [odd] ++ lns.drop n2).map V.str := by rw [List.map_append, List.map_append]; rfl
      rw [e5]
      have s5 : Same G4 (upd G4 L (.lst ((lns.take n2 ++ [odd] ++ lns.drop n2).map V.str))) := same_new qL
      have hL : (upd G4 L (.lst ((lns.take n2 ++ [odd] ++ lns.drop n2).map V.str))) L = some (.lst ((lns.take n2 ++ [odd] ++ lns.drop n2).map V.str)) := upd_same
      generalize upd G4 L (.lst ((lns.take n2 ++ [odd] ++ lns.drop n2).map V.str)) = GL at *
      have reads := hO n2 odd (by omega) modd
      have olen : odd.length ≤ 20 := by
        have : ∀ x ∈ odds, x.length ≤ 20 := by decide +kernel
        exact this odd modd
      have Llen : ∀ y ∈ lns.take n2 ++ [odd] ++ lns.drop n2, y.length ≤ 1000 := fun y my => by
        rcases List.mem_append.mp my with m | m
        · rcases List.mem_append.mp m with m | m
          · exact yl y (List.mem_of_mem_take m)
          · rw [List.mem_singleton.mp m]; omega
        · exact yl y (List.mem_of_mem_drop m)
      have Ll : (lns.take n2 ++ [odd] ++ lns.drop n2).length ≤ 81 := by
        rw [List.length_append, List.length_append, List.length_drop]
        show (lns.take n2).length + 1 + _ ≤ _
        omega
      generalize lns.take n2 ++ [odd] ++ lns.drop n2 = Ls at *
      refine ⟨⟨_, rfl⟩, _, rfl, L, rfl, ⟨_, SqL.of hL⟩, fun e1 ne1 => ?_⟩
      refine lc_list (K := K) (a := L) (xs := Ls.map V.str) (fun i G5 => G5 e1 = some (.lst (((Ls.take i).map lnS).map V.str)) ∧ Same GL G5) ⟨upd_same, same_new ne1⟩ (fun i G5 _ h => SqL.of (h.2 _ _ hL)) ?_ ?_
      · rintro i y G5 hi ⟨f1, f2⟩
        obtain ⟨x, hx, rfl⟩ := map_at hi
        have il := (List.getElem?_eq_some_iff.mp hx).1
        have xl := Llen x (List.mem_of_getElem? hx)
        refine ⟨rfl, ?_⟩
        refine yesT ?_
        refine ⟨_, rfl, x, "\n", rfl, rfl, by rw [nl1]; omega, _, f1, ?_, ?_, same_upd f2 ne1⟩
        · rw [List.length_map, List.length_map, List.length_take]; exact small1000 (by omega)
        · rw [upd_same, List.take_add_one, hx, List.map_append, List.map_append]; rfl
      rintro G5 ⟨f1, f2⟩
      rw [List.length_map, List.take_length] at f1
      refine ⟨"", e1, Ls.map lnS, rfl, rfl, .inl (SqL.of f1), ?_, ?_⟩
      · have hb2 := sum_le (f := fun x : Str => x.length) (m := 1001) (l := Ls.map lnS) fun x mx => by
          obtain ⟨q, mq, rfl⟩ := List.mem_map.mp mx
          have := Llen q mq
          rw [show (lnS q).length = _ from PySem.Str.length_append _ _, nl1]; omega
        rw [List.length_map] at hb2
        have : ("" : Str).length = 0 := by decide +kernel
        rw [this]
        omega
      rw [join_txt]
      refine ⟨_, rfl, txtL Ls, b, LnT n2, rfl, reads, fun t G6 s6 nt ht => ?_⟩
      refine ⟨_, rfl, rfl, _, rfl, ?_⟩
      refine ite2 (fun _ => ?_) (fun g => absurd (decide_eq_true (rfl : V.int 0 = V.int 0)) g)
      refine ⟨_, rfl, _, rfl, _, _, rfl, rfl, (by show 3 ≤ sizeLine; decide), fun t2 nt2 => ?_⟩
      have kk := (((k04.same ((s1.trans s2).trans ((s3.trans s4).trans s5))).same f2).same s6).same (same_new (o := .tup [.str "line", .int ((n2 : Nat) + 1), .bl true]) nt2)
      exact ⟨50, t, t2, by decide, ne_of_none ht nt2, rfl, rfl, ⟨_, _, SqT.of ((upd_ne (ne_of_none ht nt2)).trans ht), SqT.of upd_same, rfl, flat3 rfl rfl rfl⟩, k _ kk⟩
    · have g : ¬ v1 = 0 := fun e => g (by rw [e]; exact decide_eq_true rfl)
      have Llen : ∀ y ∈ lns, y.length ≤ 1000 := yl
      have Ll : lns.length ≤ 81 := by omega
      have hL := hl4
      obtain ⟨L, eL⟩ : ∃ L, L = l := ⟨_, rfl⟩
      obtain ⟨Ls, eLs⟩ : ∃ Ls, Ls = lns := ⟨_, rfl⟩
      obtain ⟨GL, eGL⟩ : ∃ GL, GL = H4 := ⟨_, rfl⟩
      have hdu5 : GL du = some ob := by rw [eGL]; exact hdu4
      have k05 : Keep d H GL := by rw [eGL]; exact k04
      rw [← eL, ← eLs, ← eGL] at hL
      rw [← eLs] at Llen Ll hR
      rw [← eL, ← eGL]
      clear eL eLs eGL
      refine ⟨⟨_, rfl⟩, _, rfl, L, rfl, ⟨_, SqL.of hL⟩, fun e1 ne1 => ?_⟩
      refine lc_list (K := K) (a := L) (xs := Ls.map V.str) (fun i G5 => G5 e1 = some (.lst (((Ls.take i).map lnS).map V.str)) ∧ Same GL G5) ⟨upd_same, same_new ne1⟩ (fun i G5 _ h => SqL.of (h.2 _ _ hL)) ?_ ?_
      · rintro i y G5 hi ⟨f1, f2⟩
        obtain ⟨x, hx, rfl⟩ := map_at hi
        have il := (List.getElem?_eq_some_iff.mp hx).1
        have xl := Llen x (List.mem_of_getElem? hx)
        refine ⟨rfl, ?_⟩
        refine yesT ?_
        refine ⟨_, rfl, x, "\n", rfl, rfl, by rw [nl1]; omega, _, f1, ?_, ?_, same_upd f2 ne1⟩
        · rw [List.length_map, List.length_map, List.length_take]; exact small1000 (by omega)
        · rw [upd_same, List.take_add_one, hx, List.map_append, List.map_append]; rfl
      rintro G5 ⟨f1, f2⟩
      rw [List.length_map, List.take_length] at f1
      refine ⟨"", e1, Ls.map lnS, rfl, rfl, .inl (SqL.of f1), ?_, ?_⟩
      · have hb2 := sum_le (f := fun x : Str => x.length) (m := 1001) (l := Ls.map lnS) fun x mx => by
          obtain ⟨q, mq, rfl⟩ := List.mem_map.mp mx
          have := Llen q mq
          rw [show (lnS q).length = _ from PySem.Str.length_append _ _, nl1]; omega
        rw [List.length_map] at hb2
        have : ("" : Str).length = 0 := by decide +kernel
        rw [this]
        omega
      rw [join_txt]
      refine ⟨_, rfl, txtL Ls, b, R, rfl, hR, fun t G6 s6 nt ht => ?_⟩
      walk_at "rr"
      refine ite2 (fun e => absurd (of_decide_eq_true e) (fun e => g (by injection e))) (fun _ => ?_)
      have ntd : t ≠ du := fun e => by rw [e, f2 _ _ hdu5] at nt; cases nt
      walk_at "rr"
      refine ite2 (fun g2 => ?_) (fun g2 => ?_)
      · have g2 : p ≠ "" := fun e => nd_t g2 (congrArg V.str e)
        rw [hp g2] at ht
        have ht : G6 t = some (.tup [.str "part", .str p, .bl true]) := ht
        refine ⟨_, rfl, _, rfl, (by show 3 ≤ sizeLine; decide), fun t2 nt2 => ?_⟩
        exact ⟨50, t, t2, by decide, ne_of_none ht nt2, rfl, rfl, ⟨_, _, SqT.of ((upd_ne (ne_of_none ht nt2)).trans ht), SqT.of upd_same, rfl, flat3 rfl rfl rfl⟩, k _ (((k05.same f2).same s6).same (same_new nt2))⟩
      · have g2 : p = "" := V.str.inj (nd_f g2)
        obtain ⟨xs, ys, e1, e2, e3, e4⟩ := hdue g2 G6 t ((k05.same f2).same s6) ht
        exact ⟨_, rfl, _, rfl, 50, t, du, by decide, ntd, rfl, rfl, ⟨xs, ys, e1, e2, e3, e4⟩, k _ ((k05.same f2).same s6)⟩
end
end Toy

namespace Toy
open PySem PySem.Spec PyProof.Rows L2
local macro_rules | `(tactic| walk_at "hp") => `(tactic| first
  | assumption
  | exact upd_same
  | (refine Eq.trans (upd_ne (by first | assumption | (apply Ne.symm; assumption))) ?_; walk_at "hp"))
local macro_rules | `(tactic| walk_at "side") => `(tactic| first
  | exact .inl ⟨by omega, by omega⟩
  | exact .inr ⟨by omega, by omega⟩
  | exact ⟨by omega, by omega⟩
  | (show _ ≤ _; omega)
  | (show (_ : Int) < _; omega)
  | decide
  | assumption)
local macro_rules | `(tactic| walk_at "r") => `(tactic| first
  | refine ⟨_, rfl, ?_⟩
  | refine ⟨_, _, rfl, rfl, ?_⟩
  | refine ⟨_, _, _, _, rfl, rfl, SqL.of (by walk_at "hp"), rfl, ?_⟩
  | refine ⟨_, _, _, _, rfl, rfl, SqT.of (by walk_at "hp"), rfl, ?_⟩
  | refine ⟨_, _, _, _, rfl, rfl, (by walk_at "hp"), rfl, ?_⟩
  | refine And.intro rfl ?_
  | refine ⟨_, _, rfl, SqT.of (by walk_at "hp"), ?_⟩
  | refine ⟨_, _, rfl, SqL.of (by walk_at "hp"), ?_⟩
  | refine .inl ⟨_, rfl, ?_⟩
  | refine ⟨_, _, rfl, .inl (SqL.of (by walk_at "hp")), ?_⟩
  | refine ⟨_, _, rfl, .inr (SqT.of (by walk_at "hp")), ?_⟩
  | refine ⟨_, _, rfl, .inl ⟨SqL.of (by walk_at "hp"), ?_⟩⟩
  | refine And.intro (.inl ⟨rfl, _, SqL.of (by walk_at "hp")⟩) ?_
  | refine ⟨_, _, _, rfl, rfl, (by walk_at "hp"), ?_⟩
  | refine ⟨_, _, rfl, (by walk_at "hp"), ?_⟩
  | refine And.intro (by walk_at "side") ?_)
local macro_rules | `(tactic| walk_at "rr") => `(tactic| (repeat walk_at "r"))
local macro_rules | `(tactic| walk_at "k") => `(tactic| first
  | refine ite2 (fun _ => ?_) (fun g => absurd rfl g)
  | refine ite2 (fun g => absurd g (by decide)) (fun _ => ?_)
  | refine ite2 (fun _ => ?_) (fun g => absurd (decide_eq_true (by omega)) g)
  | refine ite2 (fun g => absurd (of_decide_eq_true g) (by omega)) (fun _ => ?_)
  | refine ite2 (fun g => (nd_t g (by omega)).elim) (fun _ => ?_)
  | refine ite2 (fun _ => ?_) (fun g => absurd (nd_f g) (by omega)))
local macro_rules | `(tactic| walk_at "rk") => `(tactic| (repeat (first | walk_at "r" | walk_at "k")))
open TL (split_join)
theorem txt_join : ∀ l : List Str, txtL l = Txt.join "\n" (l ++ [("" : Str)])
  | [] => rfl
  | x :: l => by
    have ih := txt_join l
    show (x ++ "\n") ++ catT (l.map lnS) = _
    rw [show catT (l.map lnS) = txtL l from rfl, ih, List.cons_append, join_more "\n" x (by simp), str_assoc]
theorem txt_split {l : List Str} (h : ∀ p ∈ l, ¬ 10 ∈ p.cps.toList) : Txt.split (txtL l) "\n" = l ++ [("" : Str)] := by
  rw [txt_join]
  refine split_join (s := 10) (S := []) (by decide +kernel) (by decide +kernel) (by simp) fun p m => ?_
  rcases List.mem_append.mp m with m | m
  · exact h p m
  · rw [List.mem_singleton.mp m]; decide +kernel
theorem txt_len {l : List Str} (h : ∀ p ∈ l, p.length ≤ 1000) (n : l.length ≤ 100) : (txtL l).length ≤ 1000000 := by
  have nl1 : ("\n" : Str).length = 1 := by decide +kernel
  have e : (txtL l).length = _ := len_cat _
  have hb := sum_le (f := fun x : Str => x.length) (m := 1001) (l := l.map lnS) fun x mx => by
    obtain ⟨q, mq, rfl⟩ := List.mem_map.mp mx
    have := h q mq
    rw [show (lnS q).length = _ from PySem.Str.length_append _ _, nl1]; omega
  rw [List.length_map] at hb
  rw [e]
  omega
theorem join_mem {s : Str} {c : Nat} : ∀ {l : List Str}, c ∈ (Txt.join s l).cps.toList → c ∈ s.cps.toList ∨ ∃ p ∈ l, c ∈ p.cps.toList
  | [], h => by cases h
  | [x], h => .inr ⟨x, List.mem_cons_self, by rw [join_one] at h; exact h⟩
  | x :: y :: r, h => by
    rw [join_cons] at h
    change c ∈ TL.tl (x ++ (s ++ Txt.join s (y :: r))) at h
    rw [TL.tl_append, TL.tl_append] at h
    rcases List.mem_append.mp h with m | m
    · exact .inr ⟨x, List.mem_cons_self, m⟩
    · rcases List.mem_append.mp m with m | m
      · exact .inl m
      · rcases join_mem m with q | ⟨p, mp, q⟩
        · exact .inl q
        · exact .inr ⟨p, List.mem_cons_of_mem _ mp, q⟩
theorem numS_no10 {i : Int} (h : 0 ≤ i) : ¬ 10 ∈ (numS i).cps.toList := fun m => by have := numS_dig h 10 m; omega
theorem name_no10 {z : Str} (h : Name 8 z) : ¬ 10 ∈ z.cps.toList := fun m => by have := h.low.c 10 m; omega
theorem sp_no10 : ¬ 10 ∈ (" " : Str).cps.toList := by decide +kernel
theorem post_no10 {r : List Int} (h : ∀ i ∈ r, InN i) : ¬ 10 ∈ (postLn r).cps.toList := fun m => by
  rcases join_mem m with q | ⟨p, mp, q⟩
  · exact sp_no10 q
  · rcases List.mem_cons.mp mp with rfl | mp
    · exact absurd q (by decide +kernel)
    · obtain ⟨i, hi, rfl⟩ := List.mem_map.mp mp
      exact numS_no10 (h i hi).1 q
theorem req_no10 {p : Str × List (Option Int)} (n : Name 8 p.1) (h : ∀ o ∈ p.2, ∀ i, o = some i → InN i) : ¬ 10 ∈ (reqLn p).cps.toList := fun m => by
  rcases join_mem m with q | ⟨x, mx, q⟩
  · exact sp_no10 q
  · rcases List.mem_cons.mp mx with rfl | mx
    · exact absurd q (by decide +kernel)
    rcases List.mem_cons.mp mx with rfl | mx
    · exact name_no10 n q
    · obtain ⟨o, ho, rfl⟩ := List.mem_map.mp mx
      cases o with
      | none => exact absurd q (by decide +kernel)
      | some i => exact numS_no10 (h _ ho i rfl).1 q
theorem state_no10 {r : List (Str × Int)} (h : RowT r) : ¬ 10 ∈ (stateLn r).cps.toList := fun m => by
  rcases join_mem m with q | ⟨x, mx, q⟩
  · exact sp_no10 q
  · rcases List.mem_cons.mp mx with rfl | mx
    · exact absurd q (by decide +kernel)
    · obtain ⟨p, hp, rfl⟩ := List.mem_map.mp mx
      unfold pairT at q
      change 10 ∈ TL.tl (p.1 ++ ":" ++ numS p.2) at q
      rw [TL.tl_append, TL.tl_append] at q
      rcases List.mem_append.mp q with q | q
      · rcases List.mem_append.mp q with q | q
        · exact name_no10 (h.row p hp).1 q
        · exact absurd q (by decide +kernel)
      · exact numS_no10 (h.row p hp).2.1 q
/-! the lines of a system -/
theorem sys_lines {ps : List (List Int)} {rs : List (Str × List (Option Int))} (L : SysLn ps rs) : ∀ z ∈ sysLns ps rs, ¬ 10 ∈ z.cps.toList ∧ z.length ≤ 1000 := fun z m => by
  unfold sysLns at m
  rcases List.mem_append.mp m with m | m
  · obtain ⟨r, mr, rfl⟩ := List.mem_map.mp m
    obtain ⟨h1, h2, h3⟩ := L.row r mr
    exact ⟨post_no10 h3, postLn_len h3 h2⟩
  · obtain ⟨q, mq, rfl⟩ := List.mem_map.mp m
    obtain ⟨n, h1, h2, h3⟩ := L.req q mq
    exact ⟨req_no10 n h3, reqLn_len n h3 h2⟩
theorem sysIn_all {ps : List (List Int)} {rs : List (Str × List (Option Int))} (L : SysLn ps rs) : SysIn (txtL (sysLns ps rs)) ps rs (sysLns ps rs) (ps.length + rs.length) := by
  have l := sysLns_len (ps := ps) (rs := rs)
  have := L.p20
  have := L.r20
  exact ⟨txt_len (fun p m => (sys_lines L p m).2) (by omega), L, txt_split fun p m => (sys_lines L p m).1, by omega, by omega, Nat.le_refl _, fun i _ => rfl⟩
theorem odds_s : ∀ z ∈ odds, OddS z := by
  have e : ∀ z ∈ odds, (((Txt.split z " ")[0]? ≠ some ("post" : Str) ∨ (Txt.split z " ").length = 1) ∧ 1 ≤ (Txt.split z " ").length ∧ (Txt.split z " ").length ≤ 100 ∧ (∀ y ∈ Txt.split z " ", y.length ≤ 1000) ∧ z.length ≤ 1000 ∧ ((Txt.split z " ")[0]? ≠ some ("request" : Str) ∨ (Txt.split z " ").length < 3 ∨ ((Txt.split z " ")[1]?).map (fun y => isNm (.str y)) = some false)) := by decide +kernel
  intro z m
  obtain ⟨h1, h2, h3, h4, h5, h6⟩ := e z m
  refine ⟨h1, h2, h3, h4, h5, ?_⟩
  rcases h6 with h | h | h
  · exact .inl h
  · exact .inr (.inl h)
  · obtain ⟨y, e1, e2⟩ := Option.map_eq_some_iff.mp h
    exact .inr (.inr ⟨y, e1, e2⟩)
theorem odds_m : ∀ z ∈ odds, OddM (Txt.split z " ") ∧ z.length ≤ 1000 := by
  have e : ∀ z ∈ odds, (1 ≤ (Txt.split z " ").length ∧ (Txt.split z " ").length ≤ 100 ∧ (∀ y ∈ Txt.split z " ", y.length ≤ 1000) ∧ ((Txt.split z " ")[0]? ≠ some ("state" : Str) ∨ (Txt.split z " ").length < 2 ∨ ((Txt.split z " ")[1]?).map (fun y => decide ((Txt.split y ":").length ≠ 2)) = some true)) ∧ z.length ≤ 1000 := by decide +kernel
  intro z m
  obtain ⟨⟨h1, h2, h3, h4⟩, h5⟩ := e z m
  refine ⟨⟨h1, h2, h3, ?_⟩, h5⟩
  rcases h4 with h | h | h
  · exact .inl h
  · exact .inr (.inl h)
  · obtain ⟨y, e1, e2⟩ := Option.map_eq_some_iff.mp h
    exact .inr (.inr ⟨y, e1, of_decide_eq_true e2⟩)
theorem odds_no10 : ∀ z ∈ odds, ¬ 10 ∈ z.cps.toList ∧ z.length ≤ 1000 := by decide +kernel
theorem ins_lines {lns : List Str} {n : Nat} {odd : Str} (h : ∀ z ∈ lns, ¬ 10 ∈ z.cps.toList ∧ z.length ≤ 1000) (m : odd ∈ odds) : ∀ z ∈ lns.take n ++ [odd] ++ lns.drop n, ¬ 10 ∈ z.cps.toList ∧ z.length ≤ 1000 := fun z mz => by
  rcases List.mem_append.mp mz with q | q
  · rcases List.mem_append.mp q with q | q
    · exact h z (List.mem_of_mem_take q)
    · rw [List.mem_singleton.mp q]; exact odds_no10 odd m
  · exact h z (List.mem_of_mem_drop q)
theorem ins_at {lns : List Str} {n : Nat} {odd : Str} (h : n ≤ lns.length) : (lns.take n ++ [odd] ++ lns.drop n).length = lns.length + 1 ∧ (lns.take n ++ [odd] ++ lns.drop n)[n]? = some odd ∧ ∀ i, i < n → (lns.take n ++ [odd] ++ lns.drop n)[i]? = lns[i]? := by
  have tl : (lns.take n).length = n := by rw [List.length_take]; omega
  refine ⟨?_, ?_, fun i hi => ?_⟩
  · rw [List.length_append, List.length_append, List.length_drop, tl]; simp; omega
  · rw [List.append_assoc, List.getElem?_append_right (by omega), tl, Nat.sub_self]; rfl
  · rw [List.append_assoc, List.getElem?_append_left (by omega), List.getElem?_take, if_pos hi]
theorem reads_oddS {ps : List (List Int)} {rs : List (Str × List (Option Int))} (L : SysLn ps rs) {n : Nat} {odd : Str} (h : n ≤ (sysLns ps rs).length) (m : odd ∈ odds) : Reads (txtL ((sysLns ps rs).take n ++ [odd] ++ (sysLns ps rs).drop n)) true (LnT n) := by
  have l := sysLns_len (ps := ps) (rs := rs)
  have := L.p20
  have := L.r20
  obtain ⟨e1, e2, e3⟩ := ins_at (odd := odd) h
  have hl := ins_lines (n := n) (fun z mz => sys_lines L z mz) m
  exact .oddS (ps := ps) (rs := rs) ⟨txt_len (fun p m => (hl p m).2) (by omega), L, txt_split fun p m => (hl p m).1, by omega, by omega, by omega, e3⟩ e2 (odds_s odd m)
/-! the lines of a machine -/
theorem mac_lines {ts : List (List (Str × Int))} (h : ∀ r ∈ ts, RowT r) : ∀ z ∈ ts.map stateLn, ¬ 10 ∈ z.cps.toList ∧ z.length ≤ 1000 := fun z m => by
  obtain ⟨r, mr, rfl⟩ := List.mem_map.mp m
  exact ⟨state_no10 (h r mr), stateLn_len (h r mr)⟩
theorem macIn_all {ts : List (List (Str × Int))} (h : ∀ r ∈ ts, RowT r) (t20 : ts.length ≤ 20) : MacIn (txtL (ts.map stateLn)) ts (ts.map stateLn) ts.length := by
  have l : (ts.map stateLn).length = ts.length := List.length_map _
  exact ⟨txt_len (fun p m => (mac_lines h p m).2) (by omega), h, t20, txt_split fun p m => (mac_lines h p m).1, by omega, by omega, Nat.le_refl _, fun i _ => rfl⟩
theorem reads_oddM {ts : List (List (Str × Int))} (h : ∀ r ∈ ts, RowT r) (t20 : ts.length ≤ 20) {n : Nat} {odd : Str} (hn : n ≤ (ts.map stateLn).length) (m : odd ∈ odds) : Reads (txtL ((ts.map stateLn).take n ++ [odd] ++ (ts.map stateLn).drop n)) false (LnT n) := by
  have l : (ts.map stateLn).length = ts.length := List.length_map _
  obtain ⟨e1, e2, e3⟩ := ins_at (odd := odd) hn
  have hl := ins_lines (n := n) (fun z mz => mac_lines h z mz) m
  exact .oddM (ts := ts) ⟨txt_len (fun p m => (hl p m).2) (by omega), h, t20, txt_split fun p m => (hl p m).1, by omega, by omega, by omega, e3⟩ e2 (odds_m odd m).1 (odds_m odd m).2
end Toy

namespace Toy
open PySem PySem.Spec PyProof.Rows L2
local macro_rules | `(tactic| walk_at "hp") => `(tactic| first
  | assumption
  | exact upd_same
  | (refine Eq.trans (upd_ne (by first | assumption | (apply Ne.symm; assumption))) ?_; walk_at "hp"))
local macro_rules | `(tactic| walk_at "side") => `(tactic| first
  | exact .inl ⟨by omega, by omega⟩
  | exact .inr ⟨by omega, by omega⟩
  | exact ⟨by omega, by omega⟩
  | (show _ ≤ _; omega)
  | (show (_ : Int) < _; omega)
  | decide
  | assumption)
local macro_rules | `(tactic| walk_at "r") => `(tactic| first
  | refine ⟨_, rfl, ?_⟩
  | refine ⟨_, _, rfl, rfl, ?_⟩
  | refine ⟨_, _, _, _, rfl, rfl, SqL.of (by walk_at "hp"), rfl, ?_⟩
  | refine ⟨_, _, _, _, rfl, rfl, SqT.of (by walk_at "hp"), rfl, ?_⟩
  | refine ⟨_, _, _, _, rfl, rfl, (by walk_at "hp"), rfl, ?_⟩
  | refine And.intro rfl ?_
  | refine ⟨_, _, rfl, SqT.of (by walk_at "hp"), ?_⟩
  | refine ⟨_, _, rfl, SqL.of (by walk_at "hp"), ?_⟩
  | refine .inl ⟨_, rfl, ?_⟩
  | refine ⟨_, _, rfl, .inl (SqL.of (by walk_at "hp")), ?_⟩
  | refine ⟨_, _, rfl, .inr (SqT.of (by walk_at "hp")), ?_⟩
  | refine ⟨_, _, rfl, .inl ⟨SqL.of (by walk_at "hp"), ?_⟩⟩
  | refine And.intro (.inl ⟨rfl, _, SqL.of (by walk_at "hp")⟩) ?_
  | refine ⟨_, _, _, rfl, rfl, (by walk_at "hp"), ?_⟩
  | refine ⟨_, _, rfl, (by walk_at "hp"), ?_⟩
  | refine And.intro (by walk_at "side") ?_)
local macro_rules | `(tactic| walk_at "rr") => `(tactic| (repeat walk_at "r"))
local macro_rules | `(tactic| walk_at "k") => `(tactic| first
  | refine ite2 (fun _ => ?_) (fun g => absurd rfl g)
  | refine ite2 (fun g => absurd g (by decide)) (fun _ => ?_)
  | refine ite2 (fun _ => ?_) (fun g => absurd (decide_eq_true (by omega)) g)
  | refine ite2 (fun g => absurd (of_decide_eq_true g) (by omega)) (fun _ => ?_)
  | refine ite2 (fun g => (nd_t g (by omega)).elim) (fun _ => ?_)
  | refine ite2 (fun _ => ?_) (fun g => absurd (nd_f g) (by omega)))
local macro_rules | `(tactic| walk_at "rk") => `(tactic| (repeat (first | walk_at "r" | walk_at "k")))
theorem sysLn_of {rows : List (List Int)} {rs rs2 : List (Str × List (Option Int))} (rok : RowsOk rows) (r8 : rows.length ≤ 8) (R : ReqsR rs) (pm : rs2.Perm rs) (srt : sortedS (rs2.map (·.1)) = true) : SysLn rows rs2 := by
  have nd2 : (rs2.map (·.1)).Nodup := ((pm.map _).nodup_iff).mpr R.nd
  have := pm.length_eq
  have := R.hi
  refine ⟨by omega, fun r m => ?_, by omega, fun q m => ?_, fun i a b ha hb => ?_, nd2⟩
  · obtain ⟨h1, h2, h3⟩ := rok r m
    exact ⟨h1, by omega, h3⟩
  · obtain ⟨n, h1, h2, h3⟩ := R.row q (pm.mem_iff.mp m)
    exact ⟨n, h1, by omega, h3⟩
  · exact rising_lt srt nd2 (i := i) (by rw [List.getElem?_map, ha]; rfl) (by rw [List.getElem?_map, hb]; rfl)
theorem reqs_perm {n : Int} {rs rs2 : List (Str × List (Option Int))} (pm : rs2.Perm rs) : ReqsOk n rs2 ↔ ReqsOk n rs := by
  unfold ReqsOk
  rw [pm.length_eq]
  exact ⟨fun ⟨a, b, h⟩ => ⟨a, b, fun q m => h q (pm.mem_iff.mpr m)⟩, fun ⟨a, b, h⟩ => ⟨a, b, fun q m => h q (pm.mem_iff.mp m)⟩⟩
theorem reads_sys {rows : List (List Int)} {rs rs2 : List (Str × List (Option Int))} (L : SysLn rows rs2) (pm : rs2.Perm rs) : ∃ R, Reads (txtL (sysLns rows rs2)) true R ∧ (dueS rows rs ≠ "" → R = PaT (dueS rows rs)) ∧ (dueS rows rs = "" → R = RdS rows rs2) := by
  have l := sysLns_len (ps := rows) (rs := rs2)
  have I := sysIn_all L
  have e1 : rows.length + rs2.length = (sysLns rows rs2).length := l.symm
  by_cases m : MovesOk rows
  · by_cases r : ReqsOk (rows.length : Nat) rs
    · have ed := dueS_ok m r
      exact ⟨_, .okS I e1 rfl m ((reqs_perm pm).mpr r), fun h => absurd ed h, fun _ => rfl⟩
    · have ed := dueS_r m r
      refine ⟨_, .reqs I e1 rfl m (fun h => r ((reqs_perm pm).mp h)), fun _ => by rw [ed], fun h => ?_⟩
      rw [ed] at h
      exact absurd h (by decide +kernel)
  · have ed : dueS rows rs = "moves" := dueS_m m
    refine ⟨_, .moves I e1 rfl m, fun _ => by rw [ed], fun h => ?_⟩
    rw [ed] at h
    exact absurd h (by decide +kernel)
theorem srtR_mem {r : List (Str × Int)} (nd : (r.map (·.1)).Nodup) (p : Str × Int) : p ∈ srtR r ↔ p ∈ r := by
  unfold srtR
  constructor
  · intro h
    obtain ⟨z, mz, rfl⟩ := List.mem_map.mp h
    obtain ⟨_, q, mq, e1, e2⟩ := toOf_val nd ((srtN_all r).mem_iff.mp mz)
    rw [← e2, ← e1]; exact mq
  · intro h
    have mz : p.1 ∈ r.map (·.1) := List.mem_map.mpr ⟨p, h, rfl⟩
    obtain ⟨tv, _⟩ := toOf_val nd mz
    rw [tkv_val nd h] at tv
    injection tv with tv
    injection tv with tv
    refine List.mem_map.mpr ⟨p.1, (srtN_all r).mem_iff.mpr mz, ?_⟩
    rw [← tv]
theorem srtR_ln (r : List (Str × Int)) : (srtR r).length = r.length := by unfold srtR; rw [List.length_map, srtN_ln]
theorem turns_srt {ts : List (List (Str × Int))} (h : TurnsW ts) : TurnsOk (ts.map srtR) ↔ TurnsOk ts := by
  unfold TurnsOk
  rw [List.length_map]
  constructor
  · exact fun ⟨a, b, k⟩ => ⟨a, b, fun r mr p mp => k _ (List.mem_map.mpr ⟨r, mr, rfl⟩) p ((srtR_mem (h.row r mr).2.2.1 p).mpr mp)⟩
  · refine fun ⟨a, b, k⟩ => ⟨a, b, fun r mr p mp => ?_⟩
    obtain ⟨r0, m0, rfl⟩ := List.mem_map.mp mr
    exact k r0 m0 p ((srtR_mem (h.row r0 m0).2.2.1 p).mp mp)
theorem mac_rows {ts : List (List (Str × Int))} (h : TurnsW ts) : ∀ r ∈ ts.map srtR, RowT r := fun r m => by
  obtain ⟨r0, m0, rfl⟩ := List.mem_map.mp m
  obtain ⟨h1, h2, h3, h4⟩ := h.row r0 m0
  exact srtR_rowT h1 h2 h3 h4
theorem reads_mac {ts : List (List (Str × Int))} (h : TurnsW ts) : ∃ R, Reads (txtL ((ts.map srtR).map stateLn)) false R ∧ (dueM ts ≠ "" → R = PaT (dueM ts)) ∧ (dueM ts = "" → R = RdM (ts.map srtR)) := by
  have t20 := h.t20
  have I := macIn_all (mac_rows h) (by rw [List.length_map]; exact t20)
  have l : (ts.map srtR).length = ((ts.map srtR).map stateLn).length := (List.length_map _).symm
  by_cases t : TurnsOk ts
  · have ed : dueM ts = "" := by unfold dueM; rw [if_pos t]
    exact ⟨_, .okM I l rfl ((turns_srt h).mpr t), fun g => absurd ed g, fun _ => rfl⟩
  · have ed : dueM ts = "machine" := by unfold dueM; rw [if_neg t]
    refine ⟨_, .badM I l rfl (fun g => t ((turns_srt h).mp g)), fun _ => by rw [ed], fun g => ?_⟩
    rw [ed] at g
    exact absurd g (by decide +kernel)
/-! the same things -/
theorem at_same {K : PySem.W.Frag} {G : Hp} {n : Nat} {α : Type} {f : α → V} (fl : ∀ x, flatB (f x) = true) (r : List α) : ∀ (j : Nat) x y, (r.map f)[j]? = some x → (r.map f)[j]? = some y → SameT K G n x y := by
  intro j x y h1 h2
  rw [h1] at h2
  obtain rfl := Option.some.inj h2
  obtain ⟨z, _, rfl⟩ := map_at h1
  exact .flat (fl z)
theorem same_int {K : PySem.W.Frag} {G : Hp} {n : Nat} {x y : V} {r : List Int} (hx : IntT G x r) (hy : IntT G y r) : SameT K G (n + 1) x y := by
  obtain ⟨a, rfl, ha⟩ := hx
  obtain ⟨b, rfl, hb⟩ := hy
  exact .tups (SqT.of ha) (SqT.of hb) rfl (at_same (fun _ => rfl) r)
theorem same_opt {K : PySem.W.Frag} {G : Hp} {n : Nat} {x y : V} {r : List (Option Int)} (hx : OptT G x r) (hy : OptT G y r) : SameT K G (n + 1) x y := by
  obtain ⟨a, rfl, ha⟩ := hx
  obtain ⟨b, rfl, hb⟩ := hy
  exact .tups (SqT.of ha) (SqT.of hb) rfl (at_same (fun o => by cases o <;> rfl) r)
theorem same_rows {K : PySem.W.Frag} {G : Hp} {n : Nat} {x y : V} {rows : List (List Int)} (hx : TupT IntT G x rows) (hy : TupT IntT G y rows) : SameT K G (n + 2) x y := by
  obtain ⟨a, xs, rfl, ha, hp⟩ := hx
  obtain ⟨b, ys, rfl, hb, hq⟩ := hy
  refine .tups (SqT.of ha) (SqT.of hb) ((prd_len hp).trans (prd_len hq).symm) fun j x y h1 h2 => ?_
  obtain ⟨r, hr, hx⟩ := prd_at1 hp h1
  obtain ⟨r', hr', hy⟩ := prd_at1 hq h2
  rw [hr] at hr'
  obtain rfl := Option.some.inj hr'
  exact same_int hx hy
theorem same_reqs {K : PySem.W.Frag} {G : Hp} {n : Nat} {a b : Addr} {ks ls : List (Key × V)} {rs rs0 : List (Str × List (Option Int))} (ha : G a = some (.dK ks)) (hb : G b = some (.dK ls)) (hx : DctOf OptT G ks rs) (hy : DctOf OptT G ls rs0) (nd : (rs0.map (·.1)).Nodup) (pm : rs.Perm rs0) : SameT K G (n + 2) (.ref a) (.ref b) := by
  refine SameT.ofDicts ha hb (by rw [dct_len hx, dct_len hy, pm.length_eq]) fun p m => ?_
  obtain ⟨j, hj⟩ := List.getElem?_of_mem m
  obtain ⟨⟨z, row⟩, hr, e, hO⟩ := prd_at1 hx hj
  obtain ⟨u, hu, hu2⟩ := dct_some hy nd (pm.mem_iff.mp (List.mem_of_getElem? hr))
  have e : p.1 = .inr z := e
  rw [e]
  exact ⟨u, hu, same_opt hO hu2⟩
theorem same_turn {K : PySem.W.Frag} {G : Hp} {n : Nat} {a b : Addr} {r : List (Str × Int)} (nd : (r.map (·.1)).Nodup) (ha : G a = some (.dK (tkv (srtR r)))) (hb : G b = some (.dK (tkv r))) : SameT K G (n + 1) (.ref a) (.ref b) := by
  refine SameT.ofDicts ha hb (by rw [tkv_len, tkv_len, srtR_ln]) fun p m => ?_
  unfold tkv at m
  obtain ⟨q, mq, rfl⟩ := List.mem_map.mp m
  exact ⟨.int q.2, tkv_val nd ((srtR_mem nd q).mp mq), .flat rfl⟩
theorem eq_sys {K : PySem.W.Frag} {G : Hp} {t du qc : Addr} {mv : V} {rows : List (List Int)} {kvc : List (Key × V)} {rs rs2 : List (Str × List (Option Int))} (h : RdS rows rs2 G t) (hd : G du = some (.tup [.str "read", mv, .ref qc])) (hm : TupT IntT G mv rows) (hq : G qc = some (.dK kvc)) (hR : DctOf OptT G kvc rs) (nd : (rs.map (·.1)).Nodup) (pm : rs2.Perm rs) : EqTu K G t du := by
  obtain ⟨mv', q, kvs, rs', e1, e2, e3, e4, e5⟩ := h
  refine ⟨_, _, SqT.of e1, SqT.of hd, rfl, fun j x y h1 h2 => ?_⟩
  match j, h1, h2 with
  | 0, h1, h2 => cases h1; cases h2; exact .flat rfl
  | 1, h1, h2 => cases h1; cases h2; exact same_rows e2 hm
  | 2, h1, h2 => cases h1; cases h2; exact same_reqs e3 hq e4 hR nd (e5.trans pm)
theorem eq_mac {K : PySem.W.Frag} {G : Hp} {t du tm : Addr} {ds : List Addr} {ts : List (List (Str × Int))} (W : TurnsW ts) (h : RdM (ts.map srtR) G t) (hd : G du = some (.tup [.str "read", .ref tm])) (hm : G tm = some (.tup (ds.map V.ref))) (hp : Paired (fun d r => G d = some (.dK (tkv r))) ds ts) : EqTu K G t du := by
  obtain ⟨tu, ds2, e1, e2⟩ := h
  refine ⟨_, _, SqT.of e1, SqT.of hd, rfl, fun j x y h1 h2 => ?_⟩
  match j, h1, h2 with
  | 0, h1, h2 => cases h1; cases h2; exact .flat rfl
  | 1, h1, h2 =>
    cases h1; cases h2
    refine .tups (SqT.of e2.tup) (SqT.of hm) (by rw [List.length_map, List.length_map, Paired.length e2.each, List.length_map, Paired.length hp]) fun j x y h1 h2 => ?_
    obtain ⟨a, ha, rfl⟩ := map_at h1
    obtain ⟨b, hb, rfl⟩ := map_at h2
    obtain ⟨r2, hr2, ea⟩ := prd_at1 e2.each ha
    obtain ⟨r, hr, eb⟩ := prd_at1 hp hb
    rw [List.getElem?_map, hr] at hr2
    obtain rfl := Option.some.inj hr2
    exact same_turn (W.row r (List.mem_of_getElem? hr)).2.2.1 ea eb
end Toy

namespace Toy
open PySem PySem.Spec PyProof.Rows L2
local macro_rules | `(tactic| walk_at "hp") => `(tactic| first
  | assumption
  | exact upd_same
  | (refine Eq.trans (upd_ne (by first | assumption | (apply Ne.symm; assumption))) ?_; walk_at "hp"))
local macro_rules | `(tactic| walk_at "side") => `(tactic| first
  | exact .inl ⟨by omega, by omega⟩
  | exact .inr ⟨by omega, by omega⟩
  | exact ⟨by omega, by omega⟩
  | (show _ ≤ _; omega)
  | (show (_ : Int) < _; omega)
  | decide
  | assumption)
local macro_rules | `(tactic| walk_at "r") => `(tactic| first
  | refine ⟨_, rfl, ?_⟩
  | refine ⟨_, _, rfl, rfl, ?_⟩
  | refine ⟨_, _, _, _, rfl, rfl, SqL.of (by walk_at "hp"), rfl, ?_⟩
  | refine ⟨_, _, _, _, rfl, rfl, SqT.of (by walk_at "hp"), rfl, ?_⟩
  | refine ⟨_, _, _, _, rfl, rfl, (by walk_at "hp"), rfl, ?_⟩
  | refine And.intro rfl ?_
  | refine ⟨_, _, rfl, SqT.of (by walk_at "hp"), ?_⟩
  | refine ⟨_, _, rfl, SqL.of (by walk_at "hp"), ?_⟩
  | refine .inl ⟨_, rfl, ?_⟩
  | refine ⟨_, _, rfl, .inl (SqL.of (by walk_at "hp")), ?_⟩
  | refine ⟨_, _, rfl, .inr (SqT.of (by walk_at "hp")), ?_⟩
  | refine ⟨_, _, rfl, .inl ⟨SqL.of (by walk_at "hp"), ?_⟩⟩
  | refine And.intro (.inl ⟨rfl, _, SqL.of (by walk_at "hp")⟩) ?_
  | refine ⟨_, _, _, rfl, rfl, (by walk_at "hp"), ?_⟩
  | refine ⟨_, _, rfl, (by walk_at "hp"), ?_⟩
  | refine And.intro (by walk_at "side") ?_)
local macro_rules | `(tactic| walk_at "rr") => `(tactic| (repeat walk_at "r"))
local macro_rules | `(tactic| walk_at "k") => `(tactic| first
  | refine ite2 (fun _ => ?_) (fun g => absurd rfl g)
  | refine ite2 (fun g => absurd g (by decide)) (fun _ => ?_)
  | refine ite2 (fun _ => ?_) (fun g => absurd (decide_eq_true (by omega)) g)
  | refine ite2 (fun g => absurd (of_decide_eq_true g) (by omega)) (fun _ => ?_)
  | refine ite2 (fun g => (nd_t g (by omega)).elim) (fun _ => ?_)
  | refine ite2 (fun _ => ?_) (fun g => absurd (nd_f g) (by omega)))
local macro_rules | `(tactic| walk_at "rk") => `(tactic| (repeat (first | walk_at "r" | walk_at "k")))
theorem keep_new {d : Addr} {H H1 G : Hp} (nd : H d = none) (s : Same H H1) (k : Keep d H1 G) : Same H G := fun b o e => k b o (fun z => by rw [z, nd] at e; cases e) (s b o e)
theorem RowsL.same {H G : Hp} {l : Addr} {as : List Addr} {rows : List (List Int)} (h : RowsL H l as rows) (s : Same H G) : RowsL G l as rows := ⟨s _ _ h.lst, prd_imp h.each fun _ _ h => s _ _ h⟩
theorem dctL_same {H G : Hp} {kvs : List (Key × V)} {rs : List (Str × List (Option Int))} (h : DctOf OptL H kvs rs) (s : ∀ a xs, H a = some (.lst xs) → G a = some (.lst xs)) : DctOf OptL G kvs rs := prd_imp h fun x y ⟨e, a, ea, h⟩ => ⟨e, a, ea, s _ _ h⟩
theorem dice_lst {c d a : Addr} {H : Hp} {xs : List V} (D : Dice c H d) (h : H a = some (.lst xs)) (nb : ∀ b, ¬ V.bl b ∈ xs) : a ≠ d := fun e => by
  obtain ⟨x, i, b, s, t, hd, _⟩ := D.ex
  rw [e, hd] at h
  injection h with h
  injection h with h
  exact nb b (by rw [← h]; simp)
theorem no_int (r : List Int) : ∀ b, ¬ V.bl b ∈ r.map V.int := fun b m => by
  obtain ⟨_, _, e⟩ := List.mem_map.mp m
  cases e
theorem no_opt (r : List (Option Int)) : ∀ b, ¬ V.bl b ∈ r.map vO := fun b m => by
  obtain ⟨o, _, e⟩ := List.mem_map.mp m
  cases o <;> cases e
theorem no_ref (r : List Addr) : ∀ b, ¬ V.bl b ∈ r.map V.ref := fun b m => by
  obtain ⟨_, _, e⟩ := List.mem_map.mp m
  cases e
theorem no_str (r : List Str) : ∀ b, ¬ V.bl b ∈ r.map V.str := fun b m => by
  obtain ⟨_, _, e⟩ := List.mem_map.mp m
  cases e
theorem RowsL.keep {c d : Addr} {H G : Hp} {l : Addr} {as : List Addr} {rows : List (List Int)} (h : RowsL H l as rows) (D : Dice c H d) (k : Keep d H G) : RowsL G l as rows := ⟨k _ _ (dice_lst D h.lst (no_ref _)) h.lst, prd_imp h.each fun _ r h => k _ _ (dice_lst D h (no_int _)) h⟩
theorem dctL_keep {c d : Addr} {H G : Hp} {kvs : List (Key × V)} {rs : List (Str × List (Option Int))} (h : DctOf OptL H kvs rs) (D : Dice c H d) (k : Keep d H G) : DctOf OptL G kvs rs := prd_imp h fun x y ⟨e, a, ea, h⟩ => ⟨e, a, ea, k _ _ (dice_lst D h (no_opt _)) h⟩
def spLaw (K : PySem.W.Frag) : Sp := fun vs H Q _ => ∃ (a : Addr) (ns : List Int), vs = [.ref a] ∧ SqL K H a (ns.map V.int) ∧ ns.length ≤ 63 ∧ ∀ H', Q (.bl true) H'
section
variable {P : Program} {w : World} {K : PySem.W.Frag} {mg : Str → Option Value} {base : Heap}
theorem okf_law (T : Top K mg) {f : Addr} {fd : FuncData} (F : Fun K "law" "law" s_law f fd) : FnOk P w K mg base CX0 12 f fd ["script"] (spLaw K) := by
  refine F.ok sc_law (fun vs H Q E h => ?_) (fun cdv A outer s H vs Q E hr h => ?_)
  · obtain ⟨a, ns, rfl, _⟩ := h
    rfl
  · obtain ⟨a, ns, rfl, hS, hlen, k⟩ := h
    obtain ⟨f__law_stock, fd__law_stock, m__law_stock, k__law_stock, b__law_stock, G__law_stock⟩ := ok__law_stock (P := P) (w := w) (base := base) T
    have hr__law_stock : Room 2 _ := hr.mono (by decide)
    obtain ⟨f__law_names, fd__law_names, m__law_names, k__law_names, b__law_names, G__law_names⟩ := ok__law_names (P := P) (w := w) (base := base) T
    have hr__law_names : Room 3 _ := hr.mono (by decide)
    obtain ⟨f__law_draw, fd__law_draw, m__law_draw, k__law_draw, b__law_draw, G__law_draw⟩ := ok__law_draw (P := P) (w := w) (base := base) T
    have hr__law_draw : Room 1 _ := hr.mono (by decide)
    obtain ⟨f__law_posts, fd__law_posts, m__law_posts, k__law_posts, b__law_posts, G__law_posts⟩ := ok__law_posts (P := P) (w := w) (base := base) T
    have hr__law_posts : Room 3 _ := hr.mono (by decide)
    obtain ⟨f__law_size, fd__law_size, m__law_size, k__law_size, b__law_size, G__law_size⟩ := ok__law_size (P := P) (w := w) (base := base) T
    have hr__law_size : Room 2 _ := hr.mono (by decide)
    obtain ⟨f__law_items, fd__law_items, m__law_items, k__law_items, b__law_items, G__law_items⟩ := ok__law_items (P := P) (w := w) (base := base) T
    have hr__law_items : Room 3 _ := hr.mono (by decide)
    obtain ⟨f__law_holds, fd__law_holds, m__law_holds, k__law_holds, b__law_holds, G__law_holds⟩ := ok__law_holds (P := P) (w := w) (base := base) T
    have hr__law_holds : Room 11 _ := hr.mono (by decide)
    obtain ⟨f__law_due, fd__law_due, m__law_due, k__law_due, b__law_due, G__law_due⟩ := ok__law_due (P := P) (w := w) (base := base) T
    have hr__law_due : Room 1 _ := hr.mono (by decide)
    obtain ⟨f__law_system_lines, fd__law_system_lines, m__law_system_lines, k__law_system_lines, b__law_system_lines, G__law_system_lines⟩ := ok__law_system_lines (P := P) (w := w) (base := base) T
    have hr__law_system_lines : Room 2 _ := hr.mono (by decide)
    obtain ⟨f__law_due_machine, fd__law_due_machine, m__law_due_machine, k__law_due_machine, b__law_due_machine, G__law_due_machine⟩ := ok__law_due_machine (P := P) (w := w) (base := base) T
    have hr__law_due_machine : Room 1 _ := hr.mono (by decide)
    obtain ⟨f__law_machine_lines, fd__law_machine_lines, m__law_machine_lines, k__law_machine_lines, b__law_machine_lines, G__law_machine_lines⟩ := ok__law_machine_lines (P := P) (w := w) (base := base) T
    have hr__law_machine_lines : Room 1 _ := hr.mono (by decide)
    have hu := hu_of hr
    have hu64 := hr.units
    refine ⟨_, (pss_cons (ps_set (i := 1) sc_law.nd rfl (Or.inl rfl) (pe_call G__law_stock hr__law_stock rfl m__law_stock k__law_stock b__law_stock .nil pass0 (pa_cons (pv 0) (pa_cons pe_int pa_nil))))
      (pss_cons (ps_set (i := 2) sc_law.nd rfl (Or.inl rfl) (pe_call G__law_names hr__law_names rfl m__law_names k__law_names b__law_names .nil pass0 (pa_cons (pv 1) (pa_cons (pe_call G__law_draw hr__law_draw rfl m__law_draw k__law_draw b__law_draw .nil pass0 (pa_cons (pv 1) (pa_cons pe_int pa_nil))) pa_nil))))
      (pss_cons (ps_set (i := 3) sc_law.nd rfl (Or.inl rfl) (pe_call G__law_draw hr__law_draw rfl m__law_draw k__law_draw b__law_draw .nil pass0 (pa_cons (pv 1) (pa_cons pe_int pa_nil))))
      (pss_cons (ps_set (i := 4) sc_law.nd rfl (Or.inl rfl) (pe_call G__law_posts hr__law_posts rfl m__law_posts k__law_posts b__law_posts .nil pass0 (pa_cons (pv 1) (pa_cons (pe_op op_mul (pe_call G__law_size hr__law_size rfl m__law_size k__law_size b__law_size .nil pass0 (pa_cons (pv 1) (pa_cons (pv 3) (pa_cons pe_int pa_nil)))) (pe_callTy (T := "int") call_int1 (by rfl) T.b_int (by decide +kernel) (pa_cons (pe_cmpR op_gt (pv 3) pe_int (nomark _)) pa_nil))) pa_nil))))
      (pss_cons (ps_set (i := 1) sc_law.nd rfl (Or.inl rfl) (pe_call G__law_stock hr__law_stock rfl m__law_stock k__law_stock b__law_stock .nil pass0 (pa_cons (pv 0) (pa_cons pe_int pa_nil))))
      (pss_cons (ps_set (i := 5) sc_law.nd rfl (Or.inl rfl) pe_dnewK)
      (pss_cons (ps_for PassesOwn.never rfl (pi_list (pv 2)) (pg_name (i := 6) sc_law.nd rfl (Or.inl rfl))
      (pss_one (ps_dput hu (pv 5) (pv 6) (pe_call G__law_items hr__law_items rfl m__law_items k__law_items b__law_items .nil pass0 (pa_cons (pv 1) (pa_cons (pe_callB (id := "len") call_len_seq (by rfl) T.b_len (by decide +kernel) (pa_cons (pv 4) pa_nil)) pa_nil))) rfl)))
      (pss_cons (ps_set (i := 7) sc_law.nd rfl (Or.inl rfl) pe_dnewK)
      (pss_cons (ps_lock (ps_for PassesOwn.never rfl (pi_keys (pv 5)) (pg_name (i := 6) sc_law.nd rfl (Or.inl rfl))
      (pss_one (ps_dput hu (pv 7) (pv 6) (pe_callTy (T := "tuple") call_tuple_of (by rfl) T.b_tuple (by decide +kernel) (pa_cons (pe_dget hu (pv 5) (pv 6) (fun _ _ => rfl)) pa_nil)) rfl))))
      (pss_cons (ps_set (i := 8) sc_law.nd rfl (Or.inl rfl) (pe_tup (pa_cons pe_str (pa_cons (pe_callTy (T := "tuple") call_tuple_of (by rfl) T.b_tuple (by decide +kernel) (pa_cons (pe_lc (own := [("row", 9)]) (g := gName 9) rfl sc_law.nd (pi_list (pv 4)) (blkOk_by (own := [("row", 9)]) (N := ["script", "stock", "names", "posts", "moves", "requests", "name", "copied", "due", "row", "states", "turns", "k"]) (sc := defScope s_law) (by decide +kernel)) (fun _ _ _ _ _ => (pg_name (i := 9) sc_law.nd rfl (Or.inl rfl))) (fun _ _ _ _ _ => pts_nil) (fun _ _ _ _ _ => (pe_callTy (T := "tuple") (call_tuple_of : CallR _ _ (rTupOf K)) (by rfl) T.b_tuple (by decide +kernel) (pa_cons (pv 9) pa_nil)))) pa_nil)) (pa_cons (pv 7) pa_nil)))))
      (pss_cons (ps_set (i := 1) sc_law.nd rfl (Or.inl rfl) (pe_call G__law_stock hr__law_stock rfl m__law_stock k__law_stock b__law_stock .nil pass0 (pa_cons (pv 0) (pa_cons pe_int pa_nil))))
      (pss_cons (ps_if (pt_not (pt_val (pe_call G__law_holds hr__law_holds rfl m__law_holds k__law_holds b__law_holds .nil pass0 (pa_cons (pv 1) (pa_cons (pe_call G__law_system_lines hr__law_system_lines rfl m__law_system_lines k__law_system_lines b__law_system_lines .nil pass0 (pa_cons (pv 4) (pa_cons (pv 5) pa_nil))) (pa_cons pe_bl (pa_cons (pe_call G__law_due hr__law_due rfl m__law_due k__law_due b__law_due .nil pass0 (pa_cons (pv 4) (pa_cons (pv 5) pa_nil))) (pa_cons (pv 8) pa_nil))))))))
      (pss_one (ps_ret pe_bl))
      pss_nil)
      (pss_cons (ps_set (i := 1) sc_law.nd rfl (Or.inl rfl) (pe_call G__law_stock hr__law_stock rfl m__law_stock k__law_stock b__law_stock .nil pass0 (pa_cons (pv 0) (pa_cons pe_int pa_nil))))
      (pss_cons (ps_set (i := 2) sc_law.nd rfl (Or.inl rfl) (pe_call G__law_names hr__law_names rfl m__law_names k__law_names b__law_names .nil pass0 (pa_cons (pv 1) (pa_cons pe_int pa_nil))))
      (pss_cons (ps_set (i := 10) sc_law.nd rfl (Or.inl rfl) (pe_call G__law_draw hr__law_draw rfl m__law_draw k__law_draw b__law_draw .nil pass0 (pa_cons (pv 1) (pa_cons pe_int pa_nil))))
      (pss_cons (ps_set (i := 11) sc_law.nd rfl (Or.inl rfl) (pe_lst pa_nil))
      (pss_cons (ps_for PassesOwn.never rfl (pi_range1 (by rfl) T.b_range (pa_cons (pv 10) pa_nil)) (pg_name (i := 12) sc_law.nd rfl (Or.inl rfl))
      (pss_cons (ps_set (i := 9) sc_law.nd rfl (Or.inl rfl) pe_dnewK)
      (pss_cons (ps_for PassesOwn.never rfl (pi_list (pe_slice sl_list (pv 2) (po_some (pe_call G__law_draw hr__law_draw rfl m__law_draw k__law_draw b__law_draw .nil pass0 (pa_cons (pv 1) (pa_cons (pe_callB (id := "len") call_len_seq (by rfl) T.b_len (by decide +kernel) (pa_cons (pv 2) pa_nil)) pa_nil)))) po_none)) (pg_name (i := 6) sc_law.nd rfl (Or.inl rfl))
      (pss_one (ps_dput hu (pv 9) (pv 6) (pe_call G__law_draw hr__law_draw rfl m__law_draw k__law_draw b__law_draw .nil pass0 (pa_cons (pv 1) (pa_cons (pe_op op_add (pv 10) (pe_callTy (T := "int") call_int1 (by rfl) T.b_int (by decide +kernel) (pa_cons (pe_cmpR op_eq (pe_call G__law_draw hr__law_draw rfl m__law_draw k__law_draw b__law_draw .nil pass0 (pa_cons (pv 1) (pa_cons pe_int pa_nil))) pe_int (nomark _)) pa_nil))) pa_nil))) rfl)))
      (pss_one (ps_expr (pe_bm PySem.F.plainAttrs_list PySem.F.slot_list_append PySem.F.type_list_append mt_append (pv 11) (pa_cons (pv 9) pa_nil)))))))
      (pss_cons (ps_set (i := 8) sc_law.nd rfl (Or.inl rfl) (pe_tup (pa_cons pe_str (pa_cons (pe_callTy (T := "tuple") call_tuple_of (by rfl) T.b_tuple (by decide +kernel) (pa_cons (pv 11) pa_nil)) pa_nil))))
      (pss_cons (ps_set (i := 1) sc_law.nd rfl (Or.inl rfl) (pe_call G__law_stock hr__law_stock rfl m__law_stock k__law_stock b__law_stock .nil pass0 (pa_cons (pv 0) (pa_cons pe_int pa_nil))))
      (pss_one (ps_ret (pe_call G__law_holds hr__law_holds rfl m__law_holds k__law_holds b__law_holds .nil pass0 (pa_cons (pv 1) (pa_cons (pe_call G__law_machine_lines hr__law_machine_lines rfl m__law_machine_lines k__law_machine_lines b__law_machine_lines .nil pass0 (pa_cons (pv 11) pa_nil)) (pa_cons pe_bl (pa_cons (pe_call G__law_due_machine hr__law_due_machine rfl m__law_due_machine k__law_due_machine b__law_due_machine .nil pass0 (pa_cons (pv 11) pa_nil)) (pa_cons (pv 8) pa_nil))))))))))))))))))))))))))), ?_⟩
    refine ⟨_, rfl, a, ns, 0, rfl, hS, fun d1 H1 s1 nd1 D1 => ?_⟩
    refine ⟨_, rfl, _, rfl, d1, d1, 7, rfl, D1, by decide, by decide, fun v1 H2 a1 b1 k1 D2 => ?_⟩
    refine ⟨d1, d1, v1, rfl, D2, a1, by omega, fun l zs H3 nl hl ndz z1 z2 hN k2 D3 => ?_⟩
    have nld := D2.ne nl
    refine ⟨_, rfl, d1, d1, 8, rfl, D3, by decide, by decide, fun v2 H4 a2 b2 k3 D4 => ?_⟩
    refine ⟨_, rfl, _, rfl, _, rfl, d1, d1, v2, 7, rfl, D4, by decide, by decide, a2, by omega, fun v3 H5 a3 b3 k4 D5 => ?_⟩
    refine ⟨_, rfl, _, _, rfl, rfl, .inr ⟨_, rfl, ?_⟩⟩
    obtain ⟨u, eu, u01⟩ : ∃ u : Int, u = (if decide (0 < v2) = true then 1 else 0) ∧ (u = 0 ∨ u = 1) := ⟨_, rfl, by split <;> simp⟩
    rw [← eu]
    have hm : 0 ≤ v3 * u ∧ v3 * u ≤ 8 := by
      rcases u01 with rfl | rfl
      · rw [Int.mul_zero]; omega
      · rw [Int.mul_one]; omega
    obtain ⟨n, en⟩ : ∃ n, n = v3 * u := ⟨_, rfl⟩
    refine ⟨_, _, rfl, rfl, ?_, d1, d1, n, by rw [en]; rfl, D5, by omega, by omega, fun lm as rows H6 k5 D6 nlm RL fas rl rok => ?_⟩
    · rcases u01 with rfl | rfl
      · exact .inr ⟨by decide, by decide⟩
      · exact .inr ⟨by decide, by decide⟩
    have k15 : Keep d1 H1 H6 := (k1.trans k2).trans ((k3.trans k4).trans k5)
    have s06 : Same H H6 := keep_new nd1 s1 k15
    have hl6 : H6 l = some (.lst (zs.map V.str)) := k5 _ _ nld (k4 _ _ nld (k3 _ _ nld hl))
    clear k1 k2 k3 k4 k5 k15 s1 D1 D2 D3 D4 D5 D6 nl hl nlm fas nld nd1
    -- the requests
    refine ⟨_, rfl, a, ns, 1, rfl, Same.seq s06 hS, fun d2 H7 s7 nd2 D7 => ?_⟩
    have nld : l ≠ d2 := ne_of_none hl6 nd2
    have RL7 := RL.same s7
    have hl7 := s7 _ _ hl6
    have s07 := s06.trans s7
    have r8 : rows.length ≤ 8 := by omega
    have al : as.length = rows.length := Paired.length RL.each
    have fas2 : ∀ a ∈ as, a ≠ d2 := fun a m e => by
      obtain ⟨j, hj⟩ := List.getElem?_of_mem m
      obtain ⟨r, _, h2⟩ := prd_at1 RL.each hj
      rw [e, nd2] at h2; cases h2
    have nlm2 : lm ≠ d2 := ne_of_none RL.lst nd2
    intro q nq
    have nqd := D7.ne nq
    have s8 : Same H7 (upd H7 q (.dK [])) := same_new nq
    have hq8 : (upd H7 q (.dK [])) q = some (.dK []) := upd_same
    have D8 : Dice d2 (upd H7 q (.dK [])) d2 := D7.upd nqd nqd
    have hl8 := s8 _ _ hl7
    have RL8 := RL7.same s8
    have k08 : Keep d2 H6 (upd H7 q (.dK [])) := same_keep (s7.trans s8)
    have nq6 : H6 q = none := s7.free nq
    generalize upd H7 q (.dK []) = H8 at *
    refine ⟨_, rfl, l, rfl, ⟨_, SqL.of hl8⟩, ?_⟩
    refine for_list (K := K) (a := l) (xs := zs.map V.str) (fun i σ' G => ∃ (kvs : List (Key × V)) (rs : List (Str × List (Option Int))) (o6 : Option V), σ' = [some (.ref a), some (.ref d2), some (.ref l), some (.int v2), some (.ref lm), some (.ref q), o6, none, none, none, none, none, none] ∧ G q = some (.dK kvs) ∧ DctOf OptL G kvs rs ∧ rs.map (·.1) = zs.take i ∧ (∀ p ∈ rs, ItemsOk p.2) ∧ Keep d2 H6 G ∧ Dice d2 G d2 ∧ G l = some (.lst (zs.map V.str)) ∧ RowsL G lm as rows)
      ⟨[], [], none, rfl, hq8, .nil, rfl, by simp, k08, D8, hl8, RL8⟩ (fun i σ' G _ ⟨_, _, _, _, _, _, _, _, _, _, h, _⟩ => SqL.of h) ?_ ?_
    · rintro i x σ' G hi ⟨kvs, rs, o6, rfl, gq, gR, ek, gok, kG, DG, gl, gRL⟩
      obtain ⟨z, hz, rfl⟩ := map_at hi
      have il := (List.getElem?_eq_some_iff.mp hz).1
      refine ⟨_, rfl, _, rfl, lm, _, rfl, .inl (SqL.of gRL.lst), d2, d2, _, rfl, DG, by omega, by rw [List.length_map, al]; omega, fun e r G2 k6 D9 ne he iok => ?_⟩
      have gq2 := k6 _ _ (DG.dK gq) gq
      have gR2 := dctL_keep gR DG k6
      have gRL2 := gRL.keep DG k6
      have gl2 := k6 _ _ (dice_lst DG gl (no_str _)) gl
      have kl : kvs.length ≤ 6 := by
        have h1 := dct_len gR
        have h2 := congrArg List.length ek
        rw [List.length_map, List.length_take] at h2
        omega
      have hno : ¬ z ∈ rs.map (·.1) := by
        rw [ek]; exact take_nmem ndz hz
      refine ⟨_, rfl, _, rfl, q, _, rfl, DPut.k (k := Sum.inr z) gq2 (small1000 (by omega)), ?_⟩
      rw [putK_new _ (dct_none gR2 hno)]
      have lsts : ∀ a xs, G2 a = some (.lst xs) → (upd G2 q (.dK (kvs ++ [(Sum.inr z, V.ref e)]))) a = some (.lst xs) := fun a xs h => (upd_ne (ne_of h gq2 (by intro z; cases z))).trans h
      refine ⟨_, rs ++ [(z, r)], _, rfl, upd_same, ?_, ?_, ?_, (kG.trans k6).mut nq6, D9.upd nqd nqd, lsts _ _ gl2, ⟨lsts _ _ gRL2.lst, prd_imp gRL2.each fun _ _ h => lsts _ _ h⟩⟩
      · exact Paired.snoc (dctL_same gR2 lsts) ⟨rfl, e, rfl, lsts _ _ he⟩
      · rw [List.map_append, ek, List.take_add_one, hz]; rfl
      · intro p mp
        rcases List.mem_append.mp mp with h | h
        · exact gok p h
        · rw [List.mem_singleton.mp h]; exact iok
    · rintro σ' G ⟨kvs, rs, o6, rfl, gq, gR, ek, gok, kG, DG, gl, gRL⟩
      rw [List.length_map, List.take_length] at ek
      have R : ReqsR rs := ⟨by rw [ek]; exact ndz, by have := congrArg List.length ek; rw [List.length_map] at this; omega, fun p mp => ⟨hN p.1 (by rw [← ek]; exact List.mem_map.mpr ⟨p, mp, rfl⟩), gok p mp⟩⟩
      have s0G : Same H G := s06.trans (fun b o e => kG b o (ne_of_none e nd2) e)
      clear gok ek hN ndz z1 z2 nlm2 fas2 RL RL7 RL8 hl6 hl7 hl8 hq8 s8 nq6 nq nqd nld s7 s07 s06 kG DG D7 D8 k08 nd2
      -- the copy
      intro C nC
      have s1 : Same G (upd G C (.dK [])) := same_new nC
      have hC : (upd G C (.dK [])) C = some (.dK []) := upd_same
      have gq1 := s1 _ _ gq
      have nqC : q ≠ C := ne_of_none gq nC
      have gR1 := dctL_same gR fun a xs h => s1 _ _ h
      have RL1 := gRL.same s1
      generalize upd G C (.dK []) = G1 at *
      have kl := dct_len gR1
      have r6 := R.hi
      refine ⟨q, _, gq1, True.intro, fun od => ?_⟩
      have hback2 : ∀ {G2 : Hp}, Keep C (upd G1 q (.frz od (.dK kvs))) G2 → Same G (upd G2 q (.dK kvs)) := fun {G2} s b o e => by
        have e1 := s1 _ _ e
        have nb : b ≠ C := ne_of_none e nC
        by_cases eb : b = q
        · subst eb; rw [upd_same, ← e1, gq1]
        · rw [upd_ne eb]; exact s _ _ nb ((upd_ne eb).trans e1)
      have hfd : (upd G1 q (.frz od (.dK kvs))) q = some (.frz od (.dK kvs)) := upd_same
      have hCF : (upd G1 q (.frz od (.dK kvs))) C = some (.dK []) := (upd_ne nqC.symm).trans hC
      have gRF : DctOf OptL (upd G1 q (.frz od (.dK kvs))) kvs rs := dctL_same gR1 fun a xs h => (upd_ne (ne_of h gq1 (by intro z; cases z))).trans h
      generalize upd G1 q (.frz od (.dK kvs)) = GF at *
      refine ⟨_, rfl, q, od, rfl, .inl ⟨kvs, hfd, ?_⟩⟩
      refine for_it walk_keys (fun i σ' G2 => (∃ o6 : Option V, σ' = [some (.ref a), some (.ref d2), some (.ref l), some (.int v2), some (.ref lm), some (.ref q), o6, some (.ref C), none, none, none, none, none]) ∧ (∃ kvc, G2 C = some (.dK kvc) ∧ DctOf OptT G2 kvc (rs.take i)) ∧ Keep C GF G2) ⟨⟨_, rfl⟩, ⟨[], hCF, .nil⟩, Keep.refl _ _⟩ (fun i σ' G2 _ h => h.2.2 _ _ nqC hfd) ?_ ?_
      · rintro i x σ' G2 G3 hi ⟨⟨o6, rfl⟩, ⟨kvc, hc, hcR⟩, kC⟩ ⟨rfl, ky, v, hkv, rfl⟩
        obtain ⟨⟨z, row⟩, hrow, ek, _⟩ := prd_at1 gRF hkv
        have ek : ky = .inr z := ek
        subst ek
        have mrow := List.mem_of_getElem? hrow
        obtain ⟨v', hv', ra, rfl, hra0⟩ := dct_some gRF R.nd mrow
        have nrC : ra ≠ C := ne_of hra0 hCF (by intro z; cases z)
        have hra := kC _ _ nrC hra0
        refine ⟨_, rfl, _, rfl, q, .ref ra, rfl, .inl ⟨kvs, .inr z, .inr ⟨od, kC _ _ nqC hfd⟩, rfl, hv'.symm⟩, ra, _, rfl, .inl ⟨SqL.of hra, fun t nt => ?_⟩⟩
        have s3 : Same G3 (upd G3 t (.tup (row.map vO))) := same_new nt
        have ht : (upd G3 t (.tup (row.map vO))) t = some (.tup (row.map vO)) := upd_same
        generalize upd G3 t (.tup (row.map vO)) = G4 at *
        have hc4 := s3 _ _ hc
        have hno : ¬ z ∈ (rs.take i).map (·.1) := by
          rw [List.map_take]; exact take_nmem R.nd (by rw [List.getElem?_map, hrow]; rfl)
        have cl : kvc.length ≤ 6 := by
          have := dct_len hcR
          rw [List.length_take] at this
          omega
        refine ⟨_, rfl, _, rfl, C, _, rfl, DPut.k (k := Sum.inr z) hc4 (small1000 (by omega)), ?_⟩
        rw [putK_new _ (dct_none hcR hno)]
        have tups : ∀ a xs, G4 a = some (.tup xs) → (upd G4 C (.dK (kvc ++ [(Sum.inr z, V.ref t)]))) a = some (.tup xs) := fun a xs h => (upd_ne (ne_of h hc4 (by intro z; cases z))).trans h
        refine ⟨⟨_, rfl⟩, ⟨_, upd_same, ?_⟩, (kC.same s3).trans Keep.upd⟩
        rw [List.take_add_one, hrow]
        exact Paired.snoc (hcR.firm OptT.firm fun a xs h => tups _ _ (s3 _ _ h)) ⟨rfl, t, rfl, tups _ _ ht⟩
      · rintro σ' G2 ⟨⟨o6, rfl⟩, ⟨kvc, hc, hcR⟩, kC⟩
        rw [kl, List.take_length] at hcR
        refine ⟨kC _ _ nqC hfd, ?_⟩
        have sG5 := hback2 kC
        have gq5 : (upd G2 q (.dK kvs)) q = some (.dK kvs) := upd_same
        have hc5 : (upd G2 q (.dK kvs)) C = some (.dK kvc) := (upd_ne nqC.symm).trans hc
        have hcR5 : DctOf OptT (upd G2 q (.dK kvs)) kvc rs := hcR.firm OptT.firm fun a xs h => (upd_ne (ne_of h (kC _ _ nqC hfd) (by intro z; cases z))).trans h
        generalize upd G2 q (.dK kvs) = G5 at *
        have gR5 := dctL_same gR fun a xs h => sG5 _ _ h
        have RL5 := gRL.same sG5
        have s05 := s0G.trans sG5
        clear hback2 kC hc hcR gRF hCF hfd gR1 RL1 gq1 hC s1 nC gR gRL gq gl s0G sG5
        -- what is due
        refine ⟨_, rfl, lm, rfl, ⟨_, SqL.of RL5.lst⟩, fun M nM => ?_⟩
        refine lc_list (K := K) (a := lm) (xs := as.map V.ref) (fun j G => (∃ us, G M = some (.lst us) ∧ Paired (IntT G) us (rows.take j)) ∧ Same G5 G) ⟨⟨[], upd_same, .nil⟩, same_new nM⟩ (fun j G _ h => SqL.of (h.2 _ _ RL5.lst)) ?_ ?_
        · rintro j x G3 hj ⟨⟨us, hM, hP⟩, s3⟩
          obtain ⟨e, he, rfl⟩ := map_at hj
          obtain ⟨row, hrow, ea⟩ := prd_at1 RL5.each he
          have jl := (List.getElem?_eq_some_iff.mp hrow).1
          refine ⟨rfl, ?_⟩
          refine yesT ?_
          refine ⟨_, rfl, e, _, rfl, .inl ⟨SqL.of (s3 _ _ ea), fun t nt => ?_⟩⟩
          have s4 : Same G3 (upd G3 t (.tup (row.map V.int))) := same_new nt
          have ht : (upd G3 t (.tup (row.map V.int))) t = some (.tup (row.map V.int)) := upd_same
          generalize upd G3 t (.tup (row.map V.int)) = G4 at *
          have hM4 := s4 _ _ hM
          have tups : ∀ {o : HO} a xs, G4 a = some (.tup xs) → (upd G4 M (.lst (us ++ [.ref t]))) a = some (.tup xs) := fun a xs h => (upd_ne (ne_of h hM4 (by intro z; cases z))).trans h
          refine ⟨_, hM4, ?_, ⟨us ++ [.ref t], upd_same, ?_⟩, same_upd (s3.trans s4) nM⟩
          · have := Paired.length hP
            rw [List.length_take] at this
            exact small1000 (by omega)
          · rw [List.take_add_one, hrow]
            exact Paired.snoc (prd_imp hP fun a b h => IntT.firm _ _ a b (fun a xs h => tups (o := .dK []) _ _ (s4 _ _ h)) h) ⟨t, rfl, tups (o := .dK []) _ _ ht⟩
        rintro G6 ⟨⟨us, hM, hP⟩, s6⟩
        rw [List.length_map, al, List.take_length] at hP
        refine ⟨M, _, rfl, .inl ⟨SqL.of hM, fun tm ntm => ?_⟩⟩
        have s7 : Same G6 (upd G6 tm (.tup us)) := same_new ntm
        have htm : TupT IntT (upd G6 tm (.tup us)) (.ref tm) rows := ⟨tm, us, rfl, upd_same, prd_imp hP fun a b h => IntT.firm _ _ a b (same_tups s7) h⟩
        generalize upd G6 tm (.tup us) = G7 at *
        refine ⟨_, rfl, (by show 3 ≤ sizeLine; decide), fun du ndu => ?_⟩
        have s8 : Same G7 (upd G7 du (.tup [.str "read", .ref tm, .ref C])) := same_new ndu
        have hdu : (upd G7 du (.tup [.str "read", .ref tm, .ref C])) du = some (.tup [.str "read", .ref tm, .ref C]) := upd_same
        generalize upd G7 du (.tup [.str "read", .ref tm, .ref C]) = G8 at *
        have s58 := s6.trans (s7.trans s8)
        have htm8 := TupT.firm IntT.firm _ _ _ _ (same_tups s8) htm
        have gq8 := s58 _ _ gq5
        have hc8 := s58 _ _ hc5
        have hcR8 := hcR5.firm OptT.firm (same_tups s58)
        have gR8 := dctL_same gR5 fun a xs h => s58 _ _ h
        have RL8 := RL5.same s58
        have s08 := s05.trans s58
        clear s6 s7 s8 s58 htm gq5 hc5 hcR5 gR5 RL5 s05 hM hP nM ntm ndu
        -- the system's text
        refine ⟨_, rfl, a, ns, 2, rfl, Same.seq s08 hS, fun d3 H9 s9 nd3 D9 => ?_⟩
        have hdu9 := s9 _ _ hdu
        have htm9 := TupT.firm IntT.firm _ _ _ _ (same_tups s9) htm8
        have gq9 := s9 _ _ gq8
        have hc9 := s9 _ _ hc8
        have hcR9 := hcR8.firm OptT.firm (same_tups s9)
        have gR9 := dctL_same gR8 fun a xs h => s9 _ _ h
        have RL9 := RL8.same s9
        have s09 := s08.trans s9
        clear hdu htm8 gq8 hc8 hcR8 gR8 RL8
        refine ⟨_, rfl, _, rfl, _, rfl, lm, q, as, rows, kvs, rs, rfl, RL9, rok, r8, gq9, gR9, R, fun L H10 rs2 s10 nL pm srt hL => ?_⟩
        have LL := sysLn_of rok r8 R pm srt
        have nLd : L ≠ d3 := D9.ne nL
        refine ⟨_, rfl, _, rfl, lm, q, as, rows, kvs, rs, rfl, RL9.same s10, rok, r8, s10 _ _ gq9, dctL_same gR9 (fun a xs h => s10 _ _ h), R, fun H11 s11 => ?_⟩
        have hL11 := s11 _ _ hL
        have s911 := s10.trans s11
        have D11 := D9.same s911
        have hdu11 := s911 _ _ hdu9
        have htm11 := TupT.firm IntT.firm _ _ _ _ (same_tups s911) htm9
        have hc11 := s911 _ _ hc9
        have hcR11 := hcR9.firm OptT.firm (same_tups s911)
        have s011 := s09.trans s911
        have ll : (sysLns rows rs2).length ≤ 40 := by
          rw [sysLns_len, pm.length_eq]
          omega
        obtain ⟨RR, rd, rp, re⟩ := reads_sys LL pm
        clear hdu9 htm9 gq9 hc9 hcR9 gR9 RL9 s10 s11 s09 hL nL
        refine ⟨_, rfl, d3, d3, L, sysLns rows rs2, true, dueS rows rs, du, RR, rfl, D11, nLd, hL11, ll, fun y my => (sys_lines LL y my).2, ⟨_, hdu11⟩, D11.tup hdu11, rd, fun at_ odd h m => reads_oddS LL h m, rp, fun e G t kG hR => ?_, fun H12 k12 => ?_⟩
        · rw [re e] at hR
          exact eq_sys hR (kG.tup D11 hdu11) (TupT.firm IntT.firm _ _ _ _ (keep_tups kG D11) htm11) (kG _ _ (D11.dK hc11) hc11) (hcR11.firm OptT.firm (keep_tups kG D11)) R.nd pm
        have s012 : Same H H12 := keep_new (s08.free nd3) s011 k12
        clear s011 k12 s08 nd3 hcR11 hc11 htm11 hdu11 D11 s911 hL11 nLd D9 s9 rd rp re LL ll R
        refine ⟨_, rfl, ?_⟩
        refine ite2 (fun g => nomatch g) (fun _ => ?_)
        -- the turns
        refine ⟨_, rfl, a, ns, 3, rfl, Same.seq s012 hS, fun d4 H13 s13 nd4 D13 => ?_⟩
        refine ⟨_, rfl, d4, d4, 4, rfl, D13, by decide, by decide, fun l2 zs2 H14 nl2 hl2 ndz2 y1 y2 hN2 k14 D14 => ?_⟩
        have y1 := y1 (by decide)
        have nld2 := D13.ne nl2
        refine ⟨_, rfl, d4, d4, 6, rfl, D14, by decide, by decide, fun v6 H15 c0 c1 k15 D15 => ?_⟩
        have hl15 := k15 _ _ nld2 hl2
        refine ⟨(by show 0 ≤ sizeLine; decide), fun TL nT => ?_⟩
        have nTd := D15.ne nT
        have hT16 : (upd H15 TL (.lst [])) TL = some (.lst (([] : List Addr).map V.ref)) := upd_same
        have hl16 : (upd H15 TL (.lst [])) l2 = some (.lst (zs2.map V.str)) := (upd_ne (ne_of_none hl15 nT)).trans hl15
        have nTH : H13 TL = none := (k14.trans k15).free nTd nT
        have k16 : Keep d4 H13 (upd H15 TL (.lst [])) := (k14.trans k15).mut nTH
        have D16 : Dice d4 (upd H15 TL (.lst [])) d4 := D15.upd nTd nTd
        have nlT : l2 ≠ TL := ne_of_none hl15 nT
        generalize upd H15 TL (.lst []) = H16 at *
        clear k14 k15 D13 D14 D15 hl2 hl15 nT
        walk_at "rr"
        refine for_range (lo := 0) (n := v6.toNat) (fun i σ' G => ∃ (ds : List Addr) (ts : List (List (Str × Int))) (o6 o9 o12 : Option V), σ' = [some (.ref a), some (.ref d4), some (.ref l2), some (.int v2), some (.ref lm), some (.ref q), o6, some (.ref C), some (.ref du), o9, some (.int v6), some (.ref TL), o12] ∧ G TL = some (.lst (ds.map V.ref)) ∧ Paired (fun d r => G d = some (.dK (tkv r))) ds ts ∧ ts.length = i ∧ (∀ r ∈ ts, 1 ≤ r.length ∧ r.length ≤ 15 ∧ (r.map (·.1)).Nodup ∧ ∀ p ∈ r, Name 8 p.1 ∧ InN p.2) ∧ Keep d4 H13 G ∧ Dice d4 G d4 ∧ G l2 = some (.lst (zs2.map V.str)))
          ⟨[], [], _, _, _, rfl, hT16, .nil, rfl, by simp, k16, D16, hl16⟩ ?_ ?_
        · rintro i σ' G hi ⟨ds, ts, o6, o9, o12, rfl, gT, gP, tl, tok, kG, DG, gl⟩
          have dl := Paired.length gP
          intro e ne
          have ned := DG.ne ne
          have neT : TL ≠ e := ne_of_none gT ne
          have nel : l2 ≠ e := ne_of_none gl ne
          have ndse : ∀ a ∈ ds, a ≠ e := fun a m z => by
            obtain ⟨j, hj⟩ := List.getElem?_of_mem m
            obtain ⟨r, _, h2⟩ := prd_at1 gP hj
            rw [z, ne] at h2; cases h2
          have neH : H13 e = none := kG.free ned ne
          have gT1 : (upd G e (.dK [])) TL = some (.lst (ds.map V.ref)) := (upd_ne neT).trans gT
          have gP1 : Paired (fun d r => (upd G e (.dK [])) d = some (.dK (tkv r))) ds ts := prd_mem gP fun a m b h => (upd_ne (ndse a m)).trans h
          have gl1 : (upd G e (.dK [])) l2 = some (.lst (zs2.map V.str)) := (upd_ne nel).trans gl
          have kG1 : Keep d4 H13 (upd G e (.dK [])) := kG.mut neH
          have DG1 : Dice d4 (upd G e (.dK [])) d4 := DG.upd ned ned
          have he1 : (upd G e (.dK [])) e = some (.dK (tkv [])) := upd_same
          generalize upd G e (.dK []) = G1 at *
          refine ⟨_, rfl, _, rfl, _, rfl, l2, _, rfl, .inl (SqL.of gl1), d4, d4, _, rfl, DG1, by rw [List.length_map]; omega, by rw [List.length_map]; omega, fun v7 G2 e0 e1 k2 D2 => ?_⟩
          rw [List.length_map] at e1
          obtain ⟨m7, rfl⟩ : ∃ m : Nat, v7 = m := ⟨v7.toNat, by omega⟩
          have gl2 := k2 _ _ nld2 gl1
          have gT2 := k2 _ _ nTd gT1
          have he2 := k2 _ _ ned he1
          have gP2 : Paired (fun d r => G2 d = some (.dK (tkv r))) ds ts := prd_imp gP1 fun a b h => k2 _ _ (DG1.dK h) h
          have kG2 := kG1.trans k2
          refine ⟨_, rfl, l2, _, rfl, SqL.of gl2, fun l3 nl3 => ?_⟩
          rw [cut_from (by rw [List.length_map]; omega), ← List.map_drop]
          have nl3d := D2.ne nl3
          have s3 : Same G2 (upd G2 l3 (.lst ((zs2.drop m7).map V.str))) := same_new nl3
          have hl3 : (upd G2 l3 (.lst ((zs2.drop m7).map V.str))) l3 = some (.lst ((zs2.drop m7).map V.str)) := upd_same
          have D3 := D2.same s3
          have kG3 := kG2.same s3
          have gl3 := s3 _ _ gl2
          have gT3 := s3 _ _ gT2
          have he3 := s3 _ _ he2
          have gP3 : Paired (fun d r => (upd G2 l3 (.lst ((zs2.drop m7).map V.str))) d = some (.dK (tkv r))) ds ts := prd_imp gP2 fun a b h => s3 _ _ h
          have n3e : l3 ≠ e := fun z => by rw [z, he2] at nl3; cases nl3
          generalize upd G2 l3 (.lst ((zs2.drop m7).map V.str)) = G3 at *
          clear k2 s3 gl2 gT2 he2 gP2 kG2 D2 gl1 gT1 he1 gP1 kG1 DG1 gT gP kG DG gl nl3
          obtain ⟨ys, eys⟩ : ∃ ys, zs2.drop m7 = ys := ⟨_, rfl⟩
          have yl1 : 1 ≤ ys.length := by rw [← eys, List.length_drop]; omega
          have yl2 : ys.length ≤ 4 := by rw [← eys, List.length_drop]; omega
          have ynd : ys.Nodup := by rw [← eys]; exact ndz2.sublist (List.drop_sublist _ _)
          have yN : ∀ z ∈ ys, Name 8 z := fun z m => hN2 z (by rw [← eys] at m; exact List.mem_of_mem_drop m)
          rw [eys] at hl3
          refine ⟨l3, rfl, ⟨_, SqL.of hl3⟩, ?_⟩
          refine for_list (K := K) (a := l3) (xs := ys.map V.str) (fun j σ' G => ∃ (row : List (Str × Int)) (o6 : Option V), σ' = [some (.ref a), some (.ref d4), some (.ref l2), some (.int v2), some (.ref lm), some (.ref q), o6, some (.ref C), some (.ref du), some (.ref e), some (.int v6), some (.ref TL), some (.int (0 + (i : Nat)))] ∧ G e = some (.dK (tkv row)) ∧ row.map (·.1) = ys.take j ∧ (∀ p ∈ row, InN p.2) ∧ G TL = some (.lst (ds.map V.ref)) ∧ Paired (fun d r => G d = some (.dK (tkv r))) ds ts ∧ Keep d4 H13 G ∧ Dice d4 G d4 ∧ G l2 = some (.lst (zs2.map V.str)) ∧ G l3 = some (.lst (ys.map V.str)))
            ⟨[], o6, rfl, he3, rfl, by simp, gT3, gP3, kG3, D3, gl3, hl3⟩ (fun j σ' G _ ⟨_, _, _, _, _, _, _, _, _, _, _, h⟩ => SqL.of h) ?_ ?_
          · rintro j x σ' G4 hj ⟨row, o6, rfl, he4, ek, rin, gT4, gP4, k4, D4, gl4, hl4⟩
            obtain ⟨z, hz, rfl⟩ := map_at hj
            refine ⟨_, rfl, _, rfl, _, rfl, d4, d4, 12, rfl, D4, by decide, by decide, fun v8 G5 f0 f1 k5 D5 => ?_⟩
            refine ⟨rfl, .inr ⟨_, rfl, ?_⟩⟩
            obtain ⟨u, eu, u01⟩ : ∃ u : Int, u = (if decide (V.int v8 = V.int 0) = true then 1 else 0) ∧ (u = 0 ∨ u = 1) := ⟨_, rfl, by split <;> simp⟩
            rw [← eu]
            refine ⟨_, _, rfl, rfl, d4, d4, _, rfl, D5, by omega, by omega, fun v9 G6 f2 f3 k6 D6 => ?_⟩
            have k56 := k5.trans k6
            have he6 := k56 _ _ ned he4
            have hno : ¬ z ∈ row.map (·.1) := by
              rw [ek]; exact take_nmem ynd hz
            have rl : row.length ≤ 4 := by
              have := congrArg List.length ek
              rw [List.length_map, List.length_take] at this
              omega
            have l2d := dice_lst D4 gl4 (no_str _)
            have l3d := dice_lst D4 hl4 (no_str _)
            refine ⟨_, rfl, _, rfl, e, _, rfl, DPut.k (k := Sum.inr z) he6 (small1000 (by rw [tkv_len]; omega)), ?_⟩
            rw [putK_new _ (tkv_none hno)]
            have gT6 := k56 _ _ nTd gT4
            refine ⟨row ++ [(z, v9)], _, rfl, ?_, ?_, ?_, (upd_ne neT).trans gT6, prd_mem gP4 fun a m b h => (upd_ne (ndse a m)).trans (k56 _ _ (D4.dK h) h), (k4.trans k56).mut neH, D6.upd ned ned, (upd_ne nel).trans (k56 _ _ l2d gl4), (upd_ne n3e).trans (k56 _ _ l3d hl4)⟩
            · rw [upd_same]; unfold tkv; rw [List.map_append]; rfl
            · rw [List.map_append, ek, List.take_add_one, hz]; rfl
            · intro p mp
              rcases List.mem_append.mp mp with h | h
              · exact rin p h
              · rw [List.mem_singleton.mp h]
                exact ⟨f2, by show v9 ≤ 999999999; omega⟩
          · rintro σ' G4 ⟨row, o6, rfl, he4, ek, rin, gT4, gP4, k4, D4, gl4, hl4⟩
            rw [List.length_map, List.take_length] at ek
            have rl : row.length = ys.length := by rw [← ek, List.length_map]
            refine ⟨_, rfl, .inl ⟨rfl, _, SqL.of gT4⟩, _, rfl, TL, _, _, rfl, rfl, gT4, ?_, ds ++ [e], ts ++ [row], _, _, _, rfl, ?_, ?_, ?_, ?_, k4.mut nTH, D4.upd nTd nTd, (upd_ne nlT).trans gl4⟩
            · rw [List.length_map, dl]; exact small1000 (by omega)
            · rw [upd_same, List.map_append]; rfl
            · exact Paired.snoc (prd_imp gP4 fun a b h => (upd_ne (ne_of h gT4 (by intro z; cases z))).trans h) ((upd_ne neT.symm).trans he4)
            · rw [List.length_append, tl]; rfl
            · intro r mr
              rcases List.mem_append.mp mr with h | h
              · exact tok r h
              · rw [List.mem_singleton.mp h]
                exact ⟨by omega, by omega, by rw [ek]; exact ynd, fun p mp => ⟨yN p.1 (by rw [← ek]; exact List.mem_map.mpr ⟨p, mp, rfl⟩), rin p mp⟩⟩
        · rintro σ' G ⟨ds, ts, o6, o9, o12, rfl, gT, gP, tl, tok, kG, DG, gl⟩
          have dl := Paired.length gP
          have TW : TurnsW ts := ⟨by omega, tok⟩
          have s0G : Same H G := s012.trans (keep_new nd4 s13 kG)
          clear tok kG DG gl s012 nd4 s13 D16 hT16 hl16 k16 nlT nTH nTd nld2 hN2 ndz2 nl2
          refine ⟨_, rfl, TL, _, rfl, .inl ⟨SqL.of gT, fun tm ntm => ?_⟩⟩
          have s1 : Same G (upd G tm (.tup (ds.map V.ref))) := same_new ntm
          have htm : (upd G tm (.tup (ds.map V.ref))) tm = some (.tup (ds.map V.ref)) := upd_same
          generalize upd G tm (.tup (ds.map V.ref)) = G1 at *
          refine ⟨(by show 2 ≤ sizeLine; decide), fun dv ndv => ?_⟩
          have s2 : Same G1 (upd G1 dv (.tup [.str "read", .ref tm])) := same_new ndv
          have hdv : (upd G1 dv (.tup [.str "read", .ref tm])) dv = some (.tup [.str "read", .ref tm]) := upd_same
          generalize upd G1 dv (.tup [.str "read", .ref tm]) = G2 at *
          have s12 := s1.trans s2
          refine ⟨_, rfl, a, ns, 4, rfl, Same.seq (s0G.trans s12) hS, fun d5 G3 s3 nd5 D5 => ?_⟩
          have s13 := s12.trans s3
          refine ⟨_, rfl, _, rfl, TL, ds, ts, rfl, s13 _ _ gT, prd_imp gP fun _ _ h => s13 _ _ h, TW, fun L G4 s4 nL hL => ?_⟩
          have nLd := D5.ne nL
          refine ⟨_, rfl, TL, ds, ts, rfl, s4 _ _ (s13 _ _ gT), prd_imp gP fun _ _ h => s4 _ _ (s13 _ _ h), TW.r, fun G5 s5 => ?_⟩
          have s45 := s4.trans s5
          have D6 := D5.same s45
          have hdv5 := s45 _ _ (s3 _ _ hdv)
          have htm5 := s45 _ _ (s3 _ _ (s2 _ _ htm))
          have gP5 : Paired (fun d r => G5 d = some (.dK (tkv r))) ds ts := prd_imp gP fun _ _ h => s45 _ _ (s13 _ _ h)
          obtain ⟨RR, rd, rp, re⟩ := reads_mac TW
          have ML := mac_rows TW
          have t20 : (ts.map srtR).length ≤ 20 := by rw [List.length_map]; exact TW.t20
          refine ⟨_, rfl, d5, d5, L, (ts.map srtR).map stateLn, false, dueM ts, dv, RR, rfl, D6, nLd, s5 _ _ hL, by rw [List.length_map]; omega, fun y my => (mac_lines ML y my).2, ⟨_, hdv5⟩, D6.tup hdv5, rd, fun at_ odd h m => reads_oddM ML t20 h m, rp, fun e G t kG hR => ?_, fun G6 _ => k G6⟩
          rw [re e] at hR
          exact eq_mac TW hR (kG.tup D6 hdv5) (kG.tup D6 htm5) (prd_imp gP5 fun _ _ h => kG _ _ (D6.dK h) h)
end
end Toy

set_option maxHeartbeats 0
namespace Toy
open PySem PySem.Spec PyProof.Rows L2
section
variable {K : PySem.W.Frag} {h : Heap} {mg : Str → Option Value}
theorem fun_of {x qual : Str} {st : Stmt} {f : Addr} {fd : FuncData} (F : FunD K x qual (defArgs st) (defBody st) (defScope st) [] [] f fd) : Fun K x qual st f fd := by
  obtain ⟨oc, od, dV, kV, doc, pm, an, cdv, ct, osl, rfl, lk, hcd, hD, hK⟩ := F.ex
  rcases hD with ⟨_, rfl⟩ | ⟨e, _⟩
  · exact ⟨⟨oc, od, kV, doc, pm, an, cdv, ct, osl, rfl, lk, hcd⟩, F.kp⟩
  · exact absurd rfl e
theorem def_at {x : Str} {st : Stmt} {ps : List Str} (X : K.In h) (G : h.Ns mainGlobals mg) (g : (He.Fa.glo x).ok K = true) (c : ∃ fd, FunD K x x (defArgs st) (defBody st) (defScope st) [] [] (He.ga K x) fd)
    (hb : ∀ (kV doc pm : Value) (an : Option Addr) (cdv ct : Value) (us : List Value), us.length = ps.length → bindArgs (PySem.W.fnOf x x (defArgs st) (defBody st) (defScope st) .none kV doc pm an cdv ct) ⟨us, []⟩ = pure (ps.zip us)) : DefAt K mg x st ps := by
  obtain ⟨fd, F⟩ := c
  exact ⟨_, fd, He.glo_ok X G g, fun_of F, (fun_of F).binds hb⟩
theorem init_at {C qual : Str} {st : Stmt} {ps : List Str} (g : (He.Fa.mkr C).ok K = true) (c : ∃ fd, FunD K "__init__" qual (defArgs st) (defBody st) (defScope st) [] [] (He.ma K (He.ga K C) "__init__") fd)
    (hb : ∀ (kV doc pm : Value) (an : Option Addr) (cdv ct : Value) (us : List Value), us.length = ps.length → bindArgs (PySem.W.fnOf "__init__" qual (defArgs st) (defBody st) (defScope st) .none kV doc pm an cdv ct) ⟨us, []⟩ = pure (ps.zip us)) : ClsInit K (He.ga K C) qual st ps := by
  obtain ⟨fd, F⟩ := c
  exact ⟨_, fd, He.mkr_ok g, fun_of F, (fun_of F).binds hb⟩
theorem meth_at {C m qual : Str} {st : Stmt} {ps : List Str} (g : (He.Fa.meth C m).ok K = true) (c : ∃ fd, FunD K m qual (defArgs st) (defBody st) (defScope st) [] [] (He.ma K (He.ga K C) m) fd)
    (hb : ∀ (kV doc pm : Value) (an : Option Addr) (cdv ct : Value) (us : List Value), us.length = ps.length → bindArgs (PySem.W.fnOf m qual (defArgs st) (defBody st) (defScope st) .none kV doc pm an cdv ct) ⟨us, []⟩ = pure (ps.zip us)) : MethAt K (He.ga K C) m qual st ps := by
  obtain ⟨fd, F⟩ := c
  exact ⟨_, fd, He.meth_ok g, fun_of F, (fun_of F).binds hb⟩
theorem typeFn {a : Addr} (h : PySem.W.isFn K (.ref a) = true) : PySem.W.typeIn K (.ref a) = some (.type "function") := by
  first | exact eq_of_beq h | simpa [PySem.W.isFn] using h
theorem exc_at {x f q : Str} {st : Stmt} (X : K.In h) (G : h.Ns mainGlobals mg) (g : (He.Fa.glo x).ok K = true) (e : oexB K (He.ga K x) = true) (n : (He.Fa.noat x f).ok K = true) (m : (He.Fa.meth x "__init__").ok K = true)
    (c : ∃ fd, FunD K "__init__" q (defArgs st) (defBody st) (defScope st) [] [] (He.ma K (He.ga K x) "__init__") fd)
    (hb : ∀ (kV doc pm : Value) (an : Option Addr) (cdv ct : Value) (us : List Value), us.length = (["self", f] : List Str).length → bindArgs (PySem.W.fnOf "__init__" q (defArgs st) (defBody st) (defScope st) .none kV doc pm an cdv ct) ⟨us, []⟩ = pure ((["self", f] : List Str).zip us)) : ExcAt K mg x (He.ga K x) f st := by
  obtain ⟨fd, F⟩ := c
  have M := He.meth_ok m
  have o := oexB_ok e
  exact ⟨He.glo_ok X G g, o.1, o.2, (He.noat_ok n), ⟨_, fd, q, M.at_, typeFn M.fn, fun_of F, (fun_of F).binds hb⟩⟩
theorem prop_at {C f qual : Str} {p g : Addr} {st : Stmt} (c : ∃ fd, PropOf K (He.ga K C) f p g ∧ FunD K f qual (defArgs st) (defBody st) (defScope st) [] [] g fd)
    (hb : ∀ (kV doc pm : Value) (an : Option Addr) (cdv ct : Value) (us : List Value), us.length = (["self"] : List Str).length → bindArgs (PySem.W.fnOf f qual (defArgs st) (defBody st) (defScope st) .none kV doc pm an cdv ct) ⟨us, []⟩ = pure ((["self"] : List Str).zip us)) : PropAt K (He.ga K C) f qual st := by
  obtain ⟨fd, h, F⟩ := c
  exact ⟨_, _, fd, h, fun_of F, (fun_of F).binds hb⟩
end
/-! the head -/
def top_of {K : PySem.W.Frag} {h : Heap} {mg : Str → Option Value} (X : K.In h) (G : h.Ns mainGlobals mg) (c : He.SaysD hfa hfn K) (ex : HexP K) : Top K mg where
  b_ValueError := He.free_ok X G (c.fact 0 (f := .free "ValueError") rfl)
  b_abs := He.free_ok X G (c.fact 1 (f := .free "abs") rfl)
  b_all := He.free_ok X G (c.fact 2 (f := .free "all") rfl)
  b_bool := He.free_ok X G (c.fact 3 (f := .free "bool") rfl)
  b_dict := He.free_ok X G (c.fact 4 (f := .free "dict") rfl)
  b_enumerate := He.free_ok X G (c.fact 5 (f := .free "enumerate") rfl)
  b_int := He.free_ok X G (c.fact 6 (f := .free "int") rfl)
  b_isinstance := He.free_ok X G (c.fact 7 (f := .free "isinstance") rfl)
  b_len := He.free_ok X G (c.fact 8 (f := .free "len") rfl)
  b_list := He.free_ok X G (c.fact 9 (f := .free "list") rfl)
  b_max := He.free_ok X G (c.fact 10 (f := .free "max") rfl)
  b_min := He.free_ok X G (c.fact 11 (f := .free "min") rfl)
  b_range := He.free_ok X G (c.fact 12 (f := .free "range") rfl)
  b_sorted := He.free_ok X G (c.fact 13 (f := .free "sorted") rfl)
  b_str := He.free_ok X G (c.fact 14 (f := .free "str") rfl)
  b_tuple := He.free_ok X G (c.fact 15 (f := .free "tuple") rfl)
  g_DIGITS := He.str_ok X G (c.fact 16 (f := .str "DIGITS" "0123456789") rfl)
  g_LETTERS := He.str_ok X G (c.fact 17 (f := .str "LETTERS" "abcdefghijklmnopqrstuvwxyz") rfl)
  g_MOST_DIGITS := He.int_ok X G (c.fact 18 (f := .int "MOST_DIGITS" 9) rfl)
  g_MOST_POSTS := He.int_ok X G (c.fact 19 (f := .int "MOST_POSTS" 6) rfl)
  g_MOST_PRICE := He.int_ok X G (c.fact 20 (f := .int "MOST_PRICE" 9) rfl)
  g_MOST_REQUESTS := He.int_ok X G (c.fact 21 (f := .int "MOST_REQUESTS" 5) rfl)
  g_MOST_STATES := He.int_ok X G (c.fact 22 (f := .int "MOST_STATES" 4) rfl)
  g_NO_NAME := He.str_ok X G (c.fact 23 (f := .str "NO_NAME" "-") rfl)
  d_is_integer := def_at X G (c.fact 24 (f := .glo "is_integer") rfl) (c.def_ 2 (d := hds_is_integer) rfl) (fun _ _ _ _ _ _ us hl => match us, hl with | [_], _ => rfl)
  d_is_natural := def_at X G (c.fact 25 (f := .glo "is_natural") rfl) (c.def_ 3 (d := hds_is_natural) rfl) (fun _ _ _ _ _ _ us hl => match us, hl with | [_], _ => rfl)
  d_is_below := def_at X G (c.fact 26 (f := .glo "is_below") rfl) (c.def_ 4 (d := hds_is_below) rfl) (fun _ _ _ _ _ _ us hl => match us, hl with | [_, _], _ => rfl)
  d_is_row := def_at X G (c.fact 27 (f := .glo "is_row") rfl) (c.def_ 5 (d := hds_is_row) rfl) (fun _ _ _ _ _ _ us hl => match us, hl with | [_], _ => rfl)
  d_is_tuple_of := def_at X G (c.fact 28 (f := .glo "is_tuple_of") rfl) (c.def_ 6 (d := hds_is_tuple_of) rfl) (fun _ _ _ _ _ _ us hl => match us, hl with | [_, _], _ => rfl)
  d_is_name := def_at X G (c.fact 29 (f := .glo "is_name") rfl) (c.def_ 7 (d := hds_is_name) rfl) (fun _ _ _ _ _ _ us hl => match us, hl with | [_], _ => rfl)
  d_is_known := def_at X G (c.fact 30 (f := .glo "is_known") rfl) (c.def_ 8 (d := hds_is_known) rfl) (fun _ _ _ _ _ _ us hl => match us, hl with | [_, _], _ => rfl)
  d__is_turn := def_at X G (c.fact 31 (f := .glo "_is_turn") rfl) (c.def_ 9 (d := hds__is_turn) rfl) (fun _ _ _ _ _ _ us hl => match us, hl with | [_, _], _ => rfl)
  d__is_turns := def_at X G (c.fact 32 (f := .glo "_is_turns") rfl) (c.def_ 10 (d := hds__is_turns) rfl) (fun _ _ _ _ _ _ us hl => match us, hl with | [_], _ => rfl)
  d__is_price := def_at X G (c.fact 33 (f := .glo "_is_price") rfl) (c.def_ 13 (d := hds__is_price) rfl) (fun _ _ _ _ _ _ us hl => match us, hl with | [_], _ => rfl)
  d_is_moves := def_at X G (c.fact 34 (f := .glo "is_moves") rfl) (c.def_ 14 (d := hds_is_moves) rfl) (fun _ _ _ _ _ _ us hl => match us, hl with | [_], _ => rfl)
  d__is_prices := def_at X G (c.fact 35 (f := .glo "_is_prices") rfl) (c.def_ 15 (d := hds__is_prices) rfl) (fun _ _ _ _ _ _ us hl => match us, hl with | [_, _], _ => rfl)
  d__is_requests := def_at X G (c.fact 36 (f := .glo "_is_requests") rfl) (c.def_ 16 (d := hds__is_requests) rfl) (fun _ _ _ _ _ _ us hl => match us, hl with | [_, _], _ => rfl)
  d_least_ways := def_at X G (c.fact 37 (f := .glo "least_ways") rfl) (c.def_ 17 (d := hds_least_ways) rfl) (fun _ _ _ _ _ _ us hl => match us, hl with | [_], _ => rfl)
  d_is_number := def_at X G (c.fact 38 (f := .glo "is_number") rfl) (c.def_ 22 (d := hds_is_number) rfl) (fun _ _ _ _ _ _ us hl => match us, hl with | [_], _ => rfl)
  d_lines_of := def_at X G (c.fact 39 (f := .glo "lines_of") rfl) (c.def_ 23 (d := hds_lines_of) rfl) (fun _ _ _ _ _ _ us hl => match us, hl with | [_], _ => rfl)
  d_check_closed := def_at X G (c.fact 40 (f := .glo "check_closed") rfl) (c.def_ 24 (d := hds_check_closed) rfl) (fun _ _ _ _ _ _ us hl => match us, hl with | [_], _ => rfl)
  d__all_numbers := def_at X G (c.fact 41 (f := .glo "_all_numbers") rfl) (c.def_ 25 (d := hds__all_numbers) rfl) (fun _ _ _ _ _ _ us hl => match us, hl with | [_], _ => rfl)
  d__is_request := def_at X G (c.fact 42 (f := .glo "_is_request") rfl) (c.def_ 26 (d := hds__is_request) rfl) (fun _ _ _ _ _ _ us hl => match us, hl with | [_, _], _ => rfl)
  d__price := def_at X G (c.fact 43 (f := .glo "_price") rfl) (c.def_ 27 (d := hds__price) rfl) (fun _ _ _ _ _ _ us hl => match us, hl with | [_], _ => rfl)
  d_read_system := def_at X G (c.fact 44 (f := .glo "read_system") rfl) (c.def_ 28 (d := hds_read_system) rfl) (fun _ _ _ _ _ _ us hl => match us, hl with | [_], _ => rfl)
  d__turn := def_at X G (c.fact 45 (f := .glo "_turn") rfl) (c.def_ 29 (d := hds__turn) rfl) (fun _ _ _ _ _ _ us hl => match us, hl with | [_], _ => rfl)
  d_read_machine := def_at X G (c.fact 46 (f := .glo "read_machine") rfl) (c.def_ 30 (d := hds_read_machine) rfl) (fun _ _ _ _ _ _ us hl => match us, hl with | [_], _ => rfl)
  d__law_cell := def_at X G (c.fact 47 (f := .glo "_law_cell") rfl) (c.def_ 31 (d := hds__law_cell) rfl) (fun _ _ _ _ _ _ us hl => match us, hl with | [_, _], _ => rfl)
  d__law_stock := def_at X G (c.fact 48 (f := .glo "_law_stock") rfl) (c.def_ 32 (d := hds__law_stock) rfl) (fun _ _ _ _ _ _ us hl => match us, hl with | [_, _], _ => rfl)
  d__law_draw := def_at X G (c.fact 49 (f := .glo "_law_draw") rfl) (c.def_ 33 (d := hds__law_draw) rfl) (fun _ _ _ _ _ _ us hl => match us, hl with | [_, _], _ => rfl)
  d__law_word := def_at X G (c.fact 50 (f := .glo "_law_word") rfl) (c.def_ 34 (d := hds__law_word) rfl) (fun _ _ _ _ _ _ us hl => match us, hl with | [_], _ => rfl)
  d__law_names := def_at X G (c.fact 51 (f := .glo "_law_names") rfl) (c.def_ 35 (d := hds__law_names) rfl) (fun _ _ _ _ _ _ us hl => match us, hl with | [_, _], _ => rfl)
  d__law_size := def_at X G (c.fact 52 (f := .glo "_law_size") rfl) (c.def_ 36 (d := hds__law_size) rfl) (fun _ _ _ _ _ _ us hl => match us, hl with | [_, _, _], _ => rfl)
  d__law_price := def_at X G (c.fact 53 (f := .glo "_law_price") rfl) (c.def_ 37 (d := hds__law_price) rfl) (fun _ _ _ _ _ _ us hl => match us, hl with | [_], _ => rfl)
  d__law_posts := def_at X G (c.fact 54 (f := .glo "_law_posts") rfl) (c.def_ 38 (d := hds__law_posts) rfl) (fun _ _ _ _ _ _ us hl => match us, hl with | [_, _], _ => rfl)
  d__law_items := def_at X G (c.fact 55 (f := .glo "_law_items") rfl) (c.def_ 39 (d := hds__law_items) rfl) (fun _ _ _ _ _ _ us hl => match us, hl with | [_, _], _ => rfl)
  d__law_item := def_at X G (c.fact 56 (f := .glo "_law_item") rfl) (c.def_ 40 (d := hds__law_item) rfl) (fun _ _ _ _ _ _ us hl => match us, hl with | [_], _ => rfl)
  d__law_due := def_at X G (c.fact 57 (f := .glo "_law_due") rfl) (c.def_ 41 (d := hds__law_due) rfl) (fun _ _ _ _ _ _ us hl => match us, hl with | [_, _], _ => rfl)
  d__law_due_machine := def_at X G (c.fact 58 (f := .glo "_law_due_machine") rfl) (c.def_ 42 (d := hds__law_due_machine) rfl) (fun _ _ _ _ _ _ us hl => match us, hl with | [_], _ => rfl)
  d__law_told := def_at X G (c.fact 59 (f := .glo "_law_told") rfl) (c.def_ 43 (d := hds__law_told) rfl) (fun _ _ _ _ _ _ us hl => match us, hl with | [_, _], _ => rfl)
  d__law_machine_lines := def_at X G (c.fact 60 (f := .glo "_law_machine_lines") rfl) (c.def_ 44 (d := hds__law_machine_lines) rfl) (fun _ _ _ _ _ _ us hl => match us, hl with | [_], _ => rfl)
  d__law_system_lines := def_at X G (c.fact 61 (f := .glo "_law_system_lines") rfl) (c.def_ 45 (d := hds__law_system_lines) rfl) (fun _ _ _ _ _ _ us hl => match us, hl with | [_, _], _ => rfl)
  d__law_holds := def_at X G (c.fact 62 (f := .glo "_law_holds") rfl) (c.def_ 46 (d := hds__law_holds) rfl) (fun _ _ _ _ _ _ us hl => match us, hl with | [_, _, _, _, _], _ => rfl)
  d_law := def_at X G (c.fact 63 (f := .glo "law") rfl) (c.def_ 47 (d := hds_law) rfl) (fun _ _ _ _ _ _ us hl => match us, hl with | [_], _ => rfl)
  c_HintError := He.ga K "HintError"
  mg_HintError := He.glo_ok X G (c.fact 64 (f := .glo "HintError") rfl)
  y_HintError := errX_ok (hflagE ex 0 (x := "HintError") rfl)
  c_BadText := He.ga K "BadText"
  x_BadText := exc_at X G (c.fact 65 (f := .glo "BadText") rfl) (hflag ex 0 (x := "BadText") rfl) (c.fact 66 (f := .noat "BadText" "line") rfl) (c.fact 67 (f := .meth "BadText" "__init__") rfl) (c.def_ 1 (d := hds_BadTextZ_initZ) rfl) (fun _ _ _ _ _ _ us hl => match us, hl with | [_, _], _ => rfl)
  c_BadSystem := He.ga K "BadSystem"
  x_BadSystem := exc_at X G (c.fact 68 (f := .glo "BadSystem") rfl) (hflag ex 1 (x := "BadSystem") rfl) (c.fact 69 (f := .noat "BadSystem" "part") rfl) (c.fact 70 (f := .meth "BadSystem" "__init__") rfl) (c.def_ 0 (d := hds_BadSystemZ_initZ) rfl) (fun _ _ _ _ _ _ us hl => match us, hl with | [_, _], _ => rfl)
  c_BadMachine := He.ga K "BadMachine"
  mg_BadMachine := He.glo_ok X G (c.fact 71 (f := .glo "BadMachine") rfl)
  y_BadMachine := errX_ok (hflagE ex 1 (x := "BadMachine") rfl)
  e_BadText_BadText := He.exm_ok (c.fact 72 (f := .exm "BadText" "BadText" true) rfl)
  e_BadSystem_BadText := He.exm_ok (c.fact 73 (f := .exm "BadSystem" "BadText" false) rfl)
  e_BadSystem_BadSystem := He.exm_ok (c.fact 74 (f := .exm "BadSystem" "BadSystem" true) rfl)
  e_BadMachine_BadText := He.exm_ok (c.fact 75 (f := .exm "BadMachine" "BadText" false) rfl)
  e_BadMachine_BadSystem := He.exm_ok (c.fact 76 (f := .exm "BadMachine" "BadSystem" false) rfl)
  e_BadMachine_BadMachine := He.exm_ok (c.fact 77 (f := .exm "BadMachine" "BadMachine" true) rfl)
  c_System := He.ga K "System"
  cl_System := He.cls_ok (c.fact 78 (f := .cls "System") rfl)
  mg_System := He.glo_ok X G (c.fact 79 (f := .glo "System") rfl)
  na_System_moves := He.noat_ok (c.fact 80 (f := .noat "System" "moves") rfl)
  na_System_posts := He.noat_ok (c.fact 81 (f := .noat "System" "posts") rfl)
  na_System_names := He.noat_ok (c.fact 82 (f := .noat "System" "names") rfl)
  na_System_ways := He.noat_ok (c.fact 83 (f := .noat "System" "ways") rfl)
  na_System__requests := He.noat_ok (c.fact 84 (f := .noat "System" "_requests") rfl)
  i_System := init_at (c.fact 85 (f := .mkr "System") rfl) (c.def_ 18 (d := hds_SystemZ_initZ) rfl) (fun _ _ _ _ _ _ us hl => match us, hl with | [_, _, _], _ => rfl)
  p_System_requests := prop_at (ex.prop 1 (q := hpr1) rfl) (fun _ _ _ _ _ _ us hl => match us, hl with | [_], _ => rfl)
  m_System__check_post := meth_at (c.fact 86 (f := .meth "System" "_check_post") rfl) (c.def_ 19 (d := hds_SystemZcheck_post) rfl) (fun _ _ _ _ _ _ us hl => match us, hl with | [_, _], _ => rfl)
  m_System_prices := meth_at (c.fact 87 (f := .meth "System" "prices") rfl) (c.def_ 20 (d := hds_System_prices) rfl) (fun _ _ _ _ _ _ us hl => match us, hl with | [_, _], _ => rfl)
  m_System_served := meth_at (c.fact 88 (f := .meth "System" "served") rfl) (c.def_ 21 (d := hds_System_served) rfl) (fun _ _ _ _ _ _ us hl => match us, hl with | [_, _, _], _ => rfl)
  c_Machine := He.ga K "Machine"
  cl_Machine := He.cls_ok (c.fact 89 (f := .cls "Machine") rfl)
  mg_Machine := He.glo_ok X G (c.fact 90 (f := .glo "Machine") rfl)
  na_Machine_names := He.noat_ok (c.fact 91 (f := .noat "Machine" "names") rfl)
  na_Machine_states := He.noat_ok (c.fact 92 (f := .noat "Machine" "states") rfl)
  na_Machine__turns := He.noat_ok (c.fact 93 (f := .noat "Machine" "_turns") rfl)
  i_Machine := init_at (c.fact 94 (f := .mkr "Machine") rfl) (c.def_ 11 (d := hds_MachineZ_initZ) rfl) (fun _ _ _ _ _ _ us hl => match us, hl with | [_, _], _ => rfl)
  p_Machine_turns := prop_at (ex.prop 0 (q := hpr0) rfl) (fun _ _ _ _ _ _ us hl => match us, hl with | [_], _ => rfl)
  m_Machine_lets := meth_at (c.fact 95 (f := .meth "Machine" "lets") rfl) (c.def_ 12 (d := hds_Machine_lets) rfl) (fun _ _ _ _ _ _ us hl => match us, hl with | [_, _], _ => rfl)
  er := errsB_ok (hflagF0 ex)
theorem facts {P : Program} {w : World} {K : PySem.W.Frag} {h : Heap} {mg : Str → Option Value} {f : Addr} (X : K.In h) (G : h.Ns mainGlobals mg) (hlw : mg ("law" : Str) = some (.ref f)) (c : He.SaysD hfa hfn K) (ex : HexP K) :
    ∃ fd : FuncData, (∀ (s : Shared) (v : Value), BindsTo s fd ⟨[v], []⟩ [("script", v)]) ∧ ∀ base : Heap, K.In base → base.Ns mainGlobals mg → FnOk P w K mg base CX0 12 f fd ["script"] (spLaw K) := by
  obtain ⟨fd, F⟩ := c.def_ 47 (d := hds_law) rfl
  have e := hlw.symm.trans (He.glo_ok X G (c.fact 63 (f := .glo "law") rfl))
  cases e
  have b := FunD.bindsA (ps := ["script"]) F fun _ _ _ _ _ _ us hl => match us, hl with | [_], _ => rfl
  exact ⟨fd, fun s v => b s [v] rfl, fun base _ _ => okf_law (top_of X G c ex) (fun_of F)⟩
end Toy
open PySem PySem.W PySem.Calls PyProof.Rows
theorem PySem.Challenge.cw_hintslie_k88_bad_systems_behind_bad_text_holds : PySem.Challenge.rw_hintslie_k88_bad_systems_behind_bad_text.Holds := by
  w_on; o_law
  refine HandSHeadRun.head_any (r := OpenLaw.row PySem.Challenge.rw_hintslie_k88_bad_systems_behind_bad_text) (q := view (OpenLaw.row PySem.Challenge.rw_hintslie_k88_bad_systems_behind_bad_text).prog [62]) (H := Toy.hhk) (ob := Toy.hob) (M := 6000) (loose := Toy.hnames) (d := HandSHeadRun.topDef (OpenLaw.row PySem.Challenge.rw_hintslie_k88_bad_systems_behind_bad_text).prog 62) (kwd := []) Toy.hob_eq
    (by kernel_rfl) (fun s => by kernel_rfl) Toy.hrun (by kernel_rfl) (by kernel_rfl) (by kernel_rfl) (by rfl) (by first | assumption | decide +kernel) (by decide +kernel) ⟨rfl, rfl, rfl, rfl, rfl, by decide +kernel⟩ ?hw ?hc
  case hw => w_witness2
  case hc =>
    refine L2.walk_ofE (l := PySem.Challenge.rw_hintslie_k88_bad_systems_behind_bad_text) (n := 63) (k := 12) (x := "script") (CX := L2.CX0) rfl (by decide) (by kernel_rfl) ⟨rfl, by decide, by decide⟩ ?F (fun _ _ _ _ z => z)
    intro w mg fa h Y G hmg0
    obtain ⟨K, KX, c, ex⟩ := Y
    have hmg : mg ("law" : PySem.Str) = some (.ref fa) := by
      have e : (HandSHeadRun.topDef (OpenLaw.row PySem.Challenge.rw_hintslie_k88_bad_systems_behind_bad_text).prog 62).name = ("law" : PySem.Str) := by kernel_rfl
      rw [← e]
      exact hmg0
    obtain ⟨fd, hb, hF⟩ := Toy.facts (P := (PySem.Challenge.rw_hintslie_k88_bad_systems_behind_bad_text).prog) (w := w) KX G hmg c ex
    exact ⟨K, fd, Toy.spLaw K, KX, hb, fun H a ns hl _ hS => ⟨a, ns, rfl, hS, hl, fun _ => rfl⟩, hF⟩

